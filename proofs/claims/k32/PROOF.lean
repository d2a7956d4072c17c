import PyProof.Rows.All
import HandS.ForMost
import HandS.Exc
import HandS.ExcOwn
import HandS.Head2
import HandS.HeadHook4
import HandS.Style
import HandS.Head3
import HandS.ExcInit
import HandS.ExcValue
import HandS.ExcIs
import HandS.IsInst
import HandS.Wide
import HandS.WideBits
import HandS.Defaults
import HandS.MakeKw
import HandS.EndBits
import HandS.HeadEnd
import HandS.TupAny
import HandS.Zip
import HandS.Text
import HandS.List
import HandS.ExcField
import HandS.WordsExc
import HandS.StrMore
import HandS.Iter
import HandS.Conv
import HandS.Gcd
import HandS.TupMul
import KE.KIsAll
import KE.KExcIs
import KE.GoesEnumKw
import KE.GoesEnum
import KE.GoesMore
import OpenK.AllK
import PyProof.EnumMake
import PyProof.LongRange
import PyProof.ListRange
import Wide.All
import Wide.FinOn
import PySem.Challenge.RW_soundlooks_k32_whole_quotients_modulo_gu
set_option Elab.async false
set_option linter.all false
set_option maxRecDepth 100000
set_option maxHeartbeats 8000000
namespace Lw
open PySem PySem.Spec L2
def top (i : Nat) : Stmt := PySem.Challenge.pw_soundlooks_k32_whole_quotients_modulo_gu.main.body.getD i (.Pass ⟨0, 0, 0, 0⟩)
abbrev cLookError : Stmt := top 6
abbrev cInvalidNumber : Stmt := top 7
abbrev sInvalidNumber_init : Stmt := inClass cInvalidNumber 0
abbrev NInvalidNumber_init : List Str := ["self", "given"]
theorem scInvalidNumber_init : FnScope NInvalidNumber_init ["self", "given"] (defScope sInvalidNumber_init) := ⟨rfl, rfl, rfl, by decide +kernel, rfl, by decide +kernel, by decide +kernel⟩
def dInvalidNumber_init : He.DefD := ⟨("InvalidNumber", some "__init__"), "__init__", "InvalidNumber.__init__", defArgs sInvalidNumber_init, defBody sInvalidNumber_init, defScope sInvalidNumber_init, [], []⟩
abbrev cInvalidRest : Stmt := top 8
abbrev sInvalidRest_init : Stmt := inClass cInvalidRest 0
abbrev NInvalidRest_init : List Str := ["self", "given"]
theorem scInvalidRest_init : FnScope NInvalidRest_init ["self", "given"] (defScope sInvalidRest_init) := ⟨rfl, rfl, rfl, by decide +kernel, rfl, by decide +kernel, by decide +kernel⟩
def dInvalidRest_init : He.DefD := ⟨("InvalidRest", some "__init__"), "__init__", "InvalidRest.__init__", defArgs sInvalidRest_init, defBody sInvalidRest_init, defScope sInvalidRest_init, [], []⟩
abbrev cInvalidWidth : Stmt := top 9
abbrev sInvalidWidth_init : Stmt := inClass cInvalidWidth 0
abbrev NInvalidWidth_init : List Str := ["self", "given"]
theorem scInvalidWidth_init : FnScope NInvalidWidth_init ["self", "given"] (defScope sInvalidWidth_init) := ⟨rfl, rfl, rfl, by decide +kernel, rfl, by decide +kernel, by decide +kernel⟩
def dInvalidWidth_init : He.DefD := ⟨("InvalidWidth", some "__init__"), "__init__", "InvalidWidth.__init__", defArgs sInvalidWidth_init, defBody sInvalidWidth_init, defScope sInvalidWidth_init, [], []⟩
abbrev cInvalidGuard : Stmt := top 10
abbrev sInvalidGuard_init : Stmt := inClass cInvalidGuard 0
abbrev NInvalidGuard_init : List Str := ["self", "given"]
theorem scInvalidGuard_init : FnScope NInvalidGuard_init ["self", "given"] (defScope sInvalidGuard_init) := ⟨rfl, rfl, rfl, by decide +kernel, rfl, by decide +kernel, by decide +kernel⟩
def dInvalidGuard_init : He.DefD := ⟨("InvalidGuard", some "__init__"), "__init__", "InvalidGuard.__init__", defArgs sInvalidGuard_init, defBody sInvalidGuard_init, defScope sInvalidGuard_init, [], []⟩
abbrev sis_whole : Stmt := top 4
abbrev Nis_whole : List Str := ["value"]
theorem scis_whole : FnScope Nis_whole ["value"] (defScope sis_whole) := ⟨rfl, rfl, rfl, by decide +kernel, rfl, by decide +kernel, by decide +kernel⟩
def dis_whole : He.DefD := ⟨("is_whole", none), "is_whole", "is_whole", defArgs sis_whole, defBody sis_whole, defScope sis_whole, [], []⟩
abbrev sis_residue : Stmt := top 14
abbrev Nis_residue : List Str := ["value", "number", "divisor"]
theorem scis_residue : FnScope Nis_residue ["value"] (defScope sis_residue) := ⟨rfl, rfl, rfl, by decide +kernel, rfl, by decide +kernel, by decide +kernel⟩
def dis_residue : He.DefD := ⟨("is_residue", none), "is_residue", "is_residue", defArgs sis_residue, defBody sis_residue, defScope sis_residue, [], []⟩
abbrev sresidue_of : Stmt := top 15
abbrev Nresidue_of : List Str := ["number", "divisor"]
theorem scresidue_of : FnScope Nresidue_of ["number", "divisor"] (defScope sresidue_of) := ⟨rfl, rfl, rfl, by decide +kernel, rfl, by decide +kernel, by decide +kernel⟩
def dresidue_of : He.DefD := ⟨("residue_of", none), "residue_of", "residue_of", defArgs sresidue_of, defBody sresidue_of, defScope sresidue_of, [], []⟩
abbrev sresidue_holds : Stmt := top 16
abbrev Nresidue_holds : List Str := ["residue", "number"]
theorem scresidue_holds : FnScope Nresidue_holds ["residue", "number"] (defScope sresidue_holds) := ⟨rfl, rfl, rfl, by decide +kernel, rfl, by decide +kernel, by decide +kernel⟩
def dresidue_holds : He.DefD := ⟨("residue_holds", none), "residue_holds", "residue_holds", defArgs sresidue_holds, defBody sresidue_holds, defScope sresidue_holds, [], []⟩
abbrev sresidue_met : Stmt := top 17
abbrev Nresidue_met : List Str := ["residue", "other", "alone", "beside", "common", "apart", "times"]
theorem scresidue_met : FnScope Nresidue_met ["residue", "other"] (defScope sresidue_met) := ⟨rfl, rfl, rfl, by decide +kernel, rfl, by decide +kernel, by decide +kernel⟩
def dresidue_met : He.DefD := ⟨("residue_met", none), "residue_met", "residue_met", defArgs sresidue_met, defBody sresidue_met, defScope sresidue_met, [], []⟩
abbrev sinverse : Stmt := top 18
abbrev Ninverse : List Str := ["number", "divisor", "begun", "factor", "left", "factor_left", "times"]
theorem scinverse : FnScope Ninverse ["number", "divisor"] (defScope sinverse) := ⟨rfl, rfl, rfl, by decide +kernel, rfl, by decide +kernel, by decide +kernel⟩
def dinverse : He.DefD := ⟨("inverse", none), "inverse", "inverse", defArgs sinverse, defBody sinverse, defScope sinverse, [], []⟩
abbrev sresidue_quotient : Stmt := top 19
abbrev Nresidue_quotient : List Str := ["residue", "other"]
theorem scresidue_quotient : FnScope Nresidue_quotient ["residue", "other"] (defScope sresidue_quotient) := ⟨rfl, rfl, rfl, by decide +kernel, rfl, by decide +kernel, by decide +kernel⟩
def dresidue_quotient : He.DefD := ⟨("residue_quotient", none), "residue_quotient", "residue_quotient", defArgs sresidue_quotient, defBody sresidue_quotient, defScope sresidue_quotient, [], []⟩
abbrev sresidue_modulo : Stmt := top 20
abbrev Nresidue_modulo : List Str := ["residue", "other"]
theorem scresidue_modulo : FnScope Nresidue_modulo ["residue", "other"] (defScope sresidue_modulo) := ⟨rfl, rfl, rfl, by decide +kernel, rfl, by decide +kernel, by decide +kernel⟩
def dresidue_modulo : He.DefD := ⟨("residue_modulo", none), "residue_modulo", "residue_modulo", defArgs sresidue_modulo, defBody sresidue_modulo, defScope sresidue_modulo, [], []⟩
abbrev sresidue_wrapped : Stmt := top 21
abbrev Nresidue_wrapped : List Str := ["residue", "width"]
theorem scresidue_wrapped : FnScope Nresidue_wrapped ["residue", "width"] (defScope sresidue_wrapped) := ⟨rfl, rfl, rfl, by decide +kernel, rfl, by decide +kernel, by decide +kernel⟩
def dresidue_wrapped : He.DefD := ⟨("residue_wrapped", none), "residue_wrapped", "residue_wrapped", defArgs sresidue_wrapped, defBody sresidue_wrapped, defScope sresidue_wrapped, [], []⟩
abbrev sresidue_guarded : Stmt := top 22
abbrev Nresidue_guarded : List Str := ["guard", "residue", "other", "met"]
theorem scresidue_guarded : FnScope Nresidue_guarded ["guard", "residue", "other"] (defScope sresidue_guarded) := ⟨rfl, rfl, rfl, by decide +kernel, rfl, by decide +kernel, by decide +kernel⟩
def dresidue_guarded : He.DefD := ⟨("residue_guarded", none), "residue_guarded", "residue_guarded", defArgs sresidue_guarded, defBody sresidue_guarded, defScope sresidue_guarded, [], []⟩
abbrev srefuse_wrong_rest : Stmt := top 24
abbrev Nrefuse_wrong_rest : List Str := ["rest"]
theorem screfuse_wrong_rest : FnScope Nrefuse_wrong_rest ["rest"] (defScope srefuse_wrong_rest) := ⟨rfl, rfl, rfl, by decide +kernel, rfl, by decide +kernel, by decide +kernel⟩
def drefuse_wrong_rest : He.DefD := ⟨("refuse_wrong_rest", none), "refuse_wrong_rest", "refuse_wrong_rest", defArgs srefuse_wrong_rest, defBody srefuse_wrong_rest, defScope srefuse_wrong_rest, [], []⟩
abbrev srefuse_wrong_number : Stmt := top 25
abbrev Nrefuse_wrong_number : List Str := ["number"]
theorem screfuse_wrong_number : FnScope Nrefuse_wrong_number ["number"] (defScope srefuse_wrong_number) := ⟨rfl, rfl, rfl, by decide +kernel, rfl, by decide +kernel, by decide +kernel⟩
def drefuse_wrong_number : He.DefD := ⟨("refuse_wrong_number", none), "refuse_wrong_number", "refuse_wrong_number", defArgs srefuse_wrong_number, defBody srefuse_wrong_number, defScope srefuse_wrong_number, [], []⟩
abbrev srefuse_wrong_width : Stmt := top 26
abbrev Nrefuse_wrong_width : List Str := ["width"]
theorem screfuse_wrong_width : FnScope Nrefuse_wrong_width ["width"] (defScope srefuse_wrong_width) := ⟨rfl, rfl, rfl, by decide +kernel, rfl, by decide +kernel, by decide +kernel⟩
def drefuse_wrong_width : He.DefD := ⟨("refuse_wrong_width", none), "refuse_wrong_width", "refuse_wrong_width", defArgs srefuse_wrong_width, defBody srefuse_wrong_width, defScope srefuse_wrong_width, [], []⟩
abbrev srefuse_wrong_guard : Stmt := top 27
abbrev Nrefuse_wrong_guard : List Str := ["guard"]
theorem screfuse_wrong_guard : FnScope Nrefuse_wrong_guard ["guard"] (defScope srefuse_wrong_guard) := ⟨rfl, rfl, rfl, by decide +kernel, rfl, by decide +kernel, by decide +kernel⟩
def drefuse_wrong_guard : He.DefD := ⟨("refuse_wrong_guard", none), "refuse_wrong_guard", "refuse_wrong_guard", defArgs srefuse_wrong_guard, defBody srefuse_wrong_guard, defScope srefuse_wrong_guard, [], []⟩
abbrev srest_holds : Stmt := top 29
abbrev Nrest_holds : List Str := ["rest", "number"]
theorem screst_holds : FnScope Nrest_holds ["rest", "number"] (defScope srest_holds) := ⟨rfl, rfl, rfl, by decide +kernel, rfl, by decide +kernel, by decide +kernel⟩
def drest_holds : He.DefD := ⟨("rest_holds", none), "rest_holds", "rest_holds", defArgs srest_holds, defBody srest_holds, defScope srest_holds, [], []⟩
abbrev srest_quotient : Stmt := top 30
abbrev Nrest_quotient : List Str := ["rest", "other"]
theorem screst_quotient : FnScope Nrest_quotient ["rest", "other"] (defScope srest_quotient) := ⟨rfl, rfl, rfl, by decide +kernel, rfl, by decide +kernel, by decide +kernel⟩
def drest_quotient : He.DefD := ⟨("rest_quotient", none), "rest_quotient", "rest_quotient", defArgs srest_quotient, defBody srest_quotient, defScope srest_quotient, [], []⟩
abbrev srest_modulo : Stmt := top 31
abbrev Nrest_modulo : List Str := ["rest", "other"]
theorem screst_modulo : FnScope Nrest_modulo ["rest", "other"] (defScope srest_modulo) := ⟨rfl, rfl, rfl, by decide +kernel, rfl, by decide +kernel, by decide +kernel⟩
def drest_modulo : He.DefD := ⟨("rest_modulo", none), "rest_modulo", "rest_modulo", defArgs srest_modulo, defBody srest_modulo, defScope srest_modulo, [], []⟩
abbrev srest_wrapped : Stmt := top 32
abbrev Nrest_wrapped : List Str := ["rest", "width"]
theorem screst_wrapped : FnScope Nrest_wrapped ["rest", "width"] (defScope srest_wrapped) := ⟨rfl, rfl, rfl, by decide +kernel, rfl, by decide +kernel, by decide +kernel⟩
def drest_wrapped : He.DefD := ⟨("rest_wrapped", none), "rest_wrapped", "rest_wrapped", defArgs srest_wrapped, defBody srest_wrapped, defScope srest_wrapped, [], []⟩
abbrev srest_guarded : Stmt := top 33
abbrev Nrest_guarded : List Str := ["guard", "rest", "other"]
theorem screst_guarded : FnScope Nrest_guarded ["guard", "rest", "other"] (defScope srest_guarded) := ⟨rfl, rfl, rfl, by decide +kernel, rfl, by decide +kernel, by decide +kernel⟩
def drest_guarded : He.DefD := ⟨("rest_guarded", none), "rest_guarded", "rest_guarded", defArgs srest_guarded, defBody srest_guarded, defScope srest_guarded, [], []⟩
abbrev srefuse_wrong_rests : Stmt := top 34
abbrev Nrefuse_wrong_rests : List Str := ["rest", "other"]
theorem screfuse_wrong_rests : FnScope Nrefuse_wrong_rests ["rest", "other"] (defScope srefuse_wrong_rests) := ⟨rfl, rfl, rfl, by decide +kernel, rfl, by decide +kernel, by decide +kernel⟩
def drefuse_wrong_rests : He.DefD := ⟨("refuse_wrong_rests", none), "refuse_wrong_rests", "refuse_wrong_rests", defArgs srefuse_wrong_rests, defBody srefuse_wrong_rests, defScope srefuse_wrong_rests, [], []⟩
abbrev sl_source : Stmt := top 36
abbrev Nl_source : List Str := ["_law_script", "_law_turn", "_law_mixed", "_law_cell", "_law_own"]
theorem scl_source : FnScope Nl_source ["_law_script", "_law_turn"] (defScope sl_source) := ⟨rfl, rfl, rfl, by decide +kernel, rfl, by decide +kernel, by decide +kernel⟩
def dl_source : He.DefD := ⟨("_law_source", none), "_law_source", "_law_source", defArgs sl_source, defBody sl_source, defScope sl_source, [], []⟩
abbrev sl_take : Stmt := top 37
abbrev Nl_take : List Str := ["_law_source_here", "_law_many", "_law_figure", "_law_mixed"]
theorem scl_take : FnScope Nl_take ["_law_source_here", "_law_many"] (defScope sl_take) := ⟨rfl, rfl, rfl, by decide +kernel, rfl, by decide +kernel, by decide +kernel⟩
def dl_take : He.DefD := ⟨("_law_take", none), "_law_take", "_law_take", defArgs sl_take, defBody sl_take, defScope sl_take, [], []⟩
abbrev sl_pick : Stmt := top 38
abbrev Nl_pick : List Str := ["_law_source_here", "_law_some"]
theorem scl_pick : FnScope Nl_pick ["_law_source_here", "_law_some"] (defScope sl_pick) := ⟨rfl, rfl, rfl, by decide +kernel, rfl, by decide +kernel, by decide +kernel⟩
def dl_pick : He.DefD := ⟨("_law_pick", none), "_law_pick", "_law_pick", defArgs sl_pick, defBody sl_pick, defScope sl_pick, [], []⟩
abbrev sl_great : Stmt := top 39
abbrev Nl_great : List Str := ["_law_source_here", "_law_got", "_law_turn"]
theorem scl_great : FnScope Nl_great ["_law_source_here"] (defScope sl_great) := ⟨rfl, rfl, rfl, by decide +kernel, rfl, by decide +kernel, by decide +kernel⟩
def dl_great : He.DefD := ⟨("_law_great", none), "_law_great", "_law_great", defArgs sl_great, defBody sl_great, defScope sl_great, [], []⟩
abbrev sl_number : Stmt := top 40
abbrev Nl_number : List Str := ["_law_source_here", "_law_branch", "_law_got"]
theorem scl_number : FnScope Nl_number ["_law_source_here"] (defScope sl_number) := ⟨rfl, rfl, rfl, by decide +kernel, rfl, by decide +kernel, by decide +kernel⟩
def dl_number : He.DefD := ⟨("_law_number", none), "_law_number", "_law_number", defArgs sl_number, defBody sl_number, defScope sl_number, [], []⟩
abbrev sl_part : Stmt := top 41
abbrev Nl_part : List Str := ["_law_source_here", "_law_twos", "_law_threes"]
theorem scl_part : FnScope Nl_part ["_law_source_here"] (defScope sl_part) := ⟨rfl, rfl, rfl, by decide +kernel, rfl, by decide +kernel, by decide +kernel⟩
def dl_part : He.DefD := ⟨("_law_part", none), "_law_part", "_law_part", defArgs sl_part, defBody sl_part, defScope sl_part, [], []⟩
abbrev sl_rest : Stmt := top 42
abbrev Nl_rest : List Str := ["_law_source_here", "_law_branch", "_law_by"]
theorem scl_rest : FnScope Nl_rest ["_law_source_here"] (defScope sl_rest) := ⟨rfl, rfl, rfl, by decide +kernel, rfl, by decide +kernel, by decide +kernel⟩
def dl_rest : He.DefD := ⟨("_law_rest", none), "_law_rest", "_law_rest", defArgs sl_rest, defBody sl_rest, defScope sl_rest, [], []⟩
abbrev sl_rest_near : Stmt := top 43
abbrev Nl_rest_near : List Str := ["_law_source_here", "_law_one", "_law_spot", "_law_by"]
theorem scl_rest_near : FnScope Nl_rest_near ["_law_source_here", "_law_one"] (defScope sl_rest_near) := ⟨rfl, rfl, rfl, by decide +kernel, rfl, by decide +kernel, by decide +kernel⟩
def dl_rest_near : He.DefD := ⟨("_law_rest_near", none), "_law_rest_near", "_law_rest_near", defArgs sl_rest_near, defBody sl_rest_near, defScope sl_rest_near, [], []⟩
abbrev sl_rest_some : Stmt := top 44
abbrev Nl_rest_some : List Str := ["_law_source_here", "_law_one"]
theorem scl_rest_some : FnScope Nl_rest_some ["_law_source_here", "_law_one"] (defScope sl_rest_some) := ⟨rfl, rfl, rfl, by decide +kernel, rfl, by decide +kernel, by decide +kernel⟩
def dl_rest_some : He.DefD := ⟨("_law_rest_some", none), "_law_rest_some", "_law_rest_some", defArgs sl_rest_some, defBody sl_rest_some, defScope sl_rest_some, [], []⟩
abbrev sl_is_whole : Stmt := top 45
abbrev Nl_is_whole : List Str := ["_law_thing"]
theorem scl_is_whole : FnScope Nl_is_whole ["_law_thing"] (defScope sl_is_whole) := ⟨rfl, rfl, rfl, by decide +kernel, rfl, by decide +kernel, by decide +kernel⟩
def dl_is_whole : He.DefD := ⟨("_law_is_whole", none), "_law_is_whole", "_law_is_whole", defArgs sl_is_whole, defBody sl_is_whole, defScope sl_is_whole, [], []⟩
abbrev sl_same : Stmt := top 46
abbrev Nl_same : List Str := ["_law_told", "_law_due", "_law_this", "_law_that"]
theorem scl_same : FnScope Nl_same ["_law_told", "_law_due"] (defScope sl_same) := ⟨rfl, rfl, rfl, by decide +kernel, rfl, by decide +kernel, by decide +kernel⟩
def dl_same : He.DefD := ⟨("_law_same", none), "_law_same", "_law_same", defArgs sl_same, defBody sl_same, defScope sl_same, [], []⟩
abbrev sl_rest_has : Stmt := top 47
abbrev Nl_rest_has : List Str := ["_law_one", "_law_count"]
theorem scl_rest_has : FnScope Nl_rest_has ["_law_one", "_law_count"] (defScope sl_rest_has) := ⟨rfl, rfl, rfl, by decide +kernel, rfl, by decide +kernel, by decide +kernel⟩
def dl_rest_has : He.DefD := ⟨("_law_rest_has", none), "_law_rest_has", "_law_rest_has", defArgs sl_rest_has, defBody sl_rest_has, defScope sl_rest_has, [], []⟩
abbrev sl_common : Stmt := top 48
abbrev Nl_common : List Str := ["_law_far", "_law_near"]
theorem scl_common : FnScope Nl_common ["_law_far", "_law_near"] (defScope sl_common) := ⟨rfl, rfl, rfl, by decide +kernel, rfl, by decide +kernel, by decide +kernel⟩
def dl_common : He.DefD := ⟨("_law_common", none), "_law_common", "_law_common", defArgs sl_common, defBody sl_common, defScope sl_common, [], []⟩
abbrev sl_least : Stmt := top 49
abbrev Nl_least : List Str := ["_law_lots", "_law_by", "_law_count"]
theorem scl_least : FnScope Nl_least ["_law_lots"] (defScope sl_least) := ⟨rfl, rfl, rfl, by decide +kernel, rfl, by decide +kernel, by decide +kernel⟩
def dl_least : He.DefD := ⟨("_law_least", none), "_law_least", "_law_least", defArgs sl_least, defBody sl_least, defScope sl_least, [], []⟩
abbrev sl_rest_meet : Stmt := top 50
abbrev Nl_rest_meet : List Str := ["_law_one", "_law_two", "_law_few", "_law_many", "_law_turns", "_law_lots", "_law_count"]
theorem scl_rest_meet : FnScope Nl_rest_meet ["_law_one", "_law_two"] (defScope sl_rest_meet) := ⟨rfl, rfl, rfl, by decide +kernel, rfl, by decide +kernel, by decide +kernel⟩
def dl_rest_meet : He.DefD := ⟨("_law_rest_meet", none), "_law_rest_meet", "_law_rest_meet", defArgs sl_rest_meet, defBody sl_rest_meet, defScope sl_rest_meet, [], []⟩
abbrev sl_over : Stmt := top 51
abbrev Nl_over : List Str := ["_law_one", "_law_two"]
theorem scl_over : FnScope Nl_over ["_law_one", "_law_two"] (defScope sl_over) := ⟨rfl, rfl, rfl, by decide +kernel, rfl, by decide +kernel, by decide +kernel⟩
def dl_over : He.DefD := ⟨("_law_over", none), "_law_over", "_law_over", defArgs sl_over, defBody sl_over, defScope sl_over, [], []⟩
abbrev sl_left : Stmt := top 52
abbrev Nl_left : List Str := ["_law_one", "_law_two", "_law_by"]
theorem scl_left : FnScope Nl_left ["_law_one", "_law_two"] (defScope sl_left) := ⟨rfl, rfl, rfl, by decide +kernel, rfl, by decide +kernel, by decide +kernel⟩
def dl_left : He.DefD := ⟨("_law_left", none), "_law_left", "_law_left", defArgs sl_left, defBody sl_left, defScope sl_left, [], []⟩
abbrev sl_lets : Stmt := top 53
abbrev Nl_lets : List Str := ["_law_word", "_law_left_here", "_law_right_here"]
theorem scl_lets : FnScope Nl_lets ["_law_word", "_law_left_here", "_law_right_here"] (defScope sl_lets) := ⟨rfl, rfl, rfl, by decide +kernel, rfl, by decide +kernel, by decide +kernel⟩
def dl_lets : He.DefD := ⟨("_law_lets", none), "_law_lets", "_law_lets", defArgs sl_lets, defBody sl_lets, defScope sl_lets, [], []⟩
abbrev sl_guarded : Stmt := top 54
abbrev Nl_guarded : List Str := ["_law_word", "_law_one", "_law_two"]
theorem scl_guarded : FnScope Nl_guarded ["_law_word", "_law_one", "_law_two"] (defScope sl_guarded) := ⟨rfl, rfl, rfl, by decide +kernel, rfl, by decide +kernel, by decide +kernel⟩
def dl_guarded : He.DefD := ⟨("_law_guarded", none), "_law_guarded", "_law_guarded", defArgs sl_guarded, defBody sl_guarded, defScope sl_guarded, [], []⟩
abbrev sl_beside : Stmt := top 55
abbrev Nl_beside : List Str := ["_law_source_here", "_law_one", "_law_by"]
theorem scl_beside : FnScope Nl_beside ["_law_source_here", "_law_one"] (defScope sl_beside) := ⟨rfl, rfl, rfl, by decide +kernel, rfl, by decide +kernel, by decide +kernel⟩
def dl_beside : He.DefD := ⟨("_law_beside", none), "_law_beside", "_law_beside", defArgs sl_beside, defBody sl_beside, defScope sl_beside, [], []⟩
abbrev sl_two_right : Stmt := top 56
abbrev Nl_two_right : List Str := ["_law_one", "_law_two", "_law_due"]
theorem scl_two_right : FnScope Nl_two_right ["_law_one", "_law_two"] (defScope sl_two_right) := ⟨rfl, rfl, rfl, by decide +kernel, rfl, by decide +kernel, by decide +kernel⟩
def dl_two_right : He.DefD := ⟨("_law_two_right", none), "_law_two_right", "_law_two_right", defArgs sl_two_right, defBody sl_two_right, defScope sl_two_right, [], []⟩
abbrev sl_guards_right : Stmt := top 57
abbrev Nl_guards_right : List Str := ["_law_one", "_law_two", "_law_pairs", "_law_word", "_law_due", "_law_told", "_law_here", "_law_there", "_law_held"]
theorem scl_guards_right : FnScope Nl_guards_right ["_law_one", "_law_two", "_law_pairs"] (defScope sl_guards_right) := ⟨rfl, rfl, rfl, by decide +kernel, rfl, by decide +kernel, by decide +kernel⟩
def dl_guards_right : He.DefD := ⟨("_law_guards_right", none), "_law_guards_right", "_law_guards_right", defArgs sl_guards_right, defBody sl_guards_right, defScope sl_guards_right, [], []⟩
abbrev sl_held_right : Stmt := top 58
abbrev Nl_held_right : List Str := ["_law_one", "_law_two", "_law_here", "_law_there", "_law_told"]
theorem scl_held_right : FnScope Nl_held_right ["_law_one", "_law_two", "_law_here", "_law_there"] (defScope sl_held_right) := ⟨rfl, rfl, rfl, by decide +kernel, rfl, by decide +kernel, by decide +kernel⟩
def dl_held_right : He.DefD := ⟨("_law_held_right", none), "_law_held_right", "_law_held_right", defArgs sl_held_right, defBody sl_held_right, defScope sl_held_right, [], []⟩
abbrev sl_wrapped_right : Stmt := top 59
abbrev Nl_wrapped_right : List Str := ["_law_one", "_law_wide", "_law_counts", "_law_power", "_law_turn", "_law_told", "_law_due", "_law_count"]
theorem scl_wrapped_right : FnScope Nl_wrapped_right ["_law_one", "_law_wide", "_law_counts"] (defScope sl_wrapped_right) := ⟨rfl, rfl, rfl, by decide +kernel, rfl, by decide +kernel, by decide +kernel⟩
def dl_wrapped_right : He.DefD := ⟨("_law_wrapped_right", none), "_law_wrapped_right", "_law_wrapped_right", defArgs sl_wrapped_right, defBody sl_wrapped_right, defScope sl_wrapped_right, [], []⟩
abbrev sl_right : Stmt := top 60
abbrev Nl_right : List Str := ["_law_source_here", "_law_one", "_law_wide", "_law_pairs", "_law_two", "_law_turn", "_law_here", "_law_there"]
theorem scl_right : FnScope Nl_right ["_law_source_here"] (defScope sl_right) := ⟨rfl, rfl, rfl, by decide +kernel, rfl, by decide +kernel, by decide +kernel⟩
def dl_right : He.DefD := ⟨("_law_right", none), "_law_right", "_law_right", defArgs sl_right, defBody sl_right, defScope sl_right, [], []⟩
abbrev sl_law : Stmt := top 61
abbrev Nl_law : List Str := ["_law_script", "_law_turn"]
theorem scl_law : FnScope Nl_law ["_law_script"] (defScope sl_law) := ⟨rfl, rfl, rfl, by decide +kernel, rfl, by decide +kernel, by decide +kernel⟩
def dl_law : He.DefD := ⟨("law", none), "law", "law", defArgs sl_law, defBody sl_law, defScope sl_law, [], []⟩
def fnL0 : List He.DefD := [dInvalidNumber_init, dInvalidRest_init, dInvalidWidth_init, dInvalidGuard_init, dis_whole, dis_residue, dresidue_of, dresidue_holds, dresidue_met, dinverse, dresidue_quotient, dresidue_modulo, dresidue_wrapped, dresidue_guarded, drefuse_wrong_rest, drefuse_wrong_number, drefuse_wrong_width, drefuse_wrong_guard, drest_holds, drest_quotient, drest_modulo, drest_wrapped, drest_guarded, drefuse_wrong_rests, dl_source, dl_take, dl_pick, dl_great, dl_number, dl_part]
def fnL1 : List He.DefD := [dl_rest, dl_rest_near, dl_rest_some, dl_is_whole, dl_same, dl_rest_has, dl_common, dl_least, dl_rest_meet, dl_over, dl_left, dl_lets, dl_guarded, dl_beside, dl_two_right, dl_guards_right, dl_held_right, dl_wrapped_right, dl_right, dl_law]
def fnL : List He.DefD := fnL0 ++ fnL1
def faL0 : List He.Fa := [.glo "LookError", .glo "InvalidNumber", .glo "InvalidRest", .glo "InvalidWidth", .glo "InvalidGuard", .glo "is_whole", .glo "is_residue", .glo "residue_of", .glo "residue_holds", .glo "residue_met", .glo "inverse", .glo "residue_quotient", .glo "residue_modulo", .glo "residue_wrapped", .glo "residue_guarded", .glo "refuse_wrong_rest", .glo "refuse_wrong_number", .glo "refuse_wrong_width", .glo "refuse_wrong_guard", .glo "rest_holds", .glo "rest_quotient", .glo "rest_modulo", .glo "rest_wrapped", .glo "rest_guarded", .glo "refuse_wrong_rests", .glo "_law_source", .glo "_law_take", .glo "_law_pick", .glo "_law_great", .glo "_law_number"]
def faL1 : List He.Fa := [.glo "_law_part", .glo "_law_rest", .glo "_law_rest_near", .glo "_law_rest_some", .glo "_law_is_whole", .glo "_law_same", .glo "_law_rest_has", .glo "_law_common", .glo "_law_least", .glo "_law_rest_meet", .glo "_law_over", .glo "_law_left", .glo "_law_lets", .glo "_law_guarded", .glo "_law_beside", .glo "_law_two_right", .glo "_law_guards_right", .glo "_law_held_right", .glo "_law_wrapped_right", .glo "_law_right", .glo "law", .free "ValueError", .free "abs", .free "all", .free "bool", .free "divmod", .free "int", .free "isinstance", .free "len", .free "max"]
def faL2 : List He.Fa := [.free "min", .free "range", .free "str", .free "tuple", .free "zip"]
def faX : List He.Fa := [.int "GRAIN" 20160, .glo "ANY_REST", .int "MOST_WIDTH" 16, .glo "COMPARISONS"]
def faL : List He.Fa := faX ++ (faL0 ++ faL1 ++ faL2)
def looseL0 : List Str := ["LookError", "InvalidNumber", "InvalidRest", "InvalidWidth", "InvalidGuard", "is_whole", "is_residue", "residue_of", "residue_holds", "residue_met", "inverse", "residue_quotient", "residue_modulo", "residue_wrapped", "residue_guarded", "refuse_wrong_rest", "refuse_wrong_number", "refuse_wrong_width", "refuse_wrong_guard", "rest_holds", "rest_quotient", "rest_modulo", "rest_wrapped", "rest_guarded", "refuse_wrong_rests", "_law_source", "_law_take", "_law_pick", "_law_great", "_law_number"]
def looseL1 : List Str := ["_law_part", "_law_rest", "_law_rest_near", "_law_rest_some", "_law_is_whole", "_law_same", "_law_rest_has", "_law_common", "_law_least", "_law_rest_meet", "_law_over", "_law_left", "_law_lets", "_law_guarded", "_law_beside", "_law_two_right", "_law_guards_right", "_law_held_right", "_law_wrapped_right", "_law_right", "MOST_WIDTH", "COMPARISONS", "GRAIN", "ANY_REST", "gcd", "lcm"]
def looseL : List Str := looseL0 ++ looseL1
def lawAt : Nat := 61
def kB : Value → Option (Int ⊕ Str)
  | .int n _ => some (.inl n)
  | .str z _ => some (.inr z)
  | _ => none
def tupB (K : PySem.W.Frag) (x : Str) (zs : List (Int ⊕ Str)) : Bool := match K.lookup (He.ga K x) with
  | some ⟨.type "tuple", _, .seq its _, _⟩ => decide (its.toList.map kB = zs.map some)
  | _ => false
def exB (K : PySem.W.Frag) : Bool := (decide (PySem.W.nsIn K mainGlobals "gcd" = some (some (.builtin "math.gcd"))) && (decide (PySem.W.nsIn K mainGlobals "lcm" = some (some (.builtin "math.lcm"))) && (tupB K "ANY_REST" [.inl 0, .inl 1] && (tupB K "COMPARISONS" [.inr "<", .inr "<=", .inr "==", .inr "!="] && true))))
abbrev R : PySem.W.OpenRow := PySem.W.OpenLaw.row PySem.Challenge.rw_soundlooks_k32_whole_quotients_modulo_gu
abbrev hk : PySem.W.Hook := He.hookX 5 faL fnL [] [] exB
def ob (s : PySem.W.SharedT) : He.AlX := He.obsX 5 faL fnL [] [] exB (HandSHeadRun.getT s)
theorem ob_eq (s : PySem.W.SharedT) : ob s = hk.obs s.abs := He.obsX_eq (HandSHeadRun.getT_eq s)
theorem run (w : World) : HandSHeadRun.RunEqI R (PySem.W.view R.prog [0, lawAt]) hk ob 60000 looseL w := by
  unfold HandSHeadRun.RunEqI
  kernel_rfl
end Lw

namespace Eg
open PySem PySem.Spec L2

/-! ### data -/
/-- a list of the written part -/
def WrL (K : PySem.W.Frag) (a : Addr) (xs : List V) : Prop := SqL K (fun _ => none) a xs
theorem WrL.sq {K : PySem.W.Frag} {H : Hp} {a : Addr} {xs : List V} (h : WrL K a xs) : SqL K H a xs := by
  rcases h with (h | ⟨o, h⟩) | h
  · cases h
  · cases h
  · exact .inr h
inductive DV where
  | non | bl (b : Bool) | int (i : Int) | str (x : Str)
  | tup (xs : List DV) | lst (xs : List DV) | dic (kvs : List (Key × DV))
  | exc (C : Addr) (fs : List (Str × DV))
  | mu (k : Nat)
/-- a mutable object -/
inductive MO where
  | dead | lst (xs : List DV) | dic (kvs : List (Key × DV)) | ins (C : Addr) (fs : List (Str × DV))
structure Wd where
  K : PySem.W.Frag
  α : List Addr
  μ : List MO
  H : Hp
def Wd.lv (w : Wd) (p : Addr) : Prop := ∃ (k : Nat) (o : MO), w.α[k]? = some p ∧ w.μ[k]? = some o ∧ o ≠ MO.dead
mutual
inductive Has (w : Wd) : V → DV → Prop
  | non : Has w .non .non
  | bl {b} : Has w (.bl b) (.bl b)
  | int {i} : Has w (.int i) (.int i)
  | str {x} : Has w (.str x) (.str x)
  | tup {p vs ds} : SqT w.K w.H p vs → HasL w vs ds → Has w (.ref p) (.tup ds)
  | lst {p vs ds} : (¬ w.lv p ∧ Rd w.H p (.lst vs)) ∨ WrL w.K p vs → HasL w vs ds → Has w (.ref p) (.lst ds)
  | dic {p kvs kds} : ¬ w.lv p → w.H p = some (.dK kvs) → HasK w kvs kds → Has w (.ref p) (.dic kds)
  | exc {p C d fs ds} : w.H p = some (exo p C (some d)) → w.H d = some (exd d fs) → HasF w fs ds → Has w (.ref p) (.exc C ds)
  | exc0 {p C} : w.H p = some (ExO (.ref C) p) → Has w (.ref p) (.exc C [])
  | mu {k a} : w.α[k]? = some a → Has w (.ref a) (.mu k)
inductive HasL (w : Wd) : List V → List DV → Prop
  | nil : HasL w [] []
  | cons {v d vs ds} : Has w v d → HasL w vs ds → HasL w (v :: vs) (d :: ds)
inductive HasK (w : Wd) : List (Key × V) → List (Key × DV) → Prop
  | nil : HasK w [] []
  | cons {k v d vs ds} : Has w v d → HasK w vs ds → HasK w ((k, v) :: vs) ((k, d) :: ds)
inductive HasF (w : Wd) : List (Str × V) → List (Str × DV) → Prop
  | nil : HasF w [] []
  | cons {k v d vs ds} : Has w v d → HasF w vs ds → HasF w ((k, v) :: vs) ((k, d) :: ds)
end
def MHas (w : Wd) (a : Addr) : MO → Prop
  | .dead => True
  | .lst ds => ∃ vs, w.H a = some (.lst vs) ∧ HasL w vs ds
  | .dic kds => ∃ kvs, w.H a = some (.dK kvs) ∧ HasK w kvs kds
  | .ins C fds => ∃ dx fs, w.H a = some (.ins C dx fs) ∧ HasF w fs fds
structure Live (w : Wd) : Prop where
  len : w.α.length = w.μ.length
  nd : w.α.Nodup
  tr : ∀ a ∈ w.α, w.H a ≠ none
  ob : ∀ (k : Nat) (a : Addr) (o : MO), w.α[k]? = some a → w.μ[k]? = some o → MHas w a o
abbrev RO := List (Option DV)
structure En (w : Wd) (σ : St) (ρ : RO) : Prop where
  live : Live w
  len : σ.length = ρ.length
  at_ : ∀ (i : Nat) (d : DV), ρ[i]? = some (some d) → ∃ v, σ[i]? = some (some v) ∧ Has w v d
/-- what a change of the world has to keep -/
structure Kp (w w' : Wd) : Prop where
  K : w'.K = w.K
  α : ∀ (k : Nat) (a : Addr), w.α[k]? = some a → w'.α[k]? = some a
  lv : ∀ p, w.H p ≠ none → w'.lv p → w.lv p
  H : ∀ p o, w.H p = some o → ¬ w.lv p → w'.H p = some o
  tu : ∀ p, w.lv p → Mut (w.H p)
  ex : ∀ p φ, w.H p = some (.ext φ) → ¬ w.lv p
mutual
theorem Kp.has {w w' : Wd} (k : Kp w w') : ∀ {v : V} {d : DV}, Has w v d → Has w' v d
  | _, _, .non => .non
  | _, _, .bl => .bl
  | _, _, .int => .int
  | _, _, .str => .str
  | _, _, .tup h t => .tup (by
      have nl : ∀ {p xs}, Rd w.H p (.tup xs) → ¬ w.lv p := fun {p xs} r z => by
        have m := k.tu p z
        rcases r with r | ⟨o, r⟩ <;> (rw [r] at m; exact m)
      rcases h with r | r
      · have n := nl r
        rcases r with r | ⟨o, r⟩
        · exact .inl (.inl (k.H _ _ r n))
        · exact .inl (.inr ⟨o, k.H _ _ r n⟩)
      · exact .inr (by rw [k.K]; exact r)) (Kp.hasL k t)
  | _, _, .lst r t => .lst (by
      rcases r with ⟨n, r⟩ | r
      · refine .inl ⟨fun z => n (k.lv _ (by rcases r with r | ⟨o, r⟩ <;> (rw [r]; exact fun z => nomatch z)) z), ?_⟩
        rcases r with r | ⟨o, r⟩
        · exact .inl (k.H _ _ r n)
        · exact .inr ⟨o, k.H _ _ r n⟩
      · exact .inr (by rw [k.K]; exact r)) (Kp.hasL k t)
  | _, _, .dic n r t => .dic (fun z => n (k.lv _ (by rw [r]; exact fun z => nomatch z) z)) (k.H _ _ r n) (Kp.hasK k t)
  | _, _, .exc h1 h2 t => .exc (k.H _ _ h1 (k.ex _ _ h1)) (k.H _ _ h2 (k.ex _ _ h2)) (Kp.hasF k t)
  | _, _, .exc0 h1 => .exc0 (k.H _ _ h1 (k.ex _ _ h1))
  | _, _, .mu h => .mu (k.α _ _ h)
theorem Kp.hasL {w w' : Wd} (k : Kp w w') : ∀ {vs : List V} {ds : List DV}, HasL w vs ds → HasL w' vs ds
  | _, _, .nil => .nil
  | _, _, .cons h t => .cons (Kp.has k h) (Kp.hasL k t)
theorem Kp.hasK {w w' : Wd} (k : Kp w w') : ∀ {vs : List (Key × V)} {ds : List (Key × DV)}, HasK w vs ds → HasK w' vs ds
  | _, _, .nil => .nil
  | _, _, .cons h t => .cons (Kp.has k h) (Kp.hasK k t)
theorem Kp.hasF {w w' : Wd} (k : Kp w w') : ∀ {vs : List (Str × V)} {ds : List (Str × DV)}, HasF w vs ds → HasF w' vs ds
  | _, _, .nil => .nil
  | _, _, .cons h t => .cons (Kp.has k h) (Kp.hasF k t)
end
theorem En.ext {w w' : Wd} {σ : L2.St} {ρ : RO} (E : En w σ ρ) (e : Kp w w') (l : Live w') : En w' σ ρ :=
  ⟨l, E.len, fun i d h => let ⟨v, h1, h2⟩ := E.at_ i d h; ⟨v, h1, e.has h2⟩⟩
theorem Kp.trans {a b c : Wd} (h : Kp a b) (k : Kp b c) : Kp a c where
  K := k.K.trans h.K
  α := fun i x e => k.α i x (h.α i x e)
  lv := fun p n z => by
    by_cases q : a.lv p
    · exact q
    · cases e : a.H p with
      | none => exact absurd e n
      | some o => exact h.lv p n (k.lv p (by rw [h.H p o e q]; exact fun z => nomatch z) z)
  H := fun p o e n => k.H p o (h.H p o e n) fun z => n (h.lv p (by rw [e]; exact fun z => nomatch z) z)
  tu := h.tu
  ex := h.ex
/-- a live object is one that may be changed -/
theorem Live.mut {w : Wd} (l : Live w) {p : Addr} (h : w.lv p) : (∃ xs, w.H p = some (.lst xs)) ∨ (∃ xs, w.H p = some (.dK xs)) ∨ ∃ C dx fs, w.H p = some (.ins C dx fs) := by
  obtain ⟨k, o, h1, h2, h3⟩ := h
  have q := l.ob k p o h1 h2
  cases o with
  | dead => exact absurd rfl h3
  | lst ds => obtain ⟨vs, e, _⟩ := q; exact .inl ⟨vs, e⟩
  | dic ds => obtain ⟨vs, e, _⟩ := q; exact .inr (.inl ⟨vs, e⟩)
  | ins C fs => obtain ⟨dx, vs, e, _⟩ := q; exact .inr (.inr ⟨C, dx, vs, e⟩)
theorem Kp.of {w w' : Wd} (l : Live w) (K : w'.K = w.K) (α : ∀ (k : Nat) (a : Addr), w.α[k]? = some a → w'.α[k]? = some a) (lv : ∀ p, w.H p ≠ none → w'.lv p → w.lv p)
    (H : ∀ p o, w.H p = some o → ¬ w.lv p → w'.H p = some o) : Kp w w' where
  K := K
  α := α
  lv := lv
  H := H
  tu := fun p z => by
    rcases l.mut z with ⟨xs, e⟩ | ⟨xs, e⟩ | ⟨C, dx, fs, e⟩ <;> (rw [e]; exact True.intro)
  ex := fun p φ e z => by
    rcases l.mut z with ⟨xs, q⟩ | ⟨xs, q⟩ | ⟨C, dx, fs, q⟩ <;> (rw [e] at q; cases q)
theorem Live.refl {w : Wd} (l : Live w) : Kp w w := Kp.of l rfl (fun _ _ e => e) (fun _ _ e => e) fun _ _ e _ => e
theorem Live.fresh {w : Wd} (l : Live w) {p : Addr} (n : w.H p = none) : ¬ w.lv p := fun z => by
  rcases l.mut z with ⟨xs, e⟩ | ⟨xs, e⟩ | ⟨C, dx, fs, e⟩ <;> (rw [n] at e; cases e)
theorem Live.nin {w : Wd} (l : Live w) {p : Addr} (n : w.H p = none) : p ∉ w.α := fun z => l.tr p z n
/-- the k-th objects' accounts behind a change that leaves the live ones -/
theorem MHas.ext {w w' : Wd} (e : Kp w w') {a : Addr} : ∀ {o : MO}, (o ≠ MO.dead → w'.H a = w.H a) → MHas w a o → MHas w' a o
  | .dead, _, _ => True.intro
  | .lst _, q, ⟨vs, h1, h2⟩ => ⟨vs, (q (fun z => nomatch z)).trans h1, e.hasL h2⟩
  | .dic _, q, ⟨vs, h1, h2⟩ => ⟨vs, (q (fun z => nomatch z)).trans h1, e.hasK h2⟩
  | .ins _ _, q, ⟨dx, vs, h1, h2⟩ => ⟨dx, vs, (q (fun z => nomatch z)).trans h1, e.hasF h2⟩
section
variable {K : PySem.W.Frag} {α : List Addr} {μ : List MO} {H : Hp} {p : Addr} {o : HO}
/-- a new object is laid that nobody may change -/
theorem Live.lay (l : Live ⟨K, α, μ, H⟩) (n : H p = none) : Kp ⟨K, α, μ, H⟩ ⟨K, α, μ, upd H p o⟩ ∧ Live ⟨K, α, μ, upd H p o⟩ := by
  have k : Kp ⟨K, α, μ, H⟩ ⟨K, α, μ, upd H p o⟩ := Kp.of l rfl (fun _ _ e => e) (fun _ _ e => e) fun q u e _ => by
    show upd H p o q = some u
    rw [upd_ne (ne_of_none e n)]
    exact e
  refine ⟨k, l.len, l.nd, fun a ha z => ?_, fun i a m h1 h2 => MHas.ext k (fun hm => ?_) (l.ob i a m h1 h2)⟩
  · have z' : upd H p o a = none := z
    by_cases e : a = p
    · rw [e, upd_same] at z'
      cases z'
    · rw [upd_ne e] at z'
      exact l.tr a ha z'
  · show upd H p o a = H a
    refine upd_ne fun e => l.fresh (p := p) n ?_
    rw [← e]
    exact ⟨i, m, h1, h2, hm⟩
/-- a new object is laid that may be changed -/
theorem Live.layM {m : MO} (l : Live ⟨K, α, μ, H⟩) (n : H p = none) (hm : Live ⟨K, α, μ, upd H p o⟩ → Kp ⟨K, α, μ, H⟩ ⟨K, α ++ [p], μ ++ [m], upd H p o⟩ → MHas ⟨K, α ++ [p], μ ++ [m], upd H p o⟩ p m) :
    Kp ⟨K, α, μ, H⟩ ⟨K, α ++ [p], μ ++ [m], upd H p o⟩ ∧ Live ⟨K, α ++ [p], μ ++ [m], upd H p o⟩ ∧ (α ++ [p])[μ.length]? = some p := by
  obtain ⟨_, l1⟩ := l.lay (o := o) n
  have hl : α.length = μ.length := l.len
  have np : p ∉ α := l.nin n
  have cases_ : ∀ {i : Nat} {a : Addr} {u : MO}, (α ++ [p])[i]? = some a → (μ ++ [m])[i]? = some u → (α[i]? = some a ∧ μ[i]? = some u) ∨ (a = p ∧ u = m) := fun {i a u} h1 h2 => by
    by_cases hi : i < α.length
    · rw [List.getElem?_append_left hi] at h1
      rw [List.getElem?_append_left (by omega)] at h2
      exact .inl ⟨h1, h2⟩
    · rw [List.getElem?_append_right (by omega)] at h1
      rw [List.getElem?_append_right (by omega)] at h2
      have hi1 : i - α.length = 0 := by
        cases e : i - α.length with
        | zero => rfl
        | succ j =>
          rw [e] at h1
          simp at h1
      have hi2 : i - μ.length = 0 := by omega
      rw [hi1] at h1
      rw [hi2] at h2
      simp at h1 h2
      exact .inr ⟨h1.symm, h2.symm⟩
  have k : Kp ⟨K, α, μ, H⟩ ⟨K, α ++ [p], μ ++ [m], upd H p o⟩ := Kp.of l rfl (fun i a e => by
      have e' : α[i]? = some a := e
      show (α ++ [p])[i]? = some a
      rw [List.getElem?_append_left (List.getElem?_eq_some_iff.mp e').1]
      exact e') (fun q nq ⟨i, u, h1, h2, h3⟩ => by
      rcases cases_ h1 h2 with ⟨q1, q2⟩ | ⟨q1, _⟩
      · exact ⟨i, u, q1, q2, h3⟩
      · exact absurd (show H q = none by rw [q1]; exact n) nq) fun q u e _ => by
    show upd H p o q = some u
    rw [upd_ne (ne_of_none e n)]
    exact e
  refine ⟨k, ⟨?_, ?_, ?_, ?_⟩, ?_⟩
  · show (α ++ [p]).length = (μ ++ [m]).length
    simp [hl]
  · show (α ++ [p]).Nodup
    refine List.nodup_append.mpr ⟨l.nd, by simp, ?_⟩
    intro a ha b hb
    rw [List.mem_singleton] at hb
    rw [hb]
    exact fun e => np (e ▸ ha)
  · intro a ha
    have ha' : a ∈ α ++ [p] := ha
    rcases List.mem_append.mp ha' with h | h
    · exact l1.tr a h
    · rw [List.mem_singleton] at h
      rw [h]
      show upd H p o p ≠ none
      rw [upd_same]
      exact fun z => nomatch z
  · intro i a u h1 h2
    rcases cases_ h1 h2 with ⟨q1, q2⟩ | ⟨q1, q2⟩
    · refine MHas.ext k (fun hu => ?_) (l.ob i a u q1 q2)
      show upd H p o a = H a
      exact upd_ne fun e => l.fresh (p := p) n (by rw [← e]; exact ⟨i, u, q1, q2, hu⟩)
    · rw [q1, q2]
      exact hm l1 k
  · rw [← hl]
    simp
/-- new objects are laid that nobody may change -/
theorem Live.lays {H' : Hp} (l : Live ⟨K, α, μ, H⟩) (h : ∀ p, H p ≠ none → H' p = H p) : Kp ⟨K, α, μ, H⟩ ⟨K, α, μ, H'⟩ ∧ Live ⟨K, α, μ, H'⟩ := by
  have k : Kp ⟨K, α, μ, H⟩ ⟨K, α, μ, H'⟩ := Kp.of l rfl (fun _ _ e => e) (fun _ _ e => e) fun q u e _ => (h q (by
    have e' : H q = some u := e
    rw [e']
    exact fun z => nomatch z)).trans e
  refine ⟨k, l.len, l.nd, fun a ha z => l.tr a ha ((h a (l.tr a ha)).symm.trans z), fun i a m h1 h2 => MHas.ext k (fun _ => ?_) (l.ob i a m h1 h2)⟩
  exact h a (l.tr a (List.mem_of_getElem? h1))
/-- the k-th object is changed -/
theorem Live.put {k : Nat} {a : Addr} {m0 m : MO} (l : Live ⟨K, α, μ, H⟩) (ha : α[k]? = some a) (hm0 : μ[k]? = some m0) (h0 : m0 ≠ MO.dead)
    (hm : Kp ⟨K, α, μ, H⟩ ⟨K, α, μ.set k m, upd H a o⟩ → MHas ⟨K, α, μ.set k m, upd H a o⟩ a m) : Kp ⟨K, α, μ, H⟩ ⟨K, α, μ.set k m, upd H a o⟩ ∧ Live ⟨K, α, μ.set k m, upd H a o⟩ := by
  have la : Wd.lv ⟨K, α, μ, H⟩ a := ⟨k, m0, ha, hm0, h0⟩
  have hk : k < μ.length := (List.getElem?_eq_some_iff.mp hm0).1
  have same : ∀ {i : Nat}, α[i]? = some a → i = k := fun {i} e => nd_ix l.nd e ha
  have kp : Kp ⟨K, α, μ, H⟩ ⟨K, α, μ.set k m, upd H a o⟩ := Kp.of l rfl (fun _ _ e => e) (fun q _ ⟨i, u, h1, h2, h3⟩ => by
      by_cases e : i = k
      · subst e
        have h1' : α[i]? = some q := h1
        rw [ha] at h1'
        cases h1'
        exact la
      · exact ⟨i, u, h1, by rw [← h2]; exact (List.getElem?_set_ne (Ne.symm e)).symm, h3⟩) fun q u e nl => by
    show upd H a o q = some u
    rw [upd_ne (fun z : q = a => nl (by rw [z]; exact la))]
    exact e
  refine ⟨kp, ⟨?_, l.nd, ?_, ?_⟩⟩
  · show α.length = (μ.set k m).length
    rw [List.length_set]
    exact l.len
  · intro b hb z
    have z' : upd H a o b = none := z
    by_cases e : b = a
    · rw [e, upd_same] at z'
      cases z'
    · rw [upd_ne e] at z'
      exact l.tr b hb z'
  · intro i b u h1 h2
    have h2' : (μ.set k m)[i]? = some u := h2
    have h1' : α[i]? = some b := h1
    by_cases e : i = k
    · subst e
      rw [List.getElem?_set_self hk] at h2'
      cases h2'
      rw [ha] at h1'
      cases h1'
      exact hm kp
    · rw [List.getElem?_set_ne (Ne.symm e)] at h2'
      refine MHas.ext kp (fun _ => ?_) (l.ob i b u h1 h2')
      show upd H a o b = H b
      exact upd_ne fun z : b = a => e (same (by rw [← z]; exact h1'))
/-- nobody will change the k-th object any more -/
theorem Live.freeze {k : Nat} (l : Live ⟨K, α, μ, H⟩) : Kp ⟨K, α, μ, H⟩ ⟨K, α, μ.set k MO.dead, H⟩ ∧ Live ⟨K, α, μ.set k MO.dead, H⟩ ∧ ∀ a, α[k]? = some a → ¬ Wd.lv ⟨K, α, μ.set k MO.dead, H⟩ a := by
  have at_ : ∀ {i : Nat} {u : MO}, (μ.set k MO.dead)[i]? = some u → u = MO.dead ∨ (i ≠ k ∧ μ[i]? = some u) := fun {i u} h => by
    by_cases e : i = k
    · subst e
      by_cases hi : i < μ.length
      · rw [List.getElem?_set_self hi] at h
        exact .inl (Option.some.inj h).symm
      · rw [List.getElem?_eq_none_iff.mpr (by rw [List.length_set]; omega)] at h
        cases h
    · rw [List.getElem?_set_ne (Ne.symm e)] at h
      exact .inr ⟨e, h⟩
  have kp : Kp ⟨K, α, μ, H⟩ ⟨K, α, μ.set k MO.dead, H⟩ := Kp.of l rfl (fun _ _ e => e) (fun q _ ⟨i, u, h1, h2, h3⟩ => by
      rcases at_ h2 with z | ⟨_, z⟩
      · exact absurd z h3
      · exact ⟨i, u, h1, z, h3⟩) fun q u e nl => e
  refine ⟨kp, ⟨?_, l.nd, l.tr, ?_⟩, ?_⟩
  · show α.length = (μ.set k MO.dead).length
    rw [List.length_set]
    exact l.len
  · intro i b u h1 h2
    rcases at_ h2 with z | ⟨_, z⟩
    · rw [z]
      exact True.intro
    · exact MHas.ext kp (fun _ => rfl) (l.ob i b u h1 z)
  · rintro a ha ⟨i, u, h1, h2, h3⟩
    rcases at_ h2 with z | ⟨ne, _⟩
    · exact h3 z
    · exact ne (nd_ix l.nd h1 ha)
end
mutual
/-- its mutable objects are among the first n -/
def DV.bel (n : Nat) : DV → Bool
  | .tup xs => DV.belL n xs
  | .lst xs => DV.belL n xs
  | .dic kvs => DV.belK n kvs
  | .exc _ fs => DV.belF n fs
  | .mu k => decide (k < n)
  | _ => true
def DV.belL (n : Nat) : List DV → Bool
  | [] => true
  | x :: r => DV.bel n x && DV.belL n r
def DV.belK (n : Nat) : List (Key × DV) → Bool
  | [] => true
  | (_, x) :: r => DV.bel n x && DV.belK n r
def DV.belF (n : Nat) : List (Str × DV) → Bool
  | [] => true
  | (_, x) :: r => DV.bel n x && DV.belF n r
end
def MO.bel (n : Nat) : MO → Bool
  | .dead => true
  | .lst xs => DV.belL n xs
  | .dic kvs => DV.belK n kvs
  | .ins _ fs => DV.belF n fs
section
variable {w w' : Wd} {n : Nat}
mutual
theorem Has.move (K : w'.K = w.K) (H : w'.H = w.H) (lv : ∀ p, w'.lv p → w.lv p) (α : ∀ (k : Nat) (a : Addr), k < n → w.α[k]? = some a → w'.α[k]? = some a) : ∀ {v : V} {d : DV}, Has w v d → DV.bel n d = true → Has w' v d
  | _, _, .non, _ => .non
  | _, _, .bl, _ => .bl
  | _, _, .int, _ => .int
  | _, _, .str, _ => .str
  | _, _, .tup h t, p => .tup (by rw [K, H]; exact h) (HasL.move K H lv α t p)
  | _, _, .lst r t, p => .lst (by
      rcases r with ⟨n, r⟩ | r
      · exact .inl ⟨fun z => n (lv _ z), by rw [H]; exact r⟩
      · exact .inr (by rw [K]; exact r)) (HasL.move K H lv α t p)
  | _, _, .dic n r t, p => .dic (fun z => n (lv _ z)) (by rw [H]; exact r) (HasK.move K H lv α t p)
  | _, _, .exc h1 h2 t, p => .exc (by rw [H]; exact h1) (by rw [H]; exact h2) (HasF.move K H lv α t p)
  | _, _, .exc0 h1, _ => .exc0 (by rw [H]; exact h1)
  | _, _, .mu h, p => .mu (α _ _ (of_decide_eq_true p) h)
theorem HasL.move (K : w'.K = w.K) (H : w'.H = w.H) (lv : ∀ p, w'.lv p → w.lv p) (α : ∀ (k : Nat) (a : Addr), k < n → w.α[k]? = some a → w'.α[k]? = some a) : ∀ {vs : List V} {ds : List DV}, HasL w vs ds → DV.belL n ds = true → HasL w' vs ds
  | _, _, .nil, _ => .nil
  | _, _, .cons h t, p => .cons (Has.move K H lv α h (Bool.and_eq_true_iff.mp p).1) (HasL.move K H lv α t (Bool.and_eq_true_iff.mp p).2)
theorem HasK.move (K : w'.K = w.K) (H : w'.H = w.H) (lv : ∀ p, w'.lv p → w.lv p) (α : ∀ (k : Nat) (a : Addr), k < n → w.α[k]? = some a → w'.α[k]? = some a) : ∀ {vs : List (Key × V)} {ds : List (Key × DV)}, HasK w vs ds → DV.belK n ds = true → HasK w' vs ds
  | _, _, .nil, _ => .nil
  | _, _, .cons h t, p => .cons (Has.move K H lv α h (Bool.and_eq_true_iff.mp p).1) (HasK.move K H lv α t (Bool.and_eq_true_iff.mp p).2)
theorem HasF.move (K : w'.K = w.K) (H : w'.H = w.H) (lv : ∀ p, w'.lv p → w.lv p) (α : ∀ (k : Nat) (a : Addr), k < n → w.α[k]? = some a → w'.α[k]? = some a) : ∀ {vs : List (Str × V)} {ds : List (Str × DV)}, HasF w vs ds → DV.belF n ds = true → HasF w' vs ds
  | _, _, .nil, _ => .nil
  | _, _, .cons h t, p => .cons (Has.move K H lv α h (Bool.and_eq_true_iff.mp p).1) (HasF.move K H lv α t (Bool.and_eq_true_iff.mp p).2)
end
end
/-- what was made beside is forgotten -/
def Wd.cut (w : Wd) (n : Nat) : Wd := ⟨w.K, w.α.take n, w.μ.take n, w.H⟩
theorem cut_lv {w : Wd} {n : Nat} {p : Addr} (h : (w.cut n).lv p) : w.lv p := by
  obtain ⟨i, u, h1, h2, h3⟩ := h
  have h1' : (w.α.take n)[i]? = some p := h1
  have h2' : (w.μ.take n)[i]? = some u := h2
  rw [List.getElem?_take] at h1' h2'
  split at h1'
  · rename_i hi
    rw [if_pos hi] at h2'
    exact ⟨i, u, h1', h2', h3⟩
  · cases h1'
theorem Live.cut {w w' : Wd} (l : Live w) (l' : Live w') (k : Kp w w') : Kp w (w'.cut w.μ.length) := Kp.of l k.K (fun i a e => by
    show (w'.α.take w.μ.length)[i]? = some a
    have hi : i < w.μ.length := by
      rw [← l.len]
      exact (List.getElem?_eq_some_iff.mp e).1
    rw [List.getElem?_take, if_pos hi]
    exact k.α i a e) (fun p n z => k.lv p n (cut_lv z)) k.H
theorem cut_α {w : Wd} {n : Nat} (k : Nat) (a : Addr) (h : k < n) (e : w.α[k]? = some a) : (w.cut n).α[k]? = some a := by
  show (w.α.take n)[k]? = some a
  rw [List.getElem?_take, if_pos h]
  exact e
theorem Live.cutL {w : Wd} (l : Live w) (n : Nat) (p : (w.μ.take n).all (MO.bel n) = true) : Live (w.cut n) where
  len := by
    show (w.α.take n).length = (w.μ.take n).length
    rw [List.length_take, List.length_take, l.len]
  nd := l.nd.sublist (List.take_sublist _ _)
  tr := fun a h => l.tr a (List.mem_of_mem_take h)
  ob := fun i a u h1 h2 => by
    have h1' : (w.α.take n)[i]? = some a := h1
    have h2' : (w.μ.take n)[i]? = some u := h2
    have pu : MO.bel n u = true := List.all_eq_true.mp p u (List.mem_of_getElem? h2')
    rw [List.getElem?_take] at h1' h2'
    split at h1'
    · rename_i hi
      rw [if_pos hi] at h2'
      have q := l.ob i a u h1' h2'
      cases u with
      | dead => exact True.intro
      | lst ds =>
        obtain ⟨vs, e, t⟩ := q
        exact ⟨vs, e, HasL.move (w := w) (w' := w.cut n) (n := n) rfl rfl (fun _ z => cut_lv z) cut_α t pu⟩
      | dic ds =>
        obtain ⟨vs, e, t⟩ := q
        exact ⟨vs, e, HasK.move (w := w) (w' := w.cut n) (n := n) rfl rfl (fun _ z => cut_lv z) cut_α t pu⟩
      | ins C ds =>
        obtain ⟨dx, vs, e, t⟩ := q
        exact ⟨dx, vs, e, HasF.move (w := w) (w' := w.cut n) (n := n) rfl rfl (fun _ z => cut_lv z) cut_α t pu⟩
    · cases h1'
theorem Has.cut {w : Wd} {n : Nat} {v : V} {d : DV} (h : Has w v d) (p : DV.bel n d = true) : Has (w.cut n) v d := Has.move (w := w) (w' := w.cut n) (n := n) rfl rfl (fun _ z => cut_lv z) cut_α h p
end Eg

namespace Eg
open PySem PySem.Spec L2
abbrev Cn := DV → List MO → Prop
abbrev Ct := Bool → List MO → Prop
abbrev Ca := List DV → List MO → Prop
section
variable {X : Cx}
def tEv (X : Cx) (ρ : RO) (μ : List MO) (R : Cn) : TE := fun σ H Q => ∃ α, En ⟨X.K, α, μ, H⟩ σ ρ ∧
  ∀ v d α' μ' H', R d μ' → En ⟨X.K, α', μ', H'⟩ σ ρ → Kp ⟨X.K, α, μ, H⟩ ⟨X.K, α', μ', H'⟩ → Has ⟨X.K, α', μ', H'⟩ v d → Q v H'
def tEvT (X : Cx) (ρ : RO) (μ : List MO) (R : Ct) : TT := fun σ H Q => ∃ α, En ⟨X.K, α, μ, H⟩ σ ρ ∧
  ∀ b α' μ' H', R b μ' → En ⟨X.K, α', μ', H'⟩ σ ρ → Kp ⟨X.K, α, μ, H⟩ ⟨X.K, α', μ', H'⟩ → Q b H'
def tEvA (X : Cx) (ρ : RO) (μ : List MO) (R : Ca) : TA := fun σ H Q => ∃ α, En ⟨X.K, α, μ, H⟩ σ ρ ∧
  ∀ vs ds α' μ' H', R ds μ' → En ⟨X.K, α', μ', H'⟩ σ ρ → Kp ⟨X.K, α, μ, H⟩ ⟨X.K, α', μ', H'⟩ → HasL ⟨X.K, α', μ', H'⟩ vs ds → Q vs H'
/-- the expression, over the slots ρ and the objects μ, comes to what R lets -/
def Ev (X : Cx) (e : Expr) (ρ : RO) (μ : List MO) (R : Cn) : Prop := PE X e (tEv X ρ μ R)
def EvT (X : Cx) (e : Expr) (ρ : RO) (μ : List MO) (R : Ct) : Prop := PT X e (tEvT X ρ μ R)
def EvW (X : Cx) (e : Expr) (ρ : RO) (μ : List MO) (R : Ct) : Prop := PW X e (tEvT X ρ μ R)
def EvA (X : Cx) (es : List Expr) (ρ : RO) (μ : List MO) (R : Ca) : Prop := PA X es (tEvA X ρ μ R)

def aE (X : Cx) (e : Expr) : TE := fun σ H Q => ∃ t, PE X e t ∧ t σ H Q
def aT (X : Cx) (e : Expr) : TT := fun σ H Q => ∃ t, PT X e t ∧ t σ H Q
def aW (X : Cx) (e : Expr) : TT := fun σ H Q => ∃ t, PW X e t ∧ t σ H Q
def aA (X : Cx) (e : List Expr) : TA := fun σ H Q => ∃ t, PA X e t ∧ t σ H Q
theorem pe_a {e : Expr} : PE X e (aE X e) := ⟨fun pins s σ H Q I ⟨_, h, q⟩ => h.run pins s σ H Q I q⟩
theorem pt_a {e : Expr} : PT X e (aT X e) := ⟨fun pins s σ H Q I ⟨_, h, q⟩ => h.run pins s σ H Q I q⟩
theorem pw_a {e : Expr} : PW X e (aW X e) := ⟨fun wh pins s σ H Q I ⟨_, h, q⟩ => h.run wh pins s σ H Q I q⟩
theorem pa_a {e : List Expr} : PA X e (aA X e) := ⟨fun pos pins s σ H Q I ⟨_, h, q⟩ => h.run pos pins s σ H Q I q⟩
theorem PEw {e : Expr} {t t' : TE} (h : PE X e t) (k : ∀ σ H Q, t' σ H Q → t σ H Q) : PE X e t' := ⟨fun pins s σ H Q I q => h.run pins s σ H Q I (k σ H Q q)⟩
theorem PTw {e : Expr} {t t' : TT} (h : PT X e t) (k : ∀ σ H Q, t' σ H Q → t σ H Q) : PT X e t' := ⟨fun pins s σ H Q I q => h.run pins s σ H Q I (k σ H Q q)⟩
theorem PWw {e : Expr} {t t' : TT} (h : PW X e t) (k : ∀ σ H Q, t' σ H Q → t σ H Q) : PW X e t' := ⟨fun wh pins s σ H Q I q => h.run wh pins s σ H Q I (k σ H Q q)⟩
theorem PAw {e : List Expr} {t t' : TA} (h : PA X e t) (k : ∀ σ H Q, t' σ H Q → t σ H Q) : PA X e t' := ⟨fun pos pins s σ H Q I q => h.run pos pins s σ H Q I (k σ H Q q)⟩
section
variable {e a b c : Expr} {es : List Expr} {ρ : RO} {μ : List MO} {pos : Pos}
theorem Ev.mono {R R' : Cn} (h : Ev X e ρ μ R) (k : ∀ d μ', R d μ' → R' d μ') : Ev X e ρ μ R' :=
  PEw h fun σ H Q ⟨α, E, q⟩ => ⟨α, E, fun v d α' μ' H' r => q v d α' μ' H' (k _ _ r)⟩
theorem EvT.mono {R R' : Ct} (h : EvT X e ρ μ R) (k : ∀ d μ', R d μ' → R' d μ') : EvT X e ρ μ R' :=
  PTw h fun σ H Q ⟨α, E, q⟩ => ⟨α, E, fun v α' μ' H' r => q v α' μ' H' (k _ _ r)⟩
/-- an expression that leaves all as it is -/
theorem Ev.still {R : Cn} {v : V} {d : DV} (h : PE X e (tC v)) (hv : ∀ w, Has w v d) (hR : R d μ) : Ev X e ρ μ R :=
  PEw h fun σ H Q ⟨α, E, q⟩ => q v d α μ H hR E E.live.refl (hv _)
theorem Ev.name {R : Cn} (i : Nat) {x : Str} {d : DV} (hN : X.N[i]? = some x) (hv : Vis X.env.scope x) (hr : ρ[i]? = some (some d)) (hR : R d μ) (hd : (x == ("__debug__" : Str)) = false := by decide) (hcd : (x == ("__classdict__" : Str)) = false := by decide) :
    Ev X (.Name x pos) ρ μ R := PEw (pe_var hN hv hd hcd) fun σ H Q ⟨α, E, q⟩ => by
  obtain ⟨v, h1, h2⟩ := E.at_ i d hr
  exact ⟨v, h1, q v d α μ H hR E E.live.refl h2⟩
theorem Ev.int {R : Cn} {i : Int} {j} (hR : R (.int i) μ) : Ev X (.Constant (.int i) j pos) ρ μ R := .still pe_int (fun _ => .int) hR
theorem Ev.bl {R : Cn} {i : Bool} {j} (hR : R (.bl i) μ) : Ev X (.Constant (.bool i) j pos) ρ μ R := .still pe_bl (fun _ => .bl) hR
theorem Ev.non {R : Cn} {j} (hR : R .non μ) : Ev X (.Constant .none j pos) ρ μ R := .still pe_non (fun _ => .non) hR
theorem Ev.str {R : Cn} {x : Str} {j} (hR : R (.str x) μ) : Ev X (.Constant (.str x) j pos) ρ μ R := .still pe_str (fun _ => .str) hR
/-- a module's constant -/
theorem Ev.glob {R : Cn} {x : Str} {v : V} {u : Value} {d : DV} (hg : Gl X x) (hm : X.mg x = some u) (r : RelV v u) (hv : ∀ α μ H, Has ⟨X.K, α, μ, H⟩ v d) (hR : R d μ) (hd : (x == ("__debug__" : Str)) = false := by decide) : Ev X (.Name x pos) ρ μ R :=
  PEw (pe_glob hg hm r hd) fun σ H Q ⟨α, E, q⟩ => q v d α μ H hR E E.live.refl (hv _ _ _)

/-! ### two places -/
abbrev S2 := DV → DV → List MO → Cn → Prop
def Stp (X : Cx) (ρ : RO) (w : Wd) (σ : L2.St) (R : Cn) (Q : VK) : Prop := ∀ v d α' μ' H', R d μ' → En ⟨X.K, α', μ', H'⟩ σ ρ → Kp w ⟨X.K, α', μ', H'⟩ → Has ⟨X.K, α', μ', H'⟩ v d → Q v H'
def R2S (X : Cx) (r : R2) (S : S2) : Prop := ∀ (α : List Addr) (μ : List MO) (H : Hp) (σ : L2.St) (ρ : RO) (x y : V) (da db : DV) (R : Cn) (Q : VK), En ⟨X.K, α, μ, H⟩ σ ρ → Has ⟨X.K, α, μ, H⟩ x da → Has ⟨X.K, α, μ, H⟩ y db → S da db μ R → Stp X ρ ⟨X.K, α, μ, H⟩ σ R Q → r x y H Q
theorem tOp_S {r : R2} {S : S2} {R : Cn} (k : R2S X r S) (h : Ev X a ρ μ fun da μ1 => Ev X b ρ μ1 fun db μ2 => S da db μ2 R) (σ : L2.St) (H : Hp) (Q : VK) (q : tEv X ρ μ R σ H Q) : tOp r (aE X a) (aE X b) σ H Q := by
  obtain ⟨α, E, q⟩ := q
  exact ⟨_, h, α, E, fun x da α1 μ1 H1 h1 E1 X1 hx => ⟨_, h1, α1, E1, fun y db α2 μ2 H2 h2 E2 X2 hy =>
    k α2 μ2 H2 σ ρ x y da db R Q E2 (X2.has hx) hy h2 fun v d α' μ' H' r' E' X' hv => q v d α' μ' H' r' E' (X1.trans (X2.trans X')) hv⟩⟩
theorem Ev.op {op : Operator} {R : Cn} {r : R2} {S : S2} (hr : OpR X (binaryOp op) r) (k : R2S X r S) (h : Ev X a ρ μ fun da μ1 => Ev X b ρ μ1 fun db μ2 => S da db μ2 R) : Ev X (.BinOp a op b pos) ρ μ R :=
  PEw (pe_op hr pe_a pe_a) (tOp_S k h)
theorem Ev.cmp {op : CmpOp} {R : Cn} {r : R2} {S : S2} (hr : OpR X (compareOp op) r) (k : R2S X r S) (hm : behindInMarks op b = false) (h : Ev X a ρ μ fun da μ1 => Ev X b ρ μ1 fun db μ2 => S da db μ2 R) : Ev X (.Compare a [op] [b] pos) ρ μ R :=
  PEw (pe_cmpR hr pe_a pe_a hm) (tOp_S k h)
theorem Ev.ix {R : Cn} {r : R2} {S : S2} (hr : IxR X r) (k : R2S X r S) (hs : PlainIx b) (h : Ev X a ρ μ fun da μ1 => Ev X b ρ μ1 fun db μ2 => S da db μ2 R) : Ev X (.Subscript a b pos) ρ μ R :=
  PEw (pe_ix hr pe_a pe_a hs) (tOp_S k h)
/-! ### the steps -/
theorem Stp.sc {α : List Addr} {H : Hp} {σ : L2.St} {R : Cn} {Q : VK} (E : En ⟨X.K, α, μ, H⟩ σ ρ) (q : Stp X ρ ⟨X.K, α, μ, H⟩ σ R Q) {v : V} {d : DV} (hR : R d μ) (hv : Has ⟨X.K, α, μ, H⟩ v d) : Q v H := q v d α μ H hR E E.live.refl hv
def sI (C : Int → Int → Prop) (g : Int → Int → DV) : S2 := fun x y μ R => ∃ i j, x = .int i ∧ y = .int j ∧ C i j ∧ R (g i j) μ
def sI0 (g : Int → Int → DV) : S2 := fun x y μ R => ∃ i j, x = .int i ∧ y = .int j ∧ R (g i j) μ
theorem rI_S {C : Int → Int → Prop} {g : Int → Int → V} {g' : Int → Int → DV} (hg : ∀ w i j, Has w (g i j) (g' i j)) : R2S X (rI C g) (sI C g') := fun α μ H σ ρ x y da db R Q E hx hy h q => by
  obtain ⟨i, j, rfl, rfl, c, hR⟩ := h
  cases hx
  cases hy
  exact ⟨i, j, rfl, rfl, c, q.sc E hR (hg _ _ _)⟩
theorem rI0_S {g : Int → Int → V} {g' : Int → Int → DV} (hg : ∀ w i j, Has w (g i j) (g' i j)) : R2S X (rI0 g) (sI0 g') := fun α μ H σ ρ x y da db R Q E hx hy h q => by
  obtain ⟨i, j, rfl, rfl, hR⟩ := h
  cases hx
  cases hy
  exact ⟨i, j, rfl, rfl, q.sc E hR (hg _ _ _)⟩
def sAdd : S2 := fun x y μ R => ∃ i j, x = .int i ∧ y = .int j ∧ R (.int (i + j)) μ
def sSub : S2 := fun x y μ R => ∃ i j, x = .int i ∧ y = .int j ∧ R (.int (i - j)) μ
def sMul : S2 := fun x y μ R => ∃ i j, x = .int i ∧ y = .int j ∧ CMulW i j ∧ R (.int (i * j)) μ
def sMod : S2 := fun x y μ R => ∃ i j, x = .int i ∧ y = .int j ∧ j ≠ 0 ∧ R (.int (i.fmod j)) μ
def sDiv : S2 := fun x y μ R => ∃ i j, x = .int i ∧ y = .int j ∧ CDivW i j ∧ R (.int (i / j)) μ
def sPow : S2 := fun x y μ R => ∃ i j, x = .int i ∧ y = .int j ∧ CPow i j ∧ R (.int (i ^ j.toNat)) μ
def sLt : S2 := fun x y μ R => ∃ i j, x = .int i ∧ y = .int j ∧ R (.bl (decide (i < j))) μ
def sLe : S2 := fun x y μ R => ∃ i j, x = .int i ∧ y = .int j ∧ R (.bl (decide (i ≤ j))) μ
def sGt : S2 := fun x y μ R => ∃ i j, x = .int i ∧ y = .int j ∧ R (.bl (decide (j < i))) μ
def sGe : S2 := fun x y μ R => ∃ i j, x = .int i ∧ y = .int j ∧ R (.bl (decide (j ≤ i))) μ
theorem Ev.sub {R : Cn} (h : Ev X a ρ μ fun da μ1 => Ev X b ρ μ1 fun db μ2 => sSub da db μ2 R) : Ev X (.BinOp a .Sub b pos) ρ μ R := .op op_sub (rI0_S fun _ _ _ => .int) h
theorem Ev.addI {R : Cn} (h : Ev X a ρ μ fun da μ1 => Ev X b ρ μ1 fun db μ2 => sAdd da db μ2 R) : Ev X (.BinOp a .Add b pos) ρ μ R := .op op_add (rI0_S fun _ _ _ => .int) h
theorem Ev.mul {R : Cn} (h : Ev X a ρ μ fun da μ1 => Ev X b ρ μ1 fun db μ2 => sMul da db μ2 R) : Ev X (.BinOp a .Mult b pos) ρ μ R := .op op_mulW (rI_S fun _ _ _ => .int) h
theorem Ev.mod {R : Cn} (h : Ev X a ρ μ fun da μ1 => Ev X b ρ μ1 fun db μ2 => sMod da db μ2 R) : Ev X (.BinOp a .Mod b pos) ρ μ R := .op op_modN (rI_S fun _ _ _ => .int) h
theorem Ev.fdiv {R : Cn} (h : Ev X a ρ μ fun da μ1 => Ev X b ρ μ1 fun db μ2 => sDiv da db μ2 R) : Ev X (.BinOp a .FloorDiv b pos) ρ μ R := .op op_fdivW (rI_S fun _ _ _ => .int) h
theorem Ev.pow {R : Cn} (h : Ev X a ρ μ fun da μ1 => Ev X b ρ μ1 fun db μ2 => sPow da db μ2 R) : Ev X (.BinOp a .Pow b pos) ρ μ R := .op op_pow (rI_S fun _ _ _ => .int) h
theorem Ev.lt {R : Cn} (h : Ev X a ρ μ fun da μ1 => Ev X b ρ μ1 fun db μ2 => sLt da db μ2 R) : Ev X (.Compare a [.Lt] [b] pos) ρ μ R := .cmp op_lt (rI0_S fun _ _ _ => .bl) (nomark _) h
theorem Ev.le {R : Cn} (h : Ev X a ρ μ fun da μ1 => Ev X b ρ μ1 fun db μ2 => sLe da db μ2 R) : Ev X (.Compare a [.LtE] [b] pos) ρ μ R := .cmp op_le (rI0_S fun _ _ _ => .bl) (nomark _) h
theorem Ev.gt {R : Cn} (h : Ev X a ρ μ fun da μ1 => Ev X b ρ μ1 fun db μ2 => sGt da db μ2 R) : Ev X (.Compare a [.Gt] [b] pos) ρ μ R := .cmp op_gt (rI0_S fun _ _ _ => .bl) (nomark _) h
theorem Ev.ge {R : Cn} (h : Ev X a ρ μ fun da μ1 => Ev X b ρ μ1 fun db μ2 => sGe da db μ2 R) : Ev X (.Compare a [.GtE] [b] pos) ρ μ R := .cmp op_ge (rI0_S fun _ _ _ => .bl) (nomark _) h
/-- == of flat things -/
def DV.flat : DV → Option V
  | .non => some .non
  | .bl b => some (.bl b)
  | .int i => some (.int i)
  | .str x => some (.str x)
  | _ => none
theorem flat_has {w : Wd} {v z : V} {d : DV} (h : Has w v d) (e : DV.flat d = some z) : v = z := by
  cases h <;> (first | (cases e; rfl) | (cases e))
def sEq : S2 := fun x y μ R => ∃ u v, DV.flat x = some u ∧ DV.flat y = some v ∧ scal u v = true ∧ R (.bl (decide (u = v))) μ
def sNe : S2 := fun x y μ R => ∃ u v, DV.flat x = some u ∧ DV.flat y = some v ∧ scal u v = true ∧ R (.bl (!decide (u = v))) μ
theorem rEq_S : R2S X rEq sEq := fun α μ H σ ρ x y da db R Q E hx hy h q => by
  obtain ⟨u, v, e1, e2, c, hR⟩ := h
  cases flat_has hx e1
  cases flat_has hy e2
  exact ⟨c, q.sc E hR .bl⟩
theorem rNe_S : R2S X rNe sNe := fun α μ H σ ρ x y da db R Q E hx hy h q => by
  obtain ⟨u, v, e1, e2, c, hR⟩ := h
  cases flat_has hx e1
  cases flat_has hy e2
  exact ⟨c, q.sc E hR .bl⟩
theorem Ev.eq {R : Cn} (h : Ev X a ρ μ fun da μ1 => Ev X b ρ μ1 fun db μ2 => sEq da db μ2 R) : Ev X (.Compare a [.Eq] [b] pos) ρ μ R := .cmp op_eq rEq_S (nomark _) h
theorem Ev.ne {R : Cn} (h : Ev X a ρ μ fun da μ1 => Ev X b ρ μ1 fun db μ2 => sNe da db μ2 R) : Ev X (.Compare a [.NotEq] [b] pos) ρ μ R := .cmp op_ne rNe_S (nomark _) h
end
end
end Eg

namespace Eg
open PySem PySem.Spec L2
theorem HasL.length {w : Wd} : ∀ {vs : List V} {ds : List DV}, HasL w vs ds → vs.length = ds.length
  | _, _, .nil => rfl
  | _, _, .cons _ t => by rw [List.length_cons, List.length_cons, HasL.length t]
theorem HasL.get {w : Wd} : ∀ {vs : List V} {ds : List DV} {i : Nat} {d : DV}, HasL w vs ds → ds[i]? = some d → ∃ v, vs[i]? = some v ∧ Has w v d
  | _, _, i, d, .nil, e => by simp at e
  | _, _, 0, d, .cons h _, e => by simp at e; subst e; exact ⟨_, rfl, h⟩
  | _, _, i + 1, d, .cons _ t, e => by
    obtain ⟨v, h1, h2⟩ := HasL.get (i := i) t (by simpa using e)
    exact ⟨v, by simpa using h1, h2⟩
theorem HasL.gett {w : Wd} : ∀ {vs : List V} {ds : List DV} {i : Nat} {v : V}, HasL w vs ds → vs[i]? = some v → ∃ d, ds[i]? = some d ∧ Has w v d
  | _, _, i, d, .nil, e => by simp at e
  | _, _, 0, d, .cons h _, e => by simp at e; subst e; exact ⟨_, rfl, h⟩
  | _, _, i + 1, d, .cons _ t, e => by
    obtain ⟨v, h1, h2⟩ := HasL.gett (i := i) t (by simpa using e)
    exact ⟨v, by simpa using h1, h2⟩
theorem HasL.app {w : Wd} : ∀ {vs us : List V} {ds es : List DV}, HasL w vs ds → HasL w us es → HasL w (vs ++ us) (ds ++ es)
  | _, _, _, _, .nil, s => s
  | _, _, _, _, .cons h t, s => .cons h (HasL.app t s)
theorem HasL.take {w : Wd} : ∀ {vs : List V} {ds : List DV} (n : Nat), HasL w vs ds → HasL w (vs.take n) (ds.take n)
  | _, _, 0, _ => .nil
  | _, _, _ + 1, .nil => .nil
  | _, _, n + 1, .cons h t => .cons h (HasL.take n t)
theorem HasL.drop {w : Wd} : ∀ {vs : List V} {ds : List DV} (n : Nat), HasL w vs ds → HasL w (vs.drop n) (ds.drop n)
  | _, _, 0, r => r
  | _, _, _ + 1, .nil => .nil
  | _, _, n + 1, .cons _ t => HasL.drop n t
theorem HasL.set {w : Wd} {v : V} {d : DV} (h : Has w v d) : ∀ {vs : List V} {ds : List DV} (i : Nat), HasL w vs ds → HasL w (vs.set i v) (ds.set i d)
  | _, _, _, .nil => .nil
  | _, _, 0, .cons _ t => .cons h t
  | _, _, i + 1, .cons q t => .cons q (HasL.set h i t)
/-- the items of what is read as a list or a tuple -/
def itemsD (μ : List MO) : DV → Option (List DV)
  | .tup ds => some ds
  | .lst ds => some ds
  | .mu k => match μ[k]? with
    | some (.lst ds) => some ds
    | _ => none
  | _ => none
section
variable {X : Cx} {e a b c : Expr} {es : List Expr} {ρ : RO} {μ : List MO} {pos : Pos}
/-- what is read as a list or tuple -/
theorem seq_of {w : Wd} {v : V} {d : DV} {ds : List DV} (l : Live w) (h : Has w v d) (e : itemsD w.μ d = some ds) : ∃ p vs, v = .ref p ∧ HasL w vs ds ∧ (SqL w.K w.H p vs ∨ SqT w.K w.H p vs) := by
  cases h with
  | tup h1 t => cases e; exact ⟨_, _, rfl, t, .inr h1⟩
  | lst r t =>
    cases e
    rcases r with ⟨_, r⟩ | r
    · exact ⟨_, _, rfl, t, .inl (.inl r)⟩
    · exact ⟨_, _, rfl, t, .inl r.sq⟩
  | @mu k a h1 =>
    have e' : (match w.μ[k]? with | some (.lst ds) => some ds | _ => none) = some ds := e
    split at e'
    · rename_i ds' hk
      cases e'
      obtain ⟨vs, q1, q2⟩ := l.ob k a _ h1 hk
      exact ⟨a, vs, rfl, q2, .inl (.of q1)⟩
    · cases e'
  | _ => cases e
def sIx : S2 := fun x y μ R => (∃ ds i d, itemsD μ x = some ds ∧ y = .int i ∧ atI ds i = some d ∧ R d μ) ∨ ∃ z i c, x = .str z ∧ y = .int i ∧ z.length ≤ sizeLine ∧ atI z.cps.toList i = some c ∧ R (.str ⟨#[c]⟩) μ
theorem at_has {w : Wd} {vs : List V} {ds : List DV} {i : Int} {d : DV} (h : HasL w vs ds) (e : atI ds i = some d) : ∃ v, atI vs i = some v ∧ Has w v d := by
  unfold atI at e ⊢
  rw [h.length]
  cases q : ixN ds.length i with
  | none => rw [q] at e; cases e
  | some j =>
    rw [q] at e
    exact h.get e
theorem rIx_S : R2S X (rIx X.K) sIx := fun α μ H σ ρ x y da db R Q E hx hy h q => by
  rcases h with ⟨ds, i, d, h1, rfl, h2, hR⟩ | ⟨z, i, c, rfl, rfl, h1, h2, hR⟩
  · obtain ⟨p, vs, rfl, hl, s⟩ := seq_of E.live hx h1
    cases hy
    obtain ⟨v, e1, e2⟩ := at_has hl h2
    rcases s with s | s
    · exact .inl ⟨p, vs, i, v, rfl, rfl, s, e1, q.sc E hR e2⟩
    · exact .inr (.inl ⟨p, vs, i, v, rfl, rfl, s, e1, q.sc E hR e2⟩)
  · cases hx
    cases hy
    exact .inr (.inr ⟨z, i, c, rfl, rfl, h1, h2, q.sc E hR .str⟩)
theorem Ev.at {R : Cn} (h : Ev X a ρ μ fun da μ1 => Ev X b ρ μ1 fun db μ2 => sIx da db μ2 R) (hs : PlainIx b := by intro _ _; rfl) : Ev X (.Subscript a b pos) ρ μ R := .ix ix_seq rIx_S hs h
/-! ### arguments -/
theorem EvA.nil {R : Ca} (h : R [] μ) : EvA X [] ρ μ R := PAw pa_nil fun σ H Q ⟨α, E, q⟩ => q [] [] α μ H h E E.live.refl .nil
theorem EvA.cons {R : Ca} (h : Ev X e ρ μ fun d μ1 => EvA X es ρ μ1 fun ds μ2 => R (d :: ds) μ2) (hs : starEach (e :: es) X.env = (false, eval e X.env) :: starEach es X.env := by rfl) : EvA X (e :: es) ρ μ R :=
  PAw (pa_cons pe_a pa_a hs) fun σ H Q ⟨α, E, q⟩ => ⟨_, h, α, E, fun v d α1 μ1 H1 h1 E1 X1 hv => ⟨_, h1, α1, E1, fun vs ds α2 μ2 H2 h2 E2 X2 hvs => q _ _ α2 μ2 H2 h2 E2 (X1.trans X2) (.cons (X2.has hv) hvs)⟩⟩
/-! ### displays -/
theorem Ev.tup {R : Cn} {x1} (h : EvA X es ρ μ fun ds μ1 => ds.length ≤ sizeLine ∧ R (.tup ds) μ1) : Ev X (.Tuple es x1 pos) ρ μ R :=
  PEw (pe_tup pa_a) fun σ H Q ⟨α, E, q⟩ => ⟨_, h, α, E, fun vs ds α1 μ1 H1 ⟨h0, h1⟩ E1 X1 hv => ⟨by rw [hv.length]; exact h0, fun p np => by
    obtain ⟨k, l⟩ := E1.live.lay (o := .tup vs) np
    exact q _ _ α1 μ1 _ h1 (E1.ext k l) (X1.trans k) (.tup (.of upd_same) (k.hasL hv))⟩⟩
theorem Ev.lst {R : Cn} (h : EvA X es ρ μ fun ds μ1 => ds.length ≤ sizeLine ∧ R (.lst ds) μ1) : Ev X (.List es pos) ρ μ R :=
  PEw (pe_lst pa_a) fun σ H Q ⟨α, E, q⟩ => ⟨_, h, α, E, fun vs ds α1 μ1 H1 ⟨h0, h1⟩ E1 X1 hv => ⟨by rw [hv.length]; exact h0, fun p np => by
    obtain ⟨k, l⟩ := E1.live.lay (o := .lst vs) np
    exact q _ _ α1 μ1 _ h1 (E1.ext k l) (X1.trans k) (.lst (.inl ⟨E1.live.fresh np, .inl upd_same⟩) (k.hasL hv))⟩⟩
theorem Ev.lstM {R : Cn} (h : EvA X es ρ μ fun ds μ1 => ds.length ≤ sizeLine ∧ R (.mu μ1.length) (μ1 ++ [.lst ds])) : Ev X (.List es pos) ρ μ R :=
  PEw (pe_lst pa_a) fun σ H Q ⟨α, E, q⟩ => ⟨_, h, α, E, fun vs ds α1 μ1 H1 ⟨h0, h1⟩ E1 X1 hv => ⟨by rw [hv.length]; exact h0, fun p np => by
    obtain ⟨k, l, e⟩ := E1.live.layM (o := .lst vs) (m := .lst ds) np (fun _ k => ⟨vs, upd_same, k.hasL hv⟩)
    exact q _ _ _ _ _ h1 (E1.ext k l) (X1.trans k) (.mu e)⟩⟩
theorem Ev.dic0 {R : Cn} (h : R (.dic []) μ) : Ev X (.Dict [] [] pos) ρ μ R :=
  PEw pe_dnewK fun σ H Q ⟨α, E, q⟩ => fun p np => by
    obtain ⟨k, l⟩ := E.live.lay (o := .dK []) np
    exact q _ _ α μ _ h (E.ext k l) k (.dic (E.live.fresh np) upd_same .nil)
theorem Ev.dic0M {R : Cn} (h : R (.mu μ.length) (μ ++ [.dic []])) : Ev X (.Dict [] [] pos) ρ μ R :=
  PEw pe_dnewK fun σ H Q ⟨α, E, q⟩ => fun p np => by
    obtain ⟨k, l, e⟩ := E.live.layM (o := .dK []) (m := .dic []) np (fun _ k => ⟨[], upd_same, .nil⟩)
    exact q _ _ _ _ _ h (E.ext k l) k (.mu e)
/-! ### calls of built-ins by values -/
abbrev SA := List DV → List MO → Cn → Prop
def RaS (X : Cx) (r : List V → Hp → VK → Prop) (S : SA) : Prop := ∀ (α : List Addr) (μ : List MO) (H : Hp) (σ : L2.St) (ρ : RO) (vs : List V) (ds : List DV) (R : Cn) (Q : VK), En ⟨X.K, α, μ, H⟩ σ ρ → HasL ⟨X.K, α, μ, H⟩ vs ds → S ds μ R → Stp X ρ ⟨X.K, α, μ, H⟩ σ R Q → r vs H Q
theorem tCB_S {r : List V → Hp → VK → Prop} {S : SA} {R : Cn} (k : RaS X r S) (h : EvA X es ρ μ fun ds μ1 => S ds μ1 R) (σ : L2.St) (H : Hp) (Q : VK) (q : tEv X ρ μ R σ H Q) : tCB r (aA X es) σ H Q := by
  obtain ⟨α, E, q⟩ := q
  exact ⟨_, h, α, E, fun vs ds α1 μ1 H1 h1 E1 X1 hv => k α1 μ1 H1 σ ρ vs ds R Q E1 hv h1 fun v d α' μ' H' r' E' X' hv => q v d α' μ' H' r' E' (X1.trans X') hv⟩
theorem Ev.callB {R : Cn} {x : Str} {p : Pos} {id : String} {r : List V → Hp → VK → Prop} {S : SA} (hc : CallR X (.builtin id) r) (k : RaS X r S) (hg : Gl X x) (hm : X.mg x = none) (hv : bootBuiltins x = some (.builtin id)) (h : EvA X (e :: es) ρ μ fun ds μ1 => S ds μ1 R) (hn : x ≠ "__name__" := by decide) (hdb : (x == ("__debug__" : Str)) = false := by decide)
    (he : starEach (e :: es) X.env = (false, eval e X.env) :: starEach es X.env := by rfl) (hpl : (backTo pos (starEach es X.env)).any (·.1) = false := by rfl) : Ev X (.Call (.Name x p) (e :: es) [] pos) ρ μ R := PEw (pe_callB hc hg hm hv pa_a hn hdb he hpl) (tCB_S k h)
theorem Ev.callTy {R : Cn} {x : Str} {p : Pos} {T : String} {r : List V → Hp → VK → Prop} {S : SA} (hc : CallR X (.type T) r) (k : RaS X r S) (hg : Gl X x) (hm : X.mg x = none) (hv : bootBuiltins x = some (.type T)) (h : EvA X (e :: es) ρ μ fun ds μ1 => S ds μ1 R) (hn : x ≠ "__name__" := by decide) (hdb : (x == ("__debug__" : Str)) = false := by decide)
    (he : starEach (e :: es) X.env = (false, eval e X.env) :: starEach es X.env := by rfl) (hpl : (backTo pos (starEach es X.env)).any (·.1) = false := by rfl) : Ev X (.Call (.Name x p) (e :: es) [] pos) ρ μ R := PEw (pe_callTy hc hg hm hv pa_a hn hdb he hpl) (tCB_S k h)
def lenD (μ : List MO) (d : DV) : Option Nat := match d with
  | .str y => if y.length ≤ sizeLine then some y.length else none
  | d => (itemsD μ d).map List.length
theorem hasL1 {w : Wd} {vs : List V} {d : DV} (h : HasL w vs [d]) : ∃ v, vs = [v] ∧ Has w v d := by
  cases h with
  | cons h t => cases t; exact ⟨_, rfl, h⟩
theorem hasL2 {w : Wd} {vs : List V} {d e : DV} (h : HasL w vs [d, e]) : ∃ v u, vs = [v, u] ∧ Has w v d ∧ Has w u e := by
  cases h with
  | cons h t =>
    obtain ⟨u, rfl, h2⟩ := hasL1 t
    exact ⟨_, u, rfl, h, h2⟩
def sLen : SA := fun ds μ R => ∃ d n, ds = [d] ∧ lenD μ d = some n ∧ R (.int n) μ
theorem len_S : RaS X (fun xs H Q => ∃ x n, xs = [x] ∧ LenV X.K x H n ∧ Q (.int n) H) sLen := fun α μ H σ ρ vs ds R Q E hv h q => by
  obtain ⟨d, n, rfl, e, hR⟩ := h
  obtain ⟨v, rfl, hw⟩ := hasL1 hv
  clear hv
  have hv := hw
  refine ⟨v, n, rfl, ?_, q.sc E hR .int⟩
  have gen : (itemsD μ d).map List.length = some n → LenV X.K v H n := fun e => by
    obtain ⟨ds, e1, e2⟩ := Option.map_eq_some_iff.mp e
    obtain ⟨p, vs, rfl, hl, s⟩ := seq_of E.live hv e1
    rcases s with s | s
    · exact .inl ⟨vs, s, by rw [hl.length, e2]⟩
    · exact .inr ⟨vs, s, by rw [hl.length, e2]⟩
  cases d with
  | str y =>
    cases hv
    unfold lenD at e
    dsimp only at e
    split at e
    · rename_i hz
      show y.length ≤ sizeLine ∧ n = y.length
      exact ⟨hz, (Option.some.inj e).symm⟩
    · cases e
  | _ => exact gen e
theorem Ev.len {R : Cn} {p : Pos} (hg : Gl X "len") (hm : X.mg "len" = none) (h : EvA X [e] ρ μ fun ds μ1 => sLen ds μ1 R) (he : starEach [e] X.env = (false, eval e X.env) :: starEach [] X.env := by rfl) :
    Ev X (.Call (.Name "len" p) [e] [] pos) ρ μ R := .callB call_len len_S hg hm boot_len h (by decide) (by decide) he rfl
def sInt : SA := fun ds μ R => (∃ i, ds = [.int i] ∧ R (.int i) μ) ∨ ∃ k, ds = [.bl k] ∧ R (.int (if k then 1 else 0)) μ
theorem int_S : RaS X (fun xs H Q => (∃ i, xs = [.int i] ∧ Q (.int i) H) ∨ ∃ k, xs = [.bl k] ∧ Q (.int (if k then 1 else 0)) H) sInt := fun α μ H σ ρ vs ds R Q E hv h q => by
  rcases h with ⟨i, rfl, hR⟩ | ⟨i, rfl, hR⟩
  · obtain ⟨v, rfl, hw⟩ := hasL1 hv
    clear hv
    have hv := hw
    cases hv
    exact .inl ⟨i, rfl, q.sc E hR .int⟩
  · obtain ⟨v, rfl, hw⟩ := hasL1 hv
    clear hv
    have hv := hw
    cases hv
    exact .inr ⟨i, rfl, q.sc E hR .int⟩
theorem Ev.toInt {R : Cn} {p : Pos} (hg : Gl X "int") (hm : X.mg "int" = none) (h : EvA X [e] ρ μ fun ds μ1 => sInt ds μ1 R) (he : starEach [e] X.env = (false, eval e X.env) :: starEach [] X.env := by rfl) :
    Ev X (.Call (.Name "int" p) [e] [] pos) ρ μ R := .callTy call_int1 int_S hg hm PyProof.Rows.boot_int h (by decide) (by decide) he rfl
def sAbs : SA := fun ds μ R => ∃ i, ds = [.int i] ∧ R (.int (if i < 0 then -i else i)) μ
theorem abs_S : RaS X (fun xs H Q => ∃ i, xs = [.int i] ∧ Q (.int (if i < 0 then -i else i)) H) sAbs := fun α μ H σ ρ vs ds R Q E hv h q => by
  obtain ⟨i, rfl, hR⟩ := h
  obtain ⟨v, rfl, hw⟩ := hasL1 hv
  clear hv
  have hv := hw
  cases hv
  exact ⟨i, rfl, q.sc E hR .int⟩
theorem Ev.abs {R : Cn} {p : Pos} (hg : Gl X "abs") (hm : X.mg "abs" = none) (h : EvA X [e] ρ μ fun ds μ1 => sAbs ds μ1 R) (he : starEach [e] X.env = (false, eval e X.env) :: starEach [] X.env := by rfl) :
    Ev X (.Call (.Name "abs" p) [e] [] pos) ρ μ R := .callB call_abs abs_S hg hm PyProof.Rows.boot_abs h (by decide) (by decide) he rfl
def sMM (g : Int → Int → Int) : SA := fun ds μ R => ∃ i j, ds = [.int i, .int j] ∧ R (.int (g i j)) μ
theorem mm_S {g : Int → Int → Int} : RaS X (fun xs H Q => ∃ i j, xs = [.int i, .int j] ∧ Q (.int (g i j)) H) (sMM g) := fun α μ H σ ρ vs ds R Q E hv h q => by
  obtain ⟨i, j, rfl, hR⟩ := h
  obtain ⟨v, u, rfl, hw, hu⟩ := hasL2 hv
  clear hv
  have hv := hw
  cases hv
  cases hu
  exact ⟨i, j, rfl, q.sc E hR .int⟩
theorem Ev.max2 {R : Cn} {p : Pos} (hc : X.calm = true) (hg : Gl X "max") (hm : X.mg "max" = none) (h : EvA X [a, b] ρ μ fun ds μ1 => sMM (fun i j => if j > i then j else i) ds μ1 R) (he : starEach [a, b] X.env = (false, eval a X.env) :: starEach [b] X.env := by rfl) (hpl : (backTo pos (starEach [b] X.env)).any (·.1) = false := by rfl) :
    Ev X (.Call (.Name "max" p) [a, b] [] pos) ρ μ R := .callB (call_max2 hc) mm_S hg hm PyProof.Rows.boot_max h (by decide) (by decide) he hpl
theorem Ev.min2 {R : Cn} {p : Pos} (hc : X.calm = true) (hg : Gl X "min") (hm : X.mg "min" = none) (h : EvA X [a, b] ρ μ fun ds μ1 => sMM (fun i j => if j < i then j else i) ds μ1 R) (he : starEach [a, b] X.env = (false, eval a X.env) :: starEach [b] X.env := by rfl) (hpl : (backTo pos (starEach [b] X.env)).any (·.1) = false := by rfl) :
    Ev X (.Call (.Name "min" p) [a, b] [] pos) ρ μ R := .callB (call_min2 hc) mm_S hg hm PyProof.Rows.boot_min h (by decide) (by decide) he hpl
def sDivmod : SA := fun ds μ R => ∃ i j, ds = [.int i, .int j] ∧ CDiv i j ∧ R (.tup [.int (i / j), .int (i % j)]) μ
theorem divmod_S : RaS X (fun xs H Q => ∃ i j, xs = [.int i, .int j] ∧ CDiv i j ∧ ∀ p, H p = none → Q (.ref p) (upd H p (.tup [.int (i / j), .int (i % j)]))) sDivmod := fun α μ H σ ρ vs ds R Q E hv h q => by
  obtain ⟨i, j, rfl, c, hR⟩ := h
  obtain ⟨v, u, rfl, hw, hu⟩ := hasL2 hv
  clear hv
  have hv := hw
  cases hv
  cases hu
  refine ⟨i, j, rfl, c, fun p np => ?_⟩
  obtain ⟨k, l⟩ := E.live.lay (o := .tup [.int (i / j), .int (i % j)]) np
  exact q _ _ α μ _ hR (E.ext k l) k (.tup (.of upd_same) (.cons .int (.cons .int .nil)))
theorem Ev.divmod {R : Cn} {p : Pos} (hg : Gl X "divmod") (hm : X.mg "divmod" = none) (h : EvA X [a, b] ρ μ fun ds μ1 => sDivmod ds μ1 R) (he : starEach [a, b] X.env = (false, eval a X.env) :: starEach [b] X.env := by rfl) (hpl : (backTo pos (starEach [b] X.env)).any (·.1) = false := by rfl) :
    Ev X (.Call (.Name "divmod" p) [a, b] [] pos) ρ μ R := .callB call_divmod divmod_S hg hm PyProof.Rows.boot_divmod h (by decide) (by decide) he hpl
/-- tuple(xs) -/
def sTuple : SA := fun ds μ R => ∃ d xs, ds = [d] ∧ itemsD μ d = some xs ∧ R (.tup xs) μ
theorem tuple_S : RaS X (fun xs H Q => ∃ p ys, xs = [.ref p] ∧ ((SqL X.K H p ys ∧ ∀ l, H l = none → Q (.ref l) (upd H l (.tup ys))) ∨ (SqT X.K H p ys ∧ Q (.ref p) H))) sTuple := fun α μ H σ ρ vs ds R Q E hv h q => by
  obtain ⟨d, xs, rfl, e, hR⟩ := h
  obtain ⟨v, rfl, hw⟩ := hasL1 hv
  clear hv
  have hv := hw
  obtain ⟨p, vs, rfl, hl, s⟩ := seq_of E.live hv e
  refine ⟨p, vs, rfl, ?_⟩
  rcases s with s | s
  · refine .inl ⟨s, fun l nl => ?_⟩
    obtain ⟨k, l⟩ := E.live.lay (o := .tup vs) nl
    exact q _ _ α μ _ hR (E.ext k l) k (.tup (.of upd_same) (k.hasL hl))
  · exact .inr ⟨s, q.sc E hR (.tup s hl)⟩
theorem Ev.tuple {R : Cn} {p : Pos} (hg : Gl X "tuple") (hm : X.mg "tuple" = none) (h : EvA X [e] ρ μ fun ds μ1 => sTuple ds μ1 R) (he : starEach [e] X.env = (false, eval e X.env) :: starEach [] X.env := by rfl) :
    Ev X (.Call (.Name "tuple" p) [e] [] pos) ρ μ R := .callTy call_tuple_of tuple_S hg hm PyProof.Rows.boot_tuple h (by decide) (by decide) he rfl
/-- all of a list of truths -/
def blD : DV → Option Bool
  | .bl b => some b
  | _ => none
theorem bls_has {w : Wd} : ∀ {vs : List V} {bs : List Bool}, HasL w vs (bs.map DV.bl) → vs = bs.map V.bl
  | _, [], .nil => rfl
  | _, b :: bs, .cons h t => by
    cases h
    rw [List.map_cons, bls_has t]
def sAll : SA := fun ds μ R => ∃ d bs, ds = [d] ∧ itemsD μ d = some (List.map DV.bl bs) ∧ (∀ xs, d ≠ .tup xs) ∧ R (.bl (bs.all id)) μ
theorem all_S : RaS X (rAll X.K) sAll := fun α μ H σ ρ vs ds R Q E hv h q => by
  obtain ⟨d, bs, rfl, e, nt, hR⟩ := h
  obtain ⟨v, rfl, hw⟩ := hasL1 hv
  clear hv
  have hv := hw
  have : ∃ p vs, v = .ref p ∧ HasL ⟨X.K, α, μ, H⟩ vs (bs.map DV.bl) ∧ SqL X.K H p vs := by
    cases hv with
    | tup h1 t => exact absurd rfl (nt _)
    | lst r t =>
      cases e
      rcases r with ⟨_, r⟩ | r
      · exact ⟨_, _, rfl, t, .inl r⟩
      · exact ⟨_, _, rfl, t, r.sq⟩
    | @mu k a h1 =>
      have e' : (match μ[k]? with | some (.lst ds) => some ds | _ => none) = some (List.map DV.bl bs) := e
      split at e'
      · rename_i ds' hk
        cases e'
        obtain ⟨vs, q1, q2⟩ := E.live.ob k a _ h1 hk
        exact ⟨a, vs, rfl, q2, .of q1⟩
      · cases e'
    | _ => cases e
  obtain ⟨p, vs, rfl, hl, s⟩ := this
  have ev := bls_has hl
  subst ev
  exact ⟨p, bs, rfl, s, q.sc E hR .bl⟩
theorem Ev.all {R : Cn} {p : Pos} (hc : X.calm = true) (hg : Gl X "all") (hm : X.mg "all" = none) (h : EvA X [e] ρ μ fun ds μ1 => sAll ds μ1 R) (he : starEach [e] X.env = (false, eval e X.env) :: starEach [] X.env := by rfl) :
    Ev X (.Call (.Name "all" p) [e] [] pos) ρ μ R := .callB (cr_all hc) all_S hg hm PyProof.Rows.boot_all h (by decide) (by decide) he rfl
/-! ### tests -/
theorem EvT.val {R : Ct} (h : Ev X e ρ μ fun d μ1 => ∃ k, d = .bl k ∧ R k μ1) (he : ∀ whole, isTrue e X.env whole = (do let v ← whole; standAt e.pos; holding [v] (truthy v)) := by intro _; rfl) : EvT X e ρ μ R :=
  PTw (pt_val pe_a he) fun σ H Q ⟨α, E, q⟩ => ⟨_, h, α, E, fun v d α1 μ1 H1 ⟨k, e, h1⟩ E1 X1 hv => by
    subst e
    cases hv
    exact ⟨k, rfl, q k α1 μ1 H1 h1 E1 X1⟩⟩
theorem EvT.not {R : Ct} (h : EvT X a ρ μ fun b μ1 => R (!b) μ1) : EvT X (.UnaryOp .Not a pos) ρ μ R :=
  PTw (pt_not pt_a) fun σ H Q ⟨α, E, q⟩ => ⟨_, h, α, E, fun b α1 μ1 H1 h1 E1 X1 => q _ α1 μ1 H1 h1 E1 X1⟩
theorem EvT.w {R : Ct} (h : EvW X e ρ μ R) : EvT X e ρ μ R := PW.pt h
theorem EvW.and1 {R : Ct} (h : EvT X a ρ μ R) : EvW X (.BoolOp .And [a] pos) ρ μ R := pw_and1 h
theorem EvW.or1 {R : Ct} (h : EvT X a ρ μ R) : EvW X (.BoolOp .Or [a] pos) ρ μ R := pw_or1 h
theorem EvW.and {rest : List Expr} {R : Ct} (h : EvT X a ρ μ fun k μ1 => if k = true then EvW X (.BoolOp .And (b :: rest) pos) ρ μ1 R else R false μ1) : EvW X (.BoolOp .And (a :: b :: rest) pos) ρ μ R :=
  PWw (pw_and pt_a pw_a) fun σ H Q ⟨α, E, q⟩ => ⟨_, h, α, E, fun k α1 μ1 H1 h1 E1 X1 => by
    cases k with
    | true => exact iteT ⟨_, show EvW X (.BoolOp .And (b :: rest) pos) ρ μ1 R from h1, α1, E1, fun k2 α2 μ2 H2 h2 E2 X2 => q k2 α2 μ2 H2 h2 E2 (X1.trans X2)⟩
    | false => exact iteF (q false α1 μ1 H1 h1 E1 X1)⟩
theorem EvW.or {rest : List Expr} {R : Ct} (h : EvT X a ρ μ fun k μ1 => if k = true then R true μ1 else EvW X (.BoolOp .Or (b :: rest) pos) ρ μ1 R) : EvW X (.BoolOp .Or (a :: b :: rest) pos) ρ μ R :=
  PWw (pw_or pt_a pw_a) fun σ H Q ⟨α, E, q⟩ => ⟨_, h, α, E, fun k α1 μ1 H1 h1 E1 X1 => by
    cases k with
    | true => exact iteT (q true α1 μ1 H1 h1 E1 X1)
    | false => exact iteF ⟨_, show EvW X (.BoolOp .Or (b :: rest) pos) ρ μ1 R from h1, α1, E1, fun k2 α2 μ2 H2 h2 E2 X2 => q k2 α2 μ2 H2 h2 E2 (X1.trans X2)⟩⟩
theorem Ev.ifE {R : Cn} (h : EvT X c ρ μ fun k μ1 => if k = true then Ev X a ρ μ1 R else Ev X b ρ μ1 R) : Ev X (.IfExp c a b pos) ρ μ R :=
  PEw (pe_ifExp pt_a pe_a pe_a) fun σ H Q ⟨α, E, q⟩ => ⟨_, h, α, E, fun k α1 μ1 H1 h1 E1 X1 => by
    cases k with
    | true => exact iteT ⟨_, show Ev X a ρ μ1 R from h1, α1, E1, fun v d α2 μ2 H2 h2 E2 X2 hv => q v d α2 μ2 H2 h2 E2 (X1.trans X2) hv⟩
    | false => exact iteF ⟨_, show Ev X b ρ μ1 R from h1, α1, E1, fun v d α2 μ2 H2 h2 E2 X2 hv => q v d α2 μ2 H2 h2 E2 (X1.trans X2) hv⟩⟩
/-! ### and, or, not as values -/
theorem Ev.one {R : Cn} {op} (h : Ev X a ρ μ R) : Ev X (.BoolOp op [a] pos) ρ μ R := pe_one h
theorem Ev.and {rest : List Expr} {R : Cn} (h : Ev X a ρ μ fun d μ1 => ∃ k, d = .bl k ∧ if k = true then Ev X (.BoolOp .And (b :: rest) pos) ρ μ1 R else R (.bl false) μ1) : Ev X (.BoolOp .And (a :: b :: rest) pos) ρ μ R :=
  PEw (pe_and pe_a pe_a) fun σ H Q ⟨α, E, q⟩ => ⟨_, h, α, E, fun v d α1 μ1 H1 ⟨k, e, h1⟩ E1 X1 hv => by
    subst e
    cases hv
    refine ⟨k, rfl, ?_⟩
    cases k with
    | true => exact iteT ⟨_, show Ev X (.BoolOp .And (b :: rest) pos) ρ μ1 R from h1, α1, E1, fun v d α2 μ2 H2 h2 E2 X2 hv => q v d α2 μ2 H2 h2 E2 (X1.trans X2) hv⟩
    | false => exact iteF (q _ _ α1 μ1 H1 h1 E1 X1 .bl)⟩
theorem Ev.or {rest : List Expr} {R : Cn} (h : Ev X a ρ μ fun d μ1 => ∃ k, d = .bl k ∧ if k = true then R (.bl true) μ1 else Ev X (.BoolOp .Or (b :: rest) pos) ρ μ1 R) : Ev X (.BoolOp .Or (a :: b :: rest) pos) ρ μ R :=
  PEw (pe_or pe_a pe_a) fun σ H Q ⟨α, E, q⟩ => ⟨_, h, α, E, fun v d α1 μ1 H1 ⟨k, e, h1⟩ E1 X1 hv => by
    subst e
    cases hv
    refine ⟨k, rfl, ?_⟩
    cases k with
    | true => exact iteT (q _ _ α1 μ1 H1 h1 E1 X1 .bl)
    | false => exact iteF ⟨_, show Ev X (.BoolOp .Or (b :: rest) pos) ρ μ1 R from h1, α1, E1, fun v d α2 μ2 H2 h2 E2 X2 hv => q v d α2 μ2 H2 h2 E2 (X1.trans X2) hv⟩⟩
theorem Ev.not {R : Cn} (h : Ev X a ρ μ fun d μ1 => ∃ k, d = .bl k ∧ R (.bl (!k)) μ1) : Ev X (.UnaryOp .Not a pos) ρ μ R :=
  PEw (pe_not pe_a) fun σ H Q ⟨α, E, q⟩ => ⟨_, h, α, E, fun v d α1 μ1 H1 ⟨k, e, h1⟩ E1 X1 hv => by
    subst e
    cases hv
    exact ⟨k, rfl, q _ _ α1 μ1 H1 h1 E1 X1 .bl⟩⟩
theorem Ev.neg {R : Cn} (h : Ev X a ρ μ fun d μ1 => ∃ i, d = .int i ∧ R (.int (-i)) μ1) : Ev X (.UnaryOp .USub a pos) ρ μ R :=
  PEw (pe_un un_neg pe_a) fun σ H Q ⟨α, E, q⟩ => ⟨_, h, α, E, fun v d α1 μ1 H1 ⟨k, e, h1⟩ E1 X1 hv => by
    subst e
    cases hv
    exact ⟨k, rfl, q _ _ α1 μ1 H1 h1 E1 X1 .int⟩⟩
/-- a < b < c of whole numbers -/
theorem Ev.chain {op op' : CmpOp} {r r' : R2} {S S' : S2} {R : Cn} (ho : OpR X (compareOp op) r) (k : R2S X r S) (ho' : OpR X (compareOp op') r') (k' : R2S X r' S')
    (h : Ev X a ρ μ fun da μ1 => Ev X b ρ μ1 fun db μ2 => S da db μ2 fun d μ3 => ∃ t, d = .bl t ∧ if t = true then Ev X c ρ μ3 fun dc μ4 => S' db dc μ4 R else R (.bl false) μ3) (hm : lastMarks [op, op'] [b, c] = false := by with_unfolding_all rfl) :
    Ev X (.Compare a [op, op'] [b, c] pos) ρ μ R := PEw (pe_chain ho ho' pe_a pe_a pe_a hm) fun σ H Q ⟨α, E, q⟩ =>
  ⟨_, h, α, E, fun x da α1 μ1 H1 h1 E1 X1 hx => ⟨_, h1, α1, E1, fun y db α2 μ2 H2 h2 E2 X2 hy =>
    k α2 μ2 H2 σ ρ x y da db _ _ E2 (X2.has hx) hy h2 fun v d α3 μ3 H3 ⟨t, e, h3⟩ E3 X3 hv => by
      subst e
      cases hv
      refine ⟨t, rfl, ?_⟩
      cases t with
      | true => exact iteT ⟨_, show Ev X c ρ μ3 _ from h3, α3, E3, fun z dc α4 μ4 H4 h4 E4 X4 hz => k' α4 μ4 H4 σ ρ y z db dc R Q E4 (X4.has (X3.has hy)) hz h4 fun v d α' μ' H' r' E' X' hv => q v d α' μ' H' r' E' (X1.trans (X2.trans (X3.trans (X4.trans X')))) hv⟩
      | false => exact iteF (q _ _ α3 μ3 H3 h3 E3 (X1.trans (X2.trans X3)) .bl)⟩⟩
end
end Eg

namespace Eg
open PySem PySem.Spec L2
inductive Out where
  | nx (ρ : RO) (μ : List MO) | rt (d : DV) (μ : List MO) | bk (ρ : RO) (μ : List MO) | ct (ρ : RO) (μ : List MO)
abbrev Co := Out → Prop
section
variable {X : Cx}
def tSt (X : Cx) (ρ : RO) (μ : List MO) (R : Co) : TS := fun D σ H => ∃ α, En ⟨X.K, α, μ, H⟩ σ ρ ∧
  (∀ ρ' σ' α' μ' H', R (.nx ρ' μ') → En ⟨X.K, α', μ', H'⟩ σ' ρ' → Kp ⟨X.K, α, μ, H⟩ ⟨X.K, α', μ', H'⟩ → D.nx σ' H') ∧
  (∀ v d α' μ' H', R (.rt d μ') → Live ⟨X.K, α', μ', H'⟩ → Kp ⟨X.K, α, μ, H⟩ ⟨X.K, α', μ', H'⟩ → Has ⟨X.K, α', μ', H'⟩ v d → D.rt v H') ∧
  (∀ ρ' σ' α' μ' H', R (.bk ρ' μ') → En ⟨X.K, α', μ', H'⟩ σ' ρ' → Kp ⟨X.K, α, μ, H⟩ ⟨X.K, α', μ', H'⟩ → D.bk σ' H') ∧
  (∀ ρ' σ' α' μ' H', R (.ct ρ' μ') → En ⟨X.K, α', μ', H'⟩ σ' ρ' → Kp ⟨X.K, α, μ, H⟩ ⟨X.K, α', μ', H'⟩ → D.ct σ' H')
def St (X : Cx) (s : Stmt) (ρ : RO) (μ : List MO) (R : Co) : Prop := PS X s (tSt X ρ μ R)
def Sts (X : Cx) (s : List Stmt) (ρ : RO) (μ : List MO) (R : Co) : Prop := PSs X s (tSt X ρ μ R)
def aS (X : Cx) (s : Stmt) : TS := fun D σ H => ∃ t, PS X s t ∧ t D σ H
def aSs (X : Cx) (s : List Stmt) : TS := fun D σ H => ∃ t, PSs X s t ∧ t D σ H
theorem ps_a {s : Stmt} : PS X s (aS X s) := ⟨fun pins s σ H D I ⟨_, h, q⟩ => h.run pins s σ H D I q⟩
theorem pss_a {s : List Stmt} : PSs X s (aSs X s) := ⟨fun pins s σ H D I ⟨_, h, q⟩ => h.run pins s σ H D I q⟩
theorem PSw {s : Stmt} {t t' : TS} (h : PS X s t) (k : ∀ D σ H, t' D σ H → t D σ H) : PS X s t' := ⟨fun pins s σ H D I q => h.run pins s σ H D I (k D σ H q)⟩
theorem PSsw {s : List Stmt} {t t' : TS} (h : PSs X s t) (k : ∀ D σ H, t' D σ H → t D σ H) : PSs X s t' := ⟨fun pins s σ H D I q => h.run pins s σ H D I (k D σ H q)⟩
section
variable {s : Stmt} {rest a b : List Stmt} {e c : Expr} {ρ : RO} {μ : List MO} {pos : Pos} {R : Co}
theorem St.mono {R' : Co} (h : St X s ρ μ R) (k : ∀ o, R o → R' o) : St X s ρ μ R' :=
  PSw h fun D σ H ⟨α, E, q1, q2, q3, q4⟩ => ⟨α, E, fun ρ' σ' α' μ' H' r => q1 ρ' σ' α' μ' H' (k _ r), fun v d α' μ' H' r => q2 v d α' μ' H' (k _ r), fun ρ' σ' α' μ' H' r => q3 ρ' σ' α' μ' H' (k _ r), fun ρ' σ' α' μ' H' r => q4 ρ' σ' α' μ' H' (k _ r)⟩
theorem Sts.mono {R' : Co} (h : Sts X a ρ μ R) (k : ∀ o, R o → R' o) : Sts X a ρ μ R' :=
  PSsw h fun D σ H ⟨α, E, q1, q2, q3, q4⟩ => ⟨α, E, fun ρ' σ' α' μ' H' r => q1 ρ' σ' α' μ' H' (k _ r), fun v d α' μ' H' r => q2 v d α' μ' H' (k _ r), fun ρ' σ' α' μ' H' r => q3 ρ' σ' α' μ' H' (k _ r), fun ρ' σ' α' μ' H' r => q4 ρ' σ' α' μ' H' (k _ r)⟩
theorem Sts.nil (h : R (.nx ρ μ)) : Sts X [] ρ μ R := PSsw pss_nil fun D σ H ⟨α, E, q1, _⟩ => q1 ρ σ α μ H h E E.live.refl
def seqR (X : Cx) (rest : List Stmt) (R : Co) : Co := fun o => match o with
  | .nx ρ μ => Sts X rest ρ μ R
  | o => R o
theorem Sts.cons (h : St X s ρ μ (seqR X rest R)) : Sts X (s :: rest) ρ μ R :=
  PSsw (pss_cons ps_a pss_a) fun D σ H ⟨α, E, q1, q2, q3, q4⟩ => by
    refine ⟨_, h, α, E, fun ρ' σ' α' μ' H' (r : Sts X rest ρ' μ' R) E' X' => ?_, q2, q3, q4⟩
    exact ⟨_, r, α', E', fun ρ2 σ2 α2 μ2 H2 r2 E2 X2 => q1 ρ2 σ2 α2 μ2 H2 r2 E2 (X'.trans X2), fun v d α2 μ2 H2 r2 l2 X2 => q2 v d α2 μ2 H2 r2 l2 (X'.trans X2),
      fun ρ2 σ2 α2 μ2 H2 r2 E2 X2 => q3 ρ2 σ2 α2 μ2 H2 r2 E2 (X'.trans X2), fun ρ2 σ2 α2 μ2 H2 r2 E2 X2 => q4 ρ2 σ2 α2 μ2 H2 r2 E2 (X'.trans X2)⟩
theorem Sts.one (h : St X s ρ μ R) : Sts X [s] ρ μ R := pss_one h
theorem St.expr (h : Ev X e ρ μ fun _ μ1 => R (.nx ρ μ1)) (hs : swapsWith e none pos.line X.env = pure false := by rfl) : St X (.Expr e pos) ρ μ R :=
  PSw (ps_expr pe_a hs) fun D σ H ⟨α, E, q1, q2, q3, q4⟩ => ⟨_, h, α, E, fun v d α1 μ1 H1 r E1 X1 _ => q1 ρ σ α1 μ1 H1 r E1 X1⟩
theorem St.ret (h : Ev X e ρ μ fun d μ1 => R (.rt d μ1)) : St X (.Return (some e) pos) ρ μ R :=
  PSw (ps_ret pe_a) fun D σ H ⟨α, E, q1, q2, q3, q4⟩ => ⟨_, h, α, E, fun v d α1 μ1 H1 r E1 X1 hv => q2 v d α1 μ1 H1 r E1.live X1 hv⟩
theorem St.retN (h : R (.rt .non μ)) : St X (.Return none pos) ρ μ R :=
  PSw ps_retN fun D σ H ⟨α, E, q1, q2, q3, q4⟩ => q2 .non .non α μ H h E.live E.live.refl .non
theorem St.pass (h : R (.nx ρ μ)) : St X (.Pass pos) ρ μ R := PSw ps_pass fun D σ H ⟨α, E, q1, _⟩ => q1 ρ σ α μ H h E E.live.refl
theorem St.brk (h : R (.bk ρ μ)) : St X (.Break pos) ρ μ R := PSw ps_break fun D σ H ⟨α, E, _, _, q3, _⟩ => q3 ρ σ α μ H h E E.live.refl
theorem St.cont (h : R (.ct ρ μ)) : St X (.Continue pos) ρ μ R := PSw ps_continue fun D σ H ⟨α, E, _, _, _, q4⟩ => q4 ρ σ α μ H h E E.live.refl
/-- from a state on -/
theorem tSt.from_ {D : Ends} {α α1 : List Addr} {μ1 : List MO} {H H1 : Hp} {σ1 : L2.St} {ρ1 : RO}
    (q : (∀ ρ' σ' α' μ' H', R (.nx ρ' μ') → En ⟨X.K, α', μ', H'⟩ σ' ρ' → Kp ⟨X.K, α, μ, H⟩ ⟨X.K, α', μ', H'⟩ → D.nx σ' H') ∧
  (∀ v d α' μ' H', R (.rt d μ') → Live ⟨X.K, α', μ', H'⟩ → Kp ⟨X.K, α, μ, H⟩ ⟨X.K, α', μ', H'⟩ → Has ⟨X.K, α', μ', H'⟩ v d → D.rt v H') ∧
  (∀ ρ' σ' α' μ' H', R (.bk ρ' μ') → En ⟨X.K, α', μ', H'⟩ σ' ρ' → Kp ⟨X.K, α, μ, H⟩ ⟨X.K, α', μ', H'⟩ → D.bk σ' H') ∧
  (∀ ρ' σ' α' μ' H', R (.ct ρ' μ') → En ⟨X.K, α', μ', H'⟩ σ' ρ' → Kp ⟨X.K, α, μ, H⟩ ⟨X.K, α', μ', H'⟩ → D.ct σ' H'))
    (E1 : En ⟨X.K, α1, μ1, H1⟩ σ1 ρ1) (X1 : Kp ⟨X.K, α, μ, H⟩ ⟨X.K, α1, μ1, H1⟩) : tSt X ρ1 μ1 R D σ1 H1 :=
  ⟨α1, E1, fun ρ2 σ2 α2 μ2 H2 r2 E2 X2 => q.1 ρ2 σ2 α2 μ2 H2 r2 E2 (X1.trans X2), fun v d α2 μ2 H2 r2 l2 X2 => q.2.1 v d α2 μ2 H2 r2 l2 (X1.trans X2),
      fun ρ2 σ2 α2 μ2 H2 r2 E2 X2 => q.2.2.1 ρ2 σ2 α2 μ2 H2 r2 E2 (X1.trans X2), fun ρ2 σ2 α2 μ2 H2 r2 E2 X2 => q.2.2.2 ρ2 σ2 α2 μ2 H2 r2 E2 (X1.trans X2)⟩
theorem St.ifS (h : EvT X c ρ μ fun k μ1 => if k = true then Sts X a ρ μ1 R else Sts X b ρ μ1 R) : St X (.If c a b pos) ρ μ R :=
  PSw (ps_if pt_a pss_a pss_a) fun D σ H ⟨α, E, q⟩ => ⟨_, h, α, E, fun k α1 μ1 H1 h1 E1 X1 => by
    cases k with
    | true => exact iteT ⟨_, show Sts X a ρ μ1 R from h1, tSt.from_ q E1 X1⟩
    | false => exact iteF ⟨_, show Sts X b ρ μ1 R from h1, tSt.from_ q E1 X1⟩⟩
/-! ### targets -/
def tG (X : Cx) (d : DV) (ρ : RO) (μ : List MO) (R : RO → List MO → Prop) : TG := fun v σ H Q => ∃ α, En ⟨X.K, α, μ, H⟩ σ ρ ∧ Has ⟨X.K, α, μ, H⟩ v d ∧
  ∀ ρ' σ' α' μ' H', R ρ' μ' → En ⟨X.K, α', μ', H'⟩ σ' ρ' → Kp ⟨X.K, α, μ, H⟩ ⟨X.K, α', μ', H'⟩ → Q σ' H'
def tGs (X : Cx) (ds : List DV) (ρ : RO) (μ : List MO) (R : RO → List MO → Prop) : TGs := fun vs σ H Q => ∃ α, En ⟨X.K, α, μ, H⟩ σ ρ ∧ HasL ⟨X.K, α, μ, H⟩ vs ds ∧
  ∀ ρ' σ' α' μ' H', R ρ' μ' → En ⟨X.K, α', μ', H'⟩ σ' ρ' → Kp ⟨X.K, α, μ, H⟩ ⟨X.K, α', μ', H'⟩ → Q σ' H'
def EvG (X : Cx) (t : Expr) (d : DV) (ρ : RO) (μ : List MO) (R : RO → List MO → Prop) : Prop := PG X t (tG X d ρ μ R)
def EvGs (X : Cx) (ts : List Expr) (ds : List DV) (ρ : RO) (μ : List MO) (R : RO → List MO → Prop) : Prop := PGs X ts (tGs X ds ρ μ R)
def aG (X : Cx) (t : Expr) : TG := fun v σ H Q => ∃ g, PG X t g ∧ g v σ H Q
def aGs (X : Cx) (t : List Expr) : TGs := fun v σ H Q => ∃ g, PGs X t g ∧ g v σ H Q
theorem pg_a {t : Expr} : PG X t (aG X t) := ⟨fun pins s σ H v u Q I r ⟨_, h, q⟩ => h.run pins s σ H v u Q I r q⟩
theorem pgs_a {t : List Expr} : PGs X t (aGs X t) := ⟨fun pins s σ H v u Q I r ⟨_, h, q⟩ => h.run pins s σ H v u Q I r q⟩
theorem PGw {e : Expr} {t t' : TG} (h : PG X e t) (k : ∀ v σ H Q, t' v σ H Q → t v σ H Q) : PG X e t' := ⟨fun pins s σ H v u Q I r q => h.run pins s σ H v u Q I r (k v σ H Q q)⟩
theorem PGsw {e : List Expr} {t t' : TGs} (h : PGs X e t) (k : ∀ v σ H Q, t' v σ H Q → t v σ H Q) : PGs X e t' := ⟨fun pins s σ H v u Q I r q => h.run pins s σ H v u Q I r (k v σ H Q q)⟩
theorem En.set {w : Wd} {σ : L2.St} {ρ : RO} {v : V} {d : DV} (E : En w σ ρ) (i : Nat) (h : Has w v d) : En w (σ.set i (some v)) (ρ.set i (some d)) :=
  ⟨E.live, by rw [List.length_set, List.length_set]; exact E.len, fun j d' e => by
    by_cases hj : i = j
    · subst hj
      by_cases hi : i < ρ.length
      · rw [List.getElem?_set_self hi] at e
        cases e
        exact ⟨v, by rw [List.getElem?_set_self (by rw [E.len]; exact hi)], h⟩
      · rw [List.getElem?_eq_none_iff.mpr (by rw [List.length_set]; omega)] at e
        cases e
    · rw [List.getElem?_set_ne hj] at e ⊢
      exact E.at_ j d' e⟩
theorem En.wipe {w : Wd} {σ : L2.St} {ρ : RO} (E : En w σ ρ) (i : Nat) : En w (σ.set i none) (ρ.set i none) :=
  ⟨E.live, by rw [List.length_set, List.length_set]; exact E.len, fun j d' e => by
    by_cases hj : i = j
    · subst hj
      by_cases hi : i < ρ.length
      · rw [List.getElem?_set_self hi] at e
        cases e
      · rw [List.getElem?_eq_none_iff.mpr (by rw [List.length_set]; omega)] at e
        cases e
    · rw [List.getElem?_set_ne hj] at e ⊢
      exact E.at_ j d' e⟩
variable {d : DV} {Rg : RO → List MO → Prop} {t : Expr} {ts : List Expr}
theorem EvG.name (i : Nat) {x : Str} (hN : X.N.Nodup) (hi : X.N[i]? = some x) (hx : Loc X.env.scope x) (hf : X.fn x = true ∨ X.env.scope.names.lookup x = some .local) (h : Rg (ρ.set i (some d)) μ) : EvG X (.Name x pos) d ρ μ Rg :=
  PGw (pg_name hN hi hx hf) fun v σ H Q ⟨α, E, hv, q⟩ => q _ _ α μ H h (E.set i hv) E.live.refl
theorem EvGs.nil (h : Rg ρ μ) : EvGs X [] [] ρ μ Rg := PGsw pgs_nil fun vs σ H Q ⟨α, E, hv, q⟩ => by
  cases hv
  exact ⟨rfl, q _ _ α μ H h E E.live.refl⟩
theorem EvGs.cons {ds : List DV} (h : EvG X t d ρ μ fun ρ1 μ1 => EvGs X ts ds ρ1 μ1 Rg) (hs : (assignEach (t :: ts) X.env).map (·.2) = assign t X.env :: (assignEach ts X.env).map (·.2) := by rfl) : EvGs X (t :: ts) (d :: ds) ρ μ Rg :=
  PGsw (pgs_cons pg_a pgs_a hs) fun vs σ H Q ⟨α, E, hv, q⟩ => by
    cases hv with
    | cons hv hvs => exact ⟨_, _, rfl, _, h, α, E, hv, fun ρ1 σ1 α1 μ1 H1 r1 E1 X1 => ⟨_, (show EvGs X ts ds ρ1 μ1 Rg from r1), α1, E1, X1.hasL hvs, fun ρ2 σ2 α2 μ2 H2 r2 E2 X2 => q ρ2 σ2 α2 μ2 H2 r2 E2 (X1.trans X2)⟩⟩
theorem EvG.tup {k} {ds : List DV} (hc : X.calm = true) (h : EvGs X ts ds ρ μ Rg) (hn : (assignEach ts X.env).length = ds.length := by rfl) (hst : (assignEach ts X.env).findIdx? (·.1) = none := by rfl) : EvG X (.Tuple ts k pos) (.tup ds) ρ μ Rg :=
  PGw (pg_tup (n := ds.length) hc pgs_a hn hst) fun v σ H Q ⟨α, E, hv, q⟩ => by
    cases hv with
    | tup s t => exact ⟨_, _, rfl, s, t.length, _, h, α, E, t, q⟩
/-- xs[i] = v of a list that may be changed -/
theorem EvG.sub {o i : Expr} (h : Ev X o ρ μ fun dO μ1 => Ev X i ρ μ1 fun dI μ2 => ∃ k xs z j, dO = .mu k ∧ dI = .int z ∧ μ2[k]? = some (.lst xs) ∧ ixN xs.length z = some j ∧ Rg ρ (μ2.set k (.lst (xs.set j d)))) (ha : ∀ v, assign (.Subscript o i pos) X.env v = (do
      let ov ← holding [v] (eval o X.env)
      let iv ← holding [v, ov] (eval i X.env)
      standAt pos
      holding [v, ov, iv] (setItem ov iv v)
      release [v, ov, iv] []) := by intro _; rfl) : EvG X (.Subscript o i pos) d ρ μ Rg :=
  PGw (pg_sub pe_a pe_a set_list ha) fun v σ H Q ⟨α, E, hv, q⟩ => ⟨_, h, α, E, fun o' dO α1 μ1 H1 h1 E1 X1 ho => ⟨_, h1, α1, E1, fun i' dI α2 μ2 H2 ⟨k, xs, z, j, e1, e2, hk, hj, r⟩ E2 X2 hi => by
    subst e1 e2
    cases hi
    cases X2.has ho with
    | mu ha =>
      obtain ⟨vs, e, hl⟩ := E2.live.ob k _ _ ha hk
      refine ⟨_, vs, z, j, rfl, rfl, e, by rw [hl.length]; exact hj, ?_⟩
      obtain ⟨kp, l⟩ := E2.live.put (o := .lst (vs.set j v)) (m := .lst (xs.set j d)) ha hk (fun z => nomatch z) fun kp => ⟨_, upd_same, HasL.set (kp.has (X2.has (X1.has hv))) j (kp.hasL hl)⟩
      exact q _ _ _ _ _ r (E2.ext kp l) (X1.trans (X2.trans kp))⟩⟩
theorem St.asg (h : Ev X e ρ μ fun d μ1 => EvG X t d ρ μ1 fun ρ2 μ2 => R (.nx ρ2 μ2)) (hs : swapsWithSole [t] e pos.line X.env = pure false := by rfl) (hw : swappedStores [t] e X.env = pure none := by rfl) (h1 : (assignEach [t] X.env).map (·.2) = [assign t X.env] := by rfl) : St X (.Assign [t] e pos) ρ μ R :=
  PSw (ps_asg pe_a pg_a hs hw h1) fun D σ H ⟨α, E, q⟩ => ⟨_, h, α, E, fun v d α1 μ1 H1 r1 E1 X1 hv => ⟨_, r1, α1, E1, hv, fun ρ2 σ2 α2 μ2 H2 r2 E2 X2 => q.1 ρ2 σ2 α2 μ2 H2 r2 E2 (X1.trans X2)⟩⟩
/-- x = e -/
theorem St.set (i : Nat) {x : Str} {pos' : Pos} (hN : X.N.Nodup) (hi : X.N[i]? = some x) (hx : Loc X.env.scope x) (hf : X.fn x = true ∨ X.env.scope.names.lookup x = some .local) (h : Ev X e ρ μ fun d μ1 => R (.nx (ρ.set i (some d)) μ1)) (hs : swapsWith e (some (.Name x pos')) pos.line X.env = pure false := by rfl) :
    St X (.Assign [.Name x pos'] e pos) ρ μ R :=
  PSw (ps_set hN hi hx pe_a hs hf) fun D σ H ⟨α, E, q⟩ => ⟨_, h, α, E, fun v d α1 μ1 H1 r1 E1 X1 hv => q.1 _ _ α1 μ1 H1 r1 (E1.set i hv) X1⟩
/-- a, b = e1, e2 -/
theorem St.par {e1 e2 : Expr} (i j : Nat) {x y : Str} {px py pt : Pos} {kt k2 pt2} (hc : X.calm = true) (hN : X.N.Nodup) (hi : X.N[i]? = some x) (hj : X.N[j]? = some y) (hij : i ≠ j) (hx : X.env.scope.names.lookup x = some .local) (hy : X.env.scope.names.lookup y = some .local)
    (h : EvA X [e1, e2] ρ μ fun ds μ1 => ∃ d1 d2, ds = [d1, d2] ∧ R (.nx ((ρ.set i (some d1)).set j (some d2)) μ1)) (hw : swappedStores [.Tuple [.Name x px, .Name y py] kt pt] (.Tuple [e1, e2] k2 pt2) X.env = pure (some [x, y]) := by rfl)
    (hs : swapsWithSole [.Tuple [.Name x px, .Name y py] kt pt] (.Tuple [e1, e2] k2 pt2) pos.line X.env = pure false := by rfl) :
    St X (.Assign [.Tuple [.Name x px, .Name y py] kt pt] (.Tuple [e1, e2] k2 pt2) pos) ρ μ R :=
  PSw (ps_par hc hN hi hj hij hx hy pa_a hw hs) fun D σ H ⟨α, E, q⟩ => ⟨_, h, α, E, fun vs ds α1 μ1 H1 ⟨d1, d2, e, r⟩ E1 X1 hv => by
    subst e
    obtain ⟨v, u, rfl, hv1, hv2⟩ := hasL2 hv
    exact ⟨v, u, rfl, q.1 _ _ α1 μ1 H1 r ((E1.set i hv1).set j hv2) X1⟩⟩
/-! ### what is walked -/
def ItOk (X : Cx) (J : It) (ds : List DV) (w : Wd) : Prop := ∀ α μ H, Kp w ⟨X.K, α, μ, H⟩ → Live ⟨X.K, α, μ, H⟩ → (∀ i d, ds[i]? = some d → J.go i H ∧ ∀ x H', J.yld i H x H' → Kp ⟨X.K, α, μ, H⟩ ⟨X.K, α, μ, H'⟩ ∧ Live ⟨X.K, α, μ, H'⟩ ∧ Has ⟨X.K, α, μ, H'⟩ x d) ∧ J.stop ds.length H
def tEvI (X : Cx) (ρ : RO) (μ : List MO) (R : Ca) : TI := fun σ H Rr => ∃ α, En ⟨X.K, α, μ, H⟩ σ ρ ∧ ∀ J ds α' μ' H', R ds μ' → En ⟨X.K, α', μ', H'⟩ σ ρ → Kp ⟨X.K, α, μ, H⟩ ⟨X.K, α', μ', H'⟩ → ItOk X J ds ⟨X.K, α', μ', H'⟩ → Rr J H'
def EvI (X : Cx) (tg e : Expr) (ρ : RO) (μ : List MO) (R : Ca) : Prop := PI X tg e (tEvI X ρ μ R)
theorem PIw {tg e : Expr} {t t' : TI} (h : PI X tg e t) (k : ∀ σ H Q, t' σ H Q → t σ H Q) : PI X tg e t' := ⟨fun pins s σ H Q I q => h.run pins s σ H Q I (k σ H Q q)⟩
def aI (X : Cx) (tg e : Expr) : TI := fun σ H Q => ∃ t, PI X tg e t ∧ t σ H Q
theorem pi_a {tg e : Expr} : PI X tg e (aI X tg e) := ⟨fun pins s σ H Q I ⟨_, h, q⟩ => h.run pins s σ H Q I q⟩
theorem EvI.lst {tg : Expr} {Ra : Ca} (h : Ev X e ρ μ fun d μ1 => ∃ ds, d = .lst ds ∧ Ra ds μ1) : EvI X tg e ρ μ Ra :=
  PIw (pi_list pe_a) fun σ H Q ⟨α, E, q⟩ => ⟨_, h, α, E, fun v d α1 μ1 H1 ⟨ds, e, r⟩ E1 X1 hv => by
    subst e
    cases hv with
    | @lst p vs _ rd hl =>
      have s0 : ∀ α2 μ2 H2, Kp ⟨X.K, α1, μ1, H1⟩ ⟨X.K, α2, μ2, H2⟩ → SqL X.K H2 p vs := fun α2 μ2 H2 k => by
        rcases rd with ⟨n, rd⟩ | rd
        · rcases rd with z | ⟨o, z⟩
          · exact .inl (.inl (k.H _ _ z n))
          · exact .inl (.inr ⟨o, k.H _ _ z n⟩)
        · exact rd.sq
      refine ⟨p, rfl, ⟨vs, s0 _ _ _ E1.live.refl⟩, q _ ds α1 μ1 H1 r E1 X1 fun α2 μ2 H2 k l => ?_⟩
      have s2 : SqL X.K H2 p vs := s0 _ _ _ k
      refine ⟨fun i d hd => ?_, ⟨vs, s2, Nat.le_of_eq hl.length⟩⟩
      obtain ⟨x, h1, h2⟩ := hl.get hd
      refine ⟨⟨vs, x, s2, h1⟩, fun y H' hy => ?_⟩
      obtain ⟨rfl, hy⟩ := hy
      have z := hy vs s2
      rw [h1] at z
      cases z
      exact ⟨l.refl, l, k.has h2⟩⟩
theorem EvI.tup {tg : Expr} {Ra : Ca} (h : Ev X e ρ μ fun d μ1 => ∃ ds, d = .tup ds ∧ Ra ds μ1) : EvI X tg e ρ μ Ra :=
  PIw (pi_tup pe_a) fun σ H Q ⟨α, E, q⟩ => ⟨_, h, α, E, fun v d α1 μ1 H1 ⟨ds, e, r⟩ E1 X1 hv => by
    subst e
    have hv0 := hv
    cases hv with
    | @tup p vs _ rd hl =>
      refine ⟨p, rfl, ⟨vs, rd⟩, q _ ds α1 μ1 H1 r E1 X1 fun α2 μ2 H2 k l => ?_⟩
      have s2 : SqT X.K H2 p vs := by
        have nl : ∀ {xs}, Rd H1 p (.tup xs) → ¬ Wd.lv ⟨X.K, α1, μ1, H1⟩ p := fun {xs} r z => by
          have m := k.tu p z
          rcases r with r | ⟨o, r⟩
          · have r' : (Wd.mk X.K α1 μ1 H1).H p = _ := r
            rw [r'] at m
            exact m
          · have r' : (Wd.mk X.K α1 μ1 H1).H p = _ := r
            rw [r'] at m
            exact m
        rcases rd with r | r
        · have n := nl r
          rcases r with r | ⟨o, r⟩
          · exact .inl (.inl (k.H _ _ r n))
          · exact .inl (.inr ⟨o, k.H _ _ r n⟩)
        · exact .inr r
      refine ⟨fun i d hd => ?_, ⟨vs, s2, Nat.le_of_eq hl.length⟩⟩
      obtain ⟨x, h1, h2⟩ := hl.get hd
      refine ⟨⟨vs, x, s2, h1⟩, fun y H' hy => ?_⟩
      obtain ⟨rfl, hy⟩ := hy
      have z := hy vs s2
      rw [h1] at z
      cases z
      exact ⟨l.refl, l, k.has h2⟩⟩
/-- the numbers lo, lo + 1, .. -/
def rgD (lo : Int) (n : Nat) : List DV := (List.range n).map fun (i : Nat) => DV.int (lo + (i : Int))
theorem rgD_len (lo : Int) (n : Nat) : (rgD lo n).length = n := by simp [rgD]
theorem itr_ok {w : Wd} (lo : Int) (n : Nat) : ItOk X (Itr lo n) (rgD lo n) w := fun α μ H k l => by
  refine ⟨fun i d hd => ?_, Nat.le_of_eq (rgD_len lo n).symm⟩
  obtain ⟨hi, e⟩ := List.getElem?_eq_some_iff.mp hd
  rw [rgD_len] at hi
  refine ⟨hi, fun x H' y => ?_⟩
  obtain ⟨rfl, rfl⟩ := y
  have e' : d = .int (lo + (i : Int)) := by
    rw [← e]
    simp [rgD]
  rw [e']
  exact ⟨l.refl, l, .int⟩
theorem EvI.range1 {tg a : Expr} {Ra : Ca} {p : Pos} (hg : Gl X "range") (hm : X.mg "range" = none) (h : EvA X [a] ρ μ fun ds μ1 => ∃ j : Int, ds = [.int j] ∧ -(2 ^ 62) ≤ j ∧ j < 2 ^ 62 ∧ Ra (rgD 0 j.toNat) μ1) (hs : starEach [a] X.env = [(false, eval a X.env)] := by rfl) :
    EvI X tg (.Call (.Name "range" p) [a] [] pos) ρ μ Ra :=
  PIw (pi_range1 hg hm pa_a hs) fun σ H Q ⟨α, E, q⟩ => ⟨_, h, α, E, fun vs ds α1 μ1 H1 ⟨j, e, h1, h2, r⟩ E1 X1 hv => by
    subst e
    obtain ⟨v, rfl, hw⟩ := hasL1 hv
    cases hw
    exact ⟨j, rfl, h1, h2, q _ _ α1 μ1 H1 r E1 X1 (itr_ok 0 j.toNat)⟩⟩
/-- for t in e: the items ds, one turn each; I: what holds behind i of them -/
theorem St.for_ {tg : Expr} {body : List Stmt} (hp : PassesOwn (model X.prog X.w) X.A X.env X.xe) (hc : X.calm = true)
    (h : EvI X tg e ρ μ fun ds μ1 => ∃ I : Nat → RO → List MO → Prop, I 0 ρ μ1 ∧
      (∀ i d ρ' μ', ds[i]? = some d → I i ρ' μ' → EvG X tg d ρ' μ' fun ρ2 μ2 => Sts X body ρ2 μ2 fun o => match o with
        | .nx ρ3 μ3 => I (i + 1) ρ3 μ3
        | .ct ρ3 μ3 => I (i + 1) ρ3 μ3
        | .bk ρ3 μ3 => R (.nx ρ3 μ3)
        | .rt d μ3 => R (.rt d μ3)) ∧
      ∀ ρ' μ', I ds.length ρ' μ' → R (.nx ρ' μ')) (hs : ∀ x, foldedSetIterable e X.env x = pure x := by intro _; rfl) : St X (.For tg e body [] pos) ρ μ R :=
  PSw (ps_for hp hc pi_a pg_a pss_a hs) fun D σ H ⟨α, E, q⟩ => ⟨_, h, α, E, fun J ds α1 μ1 H1 ⟨I, i0, turn, fin⟩ E1 X1 ok => by
    let P : Nat → L2.St → Hp → Prop := fun i σ H => ∃ α μ ρ, I i ρ μ ∧ En ⟨X.K, α, μ, H⟩ σ ρ ∧ Kp ⟨X.K, α1, μ1, H1⟩ ⟨X.K, α, μ, H⟩
    refine ⟨fun i m σ H => m = ds.length - i ∧ i ≤ ds.length ∧ P i σ H, ⟨ds.length, by simp, Nat.zero_le _, α1, μ1, ρ, i0, E1, E1.live.refl⟩, ?_⟩
    rintro i m σ2 H2 ⟨rfl, hi, α2, μ2, ρ2, hI, E2, X2⟩
    obtain ⟨go, stop⟩ := ok α2 μ2 H2 X2 E2.live
    by_cases hlt : i < ds.length
    · obtain ⟨g1, g2⟩ := go i ds[i] (by simp [hlt])
      refine .inr ⟨g1, P (i + 1), fun σ' H' p' => ⟨ds.length - (i + 1), by omega, rfl, hlt, p'⟩, fun x H' y => ?_⟩
      obtain ⟨k, l, hx⟩ := g2 x H' y
      have X2' := X2.trans k
      refine ⟨_, turn i ds[i] ρ2 μ2 (by simp [hlt]) hI, α2, E2.ext k l, hx, fun ρ3 σ3 α3 μ3 H3 r3 E3 X3 => ⟨_, r3, ?_⟩⟩
      have X3' := X2'.trans X3
      refine ⟨α3, E3, fun ρ4 σ4 α4 μ4 H4 r4 E4 X4 => ⟨α4, μ4, ρ4, r4, E4, X3'.trans X4⟩, fun v d α4 μ4 H4 r4 l4 X4 hv => q.2.1 v d α4 μ4 H4 r4 l4 (X1.trans (X3'.trans X4)) hv,
        fun ρ4 σ4 α4 μ4 H4 r4 E4 X4 => q.1 ρ4 σ4 α4 μ4 H4 r4 E4 (X1.trans (X3'.trans X4)), fun ρ4 σ4 α4 μ4 H4 r4 E4 X4 => ⟨α4, μ4, ρ4, r4, E4, X3'.trans X4⟩⟩
    · have e : i = ds.length := by omega
      subst e
      exact .inl ⟨stop, q.1 ρ2 σ2 α2 μ2 H2 (fin ρ2 μ2 hI) E2 (X1.trans X2)⟩⟩
/-- while c: I n: what holds, n falls at each turn -/
theorem St.while_ {c : Expr} {body : List Stmt} (hp : PassesOwn (model X.prog X.w) X.A X.env X.xe) (I : Nat → RO → List MO → Prop) (h0 : ∃ n, I n ρ μ)
    (turn : ∀ n ρ' μ', I n ρ' μ' → EvT X c ρ' μ' fun k μ2 => if k = true then Sts X body ρ' μ2 fun o => match o with
        | .nx ρ3 μ3 => ∃ m, m < n ∧ I m ρ3 μ3
        | .ct ρ3 μ3 => ∃ m, m < n ∧ I m ρ3 μ3
        | .bk ρ3 μ3 => R (.nx ρ3 μ3)
        | .rt d μ3 => R (.rt d μ3)
      else R (.nx ρ' μ2)) : St X (.While c body [] pos) ρ μ R :=
  PSw (ps_while hp pt_a pss_a) fun D σ H ⟨α, E, q⟩ => by
    let P : Nat → L2.St → Hp → Prop := fun i σ H' => ∃ α' μ' ρ', I i ρ' μ' ∧ En ⟨X.K, α', μ', H'⟩ σ ρ' ∧ Kp ⟨X.K, α, μ, H⟩ ⟨X.K, α', μ', H'⟩
    obtain ⟨n0, h0⟩ := h0
    refine ⟨P, ⟨n0, α, μ, ρ, h0, E, E.live.refl⟩, ?_⟩
    rintro m σ2 H2 ⟨α2, μ2, ρ2, hI, E2, X2⟩
    refine ⟨_, turn m ρ2 μ2 hI, α2, E2, fun k α3 μ3 H3 r3 E3 X3 => ?_⟩
    have X3' := X2.trans X3
    cases k with
    | true =>
      refine iteT ⟨fun σ' H' => ∃ m', m' < m ∧ P m' σ' H', fun σ' H' h => h, _, (show Sts X body ρ2 μ3 _ from r3), ?_⟩
      refine ⟨α3, E3, fun ρ4 σ4 α4 μ4 H4 ⟨m', hm, r4⟩ E4 X4 => ⟨m', hm, α4, μ4, ρ4, r4, E4, X3'.trans X4⟩, fun v d α4 μ4 H4 r4 l4 X4 hv => q.2.1 v d α4 μ4 H4 r4 l4 (X3'.trans X4) hv,
        fun ρ4 σ4 α4 μ4 H4 r4 E4 X4 => q.1 ρ4 σ4 α4 μ4 H4 r4 E4 (X3'.trans X4), fun ρ4 σ4 α4 μ4 H4 ⟨m', hm, r4⟩ E4 X4 => ⟨m', hm, α4, μ4, ρ4, r4, E4, X3'.trans X4⟩⟩
    | false => exact iteF (q.1 ρ2 σ2 α3 μ3 H3 r3 E3 X3')
/-! ### forgetting and freezing -/
/-- what was made beside is forgotten -/
theorem Ev.cut {R : Cn} (h : Ev X e ρ μ fun d μ1 => DV.bel μ.length d = true ∧ (μ1.take μ.length).all (MO.bel μ.length) = true ∧ R d (μ1.take μ.length)) : Ev X e ρ μ R :=
  PEw h fun σ H Q ⟨α, E, q⟩ => ⟨α, E, fun v d α1 μ1 H1 ⟨h1, h2, r⟩ E1 X1 hv => by
    have k := Live.cut E.live E1.live X1
    have l := E1.live.cutL μ.length h2
    exact q v d _ _ _ r (E.ext k l) k (hv.cut h1)⟩
/-- a list that was made to be changed is told to stay as it is -/
theorem Ev.frz {R : Cn} (h : Ev X e ρ μ fun d μ1 => ∃ k ds, d = .mu k ∧ μ1[k]? = some (.lst ds) ∧ R (.lst ds) (μ1.set k .dead)) : Ev X e ρ μ R :=
  PEw h fun σ H Q ⟨α, E, q⟩ => ⟨α, E, fun v d α1 μ1 H1 ⟨k, ds, e, hk, r⟩ E1 X1 hv => by
    subst e
    cases hv with
    | mu ha =>
      obtain ⟨kp, l, nl⟩ := E1.live.freeze (k := k)
      obtain ⟨vs, h1, h2⟩ := E1.live.ob k _ _ ha hk
      exact q _ _ _ _ _ r (E1.ext kp l) (X1.trans kp) (.lst (.inl ⟨nl _ ha, .inl h1⟩) (kp.hasL h2))⟩
/-! ### xs.append(e) -/
theorem tyv_of {w : Wd} {p : Addr} {xs : List V} (h : w.H p = some (.lst xs)) : tyV w.K "list" (.ref p) w.H := .inl ⟨rfl, _, .of h⟩
theorem Ev.append {o : Expr} {R : Cn} {apos cpos : Pos} (h : Ev X o ρ μ fun dO μ1 => ∃ k xs, dO = .mu k ∧ μ1[k]? = some (.lst xs) ∧ EvA X [e] ρ μ1 fun ds μ2 => ∃ d ys, ds = [d] ∧ μ2[k]? = some (.lst ys) ∧ ys.length < sizeLine ∧ R .non (μ2.set k (.lst (ys ++ [d]))))
    (hbase : attributeBase o "append" X.env (eval o X.env) = eval o X.env := by rfl)
    (hfew : ((backTo cpos (starEach [e] X.env)).all (fun x => !x.1) && (backToKw cpos (keywordEach [] X.env)).all (fun x => x.1.isSome)
      && decide ([e].length + ([] : List Keyword).length + (if ([] : List Keyword).isEmpty then 0 else 1) < 30)) = true := by rfl)
    (hline : (apos.endLine == cpos.line) = true := by rfl) (hs : starEach [e] X.env = (false, eval e X.env) :: starEach [] X.env := by rfl) :
    Ev X (.Call (.Attribute o "append" apos) [e] [] cpos) ρ μ R :=
  PEw (pe_bm PySem.F.plainAttrs_list PySem.F.slot_list_append PySem.F.type_list_append mt_append pe_a pa_a hbase hfew hline hs rfl) fun σ H Q ⟨α, E, q⟩ => ⟨_, h, α, E, fun v dO α1 μ1 H1 ⟨k, xs, e1, hk, h1⟩ E1 X1 hv => by
    subst e1
    cases hv with
    | mu ha =>
      obtain ⟨vs, z1, z2⟩ := E1.live.ob k _ _ ha hk
      refine ⟨tyv_of (w := ⟨X.K, α1, μ1, H1⟩) z1, _, h1, α1, E1, fun us ds α2 μ2 H2 ⟨d, ys, e2, hk2, hsz, r⟩ E2 X2 hus => ?_⟩
      subst e2
      obtain ⟨u, rfl, hu⟩ := hasL1 hus
      have ha2 := X2.α _ _ ha
      obtain ⟨vs2, y1, y2⟩ := E2.live.ob k _ _ ha2 hk2
      refine ⟨_, vs2, u, rfl, rfl, y1, by rw [y2.length]; exact hsz, ?_⟩
      obtain ⟨kp, l⟩ := E2.live.put (o := .lst (vs2 ++ [u])) (m := .lst (ys ++ [d])) ha2 hk2 (fun z => nomatch z) fun kp => ⟨_, upd_same, HasL.app (kp.hasL y2) (.cons (kp.has hu) .nil)⟩
      exact q _ _ _ _ _ r (E2.ext kp l) (X1.trans (X2.trans kp)) .non⟩
/-! ### xs[lo:hi] of a list -/
abbrev Cp := Option Int → List MO → Prop
def tEvP (X : Cx) (ρ : RO) (μ : List MO) (R : Cp) : TO := fun σ H Q => ∃ α, En ⟨X.K, α, μ, H⟩ σ ρ ∧ ∀ z α' μ' H', R z μ' → En ⟨X.K, α', μ', H'⟩ σ ρ → Kp ⟨X.K, α, μ, H⟩ ⟨X.K, α', μ', H'⟩ → Q z H'
def EvP (X : Cx) (e : Option Expr) (ρ : RO) (μ : List MO) (R : Cp) : Prop := PO X e (tEvP X ρ μ R)
def aP (X : Cx) (e : Option Expr) : TO := fun σ H Q => ∃ t, PO X e t ∧ t σ H Q
theorem po_a {e : Option Expr} : PO X e (aP X e) := ⟨fun pins s σ H Q I ⟨_, h, q⟩ => h.run pins s σ H Q I q⟩
theorem POw {e : Option Expr} {t t' : TO} (h : PO X e t) (k : ∀ σ H Q, t' σ H Q → t σ H Q) : PO X e t' := ⟨fun pins s σ H Q I q => h.run pins s σ H Q I (k σ H Q q)⟩
theorem EvP.none {R : Cp} (h : R none μ) : EvP X none ρ μ R := POw po_none fun σ H Q ⟨α, E, q⟩ => q _ α μ H h E E.live.refl
theorem EvP.some {R : Cp} (h : Ev X e ρ μ fun d μ1 => ∃ i, d = .int i ∧ R (some i) μ1) : EvP X (some e) ρ μ R :=
  POw (po_some pe_a) fun σ H Q ⟨α, E, q⟩ => ⟨_, h, α, E, fun v d α1 μ1 H1 ⟨i, e, r⟩ E1 X1 hv => by
    subst e
    cases hv
    exact ⟨i, rfl, q _ α1 μ1 H1 r E1 X1⟩⟩
def cutD (xs : List DV) (lo hi : Option Int) : List DV := (xs.drop (HT.sIx xs.length 0 lo)).take (HT.sIx xs.length xs.length hi - HT.sIx xs.length 0 lo)
theorem cut_has {w : Wd} {vs : List V} {ds : List DV} (h : HasL w vs ds) (lo hi : Option Int) : HasL w (cutV vs lo hi) (cutD ds lo hi) := by
  unfold cutV cutD
  rw [h.length]
  exact HasL.take _ (HasL.drop _ h)
theorem Ev.sliceL {a : Expr} {lo hi : Option Expr} {p2 : Pos} {R : Cn} (h : Ev X a ρ μ fun d μ1 => ∃ ds, d = .lst ds ∧ EvP X lo ρ μ1 fun l μ2 => EvP X hi ρ μ2 fun u μ3 => R (.lst (cutD ds l u)) μ3) : Ev X (.Subscript a (.Slice lo hi none p2) pos) ρ μ R :=
  PEw (pe_slice sl_list pe_a po_a po_a) fun σ H Q ⟨α, E, q⟩ => ⟨_, h, α, E, fun v d α1 μ1 H1 ⟨ds, e, h1⟩ E1 X1 hv => by
    subst e
    refine ⟨_, h1, α1, E1, fun l α2 μ2 H2 h2 E2 X2 => ⟨_, h2, α2, E2, fun u α3 μ3 H3 h3 E3 X3 => ?_⟩⟩
    have hv3 := X3.has (X2.has hv)
    cases hv3 with
    | @lst p vs _ rd hl =>
      have s3 : SqL X.K H3 p vs := by
        rcases rd with ⟨_, rd⟩ | rd
        · exact .inl rd
        · exact rd.sq
      refine ⟨p, vs, rfl, s3, fun b nb => ?_⟩
      obtain ⟨k, l'⟩ := E3.live.lay (o := .lst (cutV vs l u)) nb
      exact q _ _ _ _ _ h3 (E3.ext k l') (X1.trans (X2.trans (X3.trans k))) (.lst (.inl ⟨E3.live.fresh nb, .inl upd_same⟩) (k.hasL (cut_has hl l u)))⟩
end
end
end Eg

namespace Eg
open PySem PySem.Spec PyProof.Rows L2
/-! ### defs, called where nothing is being shown -/
structure FnG (P : Program) (w : World) (K : PySem.W.Frag) (mg : Str → Option Value) (base : Heap) (k : Nat) (f : Addr) (fd : FuncData) (ps : List Str) (sp : Sp) : Prop where
  len : ∀ vs H Q E, sp vs H Q E → vs.length = ps.length
  go : ∀ (A : Around) (outer : List Env) (s : Shared) (H : Hp) (args : Args) (us : List Value) (vs : List V) (Q : VK), A.guards = some [] → Room k A → Env0 P w K mg base A outer s H →
    BindsTo s fd args (ps.zip us) → Vals vs us → sp vs H Q E0 → codeAny (model P w) A (.call (.ref f) args) (CR CX0 outer P w H s Q E0) s
theorem guards_in {A : Around} (env : PySem.Env) (h : A.guards = some []) : (A.deeper env).guards = some [] := by
  first
    | exact h
    | (simpa [Around.deeper] using h)
/-- the context of a def's body -/
abbrev bx (P : Program) (w : World) (K : PySem.W.Frag) (mg : Str → Option Value) (base : Heap) (N : List Str) (qual : Str) (scope : Scope) (f : Addr) (cd : Value) (A : Around) (outer : List PySem.Env) (s : Shared) (H : Hp) : Cx :=
  (cxOf CX0 P w K mg base N qual scope f cd A outer s H E0).nox
section
variable {P : Program} {w : World} {K : PySem.W.Frag} {mg : Str → Option Value} {base : Heap}
theorem FnG.of {x qual : Str} {params : Arguments} {body : List Stmt} {scope : Scope} {dvs : List V} {kws : List (Str × V)} {f : Addr} {fd : FuncData} {N ps : List Str} {k : Nat} {sp : Sp}
    (F : FunD K x qual params body scope dvs kws f fd) (S : FnScope N ps scope) (len : ∀ vs H Q E, sp vs H Q E → vs.length = ps.length)
    (hb : ∀ (cd : Value) (A : Around) (outer : List PySem.Env) (s : Shared) (H : Hp) (vs : List V) (Q : VK), (A.deeper (envOfC qual scope s.heap.objs.size f cd)).guards = some [] → Room k (A.deeper (envOfC qual scope s.heap.objs.size f cd)) → sp vs H Q E0 →
      ∃ t, PSs (bx P w K mg base N qual scope f cd A outer s H) body t ∧ t { nx := fun _ H' => Q .non H', rt := Q } (L2.start N vs) H) : FnG P w K mg base (k + 1) f fd ps sp := by
  obtain ⟨oc, od, dV, kV, doc, pm, an, cd, ct, osl, rfl, lk, hcd, _, _⟩ := F.ex
  refine ⟨len, ?_⟩
  intro A outer s H args us vs Q hg hr e0 hbind rv hsp
  have room := hr.deeper (envOfC qual scope s.heap.objs.size f cd)
  obtain ⟨t, ht, hq⟩ := hb cd A outer s H vs Q (guards_in _ hg) room hsp
  have keep : ∀ b o, base.get? b = some o → s.heap.get? b = some o := fun b o z => (e0.bs b o z).1
  have KX : K.In s.heap := e0.mod.kin.keeps keep
  refine codeAny_call_function hr.depth (KX _ _ lk) rfl S.co S.gen rfl (PySem.W.codeRec_of KX hcd) (hbind _ _ _ _ ?_)
  have kinds : ∀ y ∈ ps.zip us, scope.names.lookup y.1 = some .local ∨ (scope.names.lookup y.1 = some .cell ∧ ((cellsFrom (s.heap.objs.size + 1) scope.names []).lookup y.1).isSome = true) := by
    rintro ⟨n, u⟩ hy
    have z := S.par n (List.of_mem_zip hy).1
    exact z.imp id fun z => ⟨z, PySem.W.cellsFrom_some _ _ _ (.inl z)⟩
  refine wpAny_newFunctionEnv_cells S.kind kinds fun env he s1 ic => ?_
  cases he
  refine ⟨(e0.mod.nolimit.keeps keep).keeps ic.toInCall.keep, codeAny_func ?_⟩
  have I := inv_start (CX := CX0) (E := E0) (qual := qual) (f := f) (cd := cd) S hr.hd e0 (len _ _ _ _ hsp) rv ic
  refine wpAny_mono (ht.run [] s1 (L2.start N vs) H _ (I.wish fun _ _ => False) hq) (fun fl s' q => ?_) (fun _ _ z => z.elim)
  cases fl with
  | ret u =>
    obtain ⟨v, σ', H', J, r, q⟩ := q
    exact ⟨v, H', J.os, J.bare, J.base, J.hok, r, q⟩
  | next =>
    obtain ⟨σ', H', J, q⟩ := q
    exact ⟨.non, H', J.os, J.bare, J.base, J.hok, rfl, q⟩
  | brk => exact (by obtain ⟨_, _, _, q⟩ := q; exact False.elim q)
  | cont => exact (by obtain ⟨_, _, _, q⟩ := q; exact False.elim q)
end
/-! ### promises over data -/
abbrev Ctr := List DV → List MO → Cn → Prop
def SpD (K : PySem.W.Frag) (C : Ctr) : Sp := fun vs H Q _ => ∃ α μ ds R, Live ⟨K, α, μ, H⟩ ∧ HasL ⟨K, α, μ, H⟩ vs ds ∧ C ds μ R ∧
  ∀ v d α' μ' H', R d μ' → Live ⟨K, α', μ', H'⟩ → Kp ⟨K, α, μ, H⟩ ⟨K, α', μ', H'⟩ → Has ⟨K, α', μ', H'⟩ v d → Q v H'
/-- the def of a name, its promise, how it is called -/
def Fn (P : Program) (w : World) (K : PySem.W.Frag) (mg : Str → Option Value) (base : Heap) (x : Str) (k : Nat) (C : Ctr) : Prop :=
  ∃ f fd ps, FnG P w K mg base k f fd ps (SpD K C) ∧ mg x = some (.ref f) ∧ PySem.W.keepIn K (.ref f) = true ∧ Binds K fd ps []
theorem Fn.mono {P : Program} {w : World} {K : PySem.W.Frag} {mg : Str → Option Value} {base : Heap} {x : Str} {j k : Nat} {C : Ctr} (F : Fn P w K mg base x j C) (h : j ≤ k) : Fn P w K mg base x k C := by
  obtain ⟨f, fd, ps, ⟨l, g⟩, r⟩ := F
  exact ⟨f, fd, ps, ⟨l, fun A outer s H args us vs Q hg hr => g A outer s H args us vs Q hg (hr.mono h)⟩, r⟩
/-- what is wanted behind a body; what was made beside may be forgotten -/
def fin (n : Nat) (R : Cn) : Co := fun o => match o with
  | .rt d μ => R d μ ∨ (DV.bel n d = true ∧ (μ.take n).all (MO.bel n) = true ∧ R d (μ.take n))
  | .nx _ μ => R .non μ ∨ ((μ.take n).all (MO.bel n) = true ∧ R .non (μ.take n))
  | _ => False
def startD (N : List Str) (ds : List DV) : RO := ds.map some ++ List.replicate (N.length - ds.length) none
theorem start_en {w : Wd} {N : List Str} {vs : List V} {ds : List DV} (l : Live w) (h : HasL w vs ds) : En w (L2.start N vs) (startD N ds) := by
  have hl := h.length
  refine ⟨l, ?_, fun i d e => ?_⟩
  · unfold L2.start startD
    simp [hl]
  · unfold startD at e
    unfold L2.start
    by_cases hi : i < ds.length
    · rw [List.getElem?_append_left (by simpa using hi), List.getElem?_map] at e
      rw [List.getElem?_append_left (by simpa [hl] using hi), List.getElem?_map]
      cases q : ds[i]? with
      | none => rw [q] at e; cases e
      | some d' =>
        rw [q] at e
        cases e
        obtain ⟨v, h1, h2⟩ := h.get q
        exact ⟨v, by rw [h1]; rfl, h2⟩
    · rw [List.getElem?_append_right (by simpa using Nat.le_of_not_lt hi), List.getElem?_replicate] at e
      split at e <;> cases e
section
variable {P : Program} {w : World} {K : PySem.W.Frag} {mg : Str → Option Value} {base : Heap}
/-- THE RULE for a def -/
theorem Fn.mk {x : Str} {params : Arguments} {body : List Stmt} {scope : Scope} {kws : List (Str × V)} {f : Addr} {fd : FuncData} {N ps : List Str} {k : Nat} {C : Ctr}
    (F : FunD K x x params body scope [] kws f fd) (S : FnScope N ps scope) (hm : mg x = some (.ref f))
    (hbd : ∀ (kV doc pm : Value) (an : Option Addr) (cdv ct : Value) (us : List Value), us.length = ps.length → bindArgs (PySem.W.fnOf x x params body scope .none kV doc pm an cdv ct) ⟨us, []⟩ = pure (ps.zip us))
    (len : ∀ ds μ R, C ds μ R → ds.length = ps.length)
    (hb : ∀ (cd : Value) (A : Around) (outer : List PySem.Env) (s : Shared) (H : Hp), (bx P w K mg base N x scope f cd A outer s H).A.guards = some [] → Room k (bx P w K mg base N x scope f cd A outer s H).A → (bx P w K mg base N x scope f cd A outer s H).N.Nodup →
      ∀ ds μ R, C ds μ R → Sts (bx P w K mg base N x scope f cd A outer s H) body (startD N ds) μ (fin μ.length R)) : Fn P w K mg base x (k + 1) C := by
  refine ⟨f, fd, ps, FnG.of F S (fun vs H Q E => ?_) (fun cd A outer s H vs Q hg hr => ?_), hm, F.kp, F.bindsN hbd⟩
  · rintro ⟨α, μ, ds, R, l, h, c, _⟩
    rw [h.length]
    exact len _ _ _ c
  · rintro ⟨α, μ, ds, R, l, h, c, q⟩
    refine ⟨_, hb cd A outer s H hg hr S.nd ds μ R c, α, start_en l h, ?_, ?_, ?_, ?_⟩
    · intro ρ' σ' α' μ' H' r E' k'
      rcases r with r | ⟨r1, r2⟩
      · exact q _ _ α' μ' H' r E'.live k' .non
      · exact q _ _ _ _ _ r2 (E'.live.cutL μ.length r1) (Live.cut l E'.live k') .non
    · intro v d α' μ' H' r l' k' hv
      rcases r with r | ⟨r0, r1, r2⟩
      · exact q _ _ α' μ' H' r l' k' hv
      · exact q _ _ _ _ _ r2 (l'.cutL μ.length r1) (Live.cut l l' k') (hv.cut r0)
    · intro _ _ _ _ _ r
      exact r.elim
    · intro _ _ _ _ _ r
      exact r.elim
end
/-! ### calls -/
section
variable {X : Cx} {e : Expr} {es : List Expr} {ρ : RO} {μ : List MO} {pos p : Pos} {R : Cn} {x : Str} {k : Nat} {C : Ctr}
theorem Ev.call (F : Fn X.prog X.w X.K X.mg X.base x k C) (hA : X.A.guards = some []) (hr : Room k X.A) (hg : Gl X x) (h : EvA X (e :: es) ρ μ fun ds μ1 => C ds μ1 R)
    (hdb : (x == ("__debug__" : Str)) = false := by decide) (he : starEach (e :: es) X.env = (false, eval e X.env) :: starEach es X.env := by rfl) (hpl : (backTo pos (starEach es X.env)).any (·.1) = false := by rfl) :
    Ev X (.Call (.Name x p) (e :: es) [] pos) ρ μ R := by
  obtain ⟨f, fd, ps, G, hm, hk, hb⟩ := F
  refine ⟨fun pins s σ H Q I ⟨α, E, q⟩ => wpAny_Call_Name_kw (ld_glob I hg hm ?_ hdb)⟩
  have ha : PA X (e :: es) (tEvA X ρ μ fun ds μ1 => C ds μ1 R) := h
  refine PySem.W.callWith_K (h₀ := X.base) I.ok.mod.kin hk (thn (ha.run pos pins s σ H (fun vs H1 => SpD X.K C vs H1 (fun v H' => Q v H') E0) I ⟨α, E, ?_⟩) ?_) he hpl
  · intro vs ds α1 μ1 H1 c E1 X1 hv
    exact ⟨α1, μ1, ds, R, E1.live, hv, c, fun v d α' μ' H' r l k' hd => q v d α' μ' H' r (E1.ext k' l) (X1.trans k') hd⟩
  · rintro us s1 ⟨vs, H1, I1, rv, sp⟩
    refine ⟨I1.kIn, ?_⟩
    have hl : us.length = ps.length := rv.length ▸ G.len _ _ _ _ sp
    refine wpAny_call (codeAny_mono (G.go X.A X.stack s1 H1 ⟨us, []⟩ us vs Q hA hr I1.env0 ?_ rv sp) fun r s2 hq => ?_)
    · have z := hb s1 us I1.kIn (by rw [List.append_nil]; exact hl)
      rw [List.append_nil] at z
      exact z
    · cases r with
      | error er => exact False.elim hq
      | ok fl =>
        cases fl with
        | ret u => exact I1.after hq
        | next => exact False.elim hq
        | brk => exact False.elim hq
        | cont => exact False.elim hq
end
end Eg

namespace Eg
open PySem PySem.Spec PyProof.Rows L2
/-! ### [e for x in xs] -/
section
variable {X : Cx} {ρ : RO} {μ : List MO} {pos : Pos} {R : Cn}
abbrev blkX (X : Cx) (s : Shared) (H : Hp) (scope : Scope) (C : Addr) (cl : List (Str × Addr)) (fp : List Addr) : Cx := X.blk s H scope (compEnvC scope cl C X.env) fp
def aB (X : Cx) (scope : Scope) (e : Expr) : TE := fun σ H Q => ∃ t, (∀ s H' C cl fp, PE (blkX X s H' scope C cl fp) e t) ∧ t σ H Q
def aBT (X : Cx) (scope : Scope) (ifs : List Expr) : TT := fun σ H Q => ∃ t, (∀ s H' C cl fp, PTs (blkX X s H' scope C cl fp) ifs t) ∧ t σ H Q
/-- the walk of a comprehension by what holds behind j items: I j what is made so far -/
theorem lc_S {elt iter : Expr} {ifs : List Expr} {scope : Scope} {x : Str} {px : Pos} (i : Nat)
    (h : EvI X (.Name x px) iter ρ μ fun ds μ1 => ds.length ≤ sizeLine ∧ ∃ I : Nat → List DV → List MO → Prop, I 0 [] μ1 ∧
      (∀ j d acc μ2, ds[j]? = some d → μ2.length = μ1.length → I j acc μ2 → ∃ tt : RO → List MO → Ct → TT, (∀ s H C cl fp, PTs (blkX X s H scope C cl fp) ifs (tt (ρ.set i (some d)) (μ2 ++ [.lst acc]) fun b μ3 =>
        if b = true then ∀ s H C cl fp, Ev (blkX X s H scope C cl fp) elt (ρ.set i (some d)) μ3 fun y μ5 => ∃ μ4, μ5 = μ4 ++ [.lst acc] ∧ μ4.length = μ1.length ∧ I (j + 1) (acc ++ [y]) μ4
        else ∃ μ4, μ3 = μ4 ++ [.lst acc] ∧ μ4.length = μ1.length ∧ I (j + 1) acc μ4)) ∧ ∀ ρ' μ' Rt σ H Q, tEvT X ρ' μ' Rt σ H Q → tt ρ' μ' Rt σ H Q) ∧
      ∀ acc μ2, μ2.length = μ1.length → I ds.length acc μ2 → R (.lst acc) (μ2 ++ [.dead]))
    (σ : L2.St) (H : Hp) (Q : VK) (q : tEv X ρ μ R σ H Q) : tLc (aI X (.Name x px) iter) (gName i) (aBT X scope ifs) (aB X scope elt) [i] σ H Q := by
  obtain ⟨α, E, q⟩ := q
  refine ⟨_, h, α, E, ?_⟩
  rintro J ds α1 μ1 H1 ⟨hz, I, i0, turn, done⟩ E1 X1 ok D hD
  have hlen : α1.length = μ1.length := E1.live.len
  obtain ⟨kM, lM, eM⟩ := E1.live.layM (o := .lst []) (m := .lst []) hD (fun _ k => ⟨[], upd_same, .nil⟩)
  let P : Nat → Hp → Prop := fun j H' => ∃ acc μ' α', acc.length ≤ j ∧ I j acc μ' ∧ μ'.length = μ1.length ∧ α'[μ1.length]? = some D ∧ Live ⟨X.K, α', μ' ++ [.lst acc], H'⟩ ∧ Kp ⟨X.K, α1, μ1, H1⟩ ⟨X.K, α', μ' ++ [.lst acc], H'⟩
  refine ⟨fun j m H' => m = ds.length - j ∧ j ≤ ds.length ∧ P j H', ⟨ds.length, by simp, Nat.zero_le _, [], μ1, α1 ++ [D], Nat.le_refl _, i0, rfl, eM, lM, kM⟩, ?_⟩
  rintro j m H2 ⟨rfl, hj, acc, μ2, α2, ha, hI, hμ, hα, l2, k2⟩
  obtain ⟨go, stop⟩ := ok α2 _ H2 k2 l2
  have kD : (μ2 ++ [MO.lst acc])[μ1.length]? = some (.lst acc) := by
    rw [List.getElem?_append_right (by omega), hμ, Nat.sub_self]
    rfl
  have setl : ∀ (μ4 : List MO) (m m' : MO), μ4.length = μ1.length → (μ4 ++ [m]).set μ1.length m' = μ4 ++ [m'] := fun μ4 m m' e => by
    rw [← e]
    simp
  by_cases hlt : j < ds.length
  · obtain ⟨g1, g2⟩ := go j ds[j] (by simp [hlt])
    refine .inr ⟨g1, P (j + 1), fun H' p => ⟨ds.length - (j + 1), by omega, rfl, hlt, p⟩, fun y H3 yy => ?_⟩
    obtain ⟨ky, ly, hy⟩ := g2 y H3 yy
    obtain ⟨tt, ht, hm⟩ := turn j ds[j] acc μ2 (by simp [hlt]) hμ hI
    show wipe ((wipe σ [i]).set i (some y)) [i] = wipe σ [i] ∧ _
    refine ⟨by simp [wipe], _, ht, ?_⟩
    have k3 := k2.trans ky
    have E3 : En ⟨X.K, α2, μ2 ++ [.lst acc], H3⟩ ((wipe σ [i]).set i (some y)) (ρ.set i (some ds[j])) := by
      have z := ((E1.ext k3 ly).wipe i).set i hy
      have eρ : (ρ.set i none).set i (some ds[j]) = ρ.set i (some ds[j]) := by simp
      rw [eρ] at z
      exact z
    refine hm _ _ _ _ _ _ ⟨α2, E3, ?_⟩
    intro b α3 μ3 H4 r3 E4 k4
    cases b with
    | false =>
      refine iteF ?_
      obtain ⟨μ4, rfl, h4, hI4⟩ := r3
      exact ⟨acc, μ4, α3, Nat.le_succ_of_le ha, hI4, h4, k4.α _ _ hα, E4.live, k3.trans k4⟩
    | true =>
      refine iteT ⟨tEv X (ρ.set i (some ds[j])) μ3 _, r3, α3, E4, ?_⟩
      rintro v d α5 μ5 H5 ⟨μ4, rfl, h4, hI4⟩ E5 k5 hv
      have hα5 := k5.α _ _ (k4.α _ _ hα)
      have kD5 : (μ4 ++ [MO.lst acc])[μ1.length]? = some (.lst acc) := by
        rw [List.getElem?_append_right (by omega), h4, Nat.sub_self]
        rfl
      obtain ⟨vs, e1, e2⟩ := E5.live.ob _ _ _ hα5 kD5
      have hl := e2.length
      refine ⟨vs, e1, by omega, ?_⟩
      obtain ⟨k6, l6⟩ := E5.live.put (o := .lst (vs ++ [v])) (m := .lst (acc ++ [d])) hα5 kD5 (fun z => nomatch z) fun k => ⟨_, upd_same, HasL.app (k.hasL e2) (.cons (k.has hv) .nil)⟩
      rw [setl _ _ _ h4] at k6 l6
      exact ⟨acc ++ [d], μ4, α5, by rw [List.length_append]; exact Nat.succ_le_succ ha, hI4, h4, hα5, l6, k3.trans (k4.trans (k5.trans k6))⟩
  · have e : j = ds.length := by omega
    subst e
    refine .inl ⟨stop, ?_⟩
    obtain ⟨vs, e1, e2⟩ := l2.ob _ _ _ hα kD
    obtain ⟨k6, l6, nl⟩ := l2.freeze (k := μ1.length)
    rw [setl _ _ _ hμ] at k6 l6 nl
    have k7 := k2.trans k6
    exact q _ _ _ _ _ (done acc μ2 hμ hI) (E1.ext k7 l6) (X1.trans k7) (.lst (.inl ⟨nl _ hα, .inl e1⟩) (k6.hasL e2))
theorem pe_aB {scope : Scope} {e : Expr} (s : Shared) (H : Hp) (C : Addr) (cl : List (Str × Addr)) (fp : List Addr) : PE (blkX X s H scope C cl fp) e (aB X scope e) := ⟨fun pins s' σ H' Q I ⟨_, h, q⟩ => (h s H C cl fp).run pins s' σ H' Q I q⟩
theorem pts_aB {scope : Scope} {ifs : List Expr} (s : Shared) (H : Hp) (C : Addr) (cl : List (Str × Addr)) (fp : List Addr) : PTs (blkX X s H scope C cl fp) ifs (aBT X scope ifs) := ⟨fun pins s' σ H' Q I ⟨_, h, q⟩ => (h s H C cl fp).run pins s' σ H' Q I q⟩
/-- what a comprehension without a test asks -/
def LcOk (X : Cx) (scope : Scope) (elt iter : Expr) (x : Str) (px : Pos) (i : Nat) (ρ : RO) (μ : List MO) (R : Cn) : Prop :=
  EvI X (.Name x px) iter ρ μ fun ds μ1 => ds.length ≤ sizeLine ∧ ∃ I : Nat → List DV → List MO → Prop, I 0 [] μ1 ∧
      (∀ j d acc μ2, ds[j]? = some d → μ2.length = μ1.length → I j acc μ2 → ∀ s H C cl fp, Ev (blkX X s H scope C cl fp) elt (ρ.set i (some d)) (μ2 ++ [.lst acc]) fun y μ5 => ∃ μ4, μ5 = μ4 ++ [.lst acc] ∧ μ4.length = μ1.length ∧ I (j + 1) (acc ++ [y]) μ4) ∧
      ∀ acc μ2, μ2.length = μ1.length → I ds.length acc μ2 → R (.lst acc) (μ2 ++ [.dead])
theorem EvI.mono {tg e : Expr} {Ra Ra' : Ca} (h : EvI X tg e ρ μ Ra) (k : ∀ ds μ', Ra ds μ' → Ra' ds μ') : EvI X tg e ρ μ Ra' :=
  PIw h fun σ H Q ⟨α, E, q⟩ => ⟨α, E, fun J ds α' μ' H' r => q J ds α' μ' H' (k _ _ r)⟩
theorem lc_S0 {elt iter : Expr} {scope : Scope} {x : Str} {px : Pos} {i : Nat} (h : LcOk X scope elt iter x px i ρ μ R) (σ : L2.St) (H : Hp) (Q : VK) (q : tEv X ρ μ R σ H Q) :
    tLc (aI X (.Name x px) iter) (gName i) (aBT X scope []) (aB X scope elt) [i] σ H Q :=
  lc_S i (EvI.mono h fun ds μ1 ⟨hz, I, i0, turn, done⟩ => ⟨hz, I, i0, fun j d acc μ2 h1 h2 h3 => ⟨fun ρ' μ' Rt σ H Q => ∃ α, En ⟨X.K, α, μ', H⟩ σ ρ' ∧ ∀ b α' μ'' H', Rt b μ'' → En ⟨X.K, α', μ'', H'⟩ σ ρ' → Kp ⟨X.K, α, μ', H⟩ ⟨X.K, α', μ'', H'⟩ → Q b H',
    fun s H C cl fp => ⟨fun pins s' σ H' Q' J ⟨α, E, q⟩ => pts_nil.run pins s' σ H' Q' J (q true α _ H' (turn j d acc μ2 h1 h2 h3) E E.live.refl)⟩, fun _ _ _ _ _ _ z => z⟩, done⟩) σ H Q q
theorem Ev.lc {elt iter : Expr} {scope : Scope} {x : Str} {px : Pos} (i : Nat) (hc : X.calm = true) (hN : X.N.Nodup) (hi : X.N[i]? = some x) (ok : BlkOk X.N X.env.scope scope [(x, i)])
    (hl : ∀ (s : Shared) (H : Hp) (C : Addr) (cl : List (Str × Addr)) (fp : List Addr), Loc (blkX X s H scope C cl fp).env.scope x ∧ ((blkX X s H scope C cl fp).fn x = true ∨ (blkX X s H scope C cl fp).env.scope.names.lookup x = some .local))
    (h : LcOk X scope elt iter x px i ρ μ R) (hs : ∀ x, foldedSetIterable iter X.env x = pure x := by intro _; rfl) : Ev X (.ListComp elt [⟨.Name x px, iter, [], 0⟩] scope pos) ρ μ R :=
  PEw (pe_lc (own := [(x, i)]) (g := gName i) hc hN pi_a ok (fun s H C cl fp => pg_name hN hi (hl s H C cl fp).1 (hl s H C cl fp).2) (fun s H C cl fp => pts_aB s H C cl fp) (fun s H C cl fp => pe_aB s H C cl fp) hs) (lc_S0 h)
end
/-! ### a law's end -/
section
variable {P : Program} {w : World} {K : PySem.W.Frag} {mg mb : Str → Option Value} {k : Nat} {fa a : Addr} {fd : FuncData} {x : Str} {sp : Sp} {s₁ : Shared} {vs : List Value} {ns : List Int}
/-- the heap at the call: the script alone is told of, and not that if the text itself holds it -/
theorem law_goG (KX : K.In s₁.heap) (hns : s₁.heap.Ns mainGlobals mg) (hbl : s₁.heap.Ns builtinsNs mb) (hbb : ∀ x : Str, x ≠ "__name__" → mb x = bootBuiltins x) (hlim : s₁.heap.NoLimit) (hgen : s₁.gens = #[])
    (ha : s₁.heap.get? a = some { cls := .type "list", data := .seq vs.toArray }) (hi : IntsAre vs ns) (hl : ns.length ≤ sizeLine) (hr : Room k callerA)
    (F : ∀ base : Heap, K.In base → base.Ns mainGlobals mg → FnG P w K mg base k fa fd [x] sp) (hbind : ∀ (s : Shared) (u : Value), BindsTo s fd ⟨[u], []⟩ [(x, u)])
    (hsp : ∀ H : Hp, ((∀ b, H b = none) ∧ WrL K a (ns.map V.int)) ∨ (∃ o, H = fun b => if b = a then some (.frz o (.lst (ns.map V.int))) else none) → sp [.ref a] H (fun v _ => v = .bl true) E0) :
    codeAny (model P w) callerA (.call (.ref fa) ⟨[.ref a], []⟩) (fun r s' => r = .ok (.ret (.bool true)) ∧ OldK s₁.heap s'.heap ∧ s'.os = s₁.os ∧ AllBare s'.gens) s₁ := by
  have rv := vals_ints hi
  -- whatever H tells: at most of a, and of a as it stands
  have main : ∀ H : Hp, (∀ b, b ≠ a → H b = none) → (∀ u, H a = some u → u = .frz { cls := .type "list", data := .seq vs.toArray } (.lst (ns.map V.int))) → (H a = none ∨ K.lookup a = none) → sp [.ref a] H (fun v _ => v = .bl true) E0 →
      codeAny (model P w) callerA (.call (.ref fa) ⟨[.ref a], []⟩) (fun r s' => r = .ok (.ret (.bool true)) ∧ OldK s₁.heap s'.heap ∧ s'.os = s₁.os ∧ AllBare s'.gens) s₁ := by
    intro H h1 h2 h3 hq
    have ok : HOk P w H s₁.heap := by
      intro b u e
      have eb : b = a := Classical.byContradiction fun z => by
        rw [h1 b z] at e
        cases e
      subst eb
      have eu := h2 u e
      subst eu
      exact ⟨ha, by rw [List.length_map]; exact hl, vs, 0, rv, ha⟩
    have none_of_dict : ∀ {b : Addr} {o : Obj} {es : Array DictEntry} {ep : Nat}, s₁.heap.get? b = some o → o.data = .dict es ep → H b = none := by
      intro b o es ep e d
      refine h1 b fun z => ?_
      rw [z, ha] at e
      have := Option.some.inj e
      subst this
      cases d
    have ns_of : ∀ {b : Addr} {m : Str → Option Value}, s₁.heap.Ns b m → (hidT s₁.heap H).Ns b m := by
      rintro b m ⟨o, es, ep, e, d, r⟩
      exact ⟨o, es, ep, hidT_get e (none_of_dict e d), d, r⟩
    have kin : K.In (hidT s₁.heap H) := by
      intro b o e
      refine hidT_get (KX b o e) ?_
      by_cases z : b = a
      · subst z
        rcases h3 with h3 | h3
        · exact h3
        · rw [h3] at e
          cases e
      · exact h1 b z
    obtain ⟨mc, c1, c2⟩ := hlim
    have env0 : Env0 P w K mg (hidT s₁.heap H) callerA [] s₁ H :=
      ⟨rfl, ⟨kin, ns_of hns, ⟨mb, ns_of hbl, hbb⟩, mc, ns_of c1, c2⟩, fun _ _ e => of_hidT e, Nat.le_of_eq (hidT_size _ _), trivial, fun b z => absurd (show b ∈ ([] : List Addr) from z) List.not_mem_nil, ok, .of_eq hgen⟩
    refine codeAny_mono ((F _ kin (ns_of hns)).go callerA [] s₁ H ⟨[.ref a], []⟩ [.ref a] [.ref a] _ rfl hr env0 (hbind s₁ (.ref a)) (.cons rfl .nil) hq) fun r s' z => ?_
    match r, z with
    | .ok (.ret u), ⟨v, H', os, bare, un, ok', rv', q⟩ =>
      have q' : v = .bl true := q
      subst q'
      have eu : u = Value.bool true := rv'
      subst eu
      refine ⟨rfl, OldK.of_keep fun b o e => ?_, os, bare⟩
      by_cases z : H b = none
      · exact un.keep b o e z (fun y => absurd (show b ∈ ([] : List Addr) from y) List.not_mem_nil) List.not_mem_nil
      · have eb : b = a := Classical.byContradiction fun y => z (h1 b y)
        subst eb
        cases hu : H b with
        | none => exact absurd hu z
        | some u =>
          have eu := h2 u hu
          rw [eu] at hu
          have t := (ok' b _ (un.frzs b _ _ hu)).1
          rw [ha] at e
          cases e
          exact t
    | .ok .next, z => exact z.elim
    | .ok .brk, z => exact z.elim
    | .ok .cont, z => exact z.elim
    | .error e, z => exact z.elim
  cases hk : K.lookup a with
  | none =>
    refine main (fun b => if b = a then some (.frz { cls := .type "list", data := .seq vs.toArray } (.lst (ns.map V.int))) else none) (fun b z => if_neg z) (fun u e => ?_) (.inr hk) (hsp _ (.inr ⟨_, rfl⟩))
    rw [if_pos rfl] at e
    exact (Option.some.inj e).symm
  | some o =>
    have eo : o = { cls := .type "list", data := .seq vs.toArray } := by
      have z := KX a o hk
      rw [ha] at z
      exact (Option.some.inj z).symm
    subst eo
    refine main (fun _ => none) (fun _ _ => rfl) (fun u e => nomatch e) (.inl rfl) (hsp _ (.inl ⟨fun _ => rfl, .inr ⟨_, vs.toArray, 0, hk, rfl, rfl, rfl, ?_, ?_⟩⟩))
    · have e1 := hi.length
      rw [List.size_toArray]
      omega
    · exact rv
end
/-- the script as data -/
def scD (ns : List Int) : DV := .lst (ns.map DV.int)
theorem sc_has {w : Wd} : ∀ ns : List Int, HasL w (ns.map V.int) (ns.map DV.int)
  | [] => .nil
  | _ :: r => .cons .int (sc_has r)
theorem walk_G {l : PySem.W.OpenLaw} {n k : Nat} {q : Program} {loose : List Str} {XP : (Str → Option Value) → Heap → Prop} {YP : World → Heap → Prop} {d : DefRec} {C : Ctr}
    (hn : l.most = some n) (hn2 : n ≤ sizeLine) (hdf : d.params.defaults = []) (hr : Room k callerA)
    (hC : ∀ ns : List Int, ns.length ≤ n → (∀ z ∈ ns, Builtin.Int.intBits z ≤ 1048576) → C [scD ns] [] fun d _ => d = .bl true)
    (F : ∀ (w : World) (mg : Str → Option Value) (fa : Addr) (h : Heap), YP w h → h.Ns mainGlobals mg → mg d.name = some (.ref fa) →
      ∃ (K : PySem.W.Frag) (fd : FuncData) (x : Str), K.In h ∧ (∀ (s : Shared) (u : Value), BindsTo s fd ⟨[u], []⟩ [(x, u)]) ∧ ∀ base : Heap, K.In base → base.Ns mainGlobals mg → FnG l.prog w K mg base k fa fd [x] (SpD K C)) :
    PySem.W.WalkO q loose XP YP l.row.toRowW d [] (fun f vs => PySem.call f vs) := by
  refine Att.attach_callB hn hdf fun w s₀ s₁ mg mb fa o pm cd doc a vs ns G Y ho hd hcd hmg hobj hints hlen hbits hg => ?_
  obtain ⟨K, fd, x, KX, hb, hF⟩ := F w mg fa _ Y G.T.g hmg
  refine law_goG KX G.T.g G.T.b G.T.builtins G.T.nolimit hg hobj hints (Nat.le_trans hlen hn2) hr hF hb fun H hH => ?_
  have l0 : Live ⟨K, [], [], H⟩ := ⟨rfl, List.nodup_nil, fun _ h => absurd h List.not_mem_nil, fun k a o h => by simp at h⟩
  refine ⟨[], [], [scD ns], fun d _ => d = .bl true, l0, .cons (.lst ?_ (sc_has ns)) .nil, hC ns hlen hbits, ?_⟩
  · rcases hH with ⟨_, h⟩ | ⟨o, rfl⟩
    · exact .inr h
    · refine .inl ⟨?_, .inr ⟨o, if_pos rfl⟩⟩
      rintro ⟨k, u, h1, _⟩
      simp at h1
  · rintro v d α' μ' H' rfl _ _ hv
    cases hv
    rfl
end Eg

namespace Eg
open PySem PySem.Spec L2
section
variable {M : Model} {A : Around} {E : Value → Shared → Prop} {h : Heap} {g : Array GenState} {d : Drawn} {t : Nat} {os : OsState}
variable {nm q : Str} {C N : Addr} {bs bm bmB : List Value} {hdct : Bool} {sn : List Str} {sub : List Value} {ab : Bool} {col : Option Bool} {dd : Option Addr} {k0 k1 k2 k3 k5 : Option Value} {B newId initId : String}
theorem chk_call {rest : List Value} {kw : List (Str × Value)} {Q : Unit → Shared → Prop} (hC : h.get? C = some (excClassObj nm q C N bs bm hdct sn sub ab col dd k0 k1 k2 k3 k5 newId)) (hq : Q () ⟨h, g, d, t, os⟩) :
    wpAny M A (checkBuiltinCall "type.__call__" ⟨.ref C :: rest, kw⟩) Q E ⟨h, g, d, t, os⟩ := by
  have sb := tc_sub
  have ty : (⟨h, g, d, t, os⟩ : Shared).TypeIs (.ref C) "type" := ⟨_, hC, rfl⟩
  simp only [checkBuiltinCall, tc_kind, tc_split]
  repeat (any_goals (first | assumption | (with_reducible refine wpAny_loadPart_at hC ?_) | (with_reducible refine wpAny_onRaise ?_) | (with_reducible refine wpAny_map ?_) | wp_step))

/-- the class's own chain holds what its base's holds of types -/
abbrev TyAs (bm bmB : List Value) : Prop := ∀ X : String, bm.contains (.type X) = bmB.contains (.type X)
theorem hasTy {c : Addr} (hT : TyAs bm bmB) {T : String} (h : bmB.contains (.type T) = true) : (Value.ref c :: bm).contains (.type T) = true := by
  rw [List.contains_cons, hT, h, Bool.or_true]
theorem noTy {c : Addr} (hT : TyAs bm bmB) {T : String} (h : bmB.contains (.type T) = false) : (Value.ref c :: bm).contains (.type T) = false := by
  rw [List.contains_cons, hT, h]
  rfl
theorem chk_new (F : ExcBaseFacts B newId initId bmB) (hT : TyAs bm bmB) {rest : List Value} {kw : List (Str × Value)} {Q : Unit → Shared → Prop}
    (hC : h.get? C = some (excClassObj nm q C N bs bm hdct sn sub ab col dd k0 k1 k2 k3 k5 newId)) (hq : Q () ⟨h, g, d, t, os⟩) :
    wpAny M A (checkBuiltinCall newId ⟨.ref C :: rest, kw⟩) Q E ⟨h, g, d, t, os⟩ := by
  have inB := hasTy (c := C) hT F.hasB
  have ns := F.noStar
  simp only [checkBuiltinCall, F.newSplit, F.newKind, F.newRow]
  repeat (first
    | refine wpAny_loadPart_at hC ?_
    | (refine wpAny_isSubtype_exc hC ?_; rw [inB])
    | refine wpAny_staticBase_exc hC ?_
    | refine wpAny_madeBy_exc hC ?_
    | simp only [if_false, Bool.false_eq_true, bne_self_eq_false]
    | wp_step)
  exact hq
end
section
variable {prog : Program} {w : World} {A : Around} {E : Value → Shared → Prop} {R : Result → Shared → Prop} {h : Heap} {g : Array GenState} {d : Drawn} {t : Nat} {os : OsState}
variable {nm q : Str} {C N : Addr} {bs bm bmB : List Value} {hdct : Bool} {sn : List Str} {sub : List Value} {ab : Bool} {col : Option Bool} {dd : Option Addr} {k0 k1 k2 k3 k5 : Option Value} {B newId initId : String}
/-- an exception object just made, its args at t -/
abbrev exO0 (C t : Addr) : Obj := { cls := .ref C, data := .fields #[.ref t, .none, .none, .none, .bool false, .none] }
abbrev made (h : Heap) (C : Addr) (rest : List Value) : Heap := (h.push { cls := .type "tuple", data := .seq rest.toArray }).push (exO0 C h.objs.size)
theorem new_kw (F : ExcBaseFacts B newId initId bmB) (hT : TyAs bm bmB) {rest : List Value} {kw : List (Str × Value)}
    (hC : h.get? C = some (excClassObj nm q C N bs bm hdct sn sub ab col dd k0 k1 k2 k3 k5 newId)) (hz : rest.length ≤ sizeLine)
    (hq : R (.ok (.ret (.ref (h.objs.size + 1)))) ⟨made h C rest, g, d, t, os⟩) : codeAny (model prog w) A (.builtin newId ⟨.ref C :: rest, kw⟩) R ⟨h, g, d, t, os⟩ := by
  have en := F.ends
  have inB := hasTy (c := C) hT F.hasB
  have noA := noTy (c := C) hT F.noAttr
  have noN := noTy (c := C) hT F.noName
  refine codeAny_builtinAt F.entry ?_
  unfold Builtin.«BaseException.__new__»
  refine wpAt_bind ?_
  show wpAt _ _ _ (stack >>= _) _ _ _
  refine wpAt_bind (wpAt_stack fun p below => wpAt_of_wpAny ?_)
  wp_walk
  refine wpAt_of_wpAny ?_
  rw [F.owner]
  repeat (first
    | (with_reducible refine wpAny_madeHere_exc F.canon hC ?_)
    | (with_reducible refine wpAny_loadPart_at hC ?_)
    | (with_reducible refine wpAny_isSubtype_exc hC ?_; first | rw [inB] | rw [noA] | rw [noN])
    | wp_step)
  show R _ _
  rw [Heap.size_push]
  exact hq
/-- type.__call__ of an own exception class with its own __init__ -/
theorem tcall_kw (F : ExcBaseFacts B newId initId bmB) (hT : TyAs bm bmB) {rest : List Value} {kw : List (Str × Value)} {fI : Addr} {Q : Fin → Shared → Prop}
    (hC : h.get? C = some (excClassObj nm q C N bs bm hdct sn sub ab col dd k0 k1 k2 k3 k5 newId)) (hz : rest.length ≤ sizeLine)
    (hi : W.Looks (model prog w) h (typeLookup (.ref C) "__init__") (some (.ref fI))) (hb : ∀ self, W.Looks (model prog w) h (bindSpecial (.ref fI) self) (.ref fI, [self]))
    (hq : codeAny (model prog w) A (.call (.ref fI) ⟨.ref (h.objs.size + 1) :: rest, kw⟩)
      (fun r s' => match r with | .ok (.ret v) => v = .none ∧ Q (.done (.ret (.ref (h.objs.size + 1)))) s' | .ok _ => False | .error e => E e s') ⟨made h C rest, g, d, t, os⟩) :
    wpAny (model prog w) A (Builtin.«type.__call__» ⟨.ref C :: rest, kw⟩) Q E ⟨h, g, d, t, os⟩ := by
  repeat (first | (with_reducible refine wpAny_loadPart_at hC ?_) | (with_reducible refine wpAny_madeBy_exc hC ?_) | wp_step)
  refine codeAny_call_builtin_code (Code.quiet_builtin _ F.quiet) (chk_new F hT hC ?_)
  refine new_kw F hT hC hz ?_
  show wpAny _ _ _ _ _ _
  have k : ∀ b o, h.get? b = some o → (made h C rest).get? b = some o := fun b o e => Heap.get?_push_of_some _ (Heap.get?_push_of_some _ e)
  have hC1 := k _ _ hC
  have there : (made h C rest).get? (h.objs.size + 1) = some (exO0 C h.objs.size) := by heap_get
  have self : (Value.ref C :: bm).contains (.ref C) = true := by simp
  have li := hi.keeps k
  have lb := (hb (.ref (h.objs.size + 1))).keeps k
  unfold isInstance
  repeat (first | (with_reducible refine wpAny_loadPart_at there ?_) | (with_reducible refine wpAny_isSubtype_exc hC1 ?_; rw [self]) | wp_step)
  show wpAny _ _ (typeLookup (.ref C) _) _ _ _
  refine li.at (wpAny_holding (wpAny_bind (lb.at (wpAny_bind ?_))))
  refine wpAny_call (codeAny_mono hq fun r s' z => ?_)
  match r, z with
  | .ok (.ret v), ⟨e, z⟩ =>
    subst e
    first
      | exact wpAny_pure (wpAny_pure z)
      | (wp_walk; exact z)
  | .error e, z => exact z
theorem call_kwE (F : ExcBaseFacts B newId initId bmB) (hT : TyAs bm bmB) {rest : List Value} {kw : List (Str × Value)} {fI : Addr}
    (hC : h.get? C = some (excClassObj nm q C N bs bm hdct sn sub ab col dd k0 k1 k2 k3 k5 newId)) (hz : rest.length ≤ sizeLine)
    (hi : W.Looks (model prog w) h (typeLookup (.ref C) "__init__") (some (.ref fI))) (hb : ∀ self, W.Looks (model prog w) h (bindSpecial (.ref fI) self) (.ref fI, [self]))
    (hq : codeAny (model prog w) (A.under (.builtin "type.__call__" ⟨.ref C :: rest, kw⟩)) (.call (.ref fI) ⟨.ref (h.objs.size + 1) :: rest, kw⟩) (W.InitBack (h.objs.size + 1) R) ⟨made h C rest, g, d, t, os⟩) :
    codeAny (model prog w) A (.call (.ref C) ⟨rest, kw⟩) R ⟨h, g, d, t, os⟩ := by
  have lk := tc_lookup
  have bd := tc_bind (.ref C)
  have ty : (⟨h, g, d, t, os⟩ : Shared).TypeIs (.ref C) "type" := ⟨_, hC, rfl⟩
  refine codeAny_of_tree ?_
  show wpAny _ _ (callAny (.ref C) _) _ _ _
  repeat (any_goals (first | assumption | (with_reducible refine wpAny_loadPart_at hC ?_) | wp_step))
  refine ⟨rfl, codeAny_call_builtin_at (Code.quiet_builtin _ (by decide +kernel)) entry_typeCall (chk_call hC (tcall_kw F hT hC hz hi hb ?_))⟩
  refine codeAny_mono hq fun r s' z => ?_
  rcases r with e | (v | _ | _ | _) <;> exact z
end
end Eg

namespace Eg
open PySem PySem.Spec L2
mutual
def toPy : DV → Option PyData
  | .non => some .none
  | .bl b => some (.bool b)
  | .int i => some (.int i)
  | .str x => some (.str x)
  | .tup xs => (toPyL xs).map .tuple
  | .lst xs => (toPyL xs).map .list
  | .dic [] => some (.dict [])
  | .dic (_ :: _) => none
  | .exc _ _ => none
  | .mu _ => none
def toPyL : List DV → Option (List PyData)
  | [] => some []
  | x :: r => (toPy x).bind fun d => (toPyL r).map fun ds => d :: ds
end
section
variable {X : Cx} {pins : List (Addr × Obj)} {σ : L2.St} {α : List Addr} {μ : List MO} {H : Hp} {s : Shared}
mutual
theorem rd_of (I : Inv X pins σ H s) (hB : ∃ mm, X.base.Ns sysModules mm) : ∀ {v : V} {u : Value} {d : DV} {pd : PyData}, Has ⟨X.K, α, μ, H⟩ v d → RelV v u → toPy d = some pd → ∃ as, Reads s.heap u pd as ∧ sysModules ∉ as
  | _, _, _, _, .non, r, e => by cases e; cases r; exact ⟨_, .none, List.not_mem_nil⟩
  | _, _, _, _, .bl, r, e => by cases e; cases r; exact ⟨_, .bool _, List.not_mem_nil⟩
  | _, _, _, _, .int, r, e => by cases e; obtain ⟨t, rfl⟩ := r; exact ⟨_, .int _ _, List.not_mem_nil⟩
  | _, _, _, _, .str, r, e => by cases e; obtain ⟨t, rfl⟩ := r; exact ⟨_, .str _ _, List.not_mem_nil⟩
  | _, _, _, _, .tup h t, r, e => by
    have er : _ = Value.ref _ := r
    subst er
    obtain ⟨ds, e1, e2⟩ := Option.map_eq_some_iff.mp e
    subst e2
    obtain ⟨its, rv, ⟨o, ho, hc, n, hd⟩, _⟩ := I.tuple h
    obtain ⟨as, q1, q2⟩ := rdL_of I hB t rv e1
    exact ⟨as, .tuple ho hc hd (by simpa using q1), q2⟩
  | _, _, _, _, @Has.lst _ p vs0 _ h t, r, e => by
    have er : _ = Value.ref _ := r
    subst er
    obtain ⟨ds, e1, e2⟩ := Option.map_eq_some_iff.mp e
    subst e2
    have sq : SqL X.K H p vs0 := by
      rcases h with ⟨_, h⟩ | h
      · exact .inl h
      · exact h.sq
    obtain ⟨its, rv, ⟨o, n, ho, hc, _, hd⟩, _⟩ := I.list sq
    obtain ⟨as, q1, q2⟩ := rdL_of I hB t rv e1
    refine ⟨p :: as, .list ho hc hd (by simpa using q1), fun z => ?_⟩
    rcases List.mem_cons.mp z with z | z
    · obtain ⟨mm, od, es, ep, z1, z2, _⟩ := hB
      have z3 := (I.bs _ _ z1).1
      rw [z, ho] at z3
      cases z3
      rw [hd] at z2
      cases z2
    · exact q2 z
  | _, _, _, _, @Has.dic _ p kvs kds _ h t, r, e => by
    have er : _ = Value.ref _ := r
    subst er
    cases t with
    | cons _ _ => cases e
    | nil =>
      cases e
      obtain ⟨_, ns, vs, kv, o, es, ep, ho, hx, hd, _, he, _⟩ := I.hok p _ h
      cases kv
      have hes : es.toList = [] := by
        generalize hz : es.toList = l at he
        cases he
        rfl
      refine ⟨p :: [] ++ [], .dict ho hx.1 hd (by rw [hes]; exact .nil) (by rw [hes]; exact .nil), fun z => ?_⟩
      have z' : sysModules = p := by simpa using z
      rw [← z'] at ns
      exact absurd ns (by decide)
  | _, _, _, _, .exc _ _ _, _, e => by cases e
  | _, _, _, _, .exc0 _, _, e => by cases e
  | _, _, _, _, .mu _, _, e => by cases e
theorem rdL_of (I : Inv X pins σ H s) (hB : ∃ mm, X.base.Ns sysModules mm) : ∀ {vs : List V} {us : List Value} {ds : List DV} {pds : List PyData}, HasL ⟨X.K, α, μ, H⟩ vs ds → Vals vs us → toPyL ds = some pds → ∃ as, ReadsAll s.heap us pds as ∧ sysModules ∉ as
  | _, _, _, _, .nil, r, e => by cases e; cases r; exact ⟨_, .nil, List.not_mem_nil⟩
  | _, _, _, _, .cons h t, r, e => by
    obtain ⟨d, e1, e2⟩ := Option.bind_eq_some_iff.mp e
    obtain ⟨ds, e3, e4⟩ := Option.map_eq_some_iff.mp e2
    subst e4
    cases r with
    | cons r1 r2 =>
      obtain ⟨as, q1, n1⟩ := rd_of I hB h r1 e1
      obtain ⟨bs, q2, n2⟩ := rdL_of I hB t r2 e3
      exact ⟨as ++ bs, .cons q1 q2, fun z => (List.mem_append.mp z).elim n1 n2⟩
end
end
section
variable {X : Cx} {e : Expr} {ρ : RO} {μ : List MO} {pos p : Pos} {R : Cn}
/-- repr of a list or tuple of data that nobody changes -/
def sRepr : SA := fun ds μ R => ∃ d pd, ds = [d] ∧ ((∃ xs, d = .lst xs) ∨ ∃ xs, d = .tup xs) ∧ toPy d = some pd ∧ pd.showable = true ∧ pd.depth ≤ 100 ∧ pd.shown.length ≤ sizeLine ∧ R (.str pd.shown) μ
theorem Ev.repr (hA : X.A.guards = some []) (hu : X.A.units + 200 < cLine) (hB : ∃ mm, X.base.Ns sysModules mm) (hg : Gl X "repr") (hm : X.mg "repr" = none) (h : EvA X [e] ρ μ fun ds μ1 => sRepr ds μ1 R) (he : starEach [e] X.env = (false, eval e X.env) :: starEach [] X.env := by rfl) :
    Ev X (.Call (.Name "repr" p) [e] [] pos) ρ μ R := by
  refine ⟨fun pins s σ H Q I ⟨α, E, q⟩ => ?_⟩
  refine wpAny_Call_Name_kw (ld_blt I hg hm PyProof.Rows.boot_repr ?_ (by decide) (by decide))
  have ha : PA X [e] (tEvA X ρ μ fun ds μ1 => sRepr ds μ1 R) := h
  refine PyProof.Rows.callWith_builtin1 (thn (ha.run pos pins s σ H (fun vs H1 => ∃ α1 μ1 ds, sRepr ds μ1 R ∧ En ⟨X.K, α1, μ1, H1⟩ σ ρ ∧ Kp ⟨X.K, α, μ, H⟩ ⟨X.K, α1, μ1, H1⟩ ∧ HasL ⟨X.K, α1, μ1, H1⟩ vs ds) I ⟨α, E, fun vs ds α1 μ1 H1 c E1 X1 hv => ⟨α1, μ1, ds, c, E1, X1, hv⟩⟩) ?_) he rfl
  rintro us s1 ⟨vs, H1, I1, rv, α1, μ1, ds, ⟨d, pd, rfl, hk, e1, h1, h2, h3, r⟩, E1, X1, hv⟩
  obtain ⟨v, rfl, hw⟩ := hasL1 hv
  clear hv
  have hv := hw
  obtain ⟨u, rfl, ru⟩ := vals1 rv
  have isref : ∃ a, u = Value.ref a := by
    rcases hk with ⟨xs, rfl⟩ | ⟨xs, rfl⟩
    · cases hv with
      | lst _ _ => exact ⟨_, ru⟩
    · cases hv with
      | tup _ _ => exact ⟨_, ru⟩
  obtain ⟨a, rfl⟩ := isref
  obtain ⟨as, rd, ns⟩ := rd_of I1 hB hv ru e1
  refine PySem.repr_of_reads' rd h1 (fun _ => ns) hA (by omega) (fun _ _ z => z) (fun h' t tk k => ?_) h3
  exact ⟨.str pd.shown, H1, I1.kept k, ⟨_, rfl⟩, q _ _ α1 μ1 H1 r E1 X1 .str⟩
end
end Eg

namespace Eg
open PySem PySem.Spec L2
/-! ### keywords -/
section
variable {X : Cx} {e : Expr} {es : List Expr} {kws : List Keyword} {ρ : RO} {μ : List MO} {pos p kpos : Pos} {R : Cn} {nmO : Option Str}
def EvK (X : Cx) (ks : List Keyword) (ρ : RO) (μ : List MO) (R : Ca) : Prop := PK X ks (tEvA X ρ μ R)
def aK (X : Cx) (ks : List Keyword) : TA := fun σ H Q => ∃ t, PK X ks t ∧ t σ H Q
theorem pk_a {ks : List Keyword} : PK X ks (aK X ks) := ⟨fun pos pins s σ H Q I ⟨_, h, q⟩ => h.run pos pins s σ H Q I q⟩
theorem PKw {ks : List Keyword} {t t' : TA} (h : PK X ks t) (k : ∀ σ H Q, t' σ H Q → t σ H Q) : PK X ks t' := ⟨fun pos pins s σ H Q I q => h.run pos pins s σ H Q I (k σ H Q q)⟩
theorem EvK.nil {R : Ca} (h : R [] μ) : EvK X [] ρ μ R := PKw pk_nil fun σ H Q ⟨α, E, q⟩ => q [] [] α μ H h E E.live.refl .nil
theorem EvK.cons {R : Ca} (h : Ev X e ρ μ fun d μ1 => EvK X kws ρ μ1 fun ds μ2 => R (d :: ds) μ2) : EvK X (⟨nmO, e, kpos⟩ :: kws) ρ μ R :=
  PKw (pk_cons pe_a pk_a) fun σ H Q ⟨α, E, q⟩ => ⟨_, h, α, E, fun v d α1 μ1 H1 h1 E1 X1 hv => ⟨_, h1, α1, E1, fun vs ds α2 μ2 H2 h2 E2 X2 hvs => q _ _ α2 μ2 H2 h2 E2 (X1.trans X2) (.cons (X2.has hv) hvs)⟩⟩
end
/-! ### own exceptions as values -/
/-- __init__(self, ..) that stores: fl: what stands in the dict behind it -/
def spI (C : Addr) (n : Nat) (fl : List V → List (Str × V)) : Sp := fun vs H Q _ => ∃ a ys, vs = .ref a :: ys ∧ ys.length = n ∧ H a = some (exo a C none) ∧
  ∀ d H', H d = none → H' a = some (exo a C (some d)) → H' d = some (exd d (fl ys)) → (∀ b, H b ≠ none → b ≠ a → H' b = H b) → Q .non H'
/-- the class x of the text, at C: made by its own __init__ of n arguments besides self -/
structure XI (P : Program) (w : World) (K : PySem.W.Frag) (mg : Str → Option Value) (base : Heap) (x : Str) (C : Addr) (k n : Nat) (fl : List V → List (Str × V)) (ks : List Str) (perm : List Value → List Value) : Prop where
  gC : mg x = some (.ref C)
  oc : OexC K C
  ini : ∃ fI fd ps, ps.length = n + 1 ∧ PySem.W.findIn K (.ref C) "__init__" = some (some (.ref fI)) ∧ PySem.W.typeIn K (.ref fI) = some (.type "function") ∧ FnG P w K mg base k fI fd ps (spI C n fl) ∧
    (∀ (s : Shared) (us : List Value), us.length = ps.length → BindsTo s fd ⟨us, []⟩ (ps.zip us)) ∧
    ∀ (s : Shared) (u : Value) (us : List Value), us.length = n → BindsTo s fd ⟨[u], ks.zip us⟩ (ps.zip (u :: perm us))
theorem guards_call {A : Around} {args : Args} (h : A.guards = some []) : (A.under (.builtin "type.__call__" args)).guards = some [] := by
  have e : (Code.builtin "type.__call__" args).isGuard = false := by
    show guardIds.contains "type.__call__" = false
    decide +kernel
  simp [Around.under, Code.guards, e, pushGuards, h]
section
variable {X : Cx} {e : Expr} {es : List Expr} {kws : List Keyword} {ρ : RO} {μ : List MO} {pos p : Pos} {R : Cn} {x : Str} {k n : Nat} {C : Addr} {fl : List V → List (Str × V)} {ks : List Str} {perm : List Value → List Value}
/-- the call, the arguments being there -/
theorem make_E {pins : List (Addr × Obj)} {s : Shared} {σ : L2.St} {H : Hp} {Q : VK} {us rest : List Value} {kw : List (Str × Value)} {ys : List V} (oc : OexC X.K C) {fI : Addr} {fd : FuncData} {ps : List Str}
    (iC : PySem.W.findIn X.K (.ref C) "__init__" = some (some (.ref fI))) (tI : PySem.W.typeIn X.K (.ref fI) = some (.type "function")) (G : FnG X.prog X.w X.K X.mg X.base k fI fd ps (spI C n fl))
    (hA : X.A.guards = some []) (hr : Room (k + 1) X.A) (I : Inv X pins σ H s) (hz : rest.length ≤ sizeLine) (hb : ∀ s u, BindsTo s fd ⟨u :: rest, kw⟩ (ps.zip (u :: us))) (hn : ys.length = n) (rv : Vals ys us)
    (q : ∀ a d H', H a = none → H d = none → H' a = some (exo a C (some d)) → H' d = some (exd d (fl ys)) → (∀ b, H b ≠ none → H' b = H b) → Q (.ref a) H') :
    wpAny (model X.prog X.w) X.A (PySem.call (.ref C) rest kw) (EP X pins σ Q) X.xe s := by
  obtain ⟨nm, qn, N, bs, bm, sn, sub, ab, col, dd, k0, k1, k2, k3, k5, hC, hbm⟩ := oc.cls
  obtain ⟨hp, g, dr, tk, os⟩ := s
  have nw : H (hp.objs.size + 1) = none := I.hok.fresh (Nat.le_succ _)
  have kk : ∀ b o, hp.get? b = some o → (made hp C rest).get? b = some o := fun b o z => Heap.get?_push_of_some _ (Heap.get?_push_of_some _ z)
  have there : (made hp C rest).get? (hp.objs.size + 1) = some (exO0 C hp.objs.size) := by heap_get
  have I2 : Inv X pins σ (upd H (hp.objs.size + 1) (exo (hp.objs.size + 1) C none)) ⟨made hp C rest, g, dr, tk, os⟩ :=
    I.laid (t' := tk) (h' := made hp C rest) kk (Nat.le_succ _) (exo_ok there)
  have hsp : spI C n fl (.ref (hp.objs.size + 1) :: ys) (upd H (hp.objs.size + 1) (exo (hp.objs.size + 1) C none)) (fun v H2 => v = .non ∧ Q (.ref (hp.objs.size + 1)) H2) E0 := by
    refine ⟨_, ys, rfl, hn, upd_same, fun d H' h1 h2 h3 h4 => ⟨rfl, ?_⟩⟩
    have nd : d ≠ hp.objs.size + 1 := fun z => by
      rw [z, upd_same] at h1
      cases h1
    rw [upd_ne nd] at h1
    refine q _ d H' nw h1 h2 h3 fun b hb => ?_
    have nb : b ≠ hp.objs.size + 1 := fun z => hb (by rw [z]; exact nw)
    rw [h4 b (by rw [upd_ne nb]; exact hb) nb, upd_ne nb]
  refine wpAny_call (call_kwE F.excBase_ValueError (fun Y => PySem.HandSPX.refsVE_contains Y bm hbm) (I.kIn _ _ hC) hz (PySem.W.looks_findIn I.kIn iC) (fun self => PySem.W.bind_fn I.kIn self tI) ?_)
  refine codeAny_mono (G.go _ X.stack _ _ ⟨Value.ref (hp.objs.size + 1) :: rest, kw⟩ (Value.ref (hp.objs.size + 1) :: us) _ _ (guards_call hA) (hr.make C rest kw) (I2.env0.make C rest kw) (hb _ _) (Paired.cons (a := V.ref (hp.objs.size + 1)) (b := Value.ref (hp.objs.size + 1)) rfl rv) hsp) fun r s' hq => ?_
  match r, hq with
  | .ok (.ret u), hq =>
    obtain ⟨v, H', J, rr, ev, q'⟩ := I2.after hq
    have eu : u = Value.none := by
      subst ev
      exact rr
    exact ⟨eu, .ref _, H', J, rfl, q'⟩
  | .ok .next, z => exact False.elim z
  | .ok .brk, z => exact False.elim z
  | .ok .cont, z => exact False.elim z
  | .error _, z => exact False.elim z
/-- what is then to be shown, of the data ds of the arguments in the parameters' order -/
theorem made_ok {α1 : List Addr} {μ1 : List MO} {H1 : Hp} {σ : L2.St} {Q : VK} {ys : List V} {ds : List DV} {fd : List (Str × DV)} (E1 : En ⟨X.K, α1, μ1, H1⟩ σ ρ) (hv : HasL ⟨X.K, α1, μ1, H1⟩ ys ds)
    (hf : ∀ w, HasL w ys ds → HasF w (fl ys) fd) (q : Stp X ρ ⟨X.K, α1, μ1, H1⟩ σ R Q) (hR : R (.exc C fd) μ1) (a d : Addr) (H' : Hp) (_ : H1 a = none) (_ : H1 d = none) (h1 : H' a = some (exo a C (some d))) (h2 : H' d = some (exd d (fl ys))) (h3 : ∀ b, H1 b ≠ none → H' b = H1 b) : Q (.ref a) H' := by
  obtain ⟨k, l⟩ := E1.live.lays h3
  exact q _ _ α1 μ1 H' hR (E1.ext k l) k (.exc h1 h2 (hf _ (k.hasL hv)))
/-- X(e, ..) -/
theorem Ev.mkE {fdf : List DV → List (Str × DV)} (T : XI X.prog X.w X.K X.mg X.base x C k n fl ks perm) (hA : X.A.guards = some []) (hr : Room (k + 1) X.A) (hg : Gl X x) (hf : ∀ ys ds w, HasL w ys ds → ys.length = n → HasF w (fl ys) (fdf ds)) (h0 : n ≤ 1000)
    (h : EvA X (e :: es) ρ μ fun ds μ1 => ds.length = n ∧ R (.exc C (fdf ds)) μ1)
    (hdb : (x == ("__debug__" : Str)) = false := by decide) (he : starEach (e :: es) X.env = (false, eval e X.env) :: starEach es X.env := by rfl) (hpl : (backTo pos (starEach es X.env)).any (·.1) = false := by rfl) :
    Ev X (.Call (.Name x p) (e :: es) [] pos) ρ μ R := by
  obtain ⟨gC, oc, fI, fd, ps, hps, iC, tI, G, hb, _⟩ := T
  refine ⟨fun pins s σ H Q I ⟨α, E, q⟩ => wpAny_Call_Name_kw (ld_glob I hg gC ?_ hdb)⟩
  have ha : PA X (e :: es) (tEvA X ρ μ fun ds μ1 => ds.length = n ∧ R (.exc C (fdf ds)) μ1) := h
  refine PySem.W.callWith_K (h₀ := X.base) I.ok.mod.kin oc.kC (thn (ha.run pos pins s σ H (fun vs H1 => ∃ α1 μ1 ds, (ds.length = n ∧ R (.exc C (fdf ds)) μ1) ∧ En ⟨X.K, α1, μ1, H1⟩ σ ρ ∧ Kp ⟨X.K, α, μ, H⟩ ⟨X.K, α1, μ1, H1⟩ ∧ HasL ⟨X.K, α1, μ1, H1⟩ vs ds) I
    ⟨α, E, fun vs ds α1 μ1 H1 c E1 X1 hv => ⟨α1, μ1, ds, c, E1, X1, hv⟩⟩) ?_) he hpl
  rintro us s1 ⟨vs, H1, I1, rv, α1, μ1, ds, ⟨hn, r⟩, E1, X1, hv⟩
  refine ⟨I1.kIn, ?_⟩
  have hl : vs.length = n := hv.length.trans hn
  have hu : us.length = n := rv.length.symm.trans hl
  refine make_E (us := us) (rest := us) (kw := []) (ys := vs) oc iC tI G hA hr I1 (by rw [hu, PySem.sizeLine_eq]; omega) (fun s' u => hb s' (u :: us) (by rw [List.length_cons, hu, hps])) hl rv fun a d H' z1 z2 z3 z4 z5 => ?_
  exact made_ok (fd := fdf ds) E1 hv (fun w hw => hf _ _ w hw hl) (fun v d' α' μ' H'' r' E' k' hv' => q v d' α' μ' H'' r' E' (X1.trans k') hv') r a d H' z1 z2 z3 z4 z5
/-- X(f = e, ..) -/
theorem Ev.mkEK {fdf : List DV → List (Str × DV)} (T : XI X.prog X.w X.K X.mg X.base x C k n fl ks perm) (hA : X.A.guards = some []) (hr : Room (k + 1) X.A) (hg : Gl X x) (permV : List V → List V) (permD : List DV → List DV)
    (hp1 : ∀ vs us, Vals vs us → vs.length = n → Vals (permV vs) (perm us) ∧ (permV vs).length = n) (hp2 : ∀ w vs ds, HasL w vs ds → vs.length = n → HasL w (permV vs) (permD ds))
    (hf : ∀ ys ds w, HasL w ys ds → ys.length = n → HasF w (fl ys) (fdf ds))
    (h : EvK X kws ρ μ fun ds μ1 => ds.length = n ∧ R (.exc C (fdf (permD ds))) μ1) (hall : (backToKw pos (keywordEach kws X.env)).all (·.1.isSome) = true := by rfl) (hks : (backToKw pos (keywordEach kws X.env)).filterMap (·.1) = ks := by rfl)
    (hpl : ((backTo pos (starEach [] X.env)).any (·.1) || (backToKw pos (keywordEach kws X.env)).any (·.1.isNone)) = false := by rfl) (hdb : (x == ("__debug__" : Str)) = false := by decide) :
    Ev X (.Call (.Name x p) [] kws pos) ρ μ R := by
  obtain ⟨gC, oc, fI, fd, ps, hps, iC, tI, G, _, hb⟩ := T
  refine ⟨fun pins s σ H Q I ⟨α, E, q⟩ => wpAny_Call_Name_kw (ld_glob I hg gC ?_ hdb)⟩
  have ha : PK X kws (tEvA X ρ μ fun ds μ1 => ds.length = n ∧ R (.exc C (fdf (permD ds))) μ1) := h
  refine PySem.W.callWith_KW0 (h₀ := X.base) I.ok.mod.kin oc.kC hall (thn (ha.run pos pins s σ H (fun vs H1 => ∃ α1 μ1 ds, (ds.length = n ∧ R (.exc C (fdf (permD ds))) μ1) ∧ En ⟨X.K, α1, μ1, H1⟩ σ ρ ∧ Kp ⟨X.K, α, μ, H⟩ ⟨X.K, α1, μ1, H1⟩ ∧ HasL ⟨X.K, α1, μ1, H1⟩ vs ds) I
    ⟨α, E, fun vs ds α1 μ1 H1 c E1 X1 hv => ⟨α1, μ1, ds, c, E1, X1, hv⟩⟩) ?_) hpl
  rintro us s1 ⟨vs, H1, I1, rv, α1, μ1, ds, ⟨hn, r⟩, E1, X1, hv⟩
  refine ⟨I1.kIn, ?_⟩
  rw [hks]
  have hl : vs.length = n := hv.length.trans hn
  have hu : us.length = n := rv.length.symm.trans hl
  obtain ⟨pv, pl⟩ := hp1 vs us rv hl
  show wpAny _ _ (PySem.call (.ref C) [] (ks.zip us)) _ _ s1
  refine make_E (us := perm us) (rest := []) (kw := ks.zip us) (ys := permV vs) oc iC tI G hA hr I1 (Nat.zero_le _) (fun s' u => hb s' u us hu) pl pv fun a d H' z1 z2 z3 z4 z5 => ?_
  exact made_ok (fd := fdf (permD ds)) E1 (hp2 _ _ _ hv hl) (fun w hw => hf _ _ w hw pl) (fun v d' α' μ' H'' r' E' k' hv' => q v d' α' μ' H'' r' E' (X1.trans k') hv') r a d H' z1 z2 z3 z4 z5
/-- X() of a class without own __init__ -/
theorem Ev.mkE0 {bmB : List Value} {B newId initId : String} (F : ExcBaseFacts B newId initId bmB) (qx : PySem.W.excIn X.K C bmB newId = true) (gC : X.mg x = some (.ref C)) (kC : PySem.W.keepIn X.K (.ref C) = true) (hg : Gl X x)
    (h : R (.exc C []) μ) (hdb : (x == ("__debug__" : Str)) = false := by decide) : Ev X (.Call (.Name x p) [] [] pos) ρ μ R := by
  refine ⟨fun pins s σ H Q I ⟨α, E, q⟩ => wpAny_Call_Name_kw (ld_glob I hg gC ?_ hdb)⟩
  refine PySem.W.callWith_K0 I.kIn kC ?_
  obtain ⟨bm, N, nm, qn, bs, hdct, sn, sub, ab, col, dd, k0, k1, k2, k3, k5, mN, hC, hN, hni, T⟩ := exc_obj I.kIn qx
  refine wpAny_call_exc_subT F T hC hN hni (fun h' a hm => ?_) (Nat.zero_le _)
  have hn : H a = none := I.hok.gone hm.new
  obtain ⟨t, ht, _, _⟩ := hm.there
  obtain ⟨k, l⟩ := E.live.lay (o := ExO (.ref C) a) hn
  exact ⟨.ref a, upd H a (ExO (.ref C) a), I.laidN hm.keeps hm.new hn (exO_ok ht ⟨rfl, rfl⟩ rfl rfl rfl (show 4 < 6 by decide)), rfl, q _ _ α μ _ h (E.ext k l) k (.exc0 upd_same)⟩
/-! ### e.f, isinstance(e, T) -/
/-- what an own exception class says of its instances -/
structure XC (K : PySem.W.Frag) (C : Addr) : Prop where
  cl : (PySem.W.clsIn K C).isSome = true
  ga : PySem.W.findIn K (.ref C) "__getattribute__" = some (some (.builtin "BaseException.__getattribute__"))
  gg : PySem.W.findIn K (.ref C) "__getattr__" = some none
  sb : PySem.W.subIn K (.ref C) (.type "BaseException") = some true
  hd : PySem.W.hasDictIn K C = true
  ca : PySem.W.findIn K (.ref C) "__class__" = some (some (.builtin "object.__class__"))
  sp : PySem.W.specialIn K (.builtin "object.__class__") "__get__" = some (some (.builtin "getset_descriptor.__get__"))
  tk : PySem.W.takesIn K (.builtin "object.__class__") = some true
  mr : PySem.W.mroIn K C (.type "object") = some true
theorem hasF_look {w : Wd} {f : Str} {d : DV} : ∀ {fs : List (Str × V)} {ds : List (Str × DV)}, HasF w fs ds → ds.lookup f = some d → ∃ v, fs.lookup f = some v ∧ Has w v d
  | _, _, .nil, e => by cases e
  | _, _, .cons (k := g) h t, e => by
    by_cases c : f = g
    · subst c
      simp only [List.lookup, beq_self_eq_true] at e ⊢
      cases e
      exact ⟨_, rfl, h⟩
    · have c' : (f == g) = false := by simpa using c
      simp only [List.lookup, c'] at e ⊢
      exact hasF_look t e
end
section
variable {X : Cx} {e : Expr} {ρ : RO} {μ : List MO} {pos p py : Pos} {R : Cn} {f : Str}
/-- e.f of an own exception -/
theorem Ev.attrE (h : Ev X e ρ μ fun d μ1 => ∃ C fs v, d = .exc C fs ∧ XC X.K C ∧ PySem.W.findIn X.K (.ref C) f = some none ∧ fs.lookup f = some v ∧ R v μ1)
    (hb : attributeBase e f X.env (eval e X.env) = eval e X.env := by rfl) : Ev X (.Attribute e f pos) ρ μ R := by
  refine ⟨fun pins s σ H Q I ⟨α, E, q⟩ => attr_of hb (thn (h.run pins s σ H (fun v H1 => ∃ α1 μ1 d, (∃ C fs v, d = .exc C fs ∧ XC X.K C ∧ PySem.W.findIn X.K (.ref C) f = some none ∧ fs.lookup f = some v ∧ R v μ1) ∧ En ⟨X.K, α1, μ1, H1⟩ σ ρ ∧ Kp ⟨X.K, α, μ, H⟩ ⟨X.K, α1, μ1, H1⟩ ∧ Has ⟨X.K, α1, μ1, H1⟩ v d) I
    ⟨α, E, fun v d α1 μ1 H1 c E1 X1 hv => ⟨α1, μ1, d, c, E1, X1, hv⟩⟩) ?_)⟩
  rintro u s1 ⟨v, H1, I1, rv, α1, μ1, d, ⟨C, fs, y, rfl, T, hno, hl, r⟩, E1, X1, hv⟩
  cases hv with
  | exc0 _ => cases hl
  | @exc a _ dd ws _ h1 h2 hf =>
    have eu : u = Value.ref a := rv
    subst eu
    obtain ⟨t1, ho⟩ := exo_at I1.hok h1
    obtain ⟨mA, hns, rel⟩ := exd_at I1.hok h2
    obtain ⟨od, hod, hlk⟩ := lookIn_ns hns
    obtain ⟨z, hz, hy⟩ := hasF_look hf hl
    obtain ⟨u', hu', ru⟩ := RelO.some_of (v := z) (o := mA f) (by rw [← hz]; exact rel f)
    have J : PySem.W.InstAt s1.heap a _ C (some od) := ⟨ho, rfl, rfl, hod⟩
    exact HandSPX.exc_get I1.kIn J T.ga T.gg T.sb (PySem.W.findObj_own T.hd hno rfl (by rw [hlk, hu'])) (handed_of ru) ⟨z, H1, I1.tok _, ru, q _ _ α1 μ1 H1 r E1 X1 hy⟩
/-- an own exception of the class at C stands at a -/
def ExAt (H : Hp) (a C : Addr) : Prop := (∃ d fs, H a = some (exo a C (some d)) ∧ H d = some (exd d fs)) ∨ H a = some (ExO (.ref C) a)
theorem exAt_inst {pins : List (Addr × Obj)} {σ : L2.St} {H : Hp} {s : Shared} {a C : Addr} (I : Inv X pins σ H s) (h : ExAt H a C) : ∃ ox od, PySem.W.InstAt s.heap a ox C od := by
  rcases h with ⟨d, fs, h1, h2⟩ | h
  · obtain ⟨t1, ho⟩ := exo_at I.hok h1
    obtain ⟨mA, ⟨od, es, ep, hod, _⟩, rel⟩ := exd_at I.hok h2
    exact ⟨_, some od, ho, rfl, rfl, hod⟩
  · obtain ⟨⟨oe, vs, ho, hz, hd, _⟩, _, _⟩ := I.hok a _ h
    obtain ⟨oc, odd, oda, osl⟩ := oe
    obtain ⟨e1, e2⟩ := hz
    dsimp only at e1 e2 hd
    subst e1 e2 hd
    exact ⟨_, none, ho, rfl, rfl, trivial⟩
def rIsX (K : PySem.W.Frag) : List V → Hp → VK → Prop := fun xs H Q => ∃ a C c cv b, xs = [.ref a, c] ∧ ExAt H a C ∧ XC K C ∧ (∀ u, RelV c u → u = cv) ∧ PySem.W.kitOne K (.ref C) cv = some b ∧ Q (.bl b) H
theorem call_isX : CallR X (.builtin "isinstance") (rIsX X.K) := by
  intro pins s σ H xs us Q I r h
  obtain ⟨a, C, c, cv, b, rfl, ex, T, hc, hk, q⟩ := h
  obtain ⟨u, u', rfl, r1, r2⟩ := vals2 r
  have e1 : u = Value.ref a := r1
  have e2 := hc _ r2
  subst e1 e2
  obtain ⟨ox, od, J⟩ := exAt_inst I ex
  exact PySem.W.kia_one (PySem.W.kitx_exc T.cl T.ga T.gg T.sb T.ca T.sp T.tk T.mr) I.kIn J hk (fun z => nomatch z) fun tk => ⟨.bl b, H, I.kept (t' := tk) fun _ _ z => z, rfl, q⟩
theorem exAt_of {w : Wd} {v : V} {C : Addr} {fs : List (Str × DV)} (h : Has w v (.exc C fs)) : ∃ a, v = .ref a ∧ ExAt w.H a C := by
  cases h with
  | exc h1 h2 _ => exact ⟨_, rfl, .inl ⟨_, _, h1, h2⟩⟩
  | exc0 h1 => exact ⟨_, rfl, .inr h1⟩
/-- isinstance(e, y), y a class: own or built in -/
theorem Ev.isE {y : Str} {c : V} {cv : Value} (hg : Gl X "isinstance") (hm : X.mg "isinstance" = none) (hy : PE X (.Name y py) (tC c)) (hcv : ∀ u, RelV c u → u = cv)
    (h : Ev X e ρ μ fun d μ1 => ∃ C fs b, d = .exc C fs ∧ XC X.K C ∧ PySem.W.kitOne X.K (.ref C) cv = some b ∧ R (.bl b) μ1)
    (he : starEach [e, .Name y py] X.env = (false, eval e X.env) :: starEach [.Name y py] X.env := by rfl) (hpl : (backTo pos (starEach [.Name y py] X.env)).any (·.1) = false := by rfl)
    (hs : starEach [.Name y py] X.env = (false, eval (.Name y py) X.env) :: starEach [] X.env := by rfl) : Ev X (.Call (.Name "isinstance" p) [e, .Name y py] [] pos) ρ μ R :=
  PEw (pe_callB call_isX hg hm PyProof.Rows.boot_isinstance (pa_cons pe_a (pa_cons hy pa_nil hs) he) (by decide) (by decide) he hpl) fun σ H Q ⟨α, E, q⟩ => ⟨_, h, α, E, fun v d α1 μ1 H1 ⟨C, fs, b, e, T, hk, r⟩ E1 X1 hv => by
    subst e
    obtain ⟨a, rfl, ex⟩ := exAt_of hv
    exact ⟨a, C, c, cv, b, rfl, ex, T, hcv, hk, q _ _ α1 μ1 H1 r E1 X1 .bl⟩⟩
end
end Eg

namespace Eg
open PySem PySem.Spec L2
section
variable {X : Cx} {a b c : Expr} {ρ : RO} {μ : List MO} {pos : Pos}
abbrev toT (R : Ct) : Cn := fun d μ' => ∃ k, d = .bl k ∧ R k μ'
theorem EvT.cmpS {op : CmpOp} {R : Ct} {r : R2} {S : S2} (hr : OpR X (compareOp op) r) (k : R2S X r S) (hm : behindInMarks op b = false) (h : Ev X a ρ μ fun da μ1 => Ev X b ρ μ1 fun db μ2 => S da db μ2 (toT R)) : EvT X (.Compare a [op] [b] pos) ρ μ R :=
  PTw (pt_cmpR hr pe_a pe_a hm) fun σ H Q ⟨α, E, q⟩ => ⟨_, h, α, E, fun x da α1 μ1 H1 h1 E1 X1 hx => ⟨_, h1, α1, E1, fun y db α2 μ2 H2 h2 E2 X2 hy =>
    k α2 μ2 H2 σ ρ x y da db _ _ E2 (X2.has hx) hy h2 fun v d α' μ' H' ⟨t, e, r'⟩ E' X' hv => by
      subst e
      cases hv
      exact ⟨t, rfl, q t α' μ' H' r' E' (X1.trans (X2.trans X'))⟩⟩⟩
theorem EvT.lt {R : Ct} (h : Ev X a ρ μ fun da μ1 => Ev X b ρ μ1 fun db μ2 => sLt da db μ2 (toT R)) : EvT X (.Compare a [.Lt] [b] pos) ρ μ R := .cmpS op_lt (rI0_S fun _ _ _ => .bl) (nomark _) h
theorem EvT.le {R : Ct} (h : Ev X a ρ μ fun da μ1 => Ev X b ρ μ1 fun db μ2 => sLe da db μ2 (toT R)) : EvT X (.Compare a [.LtE] [b] pos) ρ μ R := .cmpS op_le (rI0_S fun _ _ _ => .bl) (nomark _) h
theorem EvT.gt {R : Ct} (h : Ev X a ρ μ fun da μ1 => Ev X b ρ μ1 fun db μ2 => sGt da db μ2 (toT R)) : EvT X (.Compare a [.Gt] [b] pos) ρ μ R := .cmpS op_gt (rI0_S fun _ _ _ => .bl) (nomark _) h
theorem EvT.ge {R : Ct} (h : Ev X a ρ μ fun da μ1 => Ev X b ρ μ1 fun db μ2 => sGe da db μ2 (toT R)) : EvT X (.Compare a [.GtE] [b] pos) ρ μ R := .cmpS op_ge (rI0_S fun _ _ _ => .bl) (nomark _) h
theorem EvT.eq {R : Ct} (h : Ev X a ρ μ fun da μ1 => Ev X b ρ μ1 fun db μ2 => sEq da db μ2 (toT R)) : EvT X (.Compare a [.Eq] [b] pos) ρ μ R := .cmpS op_eq rEq_S (nomark _) h
theorem EvT.ne {R : Ct} (h : Ev X a ρ μ fun da μ1 => Ev X b ρ μ1 fun db μ2 => sNe da db μ2 (toT R)) : EvT X (.Compare a [.NotEq] [b] pos) ρ μ R := .cmpS op_ne rNe_S (nomark _) h
theorem EvT.chain {op op' : CmpOp} {r r' : R2} {S S' : S2} {R : Ct} (ho : OpR X (compareOp op) r) (k : R2S X r S) (ho' : OpR X (compareOp op') r') (k' : R2S X r' S')
    (h : Ev X a ρ μ fun da μ1 => Ev X b ρ μ1 fun db μ2 => S da db μ2 fun d μ3 => ∃ t, d = .bl t ∧ if t = true then Ev X c ρ μ3 fun dc μ4 => S' db dc μ4 (toT R) else R false μ3) (hm : lastMarks [op, op'] [b, c] = false := by with_unfolding_all rfl) :
    EvT X (.Compare a [op, op'] [b, c] pos) ρ μ R := PTw (pt_chain ho ho' pe_a pe_a pe_a hm) fun σ H Q ⟨α, E, q⟩ =>
  ⟨_, h, α, E, fun x da α1 μ1 H1 h1 E1 X1 hx => ⟨_, h1, α1, E1, fun y db α2 μ2 H2 h2 E2 X2 hy =>
    k α2 μ2 H2 σ ρ x y da db _ _ E2 (X2.has hx) hy h2 fun v d α3 μ3 H3 ⟨t, e, h3⟩ E3 X3 hv => by
      subst e
      cases hv
      refine ⟨t, rfl, ?_⟩
      cases t with
      | true =>
        refine iteT ⟨_, show Ev X c ρ μ3 _ from h3, α3, E3, fun z dc α4 μ4 H4 h4 E4 X4 hz => k' α4 μ4 H4 σ ρ y z db dc _ _ E4 (X4.has (X3.has hy)) hz h4 fun v d α' μ' H' ⟨t2, e2, r'⟩ E' X' hv => ?_⟩
        subst e2
        cases hv
        exact ⟨t2, rfl, q t2 α' μ' H' r' E' (X1.trans (X2.trans (X3.trans (X4.trans X'))))⟩
      | false => exact iteF ⟨false, rfl, q _ α3 μ3 H3 h3 E3 (X1.trans (X2.trans X3))⟩⟩⟩
/-! ### lists of truths, whole numbers .. compared: == and != of data -/

mutual
theorem dp_has {w : Wd} : ∀ {v : V} {d : DV} {pd : PyData}, Has w v d → toPy d = some pd → pd.hasDict = false → Dp w.K w.H v pd
  | _, _, _, .non, e, _ => by cases e; exact .non
  | _, _, _, .bl, e, _ => by cases e; exact .bl _
  | _, _, _, .int, e, _ => by cases e; exact .int _
  | _, _, _, .str, e, _ => by cases e; exact .str _
  | _, _, _, .tup h t, e, nd => by
    obtain ⟨ds, e1, e2⟩ := Option.map_eq_some_iff.mp e
    subst e2
    exact .tup h (dpL_has t e1 (by simpa [PyData.hasDict] using nd))
  | _, _, _, @Has.lst _ p vs _ h t, e, nd => by
    obtain ⟨ds, e1, e2⟩ := Option.map_eq_some_iff.mp e
    subst e2
    have sq : SqL w.K w.H p vs := by
      rcases h with ⟨_, h⟩ | h
      · exact .inl h
      · exact h.sq
    exact .lst sq (dpL_has t e1 (by simpa [PyData.hasDict] using nd))
  | _, _, _, @Has.dic _ _ _ kds _ _ _, e, nd => by
    cases kds with
    | nil => cases e; simp [PyData.hasDict] at nd
    | cons _ _ => cases e
  | _, _, _, .exc _ _ _, e, _ => by cases e
  | _, _, _, .exc0 _, e, _ => by cases e
  | _, _, _, .mu _, e, _ => by cases e
theorem dpL_has {w : Wd} : ∀ {vs : List V} {ds : List DV} {pds : List PyData}, HasL w vs ds → toPyL ds = some pds → PyData.hasDictAll pds = false → DpAll w.K w.H vs pds
  | _, _, _, .nil, e, _ => by cases e; exact .nil
  | _, _, _, .cons h t, e, nd => by
    obtain ⟨d, e1, e2⟩ := Option.bind_eq_some_iff.mp e
    obtain ⟨ds, e3, e4⟩ := Option.map_eq_some_iff.mp e2
    subst e4
    have nd' : (PyData.hasDict d || PyData.hasDictAll ds) = false := by simpa [PyData.hasDictAll] using nd
    exact .cons (dp_has h e1 (Bool.or_eq_false_iff.mp nd').1) (dpL_has t e3 (Bool.or_eq_false_iff.mp nd').2)
end
def sEqD : S2 := fun x y μ R => ∃ d e, toPy x = some d ∧ toPy y = some e ∧ d.hasDict = false ∧ e.hasDict = false ∧ SeqAt.shaped d = true ∧ SeqAt.shaped e = true ∧ R (.bl (PyData.eqv d e)) μ
def sNeD : S2 := fun x y μ R => ∃ d e, toPy x = some d ∧ toPy y = some e ∧ d.hasDict = false ∧ e.hasDict = false ∧ SeqAt.shaped d = true ∧ SeqAt.shaped e = true ∧ R (.bl (!PyData.eqv d e)) μ
theorem rEqD_S : R2S X (rEqD X.K) sEqD := fun α μ H σ ρ x y da db R Q E hx hy h q => by
  obtain ⟨d, e, e1, e2, n1, n2, s1, s2, r⟩ := h
  exact ⟨d, e, dp_has hx e1 n1, dp_has hy e2 n2, s1, s2, q.sc E r .bl⟩
theorem rNeD_S : R2S X (rNeD X.K) sNeD := fun α μ H σ ρ x y da db R Q E hx hy h q => by
  obtain ⟨d, e, e1, e2, n1, n2, s1, s2, r⟩ := h
  exact ⟨d, e, dp_has hx e1 n1, dp_has hy e2 n2, s1, s2, q.sc E r .bl⟩
theorem EvT.neD {R : Ct} (hu : X.A.units + 64 < cLine) (h : Ev X a ρ μ fun da μ1 => Ev X b ρ μ1 fun db μ2 => sNeD da db μ2 (toT R)) : EvT X (.Compare a [.NotEq] [b] pos) ρ μ R := .cmpS (op_neD hu) rNeD_S (nomark _) h
theorem EvT.eqD {R : Ct} (hu : X.A.units + 64 < cLine) (h : Ev X a ρ μ fun da μ1 => Ev X b ρ μ1 fun db μ2 => sEqD da db μ2 (toT R)) : EvT X (.Compare a [.Eq] [b] pos) ρ μ R := .cmpS (op_eqD hu) rEqD_S (nomark _) h
/-! ### short words -/
theorem items_mu {k : Nat} {ds : List DV} (h : μ[k]? = some (.lst ds)) : itemsD μ (.mu k) = some ds := by
  show (match μ[k]? with | some (.lst ds) => some ds | _ => none) = some ds
  rw [h]
theorem sIx.mu {k : Nat} {ds : List DV} {i : Int} {d : DV} {R : Cn} (h : μ[k]? = some (.lst ds)) (e : atI ds i = some d) (r : R d μ) : sIx (.mu k) (.int i) μ R := .inl ⟨ds, i, d, items_mu h, rfl, e, r⟩
theorem sIx.tup {ds : List DV} {i : Int} {d : DV} {R : Cn} (e : atI ds i = some d) (r : R d μ) : sIx (.tup ds) (.int i) μ R := .inl ⟨ds, i, d, rfl, rfl, e, r⟩
theorem sIx.lst {ds : List DV} {i : Int} {d : DV} {R : Cn} (e : atI ds i = some d) (r : R d μ) : sIx (.lst ds) (.int i) μ R := .inl ⟨ds, i, d, rfl, rfl, e, r⟩
theorem ifd {p : Prop} [Decidable p] {A B : Prop} (h1 : p → A) (h2 : ¬ p → B) : if decide p = true then A else B := by
  by_cases h : p
  · rw [decide_eq_true h]
    exact iteT (h1 h)
  · rw [decide_eq_false h]
    exact iteF (h2 h)
theorem ifdT {p : Prop} [Decidable p] {A B : Prop} (h : p) (h1 : A) : if decide p = true then A else B := ifd (fun _ => h1) fun z => absurd h z
theorem ifdF {p : Prop} [Decidable p] {A B : Prop} (h : ¬ p) (h1 : B) : if decide p = true then A else B := ifd (fun z => absurd z h) fun _ => h1
theorem ifnT {p : Prop} [Decidable p] {A B : Prop} (h : ¬ p) (h1 : A) : if (!decide p) = true then A else B := by
  rw [decide_eq_false h]
  exact iteT h1
theorem ifnF {p : Prop} [Decidable p] {A B : Prop} (h : p) (h1 : B) : if (!decide p) = true then A else B := by
  rw [decide_eq_true h]
  exact iteF h1
theorem atI_of {α : Type} {xs : List α} {i : Int} {d : α} (h0 : 0 ≤ i) (h : xs[i.toNat]? = some d) : atI xs i = some d := by
  obtain ⟨hl, _⟩ := List.getElem?_eq_some_iff.mp h
  unfold atI ixN
  rw [if_pos h0, if_pos (by omega)]
  exact h
/-! ### the leaves -/
theorem sAdd.mk {i j : Int} {R : Cn} (r : R (.int (i + j)) μ) : sAdd (.int i) (.int j) μ R := ⟨i, j, rfl, rfl, r⟩
theorem sSub.mk {i j : Int} {R : Cn} (r : R (.int (i - j)) μ) : sSub (.int i) (.int j) μ R := ⟨i, j, rfl, rfl, r⟩
theorem sMul.mk {i j : Int} {R : Cn} (h : CMulW i j) (r : R (.int (i * j)) μ) : sMul (.int i) (.int j) μ R := ⟨i, j, rfl, rfl, h, r⟩
theorem sMod.mk {i j : Int} {R : Cn} (h : j ≠ 0) (r : R (.int (i.fmod j)) μ) : sMod (.int i) (.int j) μ R := ⟨i, j, rfl, rfl, h, r⟩
theorem sDiv.mk {i j : Int} {R : Cn} (h : CDivW i j) (r : R (.int (i / j)) μ) : sDiv (.int i) (.int j) μ R := ⟨i, j, rfl, rfl, h, r⟩
theorem sPow.mk {i j : Int} {R : Cn} (h : CPow i j) (r : R (.int (i ^ j.toNat)) μ) : sPow (.int i) (.int j) μ R := ⟨i, j, rfl, rfl, h, r⟩
theorem sLt.mk {i j : Int} {R : Cn} (r : R (.bl (decide (i < j))) μ) : sLt (.int i) (.int j) μ R := ⟨i, j, rfl, rfl, r⟩
theorem sLe.mk {i j : Int} {R : Cn} (r : R (.bl (decide (i ≤ j))) μ) : sLe (.int i) (.int j) μ R := ⟨i, j, rfl, rfl, r⟩
theorem sGt.mk {i j : Int} {R : Cn} (r : R (.bl (decide (j < i))) μ) : sGt (.int i) (.int j) μ R := ⟨i, j, rfl, rfl, r⟩
theorem sGe.mk {i j : Int} {R : Cn} (r : R (.bl (decide (j ≤ i))) μ) : sGe (.int i) (.int j) μ R := ⟨i, j, rfl, rfl, r⟩
theorem v_int {i j : Int} : decide (V.int i = V.int j) = decide (i = j) := by
  by_cases h : i = j
  · rw [h]; simp
  · rw [decide_eq_false h, decide_eq_false fun z => h (V.int.inj z)]
theorem sEq.int {i j : Int} {R : Cn} (r : R (.bl (decide (i = j))) μ) : sEq (.int i) (.int j) μ R := ⟨_, _, rfl, rfl, rfl, by rw [v_int]; exact r⟩
theorem sNe.int {i j : Int} {R : Cn} (r : R (.bl (!decide (i = j))) μ) : sNe (.int i) (.int j) μ R := ⟨_, _, rfl, rfl, rfl, by rw [v_int]; exact r⟩
theorem toT.mk {k : Bool} {R : Ct} (r : R k μ) : toT R (.bl k) μ := ⟨k, rfl, r⟩
theorem mulok {i j : Int} (h1 : i.natAbs < 18446744073709551616) (h2 : j.natAbs < 18446744073709551616) : CMulW i j :=
  wide_mul (a := 64) (b := 64) h1 h2 (by decide) (by decide) (by decide)
theorem divok {i j : Int} (h1 : 0 < j) (h2 : j.natAbs < 18446744073709551616) : CDivW i j := wide_div (b := 64) h1 h2 (by decide) (by decide)
theorem fmod_in {i j : Int} (h : 0 < j) : 0 ≤ i.fmod j ∧ i.fmod j < j := by
  rw [Int.fmod_eq_emod_of_nonneg _ (by omega)]
  exact ⟨Int.emod_nonneg _ (by omega), Int.emod_lt_of_pos _ h⟩
end
theorem Fn.imp {P : Program} {w : World} {K : PySem.W.Frag} {mg : Str → Option Value} {base : Heap} {x : Str} {k : Nat} {C C' : Ctr} (F : Fn P w K mg base x k C) (h : ∀ ds μ R, C' ds μ R → C ds μ R) : Fn P w K mg base x k C' := by
  obtain ⟨f, fd, ps, ⟨l, g⟩, r⟩ := F
  have imp : ∀ vs H Q E, SpD K C' vs H Q E → SpD K C vs H Q E := fun vs H Q E ⟨α, μ, ds, R, z1, z2, z3, z4⟩ => ⟨α, μ, ds, R, z1, z2, h _ _ _ z3, z4⟩
  exact ⟨f, fd, ps, ⟨fun vs H Q E z => l vs H Q E (imp _ _ _ _ z), fun A outer s H args us vs Q h1 h2 h3 h4 h5 h6 => g A outer s H args us vs Q h1 h2 h3 h4 h5 (imp _ _ _ _ h6)⟩, r⟩
end Eg

namespace Eg
open PySem PySem.Spec L2
section
variable {X : Cx} {ρ : RO} {μ : List MO} {pos : Pos}
theorem hasL3 {w : Wd} {vs : List V} {d e f : DV} (h : HasL w vs [d, e, f]) : ∃ v u t, vs = [v, u, t] ∧ Has w v d ∧ Has w u e ∧ Has w t f := by
  cases h with
  | cons h t =>
    obtain ⟨u, x, rfl, h2, h3⟩ := hasL2 t
    exact ⟨_, u, x, rfl, h, h2, h3⟩
/-- a, b, c = e1, e2, e3 -/
theorem St.par3 {R : Co} {e1 e2 e3 : Expr} (i j l : Nat) {x y z : Str} {px py pz pt : Pos} {kt k2 pt2} (hc : X.calm = true) (hN : X.N.Nodup) (hi : X.N[i]? = some x) (hj : X.N[j]? = some y) (hl : X.N[l]? = some z) (hij : i ≠ j) (hil : i ≠ l) (hjl : j ≠ l)
    (hx : X.env.scope.names.lookup x = some .local) (hy : X.env.scope.names.lookup y = some .local) (hz : X.env.scope.names.lookup z = some .local)
    (h : EvA X [e1, e2, e3] ρ μ fun ds μ1 => ∃ d1 d2 d3, ds = [d1, d2, d3] ∧ R (.nx (((ρ.set i (some d1)).set j (some d2)).set l (some d3)) μ1))
    (hw : swappedStores [.Tuple [.Name x px, .Name y py, .Name z pz] kt pt] (.Tuple [e1, e2, e3] k2 pt2) X.env = pure (some [x, y, z]) := by rfl)
    (hs : swapsWithSole [.Tuple [.Name x px, .Name y py, .Name z pz] kt pt] (.Tuple [e1, e2, e3] k2 pt2) pos.line X.env = pure false := by rfl) :
    St X (.Assign [.Tuple [.Name x px, .Name y py, .Name z pz] kt pt] (.Tuple [e1, e2, e3] k2 pt2) pos) ρ μ R :=
  PSw (ps_par3 hc hN hi hj hl hij hil hjl hx hy hz pa_a hw hs) fun D σ H ⟨α, E, q⟩ => ⟨_, h, α, E, fun vs ds α1 μ1 H1 ⟨d1, d2, d3, e, r⟩ E1 X1 hv => by
    subst e
    obtain ⟨v, u, t, rfl, hv1, hv2, hv3⟩ := hasL3 hv
    exact ⟨v, u, t, rfl, q.1 _ _ α1 μ1 H1 r (((E1.set i hv1).set j hv2).set l hv3) X1⟩⟩
/-- y = [e for x in xs] -/
theorem St.setLc {R : Co} {elt iter : Expr} {scope : Scope} {x y : Str} {px py spos : Pos} (i j : Nat) (hc : X.calm = true) (hN : X.N.Nodup) (hy : X.N[i]? = some y) (hyl : X.env.scope.names.lookup y = some .local)
    (hsw : swapsWith (.ListComp elt [⟨.Name x px, iter, [], 0⟩] scope pos) (some (.Name y py)) spos.line X.env = pure true) (hj : X.N[j]? = some x) (ok : BlkOk X.N X.env.scope scope [(x, j)])
    (hl : ∀ (s : Shared) (H : Hp) (C : Addr) (cl : List (Str × Addr)) (fp : List Addr), Loc (blkX X s H scope C cl fp).env.scope x ∧ ((blkX X s H scope C cl fp).fn x = true ∨ (blkX X s H scope C cl fp).env.scope.names.lookup x = some .local))
    (h : LcOk X scope elt iter x px j ρ μ fun d μ1 => R (.nx (ρ.set i (some d)) μ1)) (hs : ∀ x, foldedSetIterable iter X.env x = pure x := by intro _; rfl) :
    St X (.Assign [.Name y py] (.ListComp elt [⟨.Name x px, iter, [], 0⟩] scope pos) spos) ρ μ R :=
  PSw (ps_setLc (own := [(x, j)]) (g := gName j) hc hN hy hyl hsw pi_a ok (fun s H C cl fp => pg_name hN hj (hl s H C cl fp).1 (hl s H C cl fp).2) (fun s H C cl fp => pts_aB s H C cl fp) (fun s H C cl fp => pe_aB s H C cl fp) hs)
    fun D σ H ⟨α, E, q⟩ => lc_S0 h σ H _ ⟨α, E, fun v d α1 μ1 H1 r1 E1 X1 hv => q.1 _ _ α1 μ1 H1 r1 (E1.set i hv) X1⟩
end
end Eg

namespace Eg
open PySem PySem.Spec PyProof.Rows L2
section
variable {P : Program} {w : World} {K : PySem.W.Frag} {mg : Str → Option Value} {base : Heap}
/-- THE RULE for a def -/
theorem FnG.mk2 {x : Str} {params : Arguments} {body : List Stmt} {scope : Scope} {kws : List (Str × V)} {f : Addr} {fd : FuncData} {N ps : List Str} {k : Nat} {C : Ctr}
    (F : FunD K x x params body scope [] kws f fd) (S : FnScope N ps scope) 
    (len : ∀ ds μ R, C ds μ R → ds.length = ps.length)
    (hb : ∀ (cd : Value) (A : Around) (outer : List PySem.Env) (s : Shared) (H : Hp), (bx P w K mg base N x scope f cd A outer s H).A.guards = some [] → Room k (bx P w K mg base N x scope f cd A outer s H).A → (bx P w K mg base N x scope f cd A outer s H).N.Nodup →
      ∀ ds μ R, C ds μ R → Sts (bx P w K mg base N x scope f cd A outer s H) body (startD N ds) μ (fin μ.length R)) : FnG P w K mg base (k + 1) f fd ps (SpD K C) := by
  refine FnG.of F S (fun vs H Q E => ?_) (fun cd A outer s H vs Q hg hr => ?_)
  · rintro ⟨α, μ, ds, R, l, h, c, _⟩
    rw [h.length]
    exact len _ _ _ c
  · rintro ⟨α, μ, ds, R, l, h, c, q⟩
    refine ⟨_, hb cd A outer s H hg hr S.nd ds μ R c, α, start_en l h, ?_, ?_, ?_, ?_⟩
    · intro ρ' σ' α' μ' H' r E' k'
      rcases r with r | ⟨r1, r2⟩
      · exact q _ _ α' μ' H' r E'.live k' .non
      · exact q _ _ _ _ _ r2 (E'.live.cutL μ.length r1) (Live.cut l E'.live k') .non
    · intro v d α' μ' H' r l' k' hv
      rcases r with r | ⟨r0, r1, r2⟩
      · exact q _ _ α' μ' H' r l' k' hv
      · exact q _ _ _ _ _ r2 (l'.cutL μ.length r1) (Live.cut l l' k') (hv.cut r0)
    · intro _ _ _ _ _ r
      exact r.elim
    · intro _ _ _ _ _ r
      exact r.elim
end
theorem seer_sys {h : Heap} (n : h.NoSeer) : ∃ mm, h.Ns sysModules mm := by
  obtain ⟨mm, z, _⟩ := n.mods
  exact ⟨mm, z⟩
/-! ### a law's end -/
section
variable {P : Program} {w : World} {K : PySem.W.Frag} {mg mb : Str → Option Value} {k : Nat} {fa a : Addr} {fd : FuncData} {x : Str} {sp : Sp} {s₁ : Shared} {vs : List Value} {ns : List Int}
/-- the heap at the call: the script alone is told of, and not that if the text itself holds it -/
theorem law_goS (KX : K.In s₁.heap) (hns : s₁.heap.Ns mainGlobals mg) (hbl : s₁.heap.Ns builtinsNs mb) (hbb : ∀ x : Str, x ≠ "__name__" → mb x = bootBuiltins x) (hlim : s₁.heap.NoLimit) (hgen : s₁.gens = #[]) (hsys : ∃ mm, s₁.heap.Ns sysModules mm)
    (ha : s₁.heap.get? a = some { cls := .type "list", data := .seq vs.toArray }) (hi : IntsAre vs ns) (hl : ns.length ≤ sizeLine) (hr : Room k callerA)
    (F : ∀ base : Heap, K.In base → base.Ns mainGlobals mg → (∃ mm, base.Ns sysModules mm) → FnG P w K mg base k fa fd [x] sp) (hbind : ∀ (s : Shared) (u : Value), BindsTo s fd ⟨[u], []⟩ [(x, u)])
    (hsp : ∀ H : Hp, ((∀ b, H b = none) ∧ WrL K a (ns.map V.int)) ∨ (∃ o, H = fun b => if b = a then some (.frz o (.lst (ns.map V.int))) else none) → sp [.ref a] H (fun v _ => v = .bl true) E0) :
    codeAny (model P w) callerA (.call (.ref fa) ⟨[.ref a], []⟩) (fun r s' => r = .ok (.ret (.bool true)) ∧ OldK s₁.heap s'.heap ∧ s'.os = s₁.os ∧ AllBare s'.gens) s₁ := by
  have rv := vals_ints hi
  -- whatever H tells: at most of a, and of a as it stands
  have main : ∀ H : Hp, (∀ b, b ≠ a → H b = none) → (∀ u, H a = some u → u = .frz { cls := .type "list", data := .seq vs.toArray } (.lst (ns.map V.int))) → (H a = none ∨ K.lookup a = none) → sp [.ref a] H (fun v _ => v = .bl true) E0 →
      codeAny (model P w) callerA (.call (.ref fa) ⟨[.ref a], []⟩) (fun r s' => r = .ok (.ret (.bool true)) ∧ OldK s₁.heap s'.heap ∧ s'.os = s₁.os ∧ AllBare s'.gens) s₁ := by
    intro H h1 h2 h3 hq
    have ok : HOk P w H s₁.heap := by
      intro b u e
      have eb : b = a := Classical.byContradiction fun z => by
        rw [h1 b z] at e
        cases e
      subst eb
      have eu := h2 u e
      subst eu
      exact ⟨ha, by rw [List.length_map]; exact hl, vs, 0, rv, ha⟩
    have none_of_dict : ∀ {b : Addr} {o : Obj} {es : Array DictEntry} {ep : Nat}, s₁.heap.get? b = some o → o.data = .dict es ep → H b = none := by
      intro b o es ep e d
      refine h1 b fun z => ?_
      rw [z, ha] at e
      have := Option.some.inj e
      subst this
      cases d
    have ns_of : ∀ {b : Addr} {m : Str → Option Value}, s₁.heap.Ns b m → (hidT s₁.heap H).Ns b m := by
      rintro b m ⟨o, es, ep, e, d, r⟩
      exact ⟨o, es, ep, hidT_get e (none_of_dict e d), d, r⟩
    have kin : K.In (hidT s₁.heap H) := by
      intro b o e
      refine hidT_get (KX b o e) ?_
      by_cases z : b = a
      · subst z
        rcases h3 with h3 | h3
        · exact h3
        · rw [h3] at e
          cases e
      · exact h1 b z
    obtain ⟨mc, c1, c2⟩ := hlim
    have env0 : Env0 P w K mg (hidT s₁.heap H) callerA [] s₁ H :=
      ⟨rfl, ⟨kin, ns_of hns, ⟨mb, ns_of hbl, hbb⟩, mc, ns_of c1, c2⟩, fun _ _ e => of_hidT e, Nat.le_of_eq (hidT_size _ _), trivial, fun b z => absurd (show b ∈ ([] : List Addr) from z) List.not_mem_nil, ok, .of_eq hgen⟩
    refine codeAny_mono ((F _ kin (ns_of hns) (hsys.imp fun _ z => ns_of z)).go callerA [] s₁ H ⟨[.ref a], []⟩ [.ref a] [.ref a] _ rfl hr env0 (hbind s₁ (.ref a)) (.cons rfl .nil) hq) fun r s' z => ?_
    match r, z with
    | .ok (.ret u), ⟨v, H', os, bare, un, ok', rv', q⟩ =>
      have q' : v = .bl true := q
      subst q'
      have eu : u = Value.bool true := rv'
      subst eu
      refine ⟨rfl, OldK.of_keep fun b o e => ?_, os, bare⟩
      by_cases z : H b = none
      · exact un.keep b o e z (fun y => absurd (show b ∈ ([] : List Addr) from y) List.not_mem_nil) List.not_mem_nil
      · have eb : b = a := Classical.byContradiction fun y => z (h1 b y)
        subst eb
        cases hu : H b with
        | none => exact absurd hu z
        | some u =>
          have eu := h2 u hu
          rw [eu] at hu
          have t := (ok' b _ (un.frzs b _ _ hu)).1
          rw [ha] at e
          cases e
          exact t
    | .ok .next, z => exact z.elim
    | .ok .brk, z => exact z.elim
    | .ok .cont, z => exact z.elim
    | .error e, z => exact z.elim
  cases hk : K.lookup a with
  | none =>
    refine main (fun b => if b = a then some (.frz { cls := .type "list", data := .seq vs.toArray } (.lst (ns.map V.int))) else none) (fun b z => if_neg z) (fun u e => ?_) (.inr hk) (hsp _ (.inr ⟨_, rfl⟩))
    rw [if_pos rfl] at e
    exact (Option.some.inj e).symm
  | some o =>
    have eo : o = { cls := .type "list", data := .seq vs.toArray } := by
      have z := KX a o hk
      rw [ha] at z
      exact (Option.some.inj z).symm
    subst eo
    refine main (fun _ => none) (fun _ _ => rfl) (fun u e => nomatch e) (.inl rfl) (hsp _ (.inl ⟨fun _ => rfl, .inr ⟨_, vs.toArray, 0, hk, rfl, rfl, rfl, ?_, ?_⟩⟩))
    · have e1 := hi.length
      rw [List.size_toArray]
      omega
    · exact rv
end
theorem walk_S {l : PySem.W.OpenLaw} {n k : Nat} {q : Program} {loose : List Str} {XP : (Str → Option Value) → Heap → Prop} {YP : World → Heap → Prop} {d : DefRec} {C : Ctr}
    (hn : l.most = some n) (hn2 : n ≤ sizeLine) (hdf : d.params.defaults = []) (himp : PyProof.Rows.importsNone q = true) (hr : Room k callerA)
    (hC : ∀ ns : List Int, ns.length ≤ n → (∀ z ∈ ns, Builtin.Int.intBits z ≤ 1048576) → C [scD ns] [] fun d _ => d = .bl true)
    (F : ∀ (w : World) (mg : Str → Option Value) (fa : Addr) (h : Heap), YP w h → h.Ns mainGlobals mg → mg d.name = some (.ref fa) →
      ∃ (K : PySem.W.Frag) (fd : FuncData) (x : Str), K.In h ∧ (∀ (s : Shared) (u : Value), BindsTo s fd ⟨[u], []⟩ [(x, u)]) ∧ ∀ base : Heap, K.In base → base.Ns mainGlobals mg → (∃ mm, base.Ns sysModules mm) → FnG l.prog w K mg base k fa fd [x] (SpD K C)) :
    PySem.W.WalkO q loose XP YP l.row.toRowW d [] (fun f vs => PySem.call f vs) := by
  refine Att.attach_callB hn hdf fun w s₀ s₁ mg mb fa o pm cd doc a vs ns G Y ho hd hcd hmg hobj hints hlen hbits hg => ?_
  obtain ⟨K, fd, x, KX, hb, hF⟩ := F w mg fa _ Y G.T.g hmg
  refine law_goS KX G.T.g G.T.b G.T.builtins G.T.nolimit hg (seer_sys (G.T.seer himp)) hobj hints (Nat.le_trans hlen hn2) hr hF hb fun H hH => ?_
  have l0 : Live ⟨K, [], [], H⟩ := ⟨rfl, List.nodup_nil, fun _ h => absurd h List.not_mem_nil, fun k a o h => by simp at h⟩
  refine ⟨[], [], [scD ns], fun d _ => d = .bl true, l0, .cons (.lst ?_ (sc_has ns)) .nil, hC ns hlen hbits, ?_⟩
  · rcases hH with ⟨_, h⟩ | ⟨o, rfl⟩
    · exact .inr h
    · refine .inl ⟨?_, .inr ⟨o, if_pos rfl⟩⟩
      rintro ⟨k, u, h1, _⟩
      simp at h1
  · rintro v d α' μ' H' rfl _ _ hv
    cases hv
    rfl
end Eg

namespace Eg
open PySem PySem.Spec L2
/-! ### x is None -/
def DV.isN : DV → Bool
  | .non => true
  | _ => false
theorem isN_has {w : Wd} {v : V} {d : DV} (h : Has w v d) : decide (v = V.non) = DV.isN d := by
  cases h <;> simp [DV.isN]
def sIsN : S2 := fun x y μ R => y = .non ∧ R (.bl (DV.isN x)) μ
def sNotN : S2 := fun x y μ R => y = .non ∧ R (.bl (!DV.isN x)) μ
section
variable {X : Cx} {a b c e o : Expr} {ρ : RO} {μ : List MO} {pos p : Pos}
theorem rIsN_S : R2S X (fun x y H Q => y = .non ∧ Q (.bl (decide (x = .non))) H) sIsN := fun α μ H σ ρ x y da db R Q E hx hy h q => by
  obtain ⟨rfl, r⟩ := h
  cases hy
  refine ⟨rfl, ?_⟩
  rw [isN_has hx]
  exact q.sc E r .bl
theorem rNotN_S : R2S X (fun x y H Q => y = .non ∧ Q (.bl (!decide (x = .non))) H) sNotN := fun α μ H σ ρ x y da db R Q E hx hy h q => by
  obtain ⟨rfl, r⟩ := h
  cases hy
  refine ⟨rfl, ?_⟩
  rw [isN_has hx]
  exact q.sc E r .bl
theorem Ev.isN {R : Cn} (h : Ev X a ρ μ fun da μ1 => Ev X b ρ μ1 fun db μ2 => sIsN da db μ2 R) : Ev X (.Compare a [.Is] [b] pos) ρ μ R := .cmp op_isN rIsN_S (nomark _) h
theorem Ev.notN {R : Cn} (h : Ev X a ρ μ fun da μ1 => Ev X b ρ μ1 fun db μ2 => sNotN da db μ2 R) : Ev X (.Compare a [.IsNot] [b] pos) ρ μ R := .cmp op_notN rNotN_S (nomark _) h
theorem EvT.isN {R : Ct} (h : Ev X a ρ μ fun da μ1 => Ev X b ρ μ1 fun db μ2 => sIsN da db μ2 (toT R)) : EvT X (.Compare a [.Is] [b] pos) ρ μ R := .cmpS op_isN rIsN_S (nomark _) h
theorem EvT.notN {R : Ct} (h : Ev X a ρ μ fun da μ1 => Ev X b ρ μ1 fun db μ2 => sNotN da db μ2 (toT R)) : EvT X (.Compare a [.IsNot] [b] pos) ρ μ R := .cmpS op_notN rNotN_S (nomark _) h
theorem sIsN.mk {d : DV} {R : Cn} (r : R (.bl (DV.isN d)) μ) : sIsN d .non μ R := ⟨rfl, r⟩
theorem sNotN.mk {d : DV} {R : Cn} (r : R (.bl (!DV.isN d)) μ) : sNotN d .non μ R := ⟨rfl, r⟩
/-! ### == and != of data as values -/
theorem Ev.eqD {R : Cn} (hu : X.A.units + 64 < cLine) (h : Ev X a ρ μ fun da μ1 => Ev X b ρ μ1 fun db μ2 => sEqD da db μ2 R) : Ev X (.Compare a [.Eq] [b] pos) ρ μ R := .cmp (op_eqD hu) rEqD_S (nomark _) h
theorem Ev.neD {R : Cn} (hu : X.A.units + 64 < cLine) (h : Ev X a ρ μ fun da μ1 => Ev X b ρ μ1 fun db μ2 => sNeD da db μ2 R) : Ev X (.Compare a [.NotEq] [b] pos) ρ μ R := .cmp (op_neD hu) rNeD_S (nomark _) h
/-! ### texts: +, order, in -/
def sStr (C : Str → Str → Prop) (g : Str → Str → DV) : S2 := fun x y μ R => ∃ i j, x = .str i ∧ y = .str j ∧ C i j ∧ R (g i j) μ
def sAddS : S2 := sStr (fun i j => i.length + j.length ≤ sizeLine) fun i j => .str (i ++ j)
theorem rAddS_S : R2S X (fun x y H Q => ∃ i j, x = .str i ∧ y = .str j ∧ i.length + j.length ≤ sizeLine ∧ Q (.str (i ++ j)) H) sAddS := fun α μ H σ ρ x y da db R Q E hx hy h q => by
  obtain ⟨i, j, rfl, rfl, c, r⟩ := h
  cases hx
  cases hy
  exact ⟨i, j, rfl, rfl, c, q.sc E r .str⟩
theorem Ev.addS {R : Cn} (h : Ev X a ρ μ fun da μ1 => Ev X b ρ μ1 fun db μ2 => sAddS da db μ2 R) : Ev X (.BinOp a .Add b pos) ρ μ R := .op op_add_str rAddS_S h
def sCmpS (g : Str → Str → Bool) : S2 := fun x y μ R => ∃ i j, x = .str i ∧ y = .str j ∧ R (.bl (g i j)) μ
theorem rCmpS_S {g : Str → Str → Bool} : R2S X (fun x y H Q => ∃ i j, x = .str i ∧ y = .str j ∧ Q (.bl (g i j)) H) (sCmpS g) := fun α μ H σ ρ x y da db R Q E hx hy h q => by
  obtain ⟨i, j, rfl, rfl, r⟩ := h
  cases hx
  cases hy
  exact ⟨i, j, rfl, rfl, q.sc E r .bl⟩
/-- one sign in a text -/
def sSign : S2 := fun x y μ R => ∃ (c : Nat) (z : Str), x = .str ⟨#[c]⟩ ∧ y = .str z ∧ R (.bl (decide (c ∈ z.cps.toList))) μ
theorem rSign_S : R2S X (fun x y H Q => ∃ (c : Nat) (z : Str), x = .str ⟨#[c]⟩ ∧ y = .str z ∧ Q (.bl (decide (c ∈ z.cps.toList))) H) sSign := fun α μ H σ ρ x y da db R Q E hx hy h q => by
  obtain ⟨i, j, rfl, rfl, r⟩ := h
  cases hx
  cases hy
  exact ⟨i, j, rfl, rfl, q.sc E r .bl⟩
theorem EvT.inSign {R : Ct} (h : Ev X a ρ μ fun da μ1 => Ev X b ρ μ1 fun db μ2 => sSign da db μ2 (toT R)) (hmk : behindInMarks .In b = false := by rfl) : EvT X (.Compare a [.In] [b] pos) ρ μ R := .cmpS op_in_sign rSign_S hmk h
theorem Ev.inSign {R : Cn} (h : Ev X a ρ μ fun da μ1 => Ev X b ρ μ1 fun db μ2 => sSign da db μ2 R) (hmk : behindInMarks .In b = false := by rfl) : Ev X (.Compare a [.In] [b] pos) ρ μ R := .cmp op_in_sign rSign_S hmk h
/-! ### x in xs, all of it flat -/
def flatL : List DV → Option (List V)
  | [] => some []
  | d :: r => (DV.flat d).bind fun v => (flatL r).map (v :: ·)
theorem flatL_has {w : Wd} : ∀ {vs : List V} {ds : List DV} {us : List V}, HasL w vs ds → flatL ds = some us → vs = us
  | _, _, _, .nil, e => by cases e; rfl
  | _, _, _, .cons h t, e => by
    obtain ⟨u, e1, e2⟩ := Option.bind_eq_some_iff.mp e
    obtain ⟨us, e3, e4⟩ := Option.map_eq_some_iff.mp e2
    subst e4
    rw [flat_has h e1, flatL_has t e3]
theorem flat_flatV {d : DV} {v : V} (e : DV.flat d = some v) : flatV v = true := by
  cases d <;> first | (cases e; rfl) | cases e
theorem flatL_all : ∀ {ds : List DV} {us : List V}, flatL ds = some us → us.all flatV = true
  | [], _, e => by cases e; rfl
  | d :: r, _, e => by
    obtain ⟨u, e1, e2⟩ := Option.bind_eq_some_iff.mp e
    obtain ⟨us, e3, e4⟩ := Option.map_eq_some_iff.mp e2
    subst e4
    rw [List.all_cons, flat_flatV e1, flatL_all e3]
    rfl
def sIn (neg : Bool) : S2 := fun x y μ R => ∃ ds u us, itemsD μ y = some ds ∧ DV.flat x = some u ∧ flatL ds = some us ∧ R (.bl (if neg then !inV u us else inV u us)) μ
theorem rIn_S {neg : Bool} : R2S X (rIn X.K neg) (sIn neg) := fun α μ H σ ρ x y da db R Q E hx hy h q => by
  obtain ⟨ds, u, us, e1, e2, e3, r⟩ := h
  obtain ⟨p, vs, rfl, hl, s⟩ := seq_of E.live hy e1
  have ex := flat_has hx e2
  have es := flatL_has hl e3
  subst ex es
  exact ⟨p, vs, rfl, s, flat_flatV e2, flatL_all e3, q.sc E r .bl⟩
theorem Ev.inL {R : Cn} (h : Ev X a ρ μ fun da μ1 => Ev X b ρ μ1 fun db μ2 => sIn false da db μ2 R) (hmk : behindInMarks .In b = false := by rfl) : Ev X (.Compare a [.In] [b] pos) ρ μ R := .cmp op_in_seq rIn_S hmk h
theorem EvT.inL {R : Ct} (h : Ev X a ρ μ fun da μ1 => Ev X b ρ μ1 fun db μ2 => sIn false da db μ2 (toT R)) (hmk : behindInMarks .In b = false := by rfl) : EvT X (.Compare a [.In] [b] pos) ρ μ R := .cmpS op_in_seq rIn_S hmk h
theorem Ev.notInL {R : Cn} (h : Ev X a ρ μ fun da μ1 => Ev X b ρ μ1 fun db μ2 => sIn true da db μ2 R) (hmk : behindInMarks .NotIn b = false := by rfl) : Ev X (.Compare a [.NotIn] [b] pos) ρ μ R := .cmp op_notIn_seq rIn_S hmk h
theorem EvT.notInL {R : Ct} (h : Ev X a ρ μ fun da μ1 => Ev X b ρ μ1 fun db μ2 => sIn true da db μ2 (toT R)) (hmk : behindInMarks .NotIn b = false := by rfl) : EvT X (.Compare a [.NotIn] [b] pos) ρ μ R := .cmpS op_notIn_seq rIn_S hmk h
/-! ### tuples and lists put behind each other -/
def sCatT : S2 := fun x y μ R => ∃ xs ys, x = .tup xs ∧ y = .tup ys ∧ xs.length + ys.length ≤ sizeLine ∧ R (.tup (xs ++ ys)) μ
theorem rCatT_S : R2S X (rCatA X.K) sCatT := fun α μ H σ ρ x y da db R Q E hx hy h q => by
  obtain ⟨xs, ys, rfl, rfl, c, r⟩ := h
  cases hx with
  | @tup a vs _ s1 t1 =>
    cases hy with
    | @tup b us _ s2 t2 =>
      refine ⟨a, b, vs, us, rfl, rfl, s1, s2, by rw [t1.length, t2.length]; exact c, ?_, ?_, ?_⟩
      · rintro rfl
        have e : xs = [] := List.length_eq_zero_iff.mp t1.length.symm
        subst e
        exact q.sc E r (.tup s2 t2)
      · rintro _ rfl
        have e : ys = [] := List.length_eq_zero_iff.mp t2.length.symm
        subst e
        rw [List.append_nil] at r
        exact q.sc E r (.tup s1 t1)
      · intro _ _ p np
        obtain ⟨k, l⟩ := E.live.lay (o := .tup (vs ++ us)) np
        exact q _ _ α μ _ r (E.ext k l) k (.tup (.of upd_same) (k.hasL (HasL.app t1 t2)))
theorem Ev.catT {R : Cn} (h : Ev X a ρ μ fun da μ1 => Ev X b ρ μ1 fun db μ2 => sCatT da db μ2 R) : Ev X (.BinOp a .Add b pos) ρ μ R := .op op_catA rCatT_S h
/-- both are lists that may be changed; the new one is such a list too -/
def sCatM : S2 := fun x y μ R => ∃ i j xs ys, x = .mu i ∧ y = .mu j ∧ μ[i]? = some (.lst xs) ∧ μ[j]? = some (.lst ys) ∧ xs.length + ys.length ≤ sizeLine ∧ R (.mu μ.length) (μ ++ [.lst (xs ++ ys)])
theorem rCatM_S : R2S X rCat sCatM := fun α μ H σ ρ x y da db R Q E hx hy h q => by
  obtain ⟨i, j, xs, ys, rfl, rfl, h1, h2, c, r⟩ := h
  cases hx with
  | mu ha =>
    cases hy with
    | mu hb =>
      obtain ⟨vs, z1, z2⟩ := E.live.ob i _ _ ha h1
      obtain ⟨us, y1, y2⟩ := E.live.ob j _ _ hb h2
      refine ⟨_, _, vs, us, rfl, rfl, z1, y1, by rw [z2.length, y2.length]; exact c, fun p np => ?_⟩
      obtain ⟨k, l, e⟩ := E.live.layM (o := .lst (vs ++ us)) (m := .lst (xs ++ ys)) np (fun _ k => ⟨_, upd_same, k.hasL (HasL.app z2 y2)⟩)
      exact q _ _ _ _ _ r (E.ext k l) k (.mu e)
theorem Ev.catM {R : Cn} (h : Ev X a ρ μ fun da μ1 => Ev X b ρ μ1 fun db μ2 => sCatM da db μ2 R) : Ev X (.BinOp a .Add b pos) ρ μ R := .op op_cat rCatM_S h
/-! ### max, min of numbers -/
def sMax : SA := fun ds μ R => ∃ d ns, ds = [d] ∧ itemsD μ d = some (List.map DV.int ns) ∧ (∀ xs, d ≠ .tup xs) ∧ 0 < ns.length ∧ ∀ m, m ∈ ns → (∀ y, y ∈ ns → y ≤ m) → R (.int m) μ
def sMin : SA := fun ds μ R => ∃ d ns, ds = [d] ∧ itemsD μ d = some (List.map DV.int ns) ∧ (∀ xs, d ≠ .tup xs) ∧ 0 < ns.length ∧ ∀ m, m ∈ ns → (∀ y, y ∈ ns → m ≤ y) → R (.int m) μ
theorem ints_has {w : Wd} : ∀ {vs : List V} {ns : List Int}, HasL w vs (ns.map DV.int) → vs = ns.map V.int
  | _, [], .nil => rfl
  | _, n :: r, .cons h t => by
    cases h
    rw [List.map_cons, ints_has t]
theorem lst_of {w : Wd} {v : V} {d : DV} {ds : List DV} (l : Live w) (h : Has w v d) (e : itemsD w.μ d = some ds) (n : ∀ xs, d ≠ .tup xs) : ∃ p vs, v = .ref p ∧ HasL w vs ds ∧ SqL w.K w.H p vs := by
  cases d with
  | tup xs => exact absurd rfl (n xs)
  | lst xs =>
    cases e
    cases h with
    | lst hz t =>
      rcases hz with ⟨_, hz⟩ | hz
      · exact ⟨_, _, rfl, t, .inl hz⟩
      · exact ⟨_, _, rfl, t, hz.sq⟩
  | mu k =>
    cases h with
    | mu ha =>
      have e' : (match w.μ[k]? with | some (.lst ds) => some ds | _ => none) = some ds := e
      cases hk : w.μ[k]? with
      | none => rw [hk] at e'; cases e'
      | some m =>
        rw [hk] at e'
        cases m with
        | lst zs =>
          cases e'
          obtain ⟨vs, z1, z2⟩ := l.ob k _ _ ha hk
          exact ⟨_, vs, rfl, z2, .inl (.inl z1)⟩
        | _ => cases e'
  | _ => cases e
theorem max_S : RaS X (rMax X.K) sMax := fun α μ H σ ρ vs ds R Q E hv h q => by
  obtain ⟨d, ns, rfl, e, nt, h0, r⟩ := h
  obtain ⟨v, rfl, hw⟩ := hasL1 hv
  obtain ⟨p, us, rfl, hl, s⟩ := lst_of E.live hw e nt
  have eu := ints_has hl
  subst eu
  exact ⟨p, ns, rfl, s, h0, fun m h1 h2 => q.sc E (r m h1 h2) .int⟩
theorem min_S : RaS X (rMin X.K) sMin := fun α μ H σ ρ vs ds R Q E hv h q => by
  obtain ⟨d, ns, rfl, e, nt, h0, r⟩ := h
  obtain ⟨v, rfl, hw⟩ := hasL1 hv
  obtain ⟨p, us, rfl, hl, s⟩ := lst_of E.live hw e nt
  have eu := ints_has hl
  subst eu
  exact ⟨p, ns, rfl, s, h0, fun m h1 h2 => q.sc E (r m h1 h2) .int⟩
theorem Ev.max1 {R : Cn} (hc : X.calm = true) (hg : Gl X "max") (hm : X.mg "max" = none) (h : EvA X [a] ρ μ fun ds μ1 => sMax ds μ1 R) (he : starEach [a] X.env = (false, eval a X.env) :: starEach [] X.env := by rfl) :
    Ev X (.Call (.Name "max" p) [a] [] pos) ρ μ R := .callB (cr_max hc) max_S hg hm PyProof.Rows.boot_max h (by decide) (by decide) he rfl
theorem Ev.min1 {R : Cn} (hc : X.calm = true) (hg : Gl X "min") (hm : X.mg "min" = none) (h : EvA X [a] ρ μ fun ds μ1 => sMin ds μ1 R) (he : starEach [a] X.env = (false, eval a X.env) :: starEach [] X.env := by rfl) :
    Ev X (.Call (.Name "min" p) [a] [] pos) ρ μ R := .callB (cr_min hc) min_S hg hm PyProof.Rows.boot_min h (by decide) (by decide) he rfl
/-! ### isinstance of data -/
def DV.ty : DV → Option String
  | .non => some "NoneType"
  | .bl _ => some "bool"
  | .int _ => some "int"
  | .str _ => some "str"
  | .tup _ => some "tuple"
  | .lst _ => some "list"
  | .dic _ => some "dict"
  | _ => none
theorem ty_has {w : Wd} {v : V} {d : DV} {t : String} (h : Has w v d) (e : DV.ty d = some t) : TyX w.K w.H v (.type t) := by
  cases h with
  | non => cases e; exact .base .non
  | bl => cases e; exact .base (.bl _)
  | int => cases e; exact .base (.int _)
  | str => cases e; exact .base (.str _)
  | tup s _ =>
    cases e
    rcases s with (s | ⟨o, s⟩) | ⟨o, its, n, s, s1, _⟩
    · exact .base (.tup s)
    · exact .fTuple s
    · exact .kTuple s s1
  | lst s _ =>
    cases e
    have sq : ∀ {p : Addr} {vs : List V}, (¬w.lv p ∧ Rd w.H p (HO.lst vs) ∨ WrL w.K p vs) → SqL w.K w.H p vs := fun s => by
      rcases s with ⟨_, s⟩ | s
      · exact .inl s
      · exact s.sq
    rcases sq s with (s | ⟨o, s⟩) | ⟨o, its, n, s, s1, _⟩
    · exact .base (.lst s)
    · exact .base (.frz s)
    · exact .kList s s1
  | dic _ s _ => cases e; exact .base (.dK s)
  | exc _ _ _ => cases e
  | exc0 _ => cases e
  | mu _ => cases e
theorem Ev.isi {R : Cn} {y : Str} {py : Pos} {T : String} (hg : Gl X "isinstance") (hm : X.mg "isinstance" = none) (gy : Gl X y) (my : X.mg y = none) (hy : bootBuiltins y = some (.type T)) (ny : y ≠ "__name__") (dy : (y == ("__debug__" : Str)) = false)
    (h : Ev X e ρ μ fun d μ1 => ∃ t b, DV.ty d = some t ∧ PySem.W.kitOne X.K (.type t) (.type T) = some b ∧ R (.bl b) μ1)
    (he : starEach [e, .Name y py] X.env = (false, eval e X.env) :: starEach [.Name y py] X.env := by rfl) (hpl : (backTo pos (starEach [.Name y py] X.env)).any (·.1) = false := by rfl)
    (hs : starEach [.Name y py] X.env = (false, eval (.Name y py) X.env) :: starEach [] X.env := by rfl) : Ev X (.Call (.Name "isinstance" p) [e, .Name y py] [] pos) ρ μ R :=
  PEw (pe_callB call_isi hg hm PyProof.Rows.boot_isinstance (pa_cons pe_a (pa_cons (pe_bltn (v := .ty T) gy my hy rfl ny dy) pa_nil hs) he) (by decide) (by decide) he hpl) fun σ H Q ⟨α, E, q⟩ => ⟨_, h, α, E, fun v d α1 μ1 H1 ⟨t, b, e1, e2, r⟩ E1 X1 hv =>
    ⟨v, .ty T, .type t, .type T, b, rfl, .ty T, ty_has (w := ⟨X.K, α1, μ1, H1⟩) hv e1, e2, q _ _ α1 μ1 H1 r E1 X1 .bl⟩⟩
end
end Eg

namespace Eg
open PySem PySem.Spec L2
/-! ### own defs called by names -/
def permI {α : Type} (ix : List Nat) (xs : List α) : List α := ix.filterMap fun i => xs[i]?
theorem vals_at {vs : List V} {us : List Value} (h : Vals vs us) : ∀ i : Nat, (∃ v u, vs[i]? = some v ∧ us[i]? = some u ∧ RelV v u) ∨ (vs[i]? = none ∧ us[i]? = none) := by
  induction h with
  | nil => exact fun i => .inr ⟨rfl, rfl⟩
  | cons r t ih =>
    intro i
    cases i with
    | zero => exact .inl ⟨_, _, rfl, rfl, r⟩
    | succ i => exact ih i
theorem vals_perm {vs : List V} {us : List Value} (h : Vals vs us) : ∀ ix : List Nat, Vals (permI ix vs) (permI ix us)
  | [] => .nil
  | i :: r => by
    have ih := vals_perm h r
    unfold permI at ih ⊢
    rcases vals_at h i with ⟨v, u, e1, e2, rv⟩ | ⟨e1, e2⟩
    · rw [List.filterMap_cons_some (f := fun i => vs[i]?) e1, List.filterMap_cons_some (f := fun i => us[i]?) e2]
      exact .cons rv ih
    · rw [List.filterMap_cons_none (f := fun i => vs[i]?) e1, List.filterMap_cons_none (f := fun i => us[i]?) e2]
      exact ih
theorem hasL_perm {w : Wd} {vs : List V} {ds : List DV} (h : HasL w vs ds) : ∀ ix : List Nat, HasL w (permI ix vs) (permI ix ds)
  | [] => .nil
  | i :: r => by
    have ih := hasL_perm h r
    unfold permI at ih ⊢
    by_cases hi : i < ds.length
    · obtain ⟨v, e1, e2⟩ := h.get (List.getElem?_eq_getElem hi)
      rw [List.filterMap_cons_some (f := fun i => vs[i]?) e1, List.filterMap_cons_some (f := fun i => ds[i]?) (List.getElem?_eq_getElem hi)]
      exact .cons e2 ih
    · have e1 : ds[i]? = none := List.getElem?_eq_none (by omega)
      have e2 : vs[i]? = none := List.getElem?_eq_none (by rw [h.length]; omega)
      rw [List.filterMap_cons_none (f := fun i => vs[i]?) e2, List.filterMap_cons_none (f := fun i => ds[i]?) e1]
      exact ih
/-- the def of a name as Fn tells it, and how it takes the names ks -/
def FnW (P : Program) (w : World) (K : PySem.W.Frag) (mg : Str → Option Value) (base : Heap) (x : Str) (k : Nat) (C : Ctr) (ks : List Str) (ix : List Nat) : Prop :=
  ∃ f fd ps, FnG P w K mg base k f fd ps (SpD K C) ∧ mg x = some (.ref f) ∧ PySem.W.keepIn K (.ref f) = true ∧ ∀ (s : Shared) (us : List Value), us.length = ks.length → BindsTo s fd ⟨[], ks.zip us⟩ (ps.zip (permI ix us))
section
variable {P : Program} {w : World} {K : PySem.W.Frag} {mg : Str → Option Value} {base : Heap}
theorem FnW.mk {x : Str} {params : Arguments} {body : List Stmt} {scope : Scope} {kws : List (Str × V)} {f : Addr} {fd : FuncData} {ps : List Str} {k : Nat} {C : Ctr} (F : FunD K x x params body scope [] kws f fd) (G : FnG P w K mg base k f fd ps (SpD K C)) (hm : mg x = some (.ref f))
    (ks : List Str) (ix : List Nat) (hb : ∀ (kV doc pm : Value) (an : Option Addr) (cdv ct : Value) (us : List Value), us.length = ks.length → bindArgs (PySem.W.fnOf x x params body scope .none kV doc pm an cdv ct) ⟨[], ks.zip us⟩ = pure (ps.zip (permI ix us))) : FnW P w K mg base x k C ks ix := by
  refine ⟨f, fd, ps, G, hm, F.kp, ?_⟩
  obtain ⟨oc, od, dV, kV, doc, pm, an, cd, ct, osl, rfl, lk, hcd, hD, _⟩ := F.ex
  have hdV : dV = .none := by
    rcases hD with ⟨_, z⟩ | ⟨z, _⟩
    · exact z
    · exact absurd rfl z
  subst hdV
  intro s us hl M A E Q q
  rw [hb kV doc pm an cd ct us hl]
  exact wpAny_pure q
end
section
variable {X : Cx} {e : Expr} {es : List Expr} {kws : List Keyword} {ρ : RO} {μ : List MO} {pos p : Pos} {R : Cn} {x : Str} {k : Nat} {C : Ctr} {ks : List Str} {ix : List Nat}
theorem Ev.callW (F : FnW X.prog X.w X.K X.mg X.base x k C ks ix) (hA : X.A.guards = some []) (hr : Room k X.A) (hg : Gl X x) (h : EvK X kws ρ μ fun ds μ1 => ds.length = ks.length ∧ C (permI ix ds) μ1 R)
    (hdb : (x == ("__debug__" : Str)) = false := by decide) (hall : (backToKw pos (keywordEach kws X.env)).all (·.1.isSome) = true := by rfl) (hks : (backToKw pos (keywordEach kws X.env)).filterMap (·.1) = ks := by rfl)
    (hpl : ((backTo pos (starEach [] X.env)).any (·.1) || (backToKw pos (keywordEach kws X.env)).any (·.1.isNone)) = false := by rfl) : Ev X (.Call (.Name x p) [] kws pos) ρ μ R := by
  obtain ⟨f, fd, ps, G, hm, hk, hb⟩ := F
  refine ⟨fun pins s σ H Q I ⟨α, E, q⟩ => wpAny_Call_Name_kw (ld_glob I hg hm ?_ hdb)⟩
  have ha : PK X kws (tEvA X ρ μ fun ds μ1 => ds.length = ks.length ∧ C (permI ix ds) μ1 R) := h
  refine PySem.W.callWith_KW0 (h₀ := X.base) I.ok.mod.kin hk hall (thn (ha.run pos pins s σ H (fun vs H1 => vs.length = ks.length ∧ SpD X.K C (permI ix vs) H1 (fun v H' => Q v H') E0) I ⟨α, E, ?_⟩) ?_) hpl
  · intro vs ds α1 μ1 H1 ⟨hn, c⟩ E1 X1 hv
    exact ⟨hv.length.trans hn, α1, μ1, permI ix ds, R, E1.live, hasL_perm hv ix, c, fun v d α' μ' H' r l k' hd => q v d α' μ' H' r (E1.ext k' l) (X1.trans k') hd⟩
  · rintro us s1 ⟨vs, H1, I1, rv, hn, sp⟩
    refine ⟨I1.kIn, ?_⟩
    rw [hks]
    refine wpAny_call (codeAny_mono (G.go X.A X.stack s1 H1 ⟨[], ks.zip us⟩ (permI ix us) (permI ix vs) Q hA hr I1.env0 (hb s1 us (rv.length.symm.trans hn)) (vals_perm rv ix) sp) fun r s2 hq => ?_)
    cases r with
    | error er => exact False.elim hq
    | ok fl =>
      cases fl with
      | ret u => exact I1.after hq
      | next => exact False.elim hq
      | brk => exact False.elim hq
      | cont => exact False.elim hq
end
/-! ### [e for x in xs if c] -/
section
variable {X : Cx} {ρ : RO} {μ : List MO} {pos : Pos}
def LcIf (X : Cx) (scope : Scope) (elt iter c : Expr) (x : Str) (px : Pos) (i : Nat) (ρ : RO) (μ : List MO) (R : Cn) : Prop :=
  EvI X (.Name x px) iter ρ μ fun ds μ1 => ds.length ≤ sizeLine ∧ ∃ I : Nat → List DV → List MO → Prop, I 0 [] μ1 ∧
      (∀ j d acc μ2, ds[j]? = some d → μ2.length = μ1.length → I j acc μ2 → ∀ s H C cl fp, EvT (blkX X s H scope C cl fp) c (ρ.set i (some d)) (μ2 ++ [.lst acc]) fun b μ3 =>
        if b = true then ∀ s H C cl fp, Ev (blkX X s H scope C cl fp) elt (ρ.set i (some d)) μ3 fun y μ5 => ∃ μ4, μ5 = μ4 ++ [.lst acc] ∧ μ4.length = μ1.length ∧ I (j + 1) (acc ++ [y]) μ4
        else ∃ μ4, μ3 = μ4 ++ [.lst acc] ∧ μ4.length = μ1.length ∧ I (j + 1) acc μ4) ∧
      ∀ acc μ2, μ2.length = μ1.length → I ds.length acc μ2 → R (.lst acc) (μ2 ++ [.dead])
theorem lc_SI {R : Cn} {elt iter c : Expr} {scope : Scope} {x : Str} {px : Pos} {i : Nat} (h : LcIf X scope elt iter c x px i ρ μ R) (σ : L2.St) (H : Hp) (Q : VK) (q : tEv X ρ μ R σ H Q) :
    tLc (aI X (.Name x px) iter) (gName i) (aBT X scope [c]) (aB X scope elt) [i] σ H Q :=
  lc_S i (EvI.mono h fun ds μ1 ⟨hz, I, i0, turn, done⟩ => ⟨hz, I, i0, fun j d acc μ2 h1 h2 h3 => ⟨fun ρ' μ' Rt => tEvT X ρ' μ' Rt,
    fun s H C cl fp => pts_one (turn j d acc μ2 h1 h2 h3 s H C cl fp), fun _ _ _ _ _ _ z => z⟩, done⟩) σ H Q q
theorem Ev.lcIf {R : Cn} {elt iter c : Expr} {scope : Scope} {x : Str} {px : Pos} (i : Nat) (hc : X.calm = true) (hN : X.N.Nodup) (hi : X.N[i]? = some x) (ok : BlkOk X.N X.env.scope scope [(x, i)])
    (hl : ∀ (s : Shared) (H : Hp) (C : Addr) (cl : List (Str × Addr)) (fp : List Addr), Loc (blkX X s H scope C cl fp).env.scope x ∧ ((blkX X s H scope C cl fp).fn x = true ∨ (blkX X s H scope C cl fp).env.scope.names.lookup x = some .local))
    (h : LcIf X scope elt iter c x px i ρ μ R) (hs : ∀ x, foldedSetIterable iter X.env x = pure x := by intro _; rfl) : Ev X (.ListComp elt [⟨.Name x px, iter, [c], 0⟩] scope pos) ρ μ R :=
  PEw (pe_lc (own := [(x, i)]) (g := gName i) hc hN pi_a ok (fun s H C cl fp => pg_name hN hi (hl s H C cl fp).1 (hl s H C cl fp).2) (fun s H C cl fp => pts_aB s H C cl fp) (fun s H C cl fp => pe_aB s H C cl fp) hs) (lc_SI h)
theorem St.setLcIf {R : Co} {elt iter c : Expr} {scope : Scope} {x y : Str} {px py spos : Pos} (i j : Nat) (hc : X.calm = true) (hN : X.N.Nodup) (hy : X.N[i]? = some y) (hyl : X.env.scope.names.lookup y = some .local)
    (hsw : swapsWith (.ListComp elt [⟨.Name x px, iter, [c], 0⟩] scope pos) (some (.Name y py)) spos.line X.env = pure true) (hj : X.N[j]? = some x) (ok : BlkOk X.N X.env.scope scope [(x, j)])
    (hl : ∀ (s : Shared) (H : Hp) (C : Addr) (cl : List (Str × Addr)) (fp : List Addr), Loc (blkX X s H scope C cl fp).env.scope x ∧ ((blkX X s H scope C cl fp).fn x = true ∨ (blkX X s H scope C cl fp).env.scope.names.lookup x = some .local))
    (h : LcIf X scope elt iter c x px j ρ μ fun d μ1 => R (.nx (ρ.set i (some d)) μ1)) (hs : ∀ x, foldedSetIterable iter X.env x = pure x := by intro _; rfl) :
    St X (.Assign [.Name y py] (.ListComp elt [⟨.Name x px, iter, [c], 0⟩] scope pos) spos) ρ μ R :=
  PSw (ps_setLc (own := [(x, j)]) (g := gName j) hc hN hy hyl hsw pi_a ok (fun s H C cl fp => pg_name hN hj (hl s H C cl fp).1 (hl s H C cl fp).2) (fun s H C cl fp => pts_aB s H C cl fp) (fun s H C cl fp => pe_aB s H C cl fp) hs)
    fun D σ H ⟨α, E, q⟩ => lc_SI h σ H _ ⟨α, E, fun v d α1 μ1 H1 r1 E1 X1 hv => q.1 _ _ α1 μ1 H1 r1 (E1.set i hv) X1⟩
end
end Eg

namespace Eg
open PySem PySem.Spec L2
/-! ### for a, b in zip(xs, ys) -/
section
variable {X : Cx} {e e2 : Expr} {ρ : RO} {μ : List MO} {p pos tpos : Pos} {elts : List Expr} {kk : Nat} {Ra : Ca}
def zipD (xs ys : List DV) : List DV := List.zipWith (fun a b => DV.tup [a, b]) xs ys
theorem zipD_at {xs ys : List DV} {i : Nat} {d : DV} (h : (zipD xs ys)[i]? = some d) : ∃ x y, xs[i]? = some x ∧ ys[i]? = some y ∧ d = .tup [x, y] := by
  unfold zipD at h
  rw [List.getElem?_zipWith] at h
  cases hx : xs[i]? with
  | none => rw [hx] at h; cases h
  | some x =>
    cases hy : ys[i]? with
    | none => rw [hx, hy] at h; cases h
    | some y =>
      rw [hx, hy] at h
      exact ⟨x, y, rfl, rfl, (Option.some.inj h).symm⟩
theorem zipD_len (xs ys : List DV) : (zipD xs ys).length = min xs.length ys.length := by simp [zipD]
theorem sqT_of {w : Wd} {v : V} {ds : List DV} (h : Has w v (.tup ds)) : ∃ a vs, v = .ref a ∧ SqT w.K w.H a vs ∧ HasL w vs ds := by
  cases h with
  | tup s t => exact ⟨_, _, rfl, s, t⟩
theorem sqL_of {w : Wd} {v : V} {ds : List DV} (h : Has w v (.lst ds)) : ∃ a vs, v = .ref a ∧ SqL w.K w.H a vs ∧ HasL w vs ds := by
  cases h with
  | lst s t =>
    refine ⟨_, _, rfl, ?_, t⟩
    rcases s with ⟨_, s⟩ | s
    · exact .inl s
    · exact s.sq
theorem EvI.zipT (hg : Gl X "zip") (hm : X.mg "zip" = none) (h : EvA X [e, e2] ρ μ fun ds μ1 => ∃ xs ys, ds = [.tup xs, .tup ys] ∧ Ra (zipD xs ys) μ1)
    (hs : starEach [e, e2] X.env = (false, eval e X.env) :: starEach [e2] X.env := by rfl) (hpl : (backTo pos (starEach [e2] X.env)).any (·.1) = false := by rfl) : EvI X (.Tuple elts kk tpos) (.Call (.Name "zip" p) [e, e2] [] pos) ρ μ Ra :=
  PIw (RZ.pi_zipA hg hm pa_a hs hpl) fun σ H Q ⟨α, E, q⟩ => ⟨_, h, α, E, fun vs ds α1 μ1 H1 ⟨xs, ys, e, r⟩ E1 X1 hv => by
    subst e
    obtain ⟨v, u, rfl, h1, h2⟩ := hasL2 hv
    obtain ⟨a, vs1, rfl, s1, t1⟩ := sqT_of h1
    obtain ⟨b, vs2, rfl, s2, t2⟩ := sqT_of h2
    refine ⟨a, b, vs1, vs2, rfl, .inr ⟨s1, s2, q _ _ α1 μ1 H1 r E1 X1 fun α2 μ2 H2 k l => ?_⟩⟩
    obtain ⟨a', ws1, ea, r1, m1⟩ := sqT_of (k.has h1)
    obtain ⟨b', ws2, eb, r2, m2⟩ := sqT_of (k.has h2)
    cases ea
    cases eb
    refine ⟨fun i d hd => ?_, ⟨ws1, ws2, r1, r2, ?_⟩⟩
    · obtain ⟨x, y, e1, e2, rfl⟩ := zipD_at hd
      obtain ⟨x1, f1, g1⟩ := m1.get e1
      obtain ⟨y1, f2, g2⟩ := m2.get e2
      refine ⟨⟨ws1, ws2, x1, y1, r1, r2, f1, f2⟩, ?_⟩
      rintro z H' ⟨T, x2, y2, rfl, nT, rfl, c1, c2⟩
      have q1 := c1 ws1 r1
      have q2 := c2 ws2 r2
      rw [f1] at q1
      rw [f2] at q2
      cases q1
      cases q2
      obtain ⟨k2, l2⟩ := l.lay (o := .tup [x1, y1]) nT
      exact ⟨k2, l2, .tup (.of upd_same) (.cons (k2.has g1) (.cons (k2.has g2) .nil))⟩
    · rw [zipD_len, m1.length, m2.length]
      omega⟩
theorem EvI.zipL (hg : Gl X "zip") (hm : X.mg "zip" = none) (h : EvA X [e, e2] ρ μ fun ds μ1 => ∃ xs ys, ds = [.lst xs, .lst ys] ∧ Ra (zipD xs ys) μ1)
    (hs : starEach [e, e2] X.env = (false, eval e X.env) :: starEach [e2] X.env := by rfl) (hpl : (backTo pos (starEach [e2] X.env)).any (·.1) = false := by rfl) : EvI X (.Tuple elts kk tpos) (.Call (.Name "zip" p) [e, e2] [] pos) ρ μ Ra :=
  PIw (RZ.pi_zipA hg hm pa_a hs hpl) fun σ H Q ⟨α, E, q⟩ => ⟨_, h, α, E, fun vs ds α1 μ1 H1 ⟨xs, ys, e, r⟩ E1 X1 hv => by
    subst e
    obtain ⟨v, u, rfl, h1, h2⟩ := hasL2 hv
    obtain ⟨a, vs1, rfl, s1, t1⟩ := sqL_of h1
    obtain ⟨b, vs2, rfl, s2, t2⟩ := sqL_of h2
    refine ⟨a, b, vs1, vs2, rfl, .inl ⟨s1, s2, q _ _ α1 μ1 H1 r E1 X1 fun α2 μ2 H2 k l => ?_⟩⟩
    obtain ⟨a', ws1, ea, r1, m1⟩ := sqL_of (k.has h1)
    obtain ⟨b', ws2, eb, r2, m2⟩ := sqL_of (k.has h2)
    cases ea
    cases eb
    refine ⟨fun i d hd => ?_, ⟨ws1, ws2, r1, r2, ?_⟩⟩
    · obtain ⟨x, y, e1, e2, rfl⟩ := zipD_at hd
      obtain ⟨x1, f1, g1⟩ := m1.get e1
      obtain ⟨y1, f2, g2⟩ := m2.get e2
      refine ⟨⟨ws1, ws2, x1, y1, r1, r2, f1, f2⟩, ?_⟩
      rintro z H' ⟨T, x2, y2, rfl, nT, rfl, c1, c2⟩
      have q1 := c1 ws1 r1
      have q2 := c2 ws2 r2
      rw [f1] at q1
      rw [f2] at q2
      cases q1
      cases q2
      obtain ⟨k2, l2⟩ := l.lay (o := .tup [x1, y1]) nT
      exact ⟨k2, l2, .tup (.of upd_same) (.cons (k2.has g1) (.cons (k2.has g2) .nil))⟩
    · rw [zipD_len, m1.length, m2.length]
      omega⟩
end
end Eg

namespace Eg
open PySem PySem.Spec PyProof.Rows L2
section
variable {X : Cx} {ρ : RO} {μ : List MO} {pos : Pos} {R : Cn}
/-- the walk of a comprehension by what holds behind j items: I j what is made so far -/
theorem lc_S2 {elt iter : Expr} {ifs : List Expr} {scope : Scope} {x x' : Str} {px px' pt : Pos} {kt : Nat} (i i' : Nat) (hne : i ≠ i')
    (h : EvI X (.Tuple [.Name x px, .Name x' px'] kt pt) iter ρ μ fun ds μ1 => ds.length ≤ sizeLine ∧ ∃ I : Nat → List DV → List MO → Prop, I 0 [] μ1 ∧
      (∀ j d, ds[j]? = some d → ∃ d1 d2, d = .tup [d1, d2] ∧ ∀ acc μ2, μ2.length = μ1.length → I j acc μ2 → ∃ tt : RO → List MO → Ct → TT, (∀ s H C cl fp, PTs (blkX X s H scope C cl fp) ifs (tt ((ρ.set i (some d1)).set i' (some d2)) (μ2 ++ [.lst acc]) fun b μ3 =>
        if b = true then ∀ s H C cl fp, Ev (blkX X s H scope C cl fp) elt ((ρ.set i (some d1)).set i' (some d2)) μ3 fun y μ5 => ∃ μ4, μ5 = μ4 ++ [.lst acc] ∧ μ4.length = μ1.length ∧ I (j + 1) (acc ++ [y]) μ4
        else ∃ μ4, μ3 = μ4 ++ [.lst acc] ∧ μ4.length = μ1.length ∧ I (j + 1) acc μ4)) ∧ ∀ ρ' μ' Rt σ H Q, tEvT X ρ' μ' Rt σ H Q → tt ρ' μ' Rt σ H Q) ∧
      ∀ acc μ2, μ2.length = μ1.length → I ds.length acc μ2 → R (.lst acc) (μ2 ++ [.dead]))
    (σ : L2.St) (H : Hp) (Q : VK) (q : tEv X ρ μ R σ H Q) : tLc (aI X (.Tuple [.Name x px, .Name x' px'] kt pt) iter) (gTup X.K 2 (gCons (gName i) (gCons (gName i') gNil))) (aBT X scope ifs) (aB X scope elt) [i, i'] σ H Q := by
  obtain ⟨α, E, q⟩ := q
  refine ⟨_, h, α, E, ?_⟩
  rintro J ds α1 μ1 H1 ⟨hz, I, i0, turn, done⟩ E1 X1 ok D hD
  have hlen : α1.length = μ1.length := E1.live.len
  obtain ⟨kM, lM, eM⟩ := E1.live.layM (o := .lst []) (m := .lst []) hD (fun _ k => ⟨[], upd_same, .nil⟩)
  let P : Nat → Hp → Prop := fun j H' => ∃ acc μ' α', acc.length ≤ j ∧ I j acc μ' ∧ μ'.length = μ1.length ∧ α'[μ1.length]? = some D ∧ Live ⟨X.K, α', μ' ++ [.lst acc], H'⟩ ∧ Kp ⟨X.K, α1, μ1, H1⟩ ⟨X.K, α', μ' ++ [.lst acc], H'⟩
  refine ⟨fun j m H' => m = ds.length - j ∧ j ≤ ds.length ∧ P j H', ⟨ds.length, by simp, Nat.zero_le _, [], μ1, α1 ++ [D], Nat.le_refl _, i0, rfl, eM, lM, kM⟩, ?_⟩
  rintro j m H2 ⟨rfl, hj, acc, μ2, α2, ha, hI, hμ, hα, l2, k2⟩
  obtain ⟨go, stop⟩ := ok α2 _ H2 k2 l2
  have kD : (μ2 ++ [MO.lst acc])[μ1.length]? = some (.lst acc) := by
    rw [List.getElem?_append_right (by omega), hμ, Nat.sub_self]
    rfl
  have setl : ∀ (μ4 : List MO) (m m' : MO), μ4.length = μ1.length → (μ4 ++ [m]).set μ1.length m' = μ4 ++ [m'] := fun μ4 m m' e => by
    rw [← e]
    simp
  by_cases hlt : j < ds.length
  · obtain ⟨g1, g2⟩ := go j ds[j] (by simp [hlt])
    refine .inr ⟨g1, P (j + 1), fun H' p => ⟨ds.length - (j + 1), by omega, rfl, hlt, p⟩, fun y H3 yy => ?_⟩
    obtain ⟨ky, ly, hy⟩ := g2 y H3 yy
    obtain ⟨d1, d2, ed, turn'⟩ := turn j ds[j] (by simp [hlt])
    obtain ⟨tt, ht, hm⟩ := turn' acc μ2 hμ hI
    rw [ed] at hy
    obtain ⟨aT, ws, rfl, sT, tT⟩ := sqT_of hy
    obtain ⟨v1, v2, rfl, g1', g2'⟩ := hasL2 tT
    have ws2 : ∀ (τ : L2.St) (u v : Option V), wipe (((wipe τ [i, i']).set i u).set i' v) [i, i'] = wipe τ [i, i'] := fun τ u v => by
      simp only [wipe]
      rw [List.set_set, List.set_comm u none hne, List.set_set, List.set_comm none none hne, List.set_set, List.set_set]
    refine ⟨aT, _, rfl, sT, rfl, v1, [v2], rfl, v2, [], rfl, rfl, ws2 _ _ _, _, ht, ?_⟩
    have k3 := k2.trans ky
    have E3 : En ⟨X.K, α2, μ2 ++ [.lst acc], H3⟩ (((wipe σ [i, i']).set i (some v1)).set i' (some v2)) ((ρ.set i (some d1)).set i' (some d2)) := by
      have z := ((((E1.ext k3 ly).wipe i').wipe i).set i g1').set i' g2'
      have eρ : (((ρ.set i' none).set i none).set i (some d1)).set i' (some d2) = (ρ.set i (some d1)).set i' (some d2) := by
        rw [List.set_set, List.set_comm none (some d1) (Ne.symm hne), List.set_set]
      rw [eρ] at z
      exact z
    refine hm _ _ _ _ _ _ ⟨α2, E3, ?_⟩
    intro b α3 μ3 H4 r3 E4 k4
    cases b with
    | false =>
      refine iteF ?_
      obtain ⟨μ4, rfl, h4, hI4⟩ := r3
      exact ⟨acc, μ4, α3, Nat.le_succ_of_le ha, hI4, h4, k4.α _ _ hα, E4.live, k3.trans k4⟩
    | true =>
      refine iteT ⟨tEv X ((ρ.set i (some d1)).set i' (some d2)) μ3 _, r3, α3, E4, ?_⟩
      rintro v d α5 μ5 H5 ⟨μ4, rfl, h4, hI4⟩ E5 k5 hv
      have hα5 := k5.α _ _ (k4.α _ _ hα)
      have kD5 : (μ4 ++ [MO.lst acc])[μ1.length]? = some (.lst acc) := by
        rw [List.getElem?_append_right (by omega), h4, Nat.sub_self]
        rfl
      obtain ⟨vs, e1, e2⟩ := E5.live.ob _ _ _ hα5 kD5
      have hl := e2.length
      refine ⟨vs, e1, by omega, ?_⟩
      obtain ⟨k6, l6⟩ := E5.live.put (o := .lst (vs ++ [v])) (m := .lst (acc ++ [d])) hα5 kD5 (fun z => nomatch z) fun k => ⟨_, upd_same, HasL.app (k.hasL e2) (.cons (k.has hv) .nil)⟩
      rw [setl _ _ _ h4] at k6 l6
      exact ⟨acc ++ [d], μ4, α5, by rw [List.length_append]; exact Nat.succ_le_succ ha, hI4, h4, hα5, l6, k3.trans (k4.trans (k5.trans k6))⟩
  · have e : j = ds.length := by omega
    subst e
    refine .inl ⟨stop, ?_⟩
    obtain ⟨vs, e1, e2⟩ := l2.ob _ _ _ hα kD
    obtain ⟨k6, l6, nl⟩ := l2.freeze (k := μ1.length)
    rw [setl _ _ _ hμ] at k6 l6 nl
    have k7 := k2.trans k6
    exact q _ _ _ _ _ (done acc μ2 hμ hI) (E1.ext k7 l6) (X1.trans k7) (.lst (.inl ⟨nl _ hα, .inl e1⟩) (k6.hasL e2))
/-- [e for a, b in ..] -/
def Lc2 (X : Cx) (scope : Scope) (elt iter : Expr) (x x' : Str) (px px' pt : Pos) (kt i i' : Nat) (ρ : RO) (μ : List MO) (R : Cn) : Prop :=
  EvI X (.Tuple [.Name x px, .Name x' px'] kt pt) iter ρ μ fun ds μ1 => ds.length ≤ sizeLine ∧ ∃ I : Nat → List DV → List MO → Prop, I 0 [] μ1 ∧
      (∀ j d, ds[j]? = some d → ∃ d1 d2, d = .tup [d1, d2] ∧ ∀ acc μ2, μ2.length = μ1.length → I j acc μ2 → ∀ s H C cl fp, Ev (blkX X s H scope C cl fp) elt ((ρ.set i (some d1)).set i' (some d2)) (μ2 ++ [.lst acc]) fun y μ5 => ∃ μ4, μ5 = μ4 ++ [.lst acc] ∧ μ4.length = μ1.length ∧ I (j + 1) (acc ++ [y]) μ4) ∧
      ∀ acc μ2, μ2.length = μ1.length → I ds.length acc μ2 → R (.lst acc) (μ2 ++ [.dead])
theorem lc_S20 {elt iter : Expr} {scope : Scope} {x x' : Str} {px px' pt : Pos} {kt i i' : Nat} (hne : i ≠ i') (h : Lc2 X scope elt iter x x' px px' pt kt i i' ρ μ R) (σ : L2.St) (H : Hp) (Q : VK) (q : tEv X ρ μ R σ H Q) :
    tLc (aI X (.Tuple [.Name x px, .Name x' px'] kt pt) iter) (gTup X.K 2 (gCons (gName i) (gCons (gName i') gNil))) (aBT X scope []) (aB X scope elt) [i, i'] σ H Q :=
  lc_S2 i i' hne (EvI.mono h fun ds μ1 ⟨hz, I, i0, turn, done⟩ => ⟨hz, I, i0, fun j d h1 => by
    obtain ⟨d1, d2, ed, tn⟩ := turn j d h1
    exact ⟨d1, d2, ed, fun acc μ2 h2 h3 => ⟨fun ρ' μ' Rt σ H Q => ∃ α, En ⟨X.K, α, μ', H⟩ σ ρ' ∧ ∀ b α' μ'' H', Rt b μ'' → En ⟨X.K, α', μ'', H'⟩ σ ρ' → Kp ⟨X.K, α, μ', H⟩ ⟨X.K, α', μ'', H'⟩ → Q b H',
      fun s H C cl fp => ⟨fun pins s' σ H' Q' J ⟨α, E, q⟩ => pts_nil.run pins s' σ H' Q' J (q true α _ H' (tn acc μ2 h2 h3) E E.live.refl)⟩, fun _ _ _ _ _ _ z => z⟩⟩, done⟩) σ H Q q
theorem Ev.lc2 {elt iter : Expr} {scope : Scope} {x x' : Str} {px px' pt : Pos} {kt : Nat} (i i' : Nat) (hne : i ≠ i') (hc : X.calm = true) (hN : X.N.Nodup) (hi : X.N[i]? = some x) (hi' : X.N[i']? = some x') (ok : BlkOk X.N X.env.scope scope [(x, i), (x', i')])
    (hcb : ∀ (s : Shared) (H : Hp) (C : Addr) (cl : List (Str × Addr)) (fp : List Addr), (blkX X s H scope C cl fp).calm = true)
    (hl : ∀ (s : Shared) (H : Hp) (C : Addr) (cl : List (Str × Addr)) (fp : List Addr), Loc (blkX X s H scope C cl fp).env.scope x ∧ ((blkX X s H scope C cl fp).fn x = true ∨ (blkX X s H scope C cl fp).env.scope.names.lookup x = some .local))
    (hl' : ∀ (s : Shared) (H : Hp) (C : Addr) (cl : List (Str × Addr)) (fp : List Addr), Loc (blkX X s H scope C cl fp).env.scope x' ∧ ((blkX X s H scope C cl fp).fn x' = true ∨ (blkX X s H scope C cl fp).env.scope.names.lookup x' = some .local))
    (h : Lc2 X scope elt iter x x' px px' pt kt i i' ρ μ R) (hs : ∀ x, foldedSetIterable iter X.env x = pure x := by intro _; rfl) : Ev X (.ListComp elt [⟨.Tuple [.Name x px, .Name x' px'] kt pt, iter, [], 0⟩] scope pos) ρ μ R :=
  PEw (pe_lc (own := [(x, i), (x', i')]) (g := gTup X.K 2 (gCons (gName i) (gCons (gName i') gNil))) hc hN pi_a ok
    (fun s H C cl fp => pg_tup (hcb s H C cl fp) (pgs_cons (pg_name hN hi (hl s H C cl fp).1 (hl s H C cl fp).2) (pgs_cons (pg_name hN hi' (hl' s H C cl fp).1 (hl' s H C cl fp).2) pgs_nil)))
    (fun s H C cl fp => pts_aB s H C cl fp) (fun s H C cl fp => pe_aB s H C cl fp) hs) (lc_S20 hne h)
end
end Eg

namespace Eg
open PySem PySem.Spec L2
/-! ### what may be raised: a class and what it keeps -/
abbrev RXt := Addr → List (Str × DV) → List MO → Prop
/-- all that the context takes -/
def Wmax (X : Cx) : WX := fun c d σ H => ∀ u s', XE X (fun c' d' σ' H' => c' = c ∧ d' = d ∧ σ' = σ ∧ H' = H) u s' → X.xe u s'
theorem takes_max {X : Cx} : Takes X (Wmax X) := fun u s' ⟨a, B, sI, pins, σ, H, cls, d, e, I, nb, up, sky, na, os, ag, w⟩ =>
  w u s' ⟨a, B, sI, pins, σ, H, cls, d, e, I, nb, up, sky, na, os, ag, rfl, rfl, rfl, rfl⟩
theorem wmax_of {X : Cx} {W : WX} (t : Takes X W) {c : Value} {d : Option Addr} {σ : L2.St} {H : Hp} (h : σ.length = X.N.length → W c d σ H) : Wmax X c d σ H :=
  fun u s' ⟨a, B, sI, pins, σ', H', cls, d', e, I, nb, up, sky, na, os, ag, e1, e2, e3, e4⟩ => by
    subst e1 e2 e3 e4
    exact t u s' ⟨a, B, sI, pins, σ', H', cls, d', e, I, nb, up, sky, na, os, ag, h I.len⟩
/-- the wish at a raise, seen from the world w -/
def xq (X : Cx) (w : Wd) (RX : RXt) : Prop := ∀ C ds d fs σ' α' μ' H', RX C ds μ' → Live ⟨X.K, α', μ', H'⟩ → Kp w ⟨X.K, α', μ', H'⟩ → H' d = some (.xd fs) → HasF ⟨X.K, α', μ', H'⟩ fs ds → Wmax X (.ref C) (some d) σ' H'
theorem xq.next {X : Cx} {w : Wd} {RX : RXt} (q : xq X w RX) {w' : Wd} (k : Kp w w') : xq X w' RX := fun C ds d fs σ' α' μ' H' r l k' h1 h2 => q C ds d fs σ' α' μ' H' r l (k.trans k') h1 h2
section
variable {X : Cx} {a b c e : Expr} {es : List Expr} {s : Stmt} {rest xs ys : List Stmt} {ρ : RO} {μ : List MO} {pos p : Pos} {RX : RXt}
def tStX (X : Cx) (ρ : RO) (μ : List MO) (R : Co) (RX : RXt) : TS := fun D σ H => ∃ α, En ⟨X.K, α, μ, H⟩ σ ρ ∧
  ((∀ ρ' σ' α' μ' H', R (.nx ρ' μ') → En ⟨X.K, α', μ', H'⟩ σ' ρ' → Kp ⟨X.K, α, μ, H⟩ ⟨X.K, α', μ', H'⟩ → D.nx σ' H') ∧
   (∀ v d α' μ' H', R (.rt d μ') → Live ⟨X.K, α', μ', H'⟩ → Kp ⟨X.K, α, μ, H⟩ ⟨X.K, α', μ', H'⟩ → Has ⟨X.K, α', μ', H'⟩ v d → D.rt v H') ∧
   (∀ ρ' σ' α' μ' H', R (.bk ρ' μ') → En ⟨X.K, α', μ', H'⟩ σ' ρ' → Kp ⟨X.K, α, μ, H⟩ ⟨X.K, α', μ', H'⟩ → D.bk σ' H') ∧
   (∀ ρ' σ' α' μ' H', R (.ct ρ' μ') → En ⟨X.K, α', μ', H'⟩ σ' ρ' → Kp ⟨X.K, α, μ, H⟩ ⟨X.K, α', μ', H'⟩ → D.ct σ' H')) ∧ xq X ⟨X.K, α, μ, H⟩ RX
def StX (X : Cx) (s : Stmt) (ρ : RO) (μ : List MO) (R : Co) (RX : RXt) : Prop := PS X s (tStX X ρ μ R RX)
def StsX (X : Cx) (s : List Stmt) (ρ : RO) (μ : List MO) (R : Co) (RX : RXt) : Prop := PSs X s (tStX X ρ μ R RX)
theorem St.x {R : Co} (h : St X s ρ μ R) : StX X s ρ μ R RX := PSw h fun D σ H ⟨α, E, q, _⟩ => ⟨α, E, q⟩
theorem Sts.x {R : Co} (h : Sts X xs ρ μ R) : StsX X xs ρ μ R RX := PSsw h fun D σ H ⟨α, E, q, _⟩ => ⟨α, E, q⟩
def seqX (X : Cx) (rest : List Stmt) (R : Co) (RX : RXt) : Co := fun o => match o with
  | .nx ρ μ => StsX X rest ρ μ R RX
  | o => R o
theorem StsX.nil {R : Co} (h : R (.nx ρ μ)) : StsX X [] ρ μ R RX := Sts.x (Sts.nil h)
theorem StsX.cons {R : Co} (h : StX X s ρ μ (seqX X rest R RX) RX) : StsX X (s :: rest) ρ μ R RX :=
  PSsw (pss_cons (t := fun D σ H => ∃ t, PS X s t ∧ t D σ H) (u := fun D σ H => ∃ t, PSs X rest t ∧ t D σ H) ⟨fun pins s' σ H D I ⟨_, h, q⟩ => h.run pins s' σ H D I q⟩ ⟨fun pins s' σ H D I ⟨_, h, q⟩ => h.run pins s' σ H D I q⟩)
    fun D σ H ⟨α, E, ⟨q1, q2, q3, q4⟩, qx⟩ => ⟨_, h, α, E, ⟨fun ρ' σ' α' μ' H' (r : StsX X rest ρ' μ' R RX) E' X' => ⟨_, r, α', E',
      ⟨fun ρ2 σ2 α2 μ2 H2 r2 E2 X2 => q1 ρ2 σ2 α2 μ2 H2 r2 E2 (X'.trans X2), fun v d α2 μ2 H2 r2 l2 X2 => q2 v d α2 μ2 H2 r2 l2 (X'.trans X2),
      fun ρ2 σ2 α2 μ2 H2 r2 E2 X2 => q3 ρ2 σ2 α2 μ2 H2 r2 E2 (X'.trans X2), fun ρ2 σ2 α2 μ2 H2 r2 E2 X2 => q4 ρ2 σ2 α2 μ2 H2 r2 E2 (X'.trans X2)⟩, qx.next X'⟩, q2, q3, q4⟩, qx⟩
theorem StX.ifS {R : Co} (h : EvT X c ρ μ fun k μ1 => if k = true then StsX X xs ρ μ1 R RX else StsX X ys ρ μ1 R RX) : StX X (.If c xs ys pos) ρ μ R RX :=
  PSw (ps_if pt_a (t := fun D σ H => ∃ t, PSs X xs t ∧ t D σ H) (u := fun D σ H => ∃ t, PSs X ys t ∧ t D σ H) ⟨fun pins s' σ H D I ⟨_, h, q⟩ => h.run pins s' σ H D I q⟩ ⟨fun pins s' σ H D I ⟨_, h, q⟩ => h.run pins s' σ H D I q⟩)
    fun D σ H ⟨α, E, ⟨q1, q2, q3, q4⟩, qx⟩ => ⟨_, h, α, E, fun k α' μ' H' r E' X' => by
      have all : tStX X ρ μ' R RX D σ H' := ⟨α', E', ⟨fun ρ2 σ2 α2 μ2 H2 r2 E2 X2 => q1 ρ2 σ2 α2 μ2 H2 r2 E2 (X'.trans X2), fun v d α2 μ2 H2 r2 l2 X2 => q2 v d α2 μ2 H2 r2 l2 (X'.trans X2),
        fun ρ2 σ2 α2 μ2 H2 r2 E2 X2 => q3 ρ2 σ2 α2 μ2 H2 r2 E2 (X'.trans X2), fun ρ2 σ2 α2 μ2 H2 r2 E2 X2 => q4 ρ2 σ2 α2 μ2 H2 r2 E2 (X'.trans X2)⟩, qx.next X'⟩
      cases k with
      | true => exact iteT ⟨_, (show StsX X xs ρ μ' R RX from r), all⟩
      | false => exact iteF ⟨_, (show StsX X ys ρ μ' R RX from r), all⟩⟩
/-! ### a call that may raise, as the whole of an expression -/
def tEvX (X : Cx) (ρ : RO) (μ : List MO) (R : Cn) (RX : RXt) : TE := fun σ H Q => ∃ α, En ⟨X.K, α, μ, H⟩ σ ρ ∧
  (∀ v d α' μ' H', R d μ' → En ⟨X.K, α', μ', H'⟩ σ ρ → Kp ⟨X.K, α, μ, H⟩ ⟨X.K, α', μ', H'⟩ → Has ⟨X.K, α', μ', H'⟩ v d → Q v H') ∧ xq X ⟨X.K, α, μ, H⟩ RX
def EvX (X : Cx) (e : Expr) (ρ : RO) (μ : List MO) (R : Cn) (RX : RXt) : Prop := PE X e (tEvX X ρ μ R RX)
theorem Ev.x {R : Cn} (h : Ev X e ρ μ R) : EvX X e ρ μ R RX := PEw h fun σ H Q ⟨α, E, q, _⟩ => ⟨α, E, q⟩
theorem StX.expr {R : Co} (h : EvX X e ρ μ (fun _ μ1 => R (.nx ρ μ1)) RX) (hs : swapsWith e none pos.line X.env = pure false := by rfl) : StX X (.Expr e pos) ρ μ R RX :=
  PSw (ps_expr h hs) fun D σ H ⟨α, E, ⟨q1, q2, q3, q4⟩, qx⟩ => ⟨α, E, fun v d α' μ' H' r E' X' hv => q1 ρ σ α' μ' H' r E' X', qx⟩
theorem StX.ret {R : Co} (h : EvX X e ρ μ (fun d μ1 => R (.rt d μ1)) RX) : StX X (.Return (some e) pos) ρ μ R RX :=
  PSw (ps_ret h) fun D σ H ⟨α, E, ⟨q1, q2, q3, q4⟩, qx⟩ => ⟨α, E, fun v d α' μ' H' r E' X' hv => q2 v d α' μ' H' r E'.live X' hv, qx⟩
theorem StX.set {R : Co} (i : Nat) {x : Str} {pos' : Pos} (hN : X.N.Nodup) (hi : X.N[i]? = some x) (hx : Loc X.env.scope x) (hf : X.fn x = true ∨ X.env.scope.names.lookup x = some .local) (h : EvX X e ρ μ (fun d μ1 => R (.nx (ρ.set i (some d)) μ1)) RX) (hs : swapsWith e (some (.Name x pos')) pos.line X.env = pure false := by rfl) :
    StX X (.Assign [.Name x pos'] e pos) ρ μ R RX :=
  PSw (ps_set hN hi hx h hs hf) fun D σ H ⟨α, E, ⟨q1, q2, q3, q4⟩, qx⟩ => ⟨α, E, fun v d α1 μ1 H1 r1 E1 X1 hv => q1 _ _ α1 μ1 H1 r1 (E1.set i hv) X1, qx⟩
end
end Eg

namespace Eg
open PySem PySem.Spec PyProof.Rows L2
/-! ### defs that may raise -/
structure FnR (P : Program) (w : World) (K : PySem.W.Frag) (mg : Str → Option Value) (base : Heap) (k : Nat) (f : Addr) (fd : FuncData) (ps : List Str) (sp : Sp) : Prop where
  len : ∀ vs H Q E, sp vs H Q E → vs.length = ps.length
  go : ∀ (A : Around) (outer : List PySem.Env) (s : Shared) (H : Hp) (args : Args) (us : List Value) (vs : List V) (Q : VK) (E : XK), A.guards = some [] → Room k A → Env0 P w K mg base A outer s H →
    BindsTo s fd args (ps.zip us) → Vals vs us → sp vs H Q E → codeAny (model P w) A (.call (.ref f) args) (CR (L2.CX P w) outer P w H s Q E) s
/-- the context of a body that may raise -/
abbrev bxE (P : Program) (w : World) (K : PySem.W.Frag) (mg : Str → Option Value) (base : Heap) (N : List Str) (qual : Str) (scope : Scope) (f : Addr) (cd : Value) (A : Around) (outer : List PySem.Env) (s : Shared) (H : Hp) (E : XK) : Cx :=
  cxOf (L2.CX P w) P w K mg base N qual scope f cd A outer s H E
section
variable {P : Program} {w : World} {K : PySem.W.Frag} {mg : Str → Option Value} {base : Heap}
theorem takes_bx {N : List Str} {qual : Str} {scope : Scope} {f : Addr} {cd : Value} {A : Around} {outer : List PySem.Env} {s : Shared} {H : Hp} {E : XK} : Takes (bxE P w K mg base N qual scope f cd A outer s H E) (fun cls d _ H' => E cls d H') :=
  takes_of rfl rfl rfl rfl
theorem FnR.of {x qual : Str} {params : Arguments} {body : List Stmt} {scope : Scope} {dvs : List V} {kws : List (Str × V)} {f : Addr} {fd : FuncData} {N ps : List Str} {k : Nat} {sp : Sp}
    (F : FunD K x qual params body scope dvs kws f fd) (S : FnScope N ps scope) (len : ∀ vs H Q E, sp vs H Q E → vs.length = ps.length)
    (hb : ∀ (cd : Value) (A : Around) (outer : List PySem.Env) (s : Shared) (H : Hp) (vs : List V) (Q : VK) (E : XK), (A.deeper (envOfC qual scope s.heap.objs.size f cd)).guards = some [] → Room k (A.deeper (envOfC qual scope s.heap.objs.size f cd)) → sp vs H Q E →
      ∃ t, PSs (bxE P w K mg base N qual scope f cd A outer s H E) body t ∧ t { nx := fun _ H' => Q .non H', rt := Q } (L2.start N vs) H) : FnR P w K mg base (k + 1) f fd ps sp := by
  obtain ⟨oc, od, dV, kV, doc, pm, an, cd, ct, osl, rfl, lk, hcd, _, _⟩ := F.ex
  refine ⟨len, ?_⟩
  intro A outer s H args us vs Q E hg hr e0 hbind rv hsp
  have room := hr.deeper (envOfC qual scope s.heap.objs.size f cd)
  obtain ⟨t, ht, hq⟩ := hb cd A outer s H vs Q E (guards_in _ hg) room hsp
  have keep : ∀ b o, base.get? b = some o → s.heap.get? b = some o := fun b o z => (e0.bs b o z).1
  have KX : K.In s.heap := e0.mod.kin.keeps keep
  refine codeAny_call_function hr.depth (KX _ _ lk) rfl S.co S.gen rfl (PySem.W.codeRec_of KX hcd) (hbind _ _ _ _ ?_)
  have kinds : ∀ y ∈ ps.zip us, scope.names.lookup y.1 = some .local ∨ (scope.names.lookup y.1 = some .cell ∧ ((cellsFrom (s.heap.objs.size + 1) scope.names []).lookup y.1).isSome = true) := by
    rintro ⟨n, u⟩ hy
    have z := S.par n (List.of_mem_zip hy).1
    exact z.imp id fun z => ⟨z, PySem.W.cellsFrom_some _ _ _ (.inl z)⟩
  refine wpAny_newFunctionEnv_cells S.kind kinds fun env he s1 ic => ?_
  cases he
  refine ⟨(e0.mod.nolimit.keeps keep).keeps ic.toInCall.keep, codeAny_func ?_⟩
  have I : L2.Inv (bxE P w K mg base N qual scope f cd A outer s H E) [] (L2.start N vs) H s1 := inv_start S hr.hd e0 (len _ _ _ _ hsp) rv ic
  refine wpAny_mono (ht.run [] s1 (L2.start N vs) H _ I hq) (fun fl s' q => ?_) (fun _ _ z => z)
  cases fl with
  | ret u =>
    obtain ⟨v, σ', H', J, r, q⟩ := q
    exact ⟨v, H', J.os, J.bare, J.base, J.hok, r, q⟩
  | next =>
    obtain ⟨σ', H', J, q⟩ := q
    exact ⟨.non, H', J.os, J.bare, J.base, J.hok, rfl, q⟩
  | brk => exact (by obtain ⟨_, _, _, q⟩ := q; exact False.elim q)
  | cont => exact (by obtain ⟨_, _, _, q⟩ := q; exact False.elim q)
end
/-! ### promises over data, with what may be raised -/
abbrev CtrX := List DV → List MO → Cn → RXt → Prop
def SpX (K : PySem.W.Frag) (C : CtrX) : Sp := fun vs H Q E => ∃ α μ ds R RX, Live ⟨K, α, μ, H⟩ ∧ HasL ⟨K, α, μ, H⟩ vs ds ∧ C ds μ R RX ∧
  (∀ v d α' μ' H', R d μ' → Live ⟨K, α', μ', H'⟩ → Kp ⟨K, α, μ, H⟩ ⟨K, α', μ', H'⟩ → Has ⟨K, α', μ', H'⟩ v d → Q v H') ∧
  ∀ Cx ds d fs α' μ' H', RX Cx ds μ' → Live ⟨K, α', μ', H'⟩ → Kp ⟨K, α, μ, H⟩ ⟨K, α', μ', H'⟩ → H' d = some (.xd fs) → HasF ⟨K, α', μ', H'⟩ fs ds → E (.ref Cx) (some d) H'
def FnX (P : Program) (w : World) (K : PySem.W.Frag) (mg : Str → Option Value) (base : Heap) (x : Str) (k : Nat) (C : CtrX) : Prop :=
  ∃ f fd ps, FnR P w K mg base k f fd ps (SpX K C) ∧ mg x = some (.ref f) ∧ PySem.W.keepIn K (.ref f) = true ∧ Binds K fd ps []
theorem FnX.mono {P : Program} {w : World} {K : PySem.W.Frag} {mg : Str → Option Value} {base : Heap} {x : Str} {j k : Nat} {C : CtrX} (F : FnX P w K mg base x j C) (h : j ≤ k) : FnX P w K mg base x k C := by
  obtain ⟨f, fd, ps, ⟨l, g⟩, r⟩ := F
  exact ⟨f, fd, ps, ⟨l, fun A outer s H args us vs Q E hg hr => g A outer s H args us vs Q E hg (hr.mono h)⟩, r⟩
/-- what is raised behind a body; what was made beside may be forgotten -/
def finX (n : Nat) (RX : RXt) : RXt := fun C fs μ => RX C fs μ ∨ (DV.belF n fs = true ∧ (μ.take n).all (MO.bel n) = true ∧ RX C fs (μ.take n))
theorem hasF_cut {w : Wd} {n : Nat} {fs : List (Str × V)} {ds : List (Str × DV)} (h : HasF w fs ds) (p : DV.belF n ds = true) : HasF (w.cut n) fs ds := HasF.move (w := w) (w' := w.cut n) (n := n) rfl rfl (fun _ z => cut_lv z) cut_α h p
section
variable {P : Program} {w : World} {K : PySem.W.Frag} {mg : Str → Option Value} {base : Heap}
/-- THE RULE for a def that may raise -/
theorem FnR.mk2 {x : Str} {params : Arguments} {body : List Stmt} {scope : Scope} {kws : List (Str × V)} {f : Addr} {fd : FuncData} {N ps : List Str} {k : Nat} {C : CtrX}
    (F : FunD K x x params body scope [] kws f fd) (S : FnScope N ps scope) (len : ∀ ds μ R RX, C ds μ R RX → ds.length = ps.length)
    (hb : ∀ (cd : Value) (A : Around) (outer : List PySem.Env) (s : Shared) (H : Hp) (E : XK), (bxE P w K mg base N x scope f cd A outer s H E).A.guards = some [] → Room k (bxE P w K mg base N x scope f cd A outer s H E).A → (bxE P w K mg base N x scope f cd A outer s H E).N.Nodup →
      ∀ ds μ R RX, C ds μ R RX → StsX (bxE P w K mg base N x scope f cd A outer s H E) body (startD N ds) μ (fin μ.length R) (finX μ.length RX)) : FnR P w K mg base (k + 1) f fd ps (SpX K C) := by
  refine FnR.of F S (fun vs H Q E => ?_) (fun cd A outer s H vs Q E hg hr => ?_)
  · rintro ⟨α, μ, ds, R, RX, l, h, c, _⟩
    rw [h.length]
    exact len _ _ _ _ c
  · rintro ⟨α, μ, ds, R, RX, l, h, c, q, qx⟩
    refine ⟨_, hb cd A outer s H E hg hr S.nd ds μ R RX c, α, start_en l h, ⟨?_, ?_, ?_, ?_⟩, ?_⟩
    · intro ρ' σ' α' μ' H' r E' k'
      rcases r with r | ⟨r1, r2⟩
      · exact q _ _ α' μ' H' r E'.live k' .non
      · exact q _ _ _ _ _ r2 (E'.live.cutL μ.length r1) (Live.cut l E'.live k') .non
    · intro v d α' μ' H' r l' k' hv
      rcases r with r | ⟨r0, r1, r2⟩
      · exact q _ _ α' μ' H' r l' k' hv
      · exact q _ _ _ _ _ r2 (l'.cutL μ.length r1) (Live.cut l l' k') (hv.cut r0)
    · intro _ _ _ _ _ r
      exact r.elim
    · intro _ _ _ _ _ r
      exact r.elim
    · intro C' ds' d fs σ' α' μ' H' r l' k' h1 h2
      refine wmax_of takes_bx fun _ => ?_
      rcases r with r | ⟨r0, r1, r2⟩
      · exact qx _ _ _ _ _ _ _ r l' k' h1 h2
      · exact qx _ _ _ _ _ _ _ r2 (l'.cutL μ.length r1) (Live.cut l l' k') h1 (hasF_cut h2 r0)
theorem FnX.mk {x : Str} {params : Arguments} {body : List Stmt} {scope : Scope} {kws : List (Str × V)} {f : Addr} {fd : FuncData} {N ps : List Str} {k : Nat} {C : CtrX}
    (F : FunD K x x params body scope [] kws f fd) (S : FnScope N ps scope) (hm : mg x = some (.ref f))
    (hbd : ∀ (kV doc pm : Value) (an : Option Addr) (cdv ct : Value) (us : List Value), us.length = ps.length → bindArgs (PySem.W.fnOf x x params body scope .none kV doc pm an cdv ct) ⟨us, []⟩ = pure (ps.zip us))
    (len : ∀ ds μ R RX, C ds μ R RX → ds.length = ps.length)
    (hb : ∀ (cd : Value) (A : Around) (outer : List PySem.Env) (s : Shared) (H : Hp) (E : XK), (bxE P w K mg base N x scope f cd A outer s H E).A.guards = some [] → Room k (bxE P w K mg base N x scope f cd A outer s H E).A → (bxE P w K mg base N x scope f cd A outer s H E).N.Nodup →
      ∀ ds μ R RX, C ds μ R RX → StsX (bxE P w K mg base N x scope f cd A outer s H E) body (startD N ds) μ (fin μ.length R) (finX μ.length RX)) : FnX P w K mg base x (k + 1) C :=
  ⟨f, fd, ps, FnR.mk2 F S len hb, hm, F.kp, F.bindsN hbd⟩
end
section
variable {X : Cx} {e : Expr} {es : List Expr} {ρ : RO} {μ : List MO} {pos p : Pos} {R : Cn} {RX : RXt} {x : Str} {k : Nat} {C : CtrX}
theorem EvX.call (F : FnX X.prog X.w X.K X.mg X.base x k C) (hA : X.A.guards = some []) (hr : Room k X.A) (hg : Gl X x) (h : EvA X (e :: es) ρ μ fun ds μ1 => C ds μ1 R RX)
    (hdb : (x == ("__debug__" : Str)) = false := by decide) (he : starEach (e :: es) X.env = (false, eval e X.env) :: starEach es X.env := by rfl) (hpl : (backTo pos (starEach es X.env)).any (·.1) = false := by rfl) :
    EvX X (.Call (.Name x p) (e :: es) [] pos) ρ μ R RX := by
  obtain ⟨f, fd, ps, G, hm, hk, hb⟩ := F
  refine ⟨fun pins s σ H Q I ⟨α, E, q, qx⟩ => wpAny_Call_Name_kw (ld_glob I hg hm ?_ hdb)⟩
  have ha : PA X (e :: es) (tEvA X ρ μ fun ds μ1 => C ds μ1 R RX) := h
  refine PySem.W.callWith_K (h₀ := X.base) I.ok.mod.kin hk (thn (ha.run pos pins s σ H (fun vs H1 => SpX X.K C vs H1 (fun v H' => Q v H') (fun c d H' => Wmax X c d σ H')) I ⟨α, E, ?_⟩) ?_) he hpl
  · intro vs ds α1 μ1 H1 c E1 X1 hv
    exact ⟨α1, μ1, ds, R, RX, E1.live, hv, c, fun v d α' μ' H' r l k' hd => q v d α' μ' H' r (E1.ext k' l) (X1.trans k') hd,
      fun C' ds' d fs α' μ' H' r l k' h1 h2 => qx C' ds' d fs σ α' μ' H' r l (X1.trans k') h1 h2⟩
  · rintro us s1 ⟨vs, H1, I1, rv, sp⟩
    refine ⟨I1.kIn, ?_⟩
    have hl : us.length = ps.length := rv.length ▸ G.len _ _ _ _ sp
    refine wpAny_call (codeAny_mono (G.go X.A X.stack s1 H1 ⟨us, []⟩ us vs Q _ hA hr I1.env0 ?_ rv sp) fun r s2 hq => ?_)
    · have z := hb s1 us I1.kIn (by rw [List.append_nil]; exact hl)
      rw [List.append_nil] at z
      exact z
    · cases r with
      | error er => exact takes_max er s2 (XE.of_call I1 (fun _ _ _ h => h) hq)
      | ok fl =>
        cases fl with
        | ret u => exact I1.after hq
        | next => exact False.elim hq
        | brk => exact False.elim hq
        | cont => exact False.elim hq
end
end Eg

namespace Eg
open PySem PySem.Spec L2
/-! ### raise X(e, ..) of an own class whose __init__ stores -/
structure XR (P : Program) (w : World) (K : PySem.W.Frag) (mg : Str → Option Value) (base : Heap) (x : Str) (C : Addr) (k n : Nat) (fl : List V → List (Str × V)) : Prop where
  gC : mg x = some (.ref C)
  oc : OexC K C
  ini : ∃ fI fd ps, PySem.W.findIn K (.ref C) "__init__" = some (some (.ref fI)) ∧ PySem.W.typeIn K (.ref fI) = some (.type "function") ∧ FnOk P w K mg base L2.CX0 k fI fd ps (spI C n fl) ∧ Binds K fd ps []
section
variable {X : Cx} {e : Expr} {es : List Expr} {ρ : RO} {μ : List MO} {pos p pos1 : Pos} {R : Co} {RX : RXt} {x : Str} {C : Addr} {k n : Nat} {fl : List V → List (Str × V)}
theorem StX.raise {fdf : List DV → List (Str × DV)} (T : XR X.prog X.w X.K X.mg X.base x C k n fl) (hr : Room (k + 1) X.A) (hg : Gl X x) (hc : X.calm = true) (h0 : n ≤ 1000) (hf : ∀ ys ds w, HasL w ys ds → ys.length = n → HasF w (fl ys) (fdf ds))
    (h : EvA X (e :: es) ρ μ fun ds μ1 => ds.length = n ∧ RX C (fdf ds) μ1)
    (hdb : (x == ("__debug__" : Str)) = false := by decide) (he : starEach (e :: es) X.env = (false, eval e X.env) :: starEach es X.env := by rfl) (hpl : (backTo pos1 (starEach es X.env)).any (·.1) = false := by rfl) :
    StX X (.Raise (some (.Call (.Name x p) (e :: es) [] pos1)) none pos) ρ μ R RX := by
  obtain ⟨gC, oc, fI, fd, ps, iC, tI, F1, hb⟩ := T
  have ha : PA X (e :: es) (tEvA X ρ μ fun ds μ1 => ds.length = n ∧ RX C (fdf ds) μ1) := h
  refine PSw (ps_raise hc takes_max (pmk_oex oc iC tI F1 hr hb .nil pass0 hg gC ha hdb he hpl)) fun D σ H ⟨α, E, _, qx⟩ => ?_
  refine ⟨α, E, fun vs ds α1 μ1 H1 ⟨hn, r⟩ E1 X1 hv => ?_⟩
  have hl : vs.length = n := hv.length.trans hn
  refine ⟨by omega, fun a na => ⟨a, vs ++ [], rfl, by rw [List.append_nil]; exact hl, upd_same, fun d H' h1 h2 h3 h4 => ?_⟩⟩
  rw [List.append_nil] at h3
  have nd : d ≠ a := fun z => by
    rw [z, upd_same] at h1
    cases h1
  rw [upd_ne nd] at h1
  have keep : ∀ b, H1 b ≠ none → (upd (del H' a) d (.xd (fl vs))) b = H1 b := fun b hb => by
    have n1 : b ≠ a := fun z => hb (by rw [z]; exact na)
    have n2 : b ≠ d := fun z => hb (by rw [z]; exact h1)
    rw [upd_ne n2]
    show (if b = a then none else H' b) = H1 b
    rw [if_neg n1, h4 b (by rw [upd_ne n1]; exact hb) n1, upd_ne n1]
  obtain ⟨kp, l⟩ := E1.live.lays keep
  exact ⟨rfl, d, fl vs, h2, h3, h1, qx C (fdf ds) d (fl vs) σ α1 μ1 _ r l (X1.trans kp) upd_same (hf _ _ _ (kp.hasL hv) hl)⟩
end
/-! ### try: .. except X as n: return [s, n.f, n.g] -/
section
variable {X : Cx} {ρ : RO} {μ : List MO} {pos pos' np p1 p2 p3 p4 p5 p6 p7 : Pos} {R : Co} {x n s f1 f2 : Str} {C : Addr} {body : List Stmt} {j : Nat}
theorem St.try2 (i : Nat) (hs : X.stack = X.env :: X.outer) (hf : X.env.frame = some X.env.locals) (hN : X.N.Nodup) (hi : X.N[i]? = some n) (hln : X.env.kindOf n = some .local) (hc : Names X x (.ref C)) (hv : Vis X.env.scope n)
    (hd : (n == ("__debug__" : Str)) = false) (hcd : (n == ("__classdict__" : Str)) = false) (XF : XfC X.K C) (no1 : PySem.W.findIn X.K (.ref C) f1 = some none) (no2 : PySem.W.findIn X.K (.ref C) f2 = some none) (hx : PySem.W.exmOne X.K (.ref C) (.ref C) = some true)
    (h : ∀ pn xe, PassesOwn (model X.prog X.w) X.A X.env xe → StsX (X.tr pn xe) body ρ μ R fun C' fs μ' => C' = C ∧ ∃ d1 d2, fs.lookup f1 = some d1 ∧ fs.lookup f2 = some d2 ∧ R (.rt (.lst [.str s, d1, d2]) μ')) :
    St X (.Try body [.ExceptHandler (some (.Name x np)) (some n) [.Return (some (.List [.Constant (.str s) j p1, .Attribute (.Name n p2) f1 p3, .Attribute (.Name n p4) f2 p5] p6)) p7] pos'] [] [] pos) ρ μ R := by
  refine PSw (ps_try_as (i := i) (tb := fun W D σ H => ∃ α, En ⟨X.K, α, μ, H⟩ σ ρ ∧
      ((∀ ρ' σ' α' μ' H', R (.nx ρ' μ') → En ⟨X.K, α', μ', H'⟩ σ' ρ' → Kp ⟨X.K, α, μ, H⟩ ⟨X.K, α', μ', H'⟩ → D.nx σ' H') ∧
       (∀ v d α' μ' H', R (.rt d μ') → Live ⟨X.K, α', μ', H'⟩ → Kp ⟨X.K, α, μ, H⟩ ⟨X.K, α', μ', H'⟩ → Has ⟨X.K, α', μ', H'⟩ v d → D.rt v H') ∧
       (∀ ρ' σ' α' μ' H', R (.bk ρ' μ') → En ⟨X.K, α', μ', H'⟩ σ' ρ' → Kp ⟨X.K, α, μ, H⟩ ⟨X.K, α', μ', H'⟩ → D.bk σ' H') ∧
       (∀ ρ' σ' α' μ' H', R (.ct ρ' μ') → En ⟨X.K, α', μ', H'⟩ σ' ρ' → Kp ⟨X.K, α, μ, H⟩ ⟨X.K, α', μ', H'⟩ → D.ct σ' H')) ∧
      ∀ C' ds d fs σ' α' μ' H', (C' = C ∧ ∃ d1 d2, List.lookup f1 ds = some d1 ∧ List.lookup f2 ds = some d2 ∧ R (.rt (.lst [.str s, d1, d2]) μ')) → Live ⟨X.K, α', μ', H'⟩ → Kp ⟨X.K, α, μ, H⟩ ⟨X.K, α', μ', H'⟩ → H' d = some (.xd fs) → HasF ⟨X.K, α', μ', H'⟩ fs ds → σ'.length = X.N.length → W (.ref C') (some d) σ' H')
    hs hf hN hi hln hc takes0 (fun W pn xe tk po => PSsw (h pn xe po) fun D σ H ⟨α, E, q, qx⟩ => ⟨α, E, q, fun C' ds d fs σ' α' μ' H' r l k h1 h2 => ?_⟩)
    (fun a oe cls d pn hz hfl => pss_one (ps_ret (pe_lst (pa_cons pe_str (pa_cons (pe_xf XF no1 hz hfl (pe_var hi hv hd hcd)) (pa_cons (pe_xf XF no2 hz hfl (pe_var hi hv hd hcd)) pa_nil))))))) fun D σ H ⟨α, E, q⟩ => ?_
  · exact wmax_of tk fun hl => qx C' ds d fs σ' α' μ' H' r l k h1 h2 hl
  · refine ⟨α, E, q, ?_⟩
    rintro C' ds d fs σ' α' μ' H' ⟨rfl, d1, d2, l1, l2, r⟩ l k h1 h2 hl
    obtain ⟨v1, e1, g1⟩ := hasF_look h2 l1
    obtain ⟨v2, e2, g2⟩ := hasF_look h2 l2
    refine ⟨true, hx, fun _ a na => ?_, fun z => nomatch z⟩
    have hat : (List.set σ' i (some (V.ref a)))[i]? = some (some (V.ref a)) := by
      have hi' : i < σ'.length := by
        rw [hl]
        exact (List.getElem?_eq_some_iff.mp hi).1
      simp [hi']
    refine ⟨.ref a, hat, rfl, rfl, d, fs, v1, rfl, h1, e1, .ref a, hat, rfl, rfl, d, fs, v2, rfl, h1, e2, by show 3 ≤ sizeLine; decide, fun p np => ?_⟩
    obtain ⟨kp, lp⟩ := l.lay (o := .lst [.str s, v1, v2]) np
    exact q.2.1 _ _ α' μ' _ r lp (k.trans kp) (.lst (.inl ⟨l.fresh np, .inl upd_same⟩) (kp.hasL (.cons .str (.cons g1 (.cons g2 .nil)))))
end
end Eg

namespace Eg
open PySem PySem.Spec L2
section
variable {X : Cx} {a b c e o : Expr} {ρ : RO} {μ : List MO} {pos p pos' : Pos}
/-! ### x += e -/
theorem St.augAdd {R : Co} (i : Nat) {x : Str} (n : Int) (hN : X.N.Nodup) (hi : X.N[i]? = some x) (hx : Loc X.env.scope x) (hn : ρ[i]? = some (some (.int n))) (hf : X.fn x = true ∨ X.env.scope.names.lookup x = some .local)
    (h : Ev X e ρ μ fun d μ1 => ∃ j, d = .int j ∧ R (.nx (ρ.set i (some (.int (n + j)))) μ1)) : St X (.AugAssign (.Name x pos') .Add e pos) ρ μ R :=
  PSw (ps_aug hN hi hx h ip_add hf) fun D σ H ⟨α, E, q⟩ => by
    obtain ⟨v, e1, e2⟩ := E.at_ i _ hn
    cases e2
    refine ⟨.int n, e1, α, E, ?_⟩
    rintro v d α1 μ1 H1 ⟨j, rfl, r⟩ E1 X1 hv
    cases hv
    exact ⟨n, j, rfl, rfl, q.1 _ _ α1 μ1 H1 r (E1.set i .int) X1⟩
theorem St.augSub {R : Co} (i : Nat) {x : Str} (n : Int) (hN : X.N.Nodup) (hi : X.N[i]? = some x) (hx : Loc X.env.scope x) (hn : ρ[i]? = some (some (.int n))) (hf : X.fn x = true ∨ X.env.scope.names.lookup x = some .local)
    (h : Ev X e ρ μ fun d μ1 => ∃ j, d = .int j ∧ R (.nx (ρ.set i (some (.int (n - j)))) μ1)) : St X (.AugAssign (.Name x pos') .Sub e pos) ρ μ R :=
  PSw (ps_aug hN hi hx h ip_sub hf) fun D σ H ⟨α, E, q⟩ => by
    obtain ⟨v, e1, e2⟩ := E.at_ i _ hn
    cases e2
    refine ⟨.int n, e1, α, E, ?_⟩
    rintro v d α1 μ1 H1 ⟨j, rfl, r⟩ E1 X1 hv
    cases hv
    exact ⟨n, j, rfl, rfl, q.1 _ _ α1 μ1 H1 r (E1.set i .int) X1⟩
/-! ### parts of texts -/
theorem Ev.sliceS {lo hi : Option Expr} {p2 : Pos} {R : Cn} (h : Ev X a ρ μ fun d μ1 => ∃ z, d = .str z ∧ z.length ≤ sizeLine ∧ EvP X lo ρ μ1 fun l μ2 => EvP X hi ρ μ2 fun u μ3 => R (.str (cutS z l u)) μ3) : Ev X (.Subscript a (.Slice lo hi none p2) pos) ρ μ R :=
  PEw (pe_slice sl_str pe_a po_a po_a) fun σ H Q ⟨α, E, q⟩ => ⟨_, h, α, E, fun v d α1 μ1 H1 ⟨z, e, hz, h1⟩ E1 X1 hv => by
    subst e
    cases hv
    exact ⟨_, h1, α1, E1, fun l α2 μ2 H2 h2 E2 X2 => ⟨_, h2, α2, E2, fun u α3 μ3 H3 h3 E3 X3 => ⟨z, rfl, hz, q _ _ α3 μ3 H3 h3 E3 (X1.trans (X2.trans X3)) .str⟩⟩⟩⟩
/-- xs[::-1] -/
theorem Ev.revL {k : Nat} {p1 p2 p3 : Pos} {R : Cn} (h : Ev X e ρ μ fun d μ1 => ∃ ds, d = .lst ds ∧ R (.lst ds.reverse) μ1) : Ev X (.Subscript e (.Slice none none (some (.UnaryOp .USub (.Constant (.int 1) k p1) p2)) p3) pos) ρ μ R :=
  PEw (pe_revL pe_a) fun σ H Q ⟨α, E, q⟩ => ⟨_, h, α, E, fun v d α1 μ1 H1 ⟨ds, e, r⟩ E1 X1 hv => by
    subst e
    obtain ⟨a, vs, rfl, s, t⟩ := sqL_of hv
    refine ⟨a, vs, rfl, s, fun p np => ?_⟩
    obtain ⟨k, l⟩ := E1.live.lay (o := .lst vs.reverse) np
    exact q _ _ α1 μ1 _ r (E1.ext k l) (X1.trans k) (.lst (.inl ⟨E1.live.fresh np, .inl upd_same⟩) (k.hasL (HasL.rev t)))⟩
where HasL.rev {w : Wd} : ∀ {vs : List V} {ds : List DV}, HasL w vs ds → HasL w vs.reverse ds.reverse
  | _, _, .nil => .nil
  | _, _, .cons h t => by
    rw [List.reverse_cons, List.reverse_cons]
    exact HasL.app (HasL.rev t) (.cons h .nil)
/-! ### s.split(t), s.find(t, i), str(n) -/
theorem strs_has {w : Wd} : ∀ ys : List Str, HasL w (ys.map V.str) (ys.map DV.str)
  | [] => .nil
  | _ :: r => .cons .str (strs_has r)
theorem Ev.split {R : Cn} {apos cpos : Pos} (h : Ev X o ρ μ fun dO μ1 => ∃ z, dO = .str z ∧ z.length + 2 ≤ sizeLine ∧ EvA X [e] ρ μ1 fun ds μ2 => ∃ t, ds = [.str t] ∧ (t.length == 0) = false ∧ R (.lst ((Txt.split z t).map DV.str)) μ2)
    (hbase : attributeBase o "split" X.env (eval o X.env) = eval o X.env := by rfl)
    (hfew : ((backTo cpos (starEach [e] X.env)).all (fun x => !x.1) && (backToKw cpos (keywordEach [] X.env)).all (fun x => x.1.isSome)
      && decide ([e].length + ([] : List Keyword).length + (if ([] : List Keyword).isEmpty then 0 else 1) < 30)) = true := by rfl)
    (hline : (apos.endLine == cpos.line) = true := by rfl) (hs : starEach [e] X.env = (false, eval e X.env) :: starEach [] X.env := by rfl) :
    Ev X (.Call (.Attribute o "split" apos) [e] [] cpos) ρ μ R :=
  PEw (pe_bm PySem.F.plainAttrs_str PySem.F.slot_str_split PySem.F.type_str_split mt_split pe_a pa_a hbase hfew hline hs rfl) fun σ H Q ⟨α, E, q⟩ => ⟨_, h, α, E, fun v dO α1 μ1 H1 ⟨z, e1, hz, h1⟩ E1 X1 hv => by
    subst e1
    cases hv
    refine ⟨rfl, _, h1, α1, E1, ?_⟩
    rintro us ds α2 μ2 H2 ⟨t, rfl, ht, r⟩ E2 X2 hus
    obtain ⟨u, rfl, hu⟩ := hasL1 hus
    cases hu
    refine ⟨z, t, rfl, rfl, ht, hz, fun p np => ?_⟩
    obtain ⟨k, l⟩ := E2.live.lay (o := .lst ((Txt.split z t).map V.str)) np
    exact q _ _ α2 μ2 _ r (E2.ext k l) (X1.trans (X2.trans k)) (.lst (.inl ⟨E2.live.fresh np, .inl upd_same⟩) (strs_has _))⟩
theorem Ev.find3 {R : Cn} {apos cpos : Pos} (h : Ev X o ρ μ fun dO μ1 => ∃ z, dO = .str z ∧ EvA X [a, b] ρ μ1 fun ds μ2 => ∃ t i, ds = [.str t, .int i] ∧ R (.int (Txt.find3 z t i)) μ2)
    (hbase : attributeBase o "find" X.env (eval o X.env) = eval o X.env := by rfl)
    (hfew : ((backTo cpos (starEach [a, b] X.env)).all (fun x => !x.1) && (backToKw cpos (keywordEach [] X.env)).all (fun x => x.1.isSome)
      && decide ([a, b].length + ([] : List Keyword).length + (if ([] : List Keyword).isEmpty then 0 else 1) < 30)) = true := by rfl)
    (hline : (apos.endLine == cpos.line) = true := by rfl) (hs : starEach [a, b] X.env = (false, eval a X.env) :: starEach [b] X.env := by rfl) (hp : (backTo cpos (starEach [b] X.env)).any (·.1) = false := by rfl) :
    Ev X (.Call (.Attribute o "find" apos) [a, b] [] cpos) ρ μ R :=
  PEw (pe_bm PySem.F.plainAttrs_str PySem.F.slot_str_find PySem.F.type_str_find mt_find3 pe_a pa_a hbase hfew hline hs hp) fun σ H Q ⟨α, E, q⟩ => ⟨_, h, α, E, fun v dO α1 μ1 H1 ⟨z, e1, h1⟩ E1 X1 hv => by
    subst e1
    cases hv
    refine ⟨rfl, _, h1, α1, E1, ?_⟩
    rintro us ds α2 μ2 H2 ⟨t, i, rfl, r⟩ E2 X2 hus
    obtain ⟨u, w, rfl, hu, hw⟩ := hasL2 hus
    cases hu
    cases hw
    exact ⟨z, t, i, rfl, rfl, q _ _ α2 μ2 _ r E2 (X1.trans X2) .int⟩⟩
def sStrI : SA := fun ds μ R => ∃ i, ds = [.int i] ∧ i.natAbs.log2 < 1920 ∧ R (.str (Str.ofString (toString i))) μ
theorem strI_S : RaS X (fun xs H Q => ∃ i, xs = [.int i] ∧ i.natAbs.log2 < 1920 ∧ Q (.str (Str.ofString (toString i))) H) sStrI := fun α μ H σ ρ vs ds R Q E hv h q => by
  obtain ⟨i, rfl, c, r⟩ := h
  obtain ⟨v, rfl, hw⟩ := hasL1 hv
  cases hw
  exact ⟨i, rfl, c, q.sc E r .str⟩
theorem Ev.toStr {R : Cn} (hg : Gl X "str") (hm : X.mg "str" = none) (h : EvA X [e] ρ μ fun ds μ1 => sStrI ds μ1 R) (he : starEach [e] X.env = (false, eval e X.env) :: starEach [] X.env := by rfl) :
    Ev X (.Call (.Name "str" p) [e] [] pos) ρ μ R := .callTy call_str_int strI_S hg hm PyProof.Rows.boot_str h (by decide) (by decide) he rfl
end
end Eg

namespace Eg
open PySem PySem.Spec PyProof.Rows L2
/-! ### for i, x in enumerate(xs, start=k) -/
/-- pairs of a count from k on and an item of the list at a -/
def Itn (K : PySem.W.Frag) (a : Addr) (k : Int) : It where
  go := fun i H => ∃ (xs : List V) (x : V), SqL K H a xs ∧ xs[i]? = some x
  yld := fun i H v H' => ∃ (T : Addr) (x : V), v = .ref T ∧ H T = none ∧ H' = upd H T (.tup [.int (k + (i : Int)), x]) ∧ ∀ xs, SqL K H a xs → xs[i]? = some x
  stop := fun i H => ∃ xs : List V, SqL K H a xs ∧ xs.length = i
theorem turn_count {P : Program} {w : World} {K : PySem.W.Frag} {elts : List Expr} {kk : Nat} {tpos : Pos} (a e it : Addr) (k : Int) :
    Turn P w K (.Tuple elts kk tpos) (Itn K a k) [e, it] e fun i h => (∃ old, IsEnum h e it (k + (i : Int)) old) ∧ h.IsListIter it a i ∧ e ≠ it ∧ a ≠ it ∧ a ≠ e where
  mem := List.mem_cons_self
  obj := by
    rintro i h ⟨⟨old, he⟩, ⟨o, ho, hc, hd⟩, _⟩ b hb
    rcases List.mem_cons.mp hb with z | z
    · subst z
      exact ⟨_, he, fun v q => nomatch q⟩
    · obtain rfl := List.mem_singleton.mp z
      exact ⟨o, ho, fun v q => by rw [hd] at q; cases q⟩
  keep := by
    rintro i h h' ⟨⟨old, he⟩, hi, r⟩ kp
    exact ⟨⟨old, kp e List.mem_cons_self _ he⟩, hi.at fun o q => kp it (List.mem_cons_of_mem _ List.mem_cons_self) o q, r⟩
  item := by
    rintro X rfl rfl rfl hc i pins s σ H E I hf ⟨⟨old, he⟩, hit, n1, n2, n3⟩ ⟨xs, x, hq, hx⟩
    obtain ⟨its, rv, p, hz⟩ := I.list hq
    obtain ⟨u, hu, ru⟩ := rv.get hx
    have hlt : i < its.toArray.size := by
      rw [List.size_toArray]
      exact (List.getElem?_eq_some_iff.mp hu).1
    have le : e < s.heap.objs.size := Heap.lt_size he
    have li : it < s.heap.objs.size := by
      obtain ⟨_, q, _⟩ := hit
      exact Heap.lt_size q
    have hef : e ∉ [it, a] := by
      intro z
      rcases List.mem_cons.mp z with z | z
      · exact n1 z
      · exact n3 (List.mem_singleton.mp z).symm
    refine wpAny_pyNext_enum_itemC (Draws.list (A := X.A.in1) (I.ok.hd hc) it a n2 its.toArray) he ⟨hit, p.isList⟩ hlt n1 hef ?_
    rintro x' h' tk hx' out ⟨hit', _⟩ hT hsz keep
    have ex : x' = u := by
      have z : its.toArray[i]? = some u := by
        rw [List.getElem?_toArray]
        exact hu
      have hx2 : its.toArray[i]? = some x' := hx'
      rw [hx2] at z
      exact Option.some.inj z
    subst ex
    refine ⟨_, rfl, wpAny_letOwnedTupleGo_enum (s := { s with heap := h', toks := tk + 1 }) out fun h2 he2 sb => ?_⟩
    have at2 : h2.get? s.heap.objs.size = some { cls := .type "tuple", data := .seq #[.int (k + (i : Int)) tk, x'] } := (sb.2 _ (Nat.ne_of_gt le)).trans hT
    have new : ObjOk X.prog X.w (upd H s.heap.objs.size (.tup [.int (k + (i : Int)), x])) h2 s.heap.objs.size (.tup [.int (k + (i : Int)), x]) :=
      ⟨by show 2 ≤ sizeLine; decide, [.int (k + (i : Int)) tk, x'], .cons ⟨_, rfl⟩ (.cons ru .nil), ⟨_, at2, rfl, _, rfl⟩⟩
    have I2 : L2.Inv X pins σ (upd H s.heap.objs.size (.tup [.int (k + (i : Int)), x])) { s with heap := h2, toks := tk + 1 } := by
      refine I.turnedNew (ch := [e, it]) (fun b ob hb q => ?_) hf (Nat.le_refl _) new
      have b1 : b ≠ e := fun z => hb (by rw [z]; exact List.mem_cons_self)
      have b2 : b ≠ it := fun z => hb (by rw [z]; exact List.mem_cons_of_mem _ List.mem_cons_self)
      exact (sb.2 b b1).trans (keep b ob b1 b2 q)
    have cnt : k + ((i + 1 : Nat) : Int) = k + (i : Int) + 1 := by omega
    refine ⟨.ref s.heap.objs.size, _, I2, rfl, ⟨_, x, rfl, I.hok.fresh (Nat.le_refl _), rfl, fun ys hy => ?_⟩, ⟨⟨x', ?_⟩, hit'.at fun o q => (sb.2 it (Ne.symm n1)).trans q, n1, n2, n3⟩, fun b hb => ?_⟩
    · rw [I.list_inj hy hq]
      exact hx
    · rw [cnt]
      exact he2
    · have lb : b < s.heap.objs.size := by
        rcases List.mem_cons.mp hb with z | z
        · rw [z]; exact le
        · rw [List.mem_singleton.mp z]; exact li
      rw [upd_ne (Nat.ne_of_lt lb)]
      exact (hf b hb).1
  done := by
    rintro X rfl rfl rfl hc i pins s σ H E I hf ⟨⟨old, he⟩, hit, n1, n2, n3⟩ ⟨xs, hq, hx⟩
    obtain ⟨its, rv, p, hz⟩ := I.list hq
    obtain ⟨f0, f1, f2, f3, f4, f5⟩ := hf it (List.mem_cons_of_mem _ List.mem_cons_self)
    have en : its.toArray.size = i := by
      rw [List.size_toArray, ← rv.length]
      exact hx
    exact wpAny_pyNext_enum_endD (Draws.list (A := X.A.in1) (I.ok.hd hc) it a n2 its.toArray) he (by rw [en]; exact ⟨hit, p.isList⟩) fun h' eb => ⟨rfl, I.turned (t' := s.toks) (fun b o hb q => eb b o hb q) f0 f1 f3 f4 f5⟩
  self := by
    rintro A i s Q E ⟨⟨_, he⟩, _⟩ h
    exact wpAny_pyIter_enum he h
section
variable {X : Cx} {e ek : Expr} {ρ : RO} {μ : List MO} {p pos tpos kpos : Pos} {elts : List Expr} {kk : Nat} {Ra : Ca}
/-- the pairs that come -/
def cntD (k : Int) : List DV → List DV
  | [] => []
  | d :: r => .tup [.int k, d] :: cntD (k + 1) r
theorem cntD_at : ∀ (ds : List DV) (k : Int) (i : Nat) (d : DV), (cntD k ds)[i]? = some d → ∃ x, ds[i]? = some x ∧ d = .tup [.int (k + (i : Int)), x]
  | [], _, _, _, h => by simp [cntD] at h
  | x :: r, k, 0, d, h => by
    have h' : some (DV.tup [.int k, x]) = some d := h
    refine ⟨x, rfl, ?_⟩
    rw [← Option.some.inj h']
    simp
  | x :: r, k, i + 1, d, h => by
    obtain ⟨y, h1, h2⟩ := cntD_at r (k + 1) i d h
    refine ⟨y, h1, ?_⟩
    rw [h2]
    have : k + 1 + (i : Int) = k + ((i + 1 : Nat) : Int) := by omega
    rw [this]
theorem cntD_len : ∀ (ds : List DV) (k : Int), (cntD k ds).length = ds.length
  | [], _ => rfl
  | _ :: r, k => by
    show (cntD (k + 1) r).length + 1 = r.length + 1
    rw [cntD_len r]
theorem type_kw {M : Model} {A : Around} {E : Value → Shared → Prop} {s : Shared} {cp : Pos} {T : String} {args : List (Bool × Sem Value)} {kws : List (Option Str × Sem Value)} {Q : Value → Shared → Prop} (hp : (args.any (·.1) || kws.any (·.1.isNone)) = false)
    (h : wpAny M A (evalArgs (.type T) true args kws) (fun a s1 => wpAny M A (call (.type T) a.pos a.kw) Q E s1) E s) : wpAny M A (callWith cp (.type T) [] args kws) Q E s := by
  unfold callWith
  refine wpAny_bind (wpAny_holding ?_)
  refine wpAny_mono h (fun a s1 h1 => ?_) fun _ _ x => x
  refine wpAny_bind (wpAny_standAt ?_)
  simp only [hp]
  refine wpAny_bind (wpAny_pure (wpAny_bind ?_))
  refine wpAny_mono h1 (fun r s2 hr => ?_) fun _ _ x => x
  refine wpAny_bind (wpAny_holding ?_)
  exact wpAny_point (wpAny_pure hr)
def iCnt (K : PySem.W.Frag) (ta tk : TA) : TI := fun σ H R => ta σ H fun vs H1 => tk σ H1 fun ks H2 => ∃ a xs k, vs = [.ref a] ∧ ks = [.int k] ∧ SqL K H2 a xs ∧ -(2 ^ 63) ≤ k ∧ k < 2 ^ 63 ∧ R (Itn K a k) H2
theorem pi_count {ta tk : TA} (hg : Gl X "enumerate") (hm : X.mg "enumerate" = none) (ha : PA X [e] ta) (hk : PK X [⟨some "start", ek, kpos⟩] tk)
    (hs : starEach [e] X.env = (false, eval e X.env) :: starEach [] X.env := by rfl)
    (hall : (backToKw pos (keywordEach [⟨some "start", ek, kpos⟩] X.env)).all (·.1.isSome) = true := by rfl) (hks : (backToKw pos (keywordEach [⟨some "start", ek, kpos⟩] X.env)).filterMap (·.1) = [Str.ofString "start"] := by rfl)
    (hpl : ((backTo pos (starEach [e] X.env)).any (·.1) || (backToKw pos (keywordEach [⟨some "start", ek, kpos⟩] X.env)).any (·.1.isNone)) = false := by rfl) :
    PI X (.Tuple elts kk tpos) (.Call (.Name "enumerate" p) [e] [⟨some "start", ek, kpos⟩] pos) (iCnt X.K ta tk) := by
  refine ⟨fun pins s σ H R I h => ?_⟩
  refine wpAny_Call_Name_kw (ld_blt I hg hm boot_enumerate ?_ (by decide) (by decide))
  refine type_kw hpl (evalArgs_kw2 hall (thn (ha.run pos pins s σ H _ I h) fun us s1 ⟨vs, H1, I1, r1, q1⟩ => thn (hk.run pos pins s1 σ H1 _ I1 q1) fun ws s2 ⟨ks, H2, I2, r2, a, xs, k, ev, ek, hq, k0, k1, q⟩ => ?_) hs)
  subst ev ek
  rw [hks]
  obtain ⟨u, rfl, ru⟩ := vals1 r1
  obtain ⟨v, rfl, rv⟩ := vals1 r2
  have eu : u = Value.ref a := ru
  subst eu
  obtain ⟨t, rfl⟩ := rv
  obtain ⟨its, rvs, p', hz⟩ := I2.list hq
  show wpAny _ _ (call (.type "enumerate") [.ref a] [(Str.ofString "start", .int k t)]) _ _ s2
  refine enum_begins_start (begins_list a its.toArray) p'.isList k0 k1 fun h' he hit hsz hkp => wpAny_pyIter_enum he ?_
  have I3 : L2.Inv X pins σ H2 { s2 with heap := h' } := I2.kept (t' := s2.toks) hkp
  have ha : a < s2.heap.objs.size := by
    obtain ⟨o, q, _⟩ := p'.isList
    exact Heap.lt_size q
  refine ⟨s2.heap.objs.size + 1, [s2.heap.objs.size + 1, s2.heap.objs.size], _, _, H2, rfl, I3, turn_count a (s2.heap.objs.size + 1) s2.heap.objs.size k, ⟨⟨.none, by simpa using he⟩, ⟨_, hit, rfl, rfl⟩, Nat.succ_ne_self _, Nat.ne_of_lt ha, Nat.ne_of_lt (Nat.lt_succ_of_lt ha)⟩, fun b hb => ?_, q⟩
  have hle : s2.heap.objs.size ≤ b := by
    rcases List.mem_cons.mp hb with z | z
    · rw [z]
      exact Nat.le_succ _
    · rw [List.mem_singleton.mp z]
      exact Nat.le_refl _
  exact I2.fpOk hle (I2.hok.fresh hle)
theorem EvI.count (hg : Gl X "enumerate") (hm : X.mg "enumerate" = none) (h : EvA X [e] ρ μ fun ds μ1 => ∃ xs, ds = [.lst xs] ∧ EvK X [⟨some "start", ek, kpos⟩] ρ μ1 fun ks μ2 => ∃ k, ks = [.int k] ∧ -(2 ^ 63) ≤ k ∧ k < 2 ^ 63 ∧ Ra (cntD k xs) μ2)
    (hs : starEach [e] X.env = (false, eval e X.env) :: starEach [] X.env := by rfl)
    (hall : (backToKw pos (keywordEach [⟨some "start", ek, kpos⟩] X.env)).all (·.1.isSome) = true := by rfl) (hks : (backToKw pos (keywordEach [⟨some "start", ek, kpos⟩] X.env)).filterMap (·.1) = [Str.ofString "start"] := by rfl)
    (hpl : ((backTo pos (starEach [e] X.env)).any (·.1) || (backToKw pos (keywordEach [⟨some "start", ek, kpos⟩] X.env)).any (·.1.isNone)) = false := by rfl) :
    EvI X (.Tuple elts kk tpos) (.Call (.Name "enumerate" p) [e] [⟨some "start", ek, kpos⟩] pos) ρ μ Ra :=
  PIw (pi_count hg hm pa_a pk_a hs hall hks hpl) fun σ H Q ⟨α, E, q⟩ => ⟨_, h, α, E, fun vs ds α1 μ1 H1 ⟨xs, e1, h1⟩ E1 X1 hv => ⟨_, h1, α1, E1, fun us ks α2 μ2 H2 ⟨k, e2, k0, k1, r⟩ E2 X2 hu => by
    subst e1 e2
    obtain ⟨v, rfl, hv'⟩ := hasL1 hv
    obtain ⟨w, rfl, hw⟩ := hasL1 hu
    cases hw
    obtain ⟨a, ws, rfl, s1, t1⟩ := sqL_of (X2.has hv')
    refine ⟨a, ws, k, rfl, rfl, s1, k0, k1, q _ _ α2 μ2 H2 r E2 (X1.trans X2) fun α3 μ3 H3 kp l => ?_⟩
    obtain ⟨a', ws', ea, s3, t3⟩ := sqL_of (kp.has (X2.has hv'))
    cases ea
    refine ⟨fun i d hd => ?_, ⟨ws', s3, by rw [cntD_len, t3.length]⟩⟩
    obtain ⟨x, f1, rfl⟩ := cntD_at _ _ _ _ hd
    obtain ⟨y, g1, g2⟩ := t3.get f1
    refine ⟨⟨ws', y, s3, g1⟩, ?_⟩
    rintro z H' ⟨T, y2, rfl, nT, rfl, c1⟩
    have q1 := c1 ws' s3
    rw [g1] at q1
    cases q1
    obtain ⟨k2, l2⟩ := l.lay (o := .tup [.int (k + (i : Int)), y]) nT
    exact ⟨k2, l2, .tup (.of upd_same) (.cons .int (.cons (k2.has g2) .nil))⟩⟩⟩
end
end Eg

namespace Eg
open PySem PySem.Spec L2
/-! ### for c in s, s a text -/
section
variable {X : Cx} {e : Expr} {ρ : RO} {μ : List MO}
def sgD (z : Str) : List DV := z.cps.toList.map fun c => DV.str ⟨#[c]⟩
theorem EvI.str {tg : Expr} {Ra : Ca} (h : Ev X e ρ μ fun d μ1 => ∃ z, d = .str z ∧ Ra (sgD z) μ1) : EvI X tg e ρ μ Ra :=
  PIw (pi_str pe_a) fun σ H Q ⟨α, E, q⟩ => ⟨_, h, α, E, fun v d α1 μ1 H1 ⟨z, e, r⟩ E1 X1 hv => by
    subst e
    cases hv
    refine ⟨z, rfl, q _ _ α1 μ1 H1 r E1 X1 fun α2 μ2 H2 k l => ⟨fun i d hd => ?_, ?_⟩⟩
    · unfold sgD at hd
      rw [List.getElem?_map] at hd
      obtain ⟨c, h1, rfl⟩ := Option.map_eq_some_iff.mp hd
      obtain ⟨hi, he⟩ := List.getElem?_eq_some_iff.mp h1
      refine ⟨by rw [Array.length_toList] at hi; exact hi, ?_⟩
      rintro y H' ⟨rfl, c', h2, rfl⟩
      have e2 : c' = c := by
        have : z.cps.toList[i]? = some c' := by rw [Array.getElem?_toList]; exact h2
        rw [h1] at this
        exact (Option.some.inj this).symm
      subst e2
      exact ⟨l.refl, l, .str⟩
    · show z.cps.size ≤ (sgD z).length
      unfold sgD
      rw [List.length_map, Array.length_toList]
      exact Nat.le_refl _⟩
/-- the order of two signs -/
theorem le_sign (c d : Nat) : (!decide ((⟨#[d]⟩ : Str).cps.toList < (⟨#[c]⟩ : Str).cps.toList)) = decide (c ≤ d) := by
  have e : ((⟨#[d]⟩ : Str).cps.toList < (⟨#[c]⟩ : Str).cps.toList) ↔ d < c := by
    show ([d] < [c]) ↔ d < c
    rw [List.cons_lt_cons_iff]
    simp
  by_cases h : c ≤ d
  · rw [decide_eq_true h, decide_eq_false fun z => absurd (e.mp z) (by omega)]
    rfl
  · rw [decide_eq_false h, decide_eq_true (e.mpr (by omega))]
    rfl
/-- lo <= c <= hi of signs -/
theorem EvT.between {b : Expr} {la lc : Str} {lo hi j1 j2 : Nat} {p1 p2 pos : Pos} {R : Ct} (e1 : la = ⟨#[lo]⟩) (e2 : lc = ⟨#[hi]⟩) (h : Ev X b ρ μ fun d μ1 => ∃ k, d = .str ⟨#[k]⟩ ∧ R (decide (lo ≤ k ∧ k ≤ hi)) μ1)
    (hm : lastMarks [.LtE, .LtE] [b, .Constant (.str lc) j2 p2] = false := by with_unfolding_all rfl) : EvT X (.Compare (.Constant (.str la) j1 p1) [.LtE, .LtE] [b, .Constant (.str lc) j2 p2] pos) ρ μ R := by
  subst e1 e2
  refine EvT.chain op_le_str rCmpS_S op_le_str rCmpS_S (Ev.str (Ev.mono h ?_)) hm
  rintro d μ1 ⟨k, rfl, r⟩
  refine ⟨_, _, rfl, rfl, _, rfl, ?_⟩
  show if (!decide ((⟨#[k]⟩ : Str).cps.toList < (⟨#[lo]⟩ : Str).cps.toList)) = true then _ else _
  rw [le_sign]
  refine ifd (fun hlo => Ev.str ⟨_, _, rfl, rfl, _, rfl, ?_⟩) (fun hlo => ?_)
  · show R (!decide ((⟨#[hi]⟩ : Str).cps.toList < (⟨#[k]⟩ : Str).cps.toList)) μ1
    rw [le_sign]
    have e : decide (lo ≤ k ∧ k ≤ hi) = decide (k ≤ hi) := decide_eq_decide.mpr ⟨fun z => z.2, fun z => ⟨hlo, z⟩⟩
    rw [e] at r
    exact r
  · rw [decide_eq_false fun z => hlo z.1] at r
    exact r
theorem Ev.between {b : Expr} {la lc : Str} {lo hi j1 j2 : Nat} {p1 p2 pos : Pos} {R : Cn} (e1 : la = ⟨#[lo]⟩) (e2 : lc = ⟨#[hi]⟩) (h : Ev X b ρ μ fun d μ1 => ∃ k, d = .str ⟨#[k]⟩ ∧ R (.bl (decide (lo ≤ k ∧ k ≤ hi))) μ1)
    (hm : lastMarks [.LtE, .LtE] [b, .Constant (.str lc) j2 p2] = false := by with_unfolding_all rfl) : Ev X (.Compare (.Constant (.str la) j1 p1) [.LtE, .LtE] [b, .Constant (.str lc) j2 p2] pos) ρ μ R := by
  subst e1 e2
  refine Ev.chain op_le_str rCmpS_S op_le_str rCmpS_S (Ev.str (Ev.mono h ?_)) hm
  rintro d μ1 ⟨k, rfl, r⟩
  refine ⟨_, _, rfl, rfl, _, rfl, ?_⟩
  show if (!decide ((⟨#[k]⟩ : Str).cps.toList < (⟨#[lo]⟩ : Str).cps.toList)) = true then _ else _
  rw [le_sign]
  refine ifd (fun hlo => Ev.str ⟨_, _, rfl, rfl, ?_⟩) (fun hlo => ?_)
  · show R (.bl (!decide ((⟨#[hi]⟩ : Str).cps.toList < (⟨#[k]⟩ : Str).cps.toList))) μ1
    rw [le_sign]
    have e : decide (lo ≤ k ∧ k ≤ hi) = decide (k ≤ hi) := decide_eq_decide.mpr ⟨fun z => z.2, fun z => ⟨hlo, z⟩⟩
    rw [e] at r
    exact r
  · rw [decide_eq_false fun z => hlo z.1] at r
    exact r
end
end Eg

namespace Eg
open PySem PySem.Spec L2
/-! What an expression comes to, as a function; the function's word holds of the expression. -/
abbrev RE := Option (DV × List MO)
abbrev Den := RO → List MO → RE
abbrev DenA := RO → List MO → Option (List DV × List MO)
def okE (o : RE) (R : Cn) : Prop := match o with
  | some (d, μ) => R d μ
  | none => False
def okA (o : Option (List DV × List MO)) (R : Ca) : Prop := match o with
  | some (d, μ) => R d μ
  | none => False
def SE (X : Cx) (e : Expr) (f : Den) : Prop := ∀ ρ μ R, okE (f ρ μ) R → Ev X e ρ μ R
def ST (X : Cx) (e : Expr) (f : Den) : Prop := ∀ ρ μ R, okE (f ρ μ) (toT R) → EvT X e ρ μ R
def SW (X : Cx) (e : Expr) (f : Den) : Prop := ∀ ρ μ R, okE (f ρ μ) (toT R) → EvW X e ρ μ R
def SAr (X : Cx) (es : List Expr) (f : DenA) : Prop := ∀ ρ μ R, okA (f ρ μ) R → EvA X es ρ μ R
theorem okE_some {o : RE} {R : Cn} (h : okE o R) : ∃ d μ, o = some (d, μ) ∧ R d μ := by
  match o, h with
  | some (d, μ), h => exact ⟨d, μ, rfl, h⟩
theorem okA_some {o : Option (List DV × List MO)} {R : Ca} (h : okA o R) : ∃ d μ, o = some (d, μ) ∧ R d μ := by
  match o, h with
  | some (d, μ), h => exact ⟨d, μ, rfl, h⟩
def bnd {α β γ : Type} (o : Option (α × β)) (k : α → β → Option γ) : Option γ := match o with
  | some (d, μ) => k d μ
  | none => none
@[simp] theorem bnd_some {α β γ : Type} (d : α) (μ : β) (k : α → β → Option γ) : bnd (some (d, μ)) k = k d μ := rfl
@[simp] theorem bnd_none {α β γ : Type} (k : α → β → Option γ) : bnd (none : Option (α × β)) k = none := rfl
theorem okE_bnd {o : RE} {k : DV → List MO → RE} {R : Cn} (h : okE (bnd o k) R) : ∃ d μ, o = some (d, μ) ∧ okE (k d μ) R := by
  match o, h with
  | some (d, μ), h => exact ⟨d, μ, rfl, h⟩
theorem okE_bndA {o : Option (List DV × List MO)} {k : List DV → List MO → RE} {R : Cn} (h : okE (bnd o k) R) : ∃ d μ, o = some (d, μ) ∧ okE (k d μ) R := by
  match o, h with
  | some (d, μ), h => exact ⟨d, μ, rfl, h⟩
theorem okA_bnd {o : RE} {k : DV → List MO → Option (List DV × List MO)} {R : Ca} (h : okA (bnd o k) R) : ∃ d μ, o = some (d, μ) ∧ okA (k d μ) R := by
  match o, h with
  | some (d, μ), h => exact ⟨d, μ, rfl, h⟩
theorem okA_bndA {o : Option (List DV × List MO)} {k : List DV → List MO → Option (List DV × List MO)} {R : Ca} (h : okA (bnd o k) R) : ∃ d μ, o = some (d, μ) ∧ okA (k d μ) R := by
  match o, h with
  | some (d, μ), h => exact ⟨d, μ, rfl, h⟩
section
variable {X : Cx} {a b c e : Expr} {es : List Expr} {fa fb fc f : Den} {fs : DenA} {pos p : Pos}
theorem SE.at {ρ : RO} {μ μ' : List MO} {d : DV} {R : Cn} (s : SE X e f) (h : f ρ μ = some (d, μ')) (r : R d μ') : Ev X e ρ μ R := s ρ μ R (by rw [h]; exact r)
theorem ST.at {ρ : RO} {μ μ' : List MO} {k : Bool} {R : Ct} (s : ST X e f) (h : f ρ μ = some (.bl k, μ')) (r : R k μ') : EvT X e ρ μ R := s ρ μ R (by rw [h]; exact ⟨k, rfl, r⟩)
theorem SW.at {ρ : RO} {μ μ' : List MO} {k : Bool} {R : Ct} (s : SW X e f) (h : f ρ μ = some (.bl k, μ')) (r : R k μ') : EvW X e ρ μ R := s ρ μ R (by rw [h]; exact ⟨k, rfl, r⟩)
theorem SAr.at {ρ : RO} {μ μ' : List MO} {d : List DV} {R : Ca} (s : SAr X es fs) (h : fs ρ μ = some (d, μ')) (r : R d μ') : EvA X es ρ μ R := s ρ μ R (by rw [h]; exact r)
/-- what is never reached -/
def dNo : Den := fun _ _ => none
theorem SE.no : SE X e dNo := fun _ _ _ h => h.elim
theorem ST.no : ST X e dNo := fun _ _ _ h => h.elim
/-! ### leaves -/
def dVar (i : Nat) : Den := fun ρ μ => match ρ[i]? with
  | some (some d) => some (d, μ)
  | _ => none
theorem SE.var (i : Nat) {x : Str} (hN : X.N[i]? = some x) (hv : Vis X.env.scope x) (hd : (x == ("__debug__" : Str)) = false := by decide) (hcd : (x == ("__classdict__" : Str)) = false := by decide) : SE X (.Name x pos) (dVar i) := fun ρ μ R h => by
  unfold dVar at h
  split at h
  · rename_i d e
    exact Ev.name i hN hv e h hd hcd
  · exact h.elim
def dC (d : DV) : Den := fun _ μ => some (d, μ)
theorem SE.int {i : Int} {j} : SE X (.Constant (.int i) j pos) (dC (.int i)) := fun _ _ _ h => Ev.int h
theorem SE.bl {i : Bool} {j} : SE X (.Constant (.bool i) j pos) (dC (.bl i)) := fun _ _ _ h => Ev.bl h
theorem SE.non {j} : SE X (.Constant .none j pos) (dC .non) := fun _ _ _ h => Ev.non h
theorem SE.str {x : Str} {j} : SE X (.Constant (.str x) j pos) (dC (.str x)) := fun _ _ _ h => Ev.str h
theorem SE.glob {x : Str} {v : V} {u : Value} {d : DV} (hg : Gl X x) (hm : X.mg x = some u) (r : RelV v u) (hv : ∀ α μ H, Has ⟨X.K, α, μ, H⟩ v d) (hd : (x == ("__debug__" : Str)) = false := by decide) : SE X (.Name x pos) (dC d) :=
  fun _ _ _ h => Ev.glob hg hm r hv h hd
/-! ### two places -/
def dOp2 (o : DV → DV → List MO → RE) (fa fb : Den) : Den := fun ρ μ => bnd (fa ρ μ) fun x μ1 => bnd (fb ρ μ1) fun y μ2 => o x y μ2
theorem SE.op2 {o : DV → DV → List MO → RE} (sa : SE X a fa) (sb : SE X b fb)
    (h : ∀ x y μ2 R, okE (o x y μ2) R → ∃ S : S2, S x y μ2 R ∧ ∀ ρ μ, Ev X a ρ μ (fun da μ1 => Ev X b ρ μ1 fun db μ2 => S da db μ2 R) → Ev X e ρ μ R) : SE X e (dOp2 o fa fb) := fun ρ μ R k => by
  obtain ⟨x, μ1, e1, k⟩ := okE_bnd k
  obtain ⟨y, μ2, e2, k⟩ := okE_bnd k
  obtain ⟨S, r, q⟩ := h x y μ2 R k
  exact q ρ μ (sa.at e1 (sb.at e2 r))
theorem ST.op2 {o : DV → DV → List MO → RE} (sa : SE X a fa) (sb : SE X b fb)
    (h : ∀ x y μ2 R, okE (o x y μ2) R → ∃ S : S2, S x y μ2 R ∧ ∀ (R' : Ct), R = toT R' → ∀ ρ μ, Ev X a ρ μ (fun da μ1 => Ev X b ρ μ1 fun db μ2 => S da db μ2 R) → EvT X e ρ μ R') : ST X e (dOp2 o fa fb) := fun ρ μ R k => by
  obtain ⟨x, μ1, e1, k⟩ := okE_bnd k
  obtain ⟨y, μ2, e2, k⟩ := okE_bnd k
  obtain ⟨S, r, q⟩ := h x y μ2 _ k
  exact q R rfl ρ μ (sa.at e1 (sb.at e2 r))
/-- + -/
def oAdd : DV → DV → List MO → RE
  | .int i, .int j, μ => some (.int (i + j), μ)
  | .str x, .str y, μ => if x.length + y.length ≤ sizeLine then some (.str (x ++ y), μ) else none
  | .tup xs, .tup ys, μ => if xs.length + ys.length ≤ sizeLine then some (.tup (xs ++ ys), μ) else none
  | .lst xs, .lst ys, μ => if xs.length + ys.length ≤ sizeLine then some (.lst (xs ++ ys), μ) else none
  | _, _, _ => none
def oSub : DV → DV → List MO → RE
  | .int i, .int j, μ => some (.int (i - j), μ)
  | _, _, _ => none
def oMul : DV → DV → List MO → RE
  | .int i, .int j, μ => if i.natAbs.log2 + j.natAbs.log2 < 1000000 then some (.int (i * j), μ) else none
  | _, _, _ => none
def oDiv : DV → DV → List MO → RE
  | .int i, .int j, μ => if 0 < j ∧ j.natAbs.log2 < 9000 then some (.int (i / j), μ) else if j < 0 ∧ j.natAbs.log2 < 9000 then some (.int (i.fdiv j), μ) else none
  | _, _, _ => none
def oMod : DV → DV → List MO → RE
  | .int i, .int j, μ => if j ≠ 0 then some (.int (i.fmod j), μ) else none
  | _, _, _ => none
def oPow : DV → DV → List MO → RE
  | .int i, .int j, μ => if 0 ≤ j ∧ j ≤ 1000000 ∧ i.natAbs < 2 ^ 64 then some (.int (i ^ j.toNat), μ) else none
  | _, _, _ => none
theorem okE_if {c : Prop} [Decidable c] {o : RE} {R : Cn} (h : okE (if c then o else none) R) : c ∧ okE o R := by
  by_cases hc : c
  · rw [if_pos hc] at h
    exact ⟨hc, h⟩
  · rw [if_neg hc] at h
    exact h.elim
def rCatL (K : PySem.W.Frag) : R2 := fun x y H Q => ∃ l b xs zs, x = .ref l ∧ y = .ref b ∧ SqL K H l xs ∧ SqL K H b zs ∧ xs.length + zs.length ≤ sizeLine ∧ ∀ p, H p = none → Q (.ref p) (upd H p (.lst (xs ++ zs)))
theorem op_catL : OpR X (binaryOp .Add) (rCatL X.K) := by
  intro pins s σ H x y v u Q I rx ry h
  obtain ⟨l, b, xs, zs, rfl, rfl, hH, hB, hz, q⟩ := h
  cases rx
  cases ry
  obtain ⟨its, r, pl, _⟩ := I.list hH
  obtain ⟨its2, r2, pl2, _⟩ := I.list hB
  obtain ⟨⟨cls, dd, data, sl⟩, ho, hc, n, hd⟩ := pl.isList
  obtain ⟨⟨cls2, dd2, data2, sl2⟩, ho2, hc2, n2, hd2⟩ := pl2.isList
  simp only at hc hd hc2 hd2
  subst hc hd hc2 hd2
  have e : its.toArray ++ its2.toArray = (its ++ its2).toArray := by simp
  have z1 := r.length
  have z2 := r2.length
  refine PySem.concat_meets ⟨_, ho, rfl⟩ ⟨_, ho2, rfl⟩ PySem.noFill_list_add PySem.seq_list_add PySem.F.slot_list_add PySem.F.entry_list_add (PySem.F.args_list_add_2 _ _) (PyProof.Rows.list_addW l b its.toArray its2.toArray n n2 dd dd2 sl sl2 (by simp only [List.size_toArray]; omega)) ⟨ho, ho2, ?_⟩
  rw [e]
  exact ⟨.ref _, _, I.lnew (t' := s.toks) (r.append r2) (by rw [List.length_append]; omega), rfl, q _ I.fresh⟩
def sCatL : S2 := fun x y μ R => ∃ xs ys, x = .lst xs ∧ y = .lst ys ∧ xs.length + ys.length ≤ sizeLine ∧ R (.lst (xs ++ ys)) μ
theorem rCatL_S : R2S X (rCatL X.K) sCatL := fun α μ H σ ρ x y da db R Q E hx hy h q => by
  obtain ⟨xs, ys, rfl, rfl, c, r⟩ := h
  obtain ⟨a, vs, rfl, s1, t1⟩ := sqL_of hx
  obtain ⟨b, us, rfl, s2, t2⟩ := sqL_of hy
  refine ⟨a, b, vs, us, rfl, rfl, s1, s2, by rw [t1.length, t2.length]; exact c, fun p np => ?_⟩
  obtain ⟨k, l⟩ := E.live.lay (o := .lst (vs ++ us)) np
  exact q _ _ α μ _ r (E.ext k l) k (.lst (.inl ⟨E.live.fresh np, .inl upd_same⟩) (k.hasL (HasL.app t1 t2)))
theorem SE.add (sa : SE X a fa) (sb : SE X b fb) : SE X (.BinOp a .Add b pos) (dOp2 oAdd fa fb) := SE.op2 sa sb fun x y μ2 R h => by
  unfold oAdd at h
  split at h
  · exact ⟨sAdd, sAdd.mk h, fun ρ μ k => Ev.addI k⟩
  · obtain ⟨c, h⟩ := okE_if h
    exact ⟨sAddS, ⟨_, _, rfl, rfl, c, h⟩, fun ρ μ k => Ev.addS k⟩
  · obtain ⟨c, h⟩ := okE_if h
    exact ⟨sCatT, ⟨_, _, rfl, rfl, c, h⟩, fun ρ μ k => Ev.catT k⟩
  · obtain ⟨c, h⟩ := okE_if h
    exact ⟨sCatL, ⟨_, _, rfl, rfl, c, h⟩, fun ρ μ k => Ev.op op_catL rCatL_S k⟩
  · exact h.elim
theorem SE.sub (sa : SE X a fa) (sb : SE X b fb) : SE X (.BinOp a .Sub b pos) (dOp2 oSub fa fb) := SE.op2 sa sb fun x y μ2 R h => by
  unfold oSub at h
  split at h
  · exact ⟨sSub, sSub.mk h, fun ρ μ k => Ev.sub k⟩
  · exact h.elim
theorem SE.mul (sa : SE X a fa) (sb : SE X b fb) : SE X (.BinOp a .Mult b pos) (dOp2 oMul fa fb) := SE.op2 sa sb fun x y μ2 R h => by
  unfold oMul at h
  split at h
  · obtain ⟨c, h⟩ := okE_if h
    exact ⟨sMul, sMul.mk c h, fun ρ μ k => Ev.mul k⟩
  · exact h.elim
/-- // by a divisor other than 0, below 2 ^ 9000 in size -/
def CDivNW (_ j : Int) : Prop := j ≠ 0 ∧ j.natAbs.log2 < 9000
theorem op_fdivNW : OpR X (binaryOp .FloorDiv) (rI CDivNW fun i j => .int (i.fdiv j)) := opI fun _ _ _ _ _ _ _ hc q => PyProof.Rows.floordiv_int hc.1 q (.inl (PyProof.noPylong_of_log2 hc.2))
def sDivN : S2 := fun x y μ R => ∃ i j, x = .int i ∧ y = .int j ∧ CDivNW i j ∧ R (.int (i.fdiv j)) μ
theorem SE.fdiv (sa : SE X a fa) (sb : SE X b fb) : SE X (.BinOp a .FloorDiv b pos) (dOp2 oDiv fa fb) := SE.op2 sa sb fun x y μ2 R h => by
  unfold oDiv at h
  split at h
  · rename_i i j
    by_cases c : 0 < j ∧ j.natAbs.log2 < 9000
    · rw [if_pos c] at h
      exact ⟨sDiv, sDiv.mk c h, fun ρ μ k => Ev.fdiv k⟩
    · rw [if_neg c] at h
      obtain ⟨c2, h⟩ := okE_if h
      exact ⟨sDivN, ⟨_, _, rfl, rfl, ⟨by omega, c2.2⟩, h⟩, fun ρ μ k => Ev.op op_fdivNW (rI_S fun _ _ _ => .int) k⟩
  · exact h.elim
theorem SE.mod (sa : SE X a fa) (sb : SE X b fb) : SE X (.BinOp a .Mod b pos) (dOp2 oMod fa fb) := SE.op2 sa sb fun x y μ2 R h => by
  unfold oMod at h
  split at h
  · obtain ⟨c, h⟩ := okE_if h
    exact ⟨sMod, sMod.mk c h, fun ρ μ k => Ev.mod k⟩
  · exact h.elim
theorem SE.pow (sa : SE X a fa) (sb : SE X b fb) : SE X (.BinOp a .Pow b pos) (dOp2 oPow fa fb) := SE.op2 sa sb fun x y μ2 R h => by
  unfold oPow at h
  split at h
  · obtain ⟨c, h⟩ := okE_if h
    exact ⟨sPow, sPow.mk c h, fun ρ μ k => Ev.pow k⟩
  · exact h.elim
/-! ### comparisons -/
def oLt : DV → DV → List MO → RE
  | .int i, .int j, μ => some (.bl (decide (i < j)), μ)
  | _, _, _ => none
def oLe : DV → DV → List MO → RE
  | .int i, .int j, μ => some (.bl (decide (i ≤ j)), μ)
  | _, _, _ => none
def oGt : DV → DV → List MO → RE
  | .int i, .int j, μ => some (.bl (decide (j < i)), μ)
  | _, _, _ => none
def oGe : DV → DV → List MO → RE
  | .int i, .int j, μ => some (.bl (decide (j ≤ i)), μ)
  | _, _, _ => none
mutual
def eqvD : DV → DV → Bool
  | .non, .non => true
  | .bl a, .bl b => a == b
  | .int i, .int j => decide (i = j)
  | .str x, .str y => x == y
  | .tup xs, .tup ys => eqvL xs ys
  | .lst xs, .lst ys => eqvL xs ys
  | .bl a, .int j => (if a then 1 else 0) == j
  | .int i, .bl b => i == (if b then 1 else 0)
  | _, _ => false
def eqvL : List DV → List DV → Bool
  | [], [] => true
  | x :: xs, y :: ys => eqvD x y && eqvL xs ys
  | _, _ => false
end
mutual
/-- of a shape that may be compared, d deep -/
def shD : Nat → DV → Bool
  | _, .non => true
  | _, .bl _ => true
  | _, .int _ => true
  | _, .str x => PySem.PyData.strOk x
  | n + 1, .tup xs => shL n xs
  | n + 1, .lst xs => shL n xs
  | _, _ => false
def shL : Nat → List DV → Bool
  | _, [] => true
  | n, x :: xs => shD n x && shL n xs
end
mutual
theorem sh_py : ∀ {n : Nat} {d : DV}, shD n d = true → ∃ pd, toPy d = some pd ∧ pd.hasDict = false ∧ pd.canLay0 = true ∧ pd.depth ≤ n
  | n, .non, _ => ⟨_, rfl, rfl, rfl, by simp [PyData.depth]⟩
  | n, .bl _, _ => ⟨_, rfl, rfl, rfl, by simp [PyData.depth]⟩
  | n, .int _, _ => ⟨_, rfl, rfl, rfl, by simp [PyData.depth]⟩
  | n, .str x, h => ⟨_, rfl, rfl, by
      simpa [shD, PyData.canLay0] using h, by simp [PyData.depth]⟩
  | 0, .tup _, h => by simp [shD] at h
  | 0, .lst _, h => by simp [shD] at h
  | n + 1, .tup xs, h => by
    obtain ⟨ps, e, h1, h2, h3⟩ := sh_pyL (n := n) (ds := xs) (by simpa [shD] using h)
    exact ⟨.tuple ps, by show (toPyL xs).map _ = _; rw [e]; rfl, by simpa [PyData.hasDict] using h1, by simpa [PyData.canLay0] using h2, by simp [PyData.depth]; omega⟩
  | n + 1, .lst xs, h => by
    obtain ⟨ps, e, h1, h2, h3⟩ := sh_pyL (n := n) (ds := xs) (by simpa [shD] using h)
    exact ⟨.list ps, by show (toPyL xs).map _ = _; rw [e]; rfl, by simpa [PyData.hasDict] using h1, by simpa [PyData.canLay0] using h2, by simp [PyData.depth]; omega⟩
  | _, .dic _, h => by simp [shD] at h
  | _, .exc _ _, h => by simp [shD] at h
  | _, .mu _, h => by simp [shD] at h
theorem sh_pyL : ∀ {n : Nat} {ds : List DV}, shL n ds = true → ∃ ps, toPyL ds = some ps ∧ PyData.hasDictAll ps = false ∧ PyData.canLayAll0 ps = true ∧ PyData.depthAll ps ≤ n
  | n, [], _ => ⟨[], rfl, rfl, rfl, by simp [PyData.depthAll]⟩
  | n, x :: xs, h => by
    have h' : (shD n x && shL n xs) = true := by simpa [shL] using h
    obtain ⟨p, e1, a1, a2, a3⟩ := sh_py (Bool.and_eq_true_iff.mp h').1
    obtain ⟨ps, e2, b1, b2, b3⟩ := sh_pyL (Bool.and_eq_true_iff.mp h').2
    refine ⟨p :: ps, ?_, ?_, ?_, ?_⟩
    · show (toPy x).bind _ = _
      rw [e1]
      show (toPyL xs).map _ = _
      rw [e2]
      rfl
    · simp [PyData.hasDictAll, a1, b1]
    · simp [PyData.canLayAll0, a2, b2]
    · simp [PyData.depthAll]
      omega
end
def DV.notSq : DV → Bool
  | .tup _ => false
  | .lst _ => false
  | _ => true
theorem py_dic {z : List (Key × DV)} {q : PyData} (e : toPy (.dic z) = some q) (n : q.hasDict = false) : False := by
  cases z with
  | nil => cases e; simp [PyData.hasDict] at n
  | cons _ _ => cases e
theorem py_tup {z : List DV} {q : PyData} (e : toPy (.tup z) = some q) : ∃ ps, toPyL z = some ps ∧ q = .tuple ps := by
  obtain ⟨ps, h1, h2⟩ := Option.map_eq_some_iff.mp (show (toPyL z).map PyData.tuple = some q from e)
  exact ⟨ps, h1, h2.symm⟩
theorem py_lst {z : List DV} {q : PyData} (e : toPy (.lst z) = some q) : ∃ ps, toPyL z = some ps ∧ q = .list ps := by
  obtain ⟨ps, h1, h2⟩ := Option.map_eq_some_iff.mp (show (toPyL z).map PyData.list = some q from e)
  exact ⟨ps, h1, h2.symm⟩
theorem eqv_flat {x y : DV} {p q : PyData} (e1 : toPy x = some p) (e2 : toPy y = some q) (n1 : p.hasDict = false) (n2 : q.hasDict = false) (hx : x.notSq = true ∨ y.notSq = true) : PyData.eqv p q = eqvD x y := by
  cases x with
  | dic z => exact (py_dic e1 n1).elim
  | exc _ _ => cases e1
  | mu _ => cases e1
  | tup xs =>
    obtain ⟨ps, _, rfl⟩ := py_tup e1
    cases y with
    | dic z => exact (py_dic e2 n2).elim
    | exc _ _ => cases e2
    | mu _ => cases e2
    | tup ys => simp [DV.notSq] at hx
    | lst ys => simp [DV.notSq] at hx
    | _ => cases e2; simp [PyData.eqv, eqvD]
  | lst xs =>
    obtain ⟨ps, _, rfl⟩ := py_lst e1
    cases y with
    | dic z => exact (py_dic e2 n2).elim
    | exc _ _ => cases e2
    | mu _ => cases e2
    | tup ys => simp [DV.notSq] at hx
    | lst ys => simp [DV.notSq] at hx
    | _ => cases e2; simp [PyData.eqv, eqvD]
  | _ =>
    cases e1
    cases y with
    | dic z => exact (py_dic e2 n2).elim
    | exc _ _ => cases e2
    | mu _ => cases e2
    | tup ys => obtain ⟨ps, _, rfl⟩ := py_tup e2; simp [PyData.eqv, eqvD]
    | lst ys => obtain ⟨ps, _, rfl⟩ := py_lst e2; simp [PyData.eqv, eqvD]
    | int j => cases e2; simp [PyData.eqv, eqvD] <;> rfl
    | _ => cases e2; simp [PyData.eqv, eqvD]
mutual
theorem eqv_py : ∀ (x y : DV) (p q : PyData), toPy x = some p → toPy y = some q → p.hasDict = false → q.hasDict = false → PyData.eqv p q = eqvD x y
  | .tup xs, .tup ys, p, q, e1, e2, n1, n2 => by
    obtain ⟨ps, h1, rfl⟩ := py_tup e1
    obtain ⟨qs, h2, rfl⟩ := py_tup e2
    simpa [PyData.eqv, eqvD] using eqvL_py xs ys ps qs h1 h2 (by simpa [PyData.hasDict] using n1) (by simpa [PyData.hasDict] using n2)
  | .lst xs, .lst ys, p, q, e1, e2, n1, n2 => by
    obtain ⟨ps, h1, rfl⟩ := py_lst e1
    obtain ⟨qs, h2, rfl⟩ := py_lst e2
    simpa [PyData.eqv, eqvD] using eqvL_py xs ys ps qs h1 h2 (by simpa [PyData.hasDict] using n1) (by simpa [PyData.hasDict] using n2)
  | .tup xs, .lst ys, p, q, e1, e2, n1, n2 => by
    obtain ⟨ps, _, rfl⟩ := py_tup e1
    obtain ⟨qs, _, rfl⟩ := py_lst e2
    simp [PyData.eqv, eqvD]
  | .lst xs, .tup ys, p, q, e1, e2, n1, n2 => by
    obtain ⟨ps, _, rfl⟩ := py_lst e1
    obtain ⟨qs, _, rfl⟩ := py_tup e2
    simp [PyData.eqv, eqvD]
  | .non, y, p, q, e1, e2, n1, n2 => eqv_flat e1 e2 n1 n2 (.inl rfl)
  | .bl _, y, p, q, e1, e2, n1, n2 => eqv_flat e1 e2 n1 n2 (.inl rfl)
  | .int _, y, p, q, e1, e2, n1, n2 => eqv_flat e1 e2 n1 n2 (.inl rfl)
  | .str _, y, p, q, e1, e2, n1, n2 => eqv_flat e1 e2 n1 n2 (.inl rfl)
  | .dic _, y, p, q, e1, e2, n1, n2 => eqv_flat e1 e2 n1 n2 (.inl rfl)
  | .exc _ _, y, p, q, e1, e2, n1, n2 => eqv_flat e1 e2 n1 n2 (.inl rfl)
  | .mu _, y, p, q, e1, e2, n1, n2 => eqv_flat e1 e2 n1 n2 (.inl rfl)
  | x, .non, p, q, e1, e2, n1, n2 => eqv_flat e1 e2 n1 n2 (.inr rfl)
  | x, .bl _, p, q, e1, e2, n1, n2 => eqv_flat e1 e2 n1 n2 (.inr rfl)
  | x, .int _, p, q, e1, e2, n1, n2 => eqv_flat e1 e2 n1 n2 (.inr rfl)
  | x, .str _, p, q, e1, e2, n1, n2 => eqv_flat e1 e2 n1 n2 (.inr rfl)
  | x, .dic _, p, q, e1, e2, n1, n2 => eqv_flat e1 e2 n1 n2 (.inr rfl)
  | x, .exc _ _, p, q, e1, e2, n1, n2 => eqv_flat e1 e2 n1 n2 (.inr rfl)
  | x, .mu _, p, q, e1, e2, n1, n2 => eqv_flat e1 e2 n1 n2 (.inr rfl)
theorem eqvL_py : ∀ (xs ys : List DV) (ps qs : List PyData), toPyL xs = some ps → toPyL ys = some qs → PyData.hasDictAll ps = false → PyData.hasDictAll qs = false → PyData.eqvAll ps qs = eqvL xs ys
  | [], [], _, _, e1, e2, _, _ => by cases e1; cases e2; rfl
  | [], y :: ys, _, _, e1, e2, _, _ => by
    cases e1
    obtain ⟨q, a1, a2⟩ := Option.bind_eq_some_iff.mp e2
    obtain ⟨qs, a3, rfl⟩ := Option.map_eq_some_iff.mp a2
    simp [PyData.eqvAll, eqvL]
  | x :: xs, [], _, _, e1, e2, _, _ => by
    cases e2
    obtain ⟨q, a1, a2⟩ := Option.bind_eq_some_iff.mp e1
    obtain ⟨qs, a3, rfl⟩ := Option.map_eq_some_iff.mp a2
    simp [PyData.eqvAll, eqvL]
  | x :: xs, y :: ys, _, _, e1, e2, n1, n2 => by
    obtain ⟨p, a1, a2⟩ := Option.bind_eq_some_iff.mp e1
    obtain ⟨ps, a3, rfl⟩ := Option.map_eq_some_iff.mp a2
    obtain ⟨q, b1, b2⟩ := Option.bind_eq_some_iff.mp e2
    obtain ⟨qs, b3, rfl⟩ := Option.map_eq_some_iff.mp b2
    have n1' : p.hasDict = false ∧ PyData.hasDictAll ps = false := by simpa [PyData.hasDictAll] using n1
    have n2' : q.hasDict = false ∧ PyData.hasDictAll qs = false := by simpa [PyData.hasDictAll] using n2
    simp [PyData.eqvAll, eqvL, eqv_py x y p q a1 b1 n1'.1 n2'.1, eqvL_py xs ys ps qs a3 b3 n1'.2 n2'.2]
end
def oEq (x y : DV) (μ : List MO) : RE := if (shD 60 x && shD 60 y) = true then some (.bl (eqvD x y), μ) else none
def oNe (x y : DV) (μ : List MO) : RE := if (shD 60 x && shD 60 y) = true then some (.bl (!eqvD x y), μ) else none
theorem sEqD_of {x y : DV} {μ : List MO} {R : Cn} (h : okE (oEq x y μ) R) : sEqD x y μ R := by
  obtain ⟨c, h⟩ := okE_if h
  obtain ⟨p, e1, a1, a2, a3⟩ := sh_py (Bool.and_eq_true_iff.mp c).1
  obtain ⟨q, e2, b1, b2, b3⟩ := sh_py (Bool.and_eq_true_iff.mp c).2
  refine ⟨p, q, e1, e2, a1, b1, ?_, ?_, ?_⟩
  · simp only [SeqAt.shaped, a2, Bool.true_and]
    exact decide_eq_true (by omega)
  · simp only [SeqAt.shaped, b2, Bool.true_and]
    exact decide_eq_true (by omega)
  · rw [eqv_py _ _ _ _ e1 e2 a1 b1]
    exact h
theorem sNeD_of {x y : DV} {μ : List MO} {R : Cn} (h : okE (oNe x y μ) R) : sNeD x y μ R := by
  obtain ⟨c, h⟩ := okE_if h
  obtain ⟨p, e1, a1, a2, a3⟩ := sh_py (Bool.and_eq_true_iff.mp c).1
  obtain ⟨q, e2, b1, b2, b3⟩ := sh_py (Bool.and_eq_true_iff.mp c).2
  refine ⟨p, q, e1, e2, a1, b1, ?_, ?_, ?_⟩
  · simp only [SeqAt.shaped, a2, Bool.true_and]
    exact decide_eq_true (by omega)
  · simp only [SeqAt.shaped, b2, Bool.true_and]
    exact decide_eq_true (by omega)
  · rw [eqv_py _ _ _ _ e1 e2 a1 b1]
    exact h
def oIs : DV → DV → List MO → RE
  | x, .non, μ => some (.bl (DV.isN x), μ)
  | _, _, _ => none
def oIsnt : DV → DV → List MO → RE
  | x, .non, μ => some (.bl (!DV.isN x), μ)
  | _, _, _ => none
/-- x in xs of flat things -/
def inD (x : DV) : List DV → Bool
  | [] => false
  | y :: r => eqvD x y || inD x r
def dOpC (op : CmpOp) : Option (DV → DV → List MO → RE) := match op with
  | .Lt => some oLt
  | .LtE => some oLe
  | .Gt => some oGt
  | .GtE => some oGe
  | .Eq => some oEq
  | .NotEq => some oNe
  | .Is => some oIs
  | .IsNot => some oIsnt
  | _ => none
/-- a comparison's rule: an operation and its place in the code -/
theorem cmp_rule {op : CmpOp} {o : DV → DV → List MO → RE} (hu : X.A.units + 64 < cLine) (ho : dOpC op = some o) : ∀ x y μ R, okE (o x y μ) R → ∃ (r : R2) (S : S2), OpR X (compareOp op) r ∧ R2S X r S ∧ S x y μ R := by
  intro x y μ R h
  cases op <;> (first | (cases ho; skip) | skip)
  case Eq => exact ⟨_, _, op_eqD hu, rEqD_S, sEqD_of h⟩
  case NotEq => exact ⟨_, _, op_neD hu, rNeD_S, sNeD_of h⟩
  case Lt =>
    unfold oLt at h
    split at h
    · exact ⟨_, _, op_lt, (rI0_S fun _ _ _ => .bl : R2S X _ sLt), sLt.mk h⟩
    · exact h.elim
  case LtE =>
    unfold oLe at h
    split at h
    · exact ⟨_, _, op_le, (rI0_S fun _ _ _ => .bl : R2S X _ sLe), sLe.mk h⟩
    · exact h.elim
  case Gt =>
    unfold oGt at h
    split at h
    · exact ⟨_, _, op_gt, (rI0_S fun _ _ _ => .bl : R2S X _ sGt), sGt.mk h⟩
    · exact h.elim
  case GtE =>
    unfold oGe at h
    split at h
    · exact ⟨_, _, op_ge, (rI0_S fun _ _ _ => .bl : R2S X _ sGe), sGe.mk h⟩
    · exact h.elim
  case Is =>
    unfold oIs at h
    split at h
    · exact ⟨_, _, op_isN, rIsN_S, sIsN.mk h⟩
    · exact h.elim
  case IsNot =>
    unfold oIsnt at h
    split at h
    · exact ⟨_, _, op_notN, rNotN_S, sNotN.mk h⟩
    · exact h.elim
theorem SE.cmp {op : CmpOp} {o : DV → DV → List MO → RE} (ho : dOpC op = some o) (hu : X.A.units + 64 < cLine) (sa : SE X a fa) (sb : SE X b fb) (hm : behindInMarks op b = false := by rfl) : SE X (.Compare a [op] [b] pos) (dOp2 o fa fb) := SE.op2 sa sb fun x y μ2 R h => by
  obtain ⟨r, S, h1, h2, h3⟩ := cmp_rule hu ho x y μ2 R h
  exact ⟨S, h3, fun ρ μ k => Ev.cmp h1 h2 hm k⟩
theorem ST.cmp {op : CmpOp} {o : DV → DV → List MO → RE} (ho : dOpC op = some o) (hu : X.A.units + 64 < cLine) (sa : SE X a fa) (sb : SE X b fb) (hm : behindInMarks op b = false := by rfl) : ST X (.Compare a [op] [b] pos) (dOp2 o fa fb) := ST.op2 sa sb fun x y μ2 R h => by
  obtain ⟨r, S, h1, h2, h3⟩ := cmp_rule hu ho x y μ2 R h
  exact ⟨S, h3, fun R' e ρ μ k => by subst e; exact EvT.cmpS h1 h2 hm k⟩
/-- a < b < c -/
def dChain (o o' : DV → DV → List MO → RE) (fa fb fc : Den) : Den := fun ρ μ => bnd (fa ρ μ) fun x μ1 => bnd (fb ρ μ1) fun y μ2 => bnd (o x y μ2) fun t μ3 => match t with
  | .bl true => bnd (fc ρ μ3) fun z μ4 => o' y z μ4
  | .bl false => some (.bl false, μ3)
  | _ => none
theorem chain_aux {op op' : CmpOp} {o o' : DV → DV → List MO → RE} (ho : dOpC op = some o) (ho' : dOpC op' = some o') (hu : X.A.units + 64 < cLine) (sc : SE X c fc) {ρ : RO} {x y : DV} {μ2 : List MO} {R : Cn}
    (k : okE (bnd (o x y μ2) fun t μ3 => match t with
      | .bl true => bnd (fc ρ μ3) fun z μ4 => o' y z μ4
      | .bl false => some (.bl false, μ3)
      | _ => none) R) : ∃ (r r' : R2) (S S' : S2), OpR X (compareOp op) r ∧ R2S X r S ∧ OpR X (compareOp op') r' ∧ R2S X r' S' ∧ S x y μ2 fun d μ3 => ∃ t, d = .bl t ∧ if t = true then Ev X c ρ μ3 fun dc μ4 => S' y dc μ4 R else R (.bl false) μ3 := by
  obtain ⟨t, μ3, e3, k⟩ := okE_bnd k
  cases t with
  | bl t =>
    cases t with
    | true =>
      obtain ⟨z, μ4, e4, k⟩ := okE_bnd (show okE (bnd (fc ρ μ3) fun z μ4 => o' y z μ4) R from k)
      obtain ⟨r', S', h1', h2', h3'⟩ := cmp_rule hu ho' y z μ4 R k
      obtain ⟨r, S, h1, h2, h3⟩ := cmp_rule hu ho x y μ2 (fun d μ3 => ∃ t, d = .bl t ∧ if t = true then Ev X c ρ μ3 fun dc μ4 => S' y dc μ4 R else R (.bl false) μ3) (by
        rw [e3]
        exact ⟨true, rfl, iteT (sc.at e4 h3')⟩)
      exact ⟨r, r', S, S', h1, h2, h1', h2', h3⟩
    | false =>
      have k' : R (.bl false) μ3 := k
      obtain ⟨r, S, h1, h2, h3⟩ := cmp_rule hu ho x y μ2 (fun d μ3 => ∃ t, d = .bl t ∧ if t = true then Ev X c ρ μ3 fun dc μ4 => (fun _ _ _ _ => False : S2) y dc μ4 R else R (.bl false) μ3) (by
        rw [e3]
        exact ⟨false, rfl, iteF k'⟩)
      refine ⟨r, fun _ _ _ _ => False, S, fun _ _ _ _ => False, h1, h2, ?_, ?_, h3⟩
      · intro pins s σ H x y v u Q I rx ry h
        exact h.elim
      · intro α μ H σ ρ x y da db R Q E hx hy h q
        exact h
  | _ => exact k.elim
theorem SE.chain {op op' : CmpOp} {o o' : DV → DV → List MO → RE} (ho : dOpC op = some o) (ho' : dOpC op' = some o') (hu : X.A.units + 64 < cLine) (sa : SE X a fa) (sb : SE X b fb) (sc : SE X c fc) (hm : lastMarks [op, op'] [b, c] = false := by with_unfolding_all rfl) :
    SE X (.Compare a [op, op'] [b, c] pos) (dChain o o' fa fb fc) := fun ρ μ R k => by
  obtain ⟨x, μ1, e1, k⟩ := okE_bnd k
  obtain ⟨y, μ2, e2, k⟩ := okE_bnd k
  obtain ⟨r, r', S, S', h1, h2, h3, h4, h5⟩ := chain_aux ho ho' hu sc k
  exact Ev.chain h1 h2 h3 h4 (sa.at e1 (sb.at e2 h5)) hm
theorem ST.chain {op op' : CmpOp} {o o' : DV → DV → List MO → RE} (ho : dOpC op = some o) (ho' : dOpC op' = some o') (hu : X.A.units + 64 < cLine) (sa : SE X a fa) (sb : SE X b fb) (sc : SE X c fc) (hm : lastMarks [op, op'] [b, c] = false := by with_unfolding_all rfl) :
    ST X (.Compare a [op, op'] [b, c] pos) (dChain o o' fa fb fc) := fun ρ μ R k => by
  obtain ⟨x, μ1, e1, k⟩ := okE_bnd k
  obtain ⟨y, μ2, e2, k⟩ := okE_bnd k
  obtain ⟨r, r', S, S', h1, h2, h3, h4, h5⟩ := chain_aux (R := toT R) ho ho' hu sc k
  refine EvT.chain h1 h2 h3 h4 (sa.at e1 (sb.at e2 ?_)) hm
  have mono : ∀ d μ3, (∃ t, d = DV.bl t ∧ if t = true then Ev X c ρ μ3 fun dc μ4 => S' y dc μ4 (toT R) else toT R (.bl false) μ3) → ∃ t, d = DV.bl t ∧ if t = true then Ev X c ρ μ3 fun dc μ4 => S' y dc μ4 (toT R) else R false μ3 := by
    rintro d μ3 ⟨t, rfl, h⟩
    refine ⟨t, rfl, ?_⟩
    cases t with
    | true => exact iteT h
    | false =>
      obtain ⟨k, e, h⟩ := (show toT R (.bl false) μ3 from h)
      cases e
      exact iteF h
  have e : (fun d μ3 => ∃ t, d = DV.bl t ∧ if t = true then Ev X c ρ μ3 fun dc μ4 => S' y dc μ4 (toT R) else toT R (.bl false) μ3) = fun d μ3 => ∃ t, d = DV.bl t ∧ if t = true then Ev X c ρ μ3 fun dc μ4 => S' y dc μ4 (toT R) else R false μ3 := by
    funext d μ3
    refine propext ⟨mono d μ3, ?_⟩
    rintro ⟨t, rfl, h⟩
    refine ⟨t, rfl, ?_⟩
    cases t with
    | true => exact iteT h
    | false => exact iteF ⟨false, rfl, h⟩
  rw [e] at h5
  exact h5
/-! ### and, or, not, if -/
def dAnd (fa fb : Den) : Den := fun ρ μ => bnd (fa ρ μ) fun t μ1 => match t with
  | .bl true => fb ρ μ1
  | .bl false => some (.bl false, μ1)
  | _ => none
def dOr (fa fb : Den) : Den := fun ρ μ => bnd (fa ρ μ) fun t μ1 => match t with
  | .bl false => fb ρ μ1
  | .bl true => some (.bl true, μ1)
  | _ => none
def dNot (fa : Den) : Den := fun ρ μ => bnd (fa ρ μ) fun t μ1 => match t with
  | .bl k => some (.bl (!k), μ1)
  | _ => none
def dNeg (fa : Den) : Den := fun ρ μ => bnd (fa ρ μ) fun t μ1 => match t with
  | .int k => some (.int (-k), μ1)
  | _ => none
def dIf (fc fa fb : Den) : Den := fun ρ μ => bnd (fc ρ μ) fun t μ1 => match t with
  | .bl true => fa ρ μ1
  | .bl false => fb ρ μ1
  | _ => none
theorem SE.one {op} (sa : SE X a fa) : SE X (.BoolOp op [a] pos) fa := fun ρ μ R k => Ev.one (sa ρ μ R k)
theorem SE.and {rest : List Expr} (sa : SE X a fa) (sb : SE X (.BoolOp .And (b :: rest) pos) fb) : SE X (.BoolOp .And (a :: b :: rest) pos) (dAnd fa fb) := fun ρ μ R k => by
  obtain ⟨t, μ1, e1, k⟩ := okE_bnd k
  split at k
  · exact Ev.and (sa.at e1 ⟨true, rfl, iteT (sb ρ μ1 R k)⟩)
  · exact Ev.and (sa.at e1 ⟨false, rfl, iteF k⟩)
  · exact k.elim
theorem SE.or {rest : List Expr} (sa : SE X a fa) (sb : SE X (.BoolOp .Or (b :: rest) pos) fb) : SE X (.BoolOp .Or (a :: b :: rest) pos) (dOr fa fb) := fun ρ μ R k => by
  obtain ⟨t, μ1, e1, k⟩ := okE_bnd k
  split at k
  · exact Ev.or (sa.at e1 ⟨false, rfl, iteF (sb ρ μ1 R k)⟩)
  · exact Ev.or (sa.at e1 ⟨true, rfl, iteT k⟩)
  · exact k.elim
theorem SE.not (sa : SE X a fa) : SE X (.UnaryOp .Not a pos) (dNot fa) := fun ρ μ R k => by
  obtain ⟨t, μ1, e1, k⟩ := okE_bnd k
  split at k
  · exact Ev.not (sa.at e1 ⟨_, rfl, k⟩)
  · exact k.elim
theorem SE.neg (sa : SE X a fa) : SE X (.UnaryOp .USub a pos) (dNeg fa) := fun ρ μ R k => by
  obtain ⟨t, μ1, e1, k⟩ := okE_bnd k
  split at k
  · exact Ev.neg (sa.at e1 ⟨_, rfl, k⟩)
  · exact k.elim
theorem ST.val (sa : SE X e fa) (he : ∀ whole, isTrue e X.env whole = (do let v ← whole; standAt e.pos; holding [v] (truthy v)) := by intro _; rfl) : ST X e fa := fun ρ μ R k => EvT.val (sa ρ μ _ k) he
theorem ST.not (sa : ST X a fa) : ST X (.UnaryOp .Not a pos) (dNot fa) := fun ρ μ R k => by
  obtain ⟨t, μ1, e1, k⟩ := okE_bnd k
  split at k
  · obtain ⟨t, e, k⟩ := (show toT R (.bl (!_)) μ1 from k)
    cases e
    exact EvT.not (sa.at e1 k)
  · exact k.elim
theorem ST.w (s : SW X e f) : ST X e f := fun ρ μ R k => EvT.w (s ρ μ R k)
theorem SW.and1 (s : ST X a fa) : SW X (.BoolOp .And [a] pos) fa := fun ρ μ R k => EvW.and1 (s ρ μ R k)
theorem SW.or1 (s : ST X a fa) : SW X (.BoolOp .Or [a] pos) fa := fun ρ μ R k => EvW.or1 (s ρ μ R k)
theorem SW.and {rest : List Expr} (sa : ST X a fa) (sb : SW X (.BoolOp .And (b :: rest) pos) fb) : SW X (.BoolOp .And (a :: b :: rest) pos) (dAnd fa fb) := fun ρ μ R k => by
  obtain ⟨t, μ1, e1, k⟩ := okE_bnd k
  split at k
  · exact EvW.and (sa.at e1 (iteT (sb ρ μ1 R k)))
  · obtain ⟨t, e, k⟩ := (show toT R (.bl false) μ1 from k)
    cases e
    exact EvW.and (sa.at e1 (iteF k))
  · exact k.elim
theorem SW.or {rest : List Expr} (sa : ST X a fa) (sb : SW X (.BoolOp .Or (b :: rest) pos) fb) : SW X (.BoolOp .Or (a :: b :: rest) pos) (dOr fa fb) := fun ρ μ R k => by
  obtain ⟨t, μ1, e1, k⟩ := okE_bnd k
  split at k
  · exact EvW.or (sa.at e1 (iteF (sb ρ μ1 R k)))
  · obtain ⟨t, e, k⟩ := (show toT R (.bl true) μ1 from k)
    cases e
    exact EvW.or (sa.at e1 (iteT k))
  · exact k.elim
theorem SE.ifE (sc : ST X c fc) (sa : SE X a fa) (sb : SE X b fb) : SE X (.IfExp c a b pos) (dIf fc fa fb) := fun ρ μ R k => by
  obtain ⟨t, μ1, e1, k⟩ := okE_bnd k
  split at k
  · exact Ev.ifE (sc.at e1 (iteT (sa ρ μ1 R k)))
  · exact Ev.ifE (sc.at e1 (iteF (sb ρ μ1 R k)))
  · exact k.elim
/-! ### arguments, displays -/
def aNil : DenA := fun _ μ => some ([], μ)
def aCons (fa : Den) (fs : DenA) : DenA := fun ρ μ => bnd (fa ρ μ) fun d μ1 => bnd (fs ρ μ1) fun ds μ2 => some (d :: ds, μ2)
theorem SAr.nil : SAr X [] aNil := fun ρ μ R k => EvA.nil k
theorem SAr.cons (sa : SE X e fa) (ss : SAr X es fs) (hs : starEach (e :: es) X.env = (false, eval e X.env) :: starEach es X.env := by rfl) : SAr X (e :: es) (aCons fa fs) := fun ρ μ R k => by
  obtain ⟨d, μ1, e1, k⟩ := okA_bnd k
  obtain ⟨ds, μ2, e2, k⟩ := okA_bndA k
  exact EvA.cons (sa.at e1 (ss.at e2 k)) hs
def dTup (fs : DenA) : Den := fun ρ μ => bnd (fs ρ μ) fun ds μ1 => if ds.length ≤ 1000 then some (.tup ds, μ1) else none
def dLst (fs : DenA) : Den := fun ρ μ => bnd (fs ρ μ) fun ds μ1 => if ds.length ≤ 1000 then some (.lst ds, μ1) else none
def dLstM (fs : DenA) : Den := fun ρ μ => bnd (fs ρ μ) fun ds μ1 => if ds.length ≤ 1000 then some (.mu μ1.length, μ1 ++ [.lst ds]) else none
theorem sl_ge : 1000 ≤ sizeLine := by rw [sizeLine_eq]; decide
theorem SE.tup {x1} (ss : SAr X es fs) : SE X (.Tuple es x1 pos) (dTup fs) := fun ρ μ R k => by
  obtain ⟨ds, μ1, e1, k⟩ := okE_bndA k
  obtain ⟨c, k⟩ := okE_if k
  exact Ev.tup (ss.at e1 ⟨Nat.le_trans c sl_ge, k⟩)
theorem SE.lst (ss : SAr X es fs) : SE X (.List es pos) (dLst fs) := fun ρ μ R k => by
  obtain ⟨ds, μ1, e1, k⟩ := okE_bndA k
  obtain ⟨c, k⟩ := okE_if k
  exact Ev.lst (ss.at e1 ⟨Nat.le_trans c sl_ge, k⟩)
theorem SE.lstM (ss : SAr X es fs) : SE X (.List es pos) (dLstM fs) := fun ρ μ R k => by
  obtain ⟨ds, μ1, e1, k⟩ := okE_bndA k
  obtain ⟨c, k⟩ := okE_if k
  exact Ev.lstM (ss.at e1 ⟨Nat.le_trans c sl_ge, k⟩)
/-! ### subscripts -/
def oIx (x y : DV) (μ : List MO) : RE := match x, y with
  | .str z, .int i => if z.length ≤ sizeLine then (atI z.cps.toList i).map fun c => (.str ⟨#[c]⟩, μ) else none
  | x, .int i => match itemsD μ x with
    | some ds => (atI ds i).map fun d => (d, μ)
    | none => none
  | _, _ => none
theorem okE_map {α : Type} {o : Option α} {g : α → DV} {μ : List MO} {R : Cn} (h : okE (o.map fun d => (g d, μ)) R) : ∃ d, o = some d ∧ R (g d) μ := by
  cases o with
  | none => exact h.elim
  | some d => exact ⟨d, rfl, h⟩
theorem SE.ix (sa : SE X a fa) (sb : SE X b fb) (hs : PlainIx b := by intro _ _; rfl) : SE X (.Subscript a b pos) (dOp2 oIx fa fb) := SE.op2 sa sb fun x y μ2 R h => by
  refine ⟨sIx, ?_, fun ρ μ k => Ev.at k hs⟩
  unfold oIx at h
  split at h
  · obtain ⟨c, h⟩ := okE_if h
    obtain ⟨d, e, r⟩ := okE_map h
    exact .inr ⟨_, _, d, rfl, rfl, c, e, r⟩
  · rename_i i _
    cases hi : itemsD μ2 x with
    | none => rw [hi] at h; exact h.elim
    | some ds =>
      rw [hi] at h
      obtain ⟨d, e, r⟩ := okE_map (show okE ((atI ds i).map fun d => (d, μ2)) R from h)
      exact .inl ⟨ds, i, d, hi, rfl, e, r⟩
  · exact h.elim
end
end Eg

namespace Eg
open PySem PySem.Spec PyProof.Rows L2
/-! ### what was made beside is forgotten -/
mutual
theorem Has.bel {w : Wd} (hl : w.α.length = w.μ.length) : ∀ {v : V} {d : DV}, Has w v d → DV.bel w.μ.length d = true
  | _, _, .non => rfl
  | _, _, .bl => rfl
  | _, _, .int => rfl
  | _, _, .str => rfl
  | _, _, .tup _ t => HasL.bel hl t
  | _, _, .lst _ t => HasL.bel hl t
  | _, _, .dic _ _ t => HasK.bel hl t
  | _, _, .exc _ _ t => HasF.bel hl t
  | _, _, .exc0 _ => rfl
  | _, _, .mu h => decide_eq_true (by rw [← hl]; exact (List.getElem?_eq_some_iff.mp h).1)
theorem HasL.bel {w : Wd} (hl : w.α.length = w.μ.length) : ∀ {vs : List V} {ds : List DV}, HasL w vs ds → DV.belL w.μ.length ds = true
  | _, _, .nil => rfl
  | _, _, .cons h t => Bool.and_eq_true_iff.mpr ⟨Has.bel hl h, HasL.bel hl t⟩
theorem HasK.bel {w : Wd} (hl : w.α.length = w.μ.length) : ∀ {vs : List (Key × V)} {ds : List (Key × DV)}, HasK w vs ds → DV.belK w.μ.length ds = true
  | _, _, .nil => rfl
  | _, _, .cons h t => Bool.and_eq_true_iff.mpr ⟨Has.bel hl h, HasK.bel hl t⟩
theorem HasF.bel {w : Wd} (hl : w.α.length = w.μ.length) : ∀ {vs : List (Str × V)} {ds : List (Str × DV)}, HasF w vs ds → DV.belF w.μ.length ds = true
  | _, _, .nil => rfl
  | _, _, .cons h t => Bool.and_eq_true_iff.mpr ⟨Has.bel hl h, HasF.bel hl t⟩
end
theorem Live.clo {w : Wd} (l : Live w) : w.μ.all (MO.bel w.μ.length) = true := by
  rw [List.all_eq_true]
  intro m hm
  obtain ⟨i, hi⟩ := List.getElem?_of_mem hm
  have hi2 : i < w.α.length := by
    rw [l.len]
    exact (List.getElem?_eq_some_iff.mp hi).1
  have q := l.ob i _ m (List.getElem?_eq_getElem hi2) hi
  cases m with
  | dead => rfl
  | lst ds => obtain ⟨vs, _, t⟩ := q; exact t.bel l.len
  | dic ds => obtain ⟨vs, _, t⟩ := q; exact t.bel l.len
  | ins C ds => obtain ⟨dx, vs, _, t⟩ := q; exact t.bel l.len
/-- what was there is as it was, or holds nothing that was made beside -/
def Kept (μ μ' : List MO) : Prop := ∀ j, j < μ.length → μ'[j]? = μ[j]? ∨ ∃ o, μ'[j]? = some o ∧ MO.bel μ.length o = true
theorem Kept.clo {μ μ' : List MO} (k : Kept μ μ') (h : μ.all (MO.bel μ.length) = true) : (μ'.take μ.length).all (MO.bel μ.length) = true := by
  rw [List.all_eq_true]
  intro m hm
  obtain ⟨j, hj⟩ := List.getElem?_of_mem hm
  rw [List.getElem?_take] at hj
  split at hj
  · rename_i hl
    rcases k j hl with e | ⟨o, e, b⟩
    · rw [e] at hj
      exact List.all_eq_true.mp h m (List.mem_of_getElem? hj)
    · rw [e] at hj
      cases hj
      exact b
  · cases hj
open Classical in
noncomputable def cutd (μ : List MO) (d : DV) (μ' : List MO) : RE :=
  if DV.bel μ.length d = true ∧ Kept μ μ' then some (d, μ'.take μ.length) else some (d, μ')
/-- the end of a thing that was begun with μ -/
theorem cutd_ok {K : PySem.W.Frag} {α α' : List Addr} {μ μ' : List MO} {H H' : Hp} {v : V} {d : DV} {R : Cn} (h : okE (cutd μ d μ') R) (l : Live ⟨K, α, μ, H⟩) (l' : Live ⟨K, α', μ', H'⟩) (k : Kp ⟨K, α, μ, H⟩ ⟨K, α', μ', H'⟩) (hv : Has ⟨K, α', μ', H'⟩ v d) :
    ∃ α2 μ2, R d μ2 ∧ Live ⟨K, α2, μ2, H'⟩ ∧ Kp ⟨K, α, μ, H⟩ ⟨K, α2, μ2, H'⟩ ∧ Has ⟨K, α2, μ2, H'⟩ v d := by
  unfold cutd at h
  split at h
  · rename_i c
    have cl : (μ'.take μ.length).all (MO.bel μ.length) = true := c.2.clo l.clo
    exact ⟨_, _, h, l'.cutL μ.length cl, Live.cut l l' k, hv.cut c.1⟩
  · exact ⟨α', μ', h, l', k, hv⟩
section
variable {X : Cx} {a b c e : Expr} {es : List Expr} {fa fb fc f : Den} {fs : DenA} {pos p : Pos} {ρ : RO} {μ : List MO}
theorem Ev.cutd {R : Cn} (h : Ev X e ρ μ fun d μ1 => okE (Eg.cutd μ d μ1) R) : Ev X e ρ μ R :=
  PEw h fun σ H Q ⟨α, E, q⟩ => ⟨α, E, fun v d α1 μ1 H1 r E1 X1 hv => by
    obtain ⟨α2, μ2, r2, l2, k2, hv2⟩ := cutd_ok r E.live E1.live X1 hv
    exact q v d _ _ _ r2 (E.ext k2 l2) k2 hv2⟩
/-! ### calls of defs -/
abbrev FD := List DV → List MO → RE
def CtrOf (g : FD) : Ctr := fun ds μ R => okE (g ds μ) R
def dCall (g : FD) (fs : DenA) : Den := fun ρ μ => bnd (fs ρ μ) g
theorem SE.call {x : Str} {k : Nat} {g : FD} (F : Fn X.prog X.w X.K X.mg X.base x k (CtrOf g)) (hA : X.A.guards = some []) (hr : Room k X.A) (hg : Gl X x) (ss : SAr X (e :: es) fs)
    (hdb : (x == ("__debug__" : Str)) = false := by decide) (he : starEach (e :: es) X.env = (false, eval e X.env) :: starEach es X.env := by rfl) (hpl : (backTo pos (starEach es X.env)).any (·.1) = false := by rfl) :
    SE X (.Call (.Name x p) (e :: es) [] pos) (dCall g fs) := fun ρ μ R k => by
  obtain ⟨ds, μ1, e1, k⟩ := okE_bndA k
  exact Ev.call F hA hr hg (ss.at e1 k) hdb he hpl
def SK (X : Cx) (ks : List Keyword) (f : DenA) : Prop := ∀ ρ μ R, okA (f ρ μ) R → EvK X ks ρ μ R
theorem SK.nil : SK X [] aNil := fun ρ μ R k => EvK.nil k
theorem SK.cons {nmO : Option Str} {kpos} {kws : List Keyword} (sa : SE X e fa) (ss : SK X kws fs) : SK X (⟨nmO, e, kpos⟩ :: kws) (aCons fa fs) := fun ρ μ R k => by
  obtain ⟨d, μ1, e1, k⟩ := okA_bnd k
  obtain ⟨ds, μ2, e2, k⟩ := okA_bndA k
  exact EvK.cons (sa.at e1 (ss ρ μ1 _ (by rw [e2]; exact k)))
def dCallW (n : Nat) (ix : List Nat) (g : FD) (fs : DenA) : Den := fun ρ μ => bnd (fs ρ μ) fun ds μ1 => if ds.length = n then g (permI ix ds) μ1 else none
theorem SE.callW {x : Str} {k n : Nat} {g : FD} {ks : List Str} {ix : List Nat} {kws : List Keyword} (F : FnW X.prog X.w X.K X.mg X.base x k (CtrOf g) ks ix) (hA : X.A.guards = some []) (hr : Room k X.A) (hg : Gl X x) (hn : ks.length = n) (ss : SK X kws fs)
    (hdb : (x == ("__debug__" : Str)) = false := by decide) (hall : (backToKw pos (keywordEach kws X.env)).all (·.1.isSome) = true := by rfl) (hks : (backToKw pos (keywordEach kws X.env)).filterMap (·.1) = ks := by rfl)
    (hpl : ((backTo pos (starEach [] X.env)).any (·.1) || (backToKw pos (keywordEach kws X.env)).any (·.1.isNone)) = false := by rfl) : SE X (.Call (.Name x p) [] kws pos) (dCallW n ix g fs) := fun ρ μ R k => by
  obtain ⟨ds, μ1, e1, k⟩ := okE_bndA k
  obtain ⟨c, k⟩ := okE_if k
  exact Ev.callW F hA hr hg (ss ρ μ _ (by rw [e1]; exact ⟨by rw [c, hn], k⟩)) hdb hall hks hpl
/-! ### built-ins -/
def dBlt (o : List DV → List MO → RE) (fs : DenA) : Den := fun ρ μ => bnd (fs ρ μ) o
theorem SE.blt {o : List DV → List MO → RE} {S : SA} (ss : SAr X (a :: es) fs) (hS : ∀ ds μ R, okE (o ds μ) R → S ds μ R) (rule : ∀ ρ μ R, EvA X (a :: es) ρ μ (fun ds μ1 => S ds μ1 R) → Ev X e ρ μ R) : SE X e (dBlt o fs) := fun ρ μ R k => by
  obtain ⟨ds, μ1, e1, k⟩ := okE_bndA k
  exact rule ρ μ R (ss.at e1 (hS _ _ _ k))
def oLen : List DV → List MO → RE
  | [d], μ => match lenD μ d with
    | some n => some (.int (n : Int), μ)
    | none => none
  | _, _ => none
theorem SE.len (hg : Gl X "len") (hm : X.mg "len" = none) (ss : SAr X [a] fs) (he : starEach [a] X.env = (false, eval a X.env) :: starEach [] X.env := by rfl) : SE X (.Call (.Name "len" p) [a] [] pos) (dBlt oLen fs) :=
  SE.blt ss (S := sLen) (fun ds μ R h => by
    unfold oLen at h
    split at h
    · split at h
      · rename_i d _ n e
        exact ⟨d, n, rfl, e, h⟩
      · exact h.elim
    · exact h.elim) fun ρ μ R k => Ev.len hg hm k he
def oInt : List DV → List MO → RE
  | [.int i], μ => some (.int i, μ)
  | [.bl k], μ => some (.int (if k then 1 else 0), μ)
  | _, _ => none
theorem SE.toInt (hg : Gl X "int") (hm : X.mg "int" = none) (ss : SAr X [a] fs) (he : starEach [a] X.env = (false, eval a X.env) :: starEach [] X.env := by rfl) : SE X (.Call (.Name "int" p) [a] [] pos) (dBlt oInt fs) :=
  SE.blt ss (S := sInt) (fun ds μ R h => by
    unfold oInt at h
    split at h
    · exact .inl ⟨_, rfl, h⟩
    · exact .inr ⟨_, rfl, h⟩
    · exact h.elim) fun ρ μ R k => Ev.toInt hg hm k he
def oAbs : List DV → List MO → RE
  | [.int i], μ => some (.int (if i < 0 then -i else i), μ)
  | _, _ => none
theorem SE.abs (hg : Gl X "abs") (hm : X.mg "abs" = none) (ss : SAr X [a] fs) (he : starEach [a] X.env = (false, eval a X.env) :: starEach [] X.env := by rfl) : SE X (.Call (.Name "abs" p) [a] [] pos) (dBlt oAbs fs) :=
  SE.blt ss (S := sAbs) (fun ds μ R h => by
    unfold oAbs at h
    split at h
    · exact ⟨_, rfl, h⟩
    · exact h.elim) fun ρ μ R k => Ev.abs hg hm k he
def oMM (g : Int → Int → Int) : List DV → List MO → RE
  | [.int i, .int j], μ => some (.int (g i j), μ)
  | _, _ => none
abbrev oMax2 := oMM (fun i j => if j > i then j else i)
abbrev oMin2 := oMM (fun i j => if j < i then j else i)
theorem oMM_S {g : Int → Int → Int} (ds : List DV) (μ : List MO) (R : Cn) (h : okE (oMM g ds μ) R) : sMM g ds μ R := by
  unfold oMM at h
  split at h
  · exact ⟨_, _, rfl, h⟩
  · exact h.elim
theorem SE.max2 (hc : X.calm = true) (hg : Gl X "max") (hm : X.mg "max" = none) (ss : SAr X [a, b] fs) (he : starEach [a, b] X.env = (false, eval a X.env) :: starEach [b] X.env := by rfl) (hpl : (backTo pos (starEach [b] X.env)).any (·.1) = false := by rfl) :
    SE X (.Call (.Name "max" p) [a, b] [] pos) (dBlt oMax2 fs) := SE.blt ss oMM_S fun ρ μ R k => Ev.max2 hc hg hm k he hpl
theorem SE.min2 (hc : X.calm = true) (hg : Gl X "min") (hm : X.mg "min" = none) (ss : SAr X [a, b] fs) (he : starEach [a, b] X.env = (false, eval a X.env) :: starEach [b] X.env := by rfl) (hpl : (backTo pos (starEach [b] X.env)).any (·.1) = false := by rfl) :
    SE X (.Call (.Name "min" p) [a, b] [] pos) (dBlt oMin2 fs) := SE.blt ss oMM_S fun ρ μ R k => Ev.min2 hc hg hm k he hpl
def oDivmod : List DV → List MO → RE
  | [.int i, .int j], μ => if 0 < j ∧ j < 1073741824 then some (.tup [.int (i / j), .int (i % j)], μ) else none
  | _, _ => none
theorem SE.divmod (hg : Gl X "divmod") (hm : X.mg "divmod" = none) (ss : SAr X [a, b] fs) (he : starEach [a, b] X.env = (false, eval a X.env) :: starEach [b] X.env := by rfl) (hpl : (backTo pos (starEach [b] X.env)).any (·.1) = false := by rfl) :
    SE X (.Call (.Name "divmod" p) [a, b] [] pos) (dBlt oDivmod fs) := SE.blt ss (S := sDivmod) (fun ds μ R h => by
    unfold oDivmod at h
    split at h
    · obtain ⟨c, h⟩ := okE_if h
      exact ⟨_, _, rfl, c, h⟩
    · exact h.elim) fun ρ μ R k => Ev.divmod hg hm k he hpl
def oTuple : List DV → List MO → RE
  | [d], μ => match itemsD μ d with
    | some xs => some (.tup xs, μ)
    | none => none
  | _, _ => none
theorem SE.tuple (hg : Gl X "tuple") (hm : X.mg "tuple" = none) (ss : SAr X [a] fs) (he : starEach [a] X.env = (false, eval a X.env) :: starEach [] X.env := by rfl) : SE X (.Call (.Name "tuple" p) [a] [] pos) (dBlt oTuple fs) :=
  SE.blt ss (S := sTuple) (fun ds μ R h => by
    unfold oTuple at h
    split at h
    · split at h
      · rename_i d _ xs e
        exact ⟨d, xs, rfl, e, h⟩
      · exact h.elim
    · exact h.elim) fun ρ μ R k => Ev.tuple hg hm k he
/-- truths of a list -/
def blsD : List DV → Option (List Bool)
  | [] => some []
  | .bl b :: r => (blsD r).map (b :: ·)
  | _ :: _ => none
theorem blsD_eq : ∀ {ds : List DV} {bs : List Bool}, blsD ds = some bs → ds = bs.map DV.bl
  | [], _, e => by cases e; rfl
  | .bl b :: r, _, e => by
    obtain ⟨bs, e1, rfl⟩ := Option.map_eq_some_iff.mp (show (blsD r).map (b :: ·) = some _ from e)
    rw [blsD_eq e1]
    rfl
  | .non :: _, _, e => by cases e
  | .int _ :: _, _, e => by cases e
  | .str _ :: _, _, e => by cases e
  | .tup _ :: _, _, e => by cases e
  | .lst _ :: _, _, e => by cases e
  | .dic _ :: _, _, e => by cases e
  | .exc _ _ :: _, _, e => by cases e
  | .mu _ :: _, _, e => by cases e
@[simp] theorem blsD_map : ∀ bs : List Bool, blsD (bs.map DV.bl) = some bs
  | [] => rfl
  | b :: r => by
    show (blsD (r.map DV.bl)).map (b :: ·) = _
    rw [blsD_map r]
    rfl
def oAll : List DV → List MO → RE
  | [.lst xs], μ => match blsD xs with
    | some bs => some (.bl (bs.all id), μ)
    | none => none
  | _, _ => none
theorem SE.all (hc : X.calm = true) (hg : Gl X "all") (hm : X.mg "all" = none) (ss : SAr X [a] fs) (he : starEach [a] X.env = (false, eval a X.env) :: starEach [] X.env := by rfl) : SE X (.Call (.Name "all" p) [a] [] pos) (dBlt oAll fs) :=
  SE.blt ss (S := sAll) (fun ds μ R h => by
    unfold oAll at h
    split at h
    · split at h
      · rename_i xs _ bs e
        exact ⟨_, bs, rfl, by rw [blsD_eq e]; rfl, (fun _ z => nomatch z), h⟩
      · exact h.elim
    · exact h.elim) fun ρ μ R k => Ev.all hc hg hm k he
/-- numbers of a list -/
def intsD : List DV → Option (List Int)
  | [] => some []
  | .int b :: r => (intsD r).map (b :: ·)
  | _ :: _ => none
theorem intsD_eq : ∀ {ds : List DV} {bs : List Int}, intsD ds = some bs → ds = bs.map DV.int
  | [], _, e => by cases e; rfl
  | .int b :: r, _, e => by
    obtain ⟨bs, e1, rfl⟩ := Option.map_eq_some_iff.mp (show (intsD r).map (b :: ·) = some _ from e)
    rw [intsD_eq e1]
    rfl
  | .non :: _, _, e => by cases e
  | .bl _ :: _, _, e => by cases e
  | .str _ :: _, _, e => by cases e
  | .tup _ :: _, _, e => by cases e
  | .lst _ :: _, _, e => by cases e
  | .dic _ :: _, _, e => by cases e
  | .exc _ _ :: _, _, e => by cases e
  | .mu _ :: _, _, e => by cases e
@[simp] theorem intsD_map : ∀ bs : List Int, intsD (bs.map DV.int) = some bs
  | [] => rfl
  | b :: r => by
    show (intsD (r.map DV.int)).map (b :: ·) = _
    rw [intsD_map r]
    rfl
def maxI : List Int → Option Int
  | [] => none
  | x :: r => match maxI r with
    | some m => some (if x < m then m else x)
    | none => some x
def minI : List Int → Option Int
  | [] => none
  | x :: r => match minI r with
    | some m => some (if m < x then m else x)
    | none => some x
theorem maxI_none {r : List Int} (h : maxI r = none) : r = [] := by
  cases r with
  | nil => rfl
  | cons x r =>
    unfold maxI at h
    split at h <;> cases h
theorem minI_none {r : List Int} (h : minI r = none) : r = [] := by
  cases r with
  | nil => rfl
  | cons x r =>
    unfold minI at h
    split at h <;> cases h
theorem maxI_ok : ∀ {ns : List Int} {m : Int}, maxI ns = some m → m ∈ ns ∧ ∀ y ∈ ns, y ≤ m
  | x :: r, m, e => by
    unfold maxI at e
    split at e
    · rename_i m' e'
      obtain ⟨h1, h2⟩ := maxI_ok e'
      have em := Option.some.inj e
      refine ⟨?_, fun y hy => ?_⟩
      · split at em <;> subst em
        · exact List.mem_cons_of_mem _ h1
        · exact List.mem_cons_self
      · rcases List.mem_cons.mp hy with rfl | hy
        · split at em <;> omega
        · have := h2 y hy
          split at em <;> omega
    · rename_i e'
      have := maxI_none e'
      subst this
      cases e
      simp
theorem minI_ok : ∀ {ns : List Int} {m : Int}, minI ns = some m → m ∈ ns ∧ ∀ y ∈ ns, m ≤ y
  | x :: r, m, e => by
    unfold minI at e
    split at e
    · rename_i m' e'
      obtain ⟨h1, h2⟩ := minI_ok e'
      have em := Option.some.inj e
      refine ⟨?_, fun y hy => ?_⟩
      · split at em <;> subst em
        · exact List.mem_cons_of_mem _ h1
        · exact List.mem_cons_self
      · rcases List.mem_cons.mp hy with rfl | hy
        · split at em <;> omega
        · have := h2 y hy
          split at em <;> omega
    · rename_i e'
      have := minI_none e'
      subst this
      cases e
      simp
theorem maxI_eq {ns : List Int} {m m' : Int} (h : maxI ns = some m) (h1 : m' ∈ ns) (h2 : ∀ y ∈ ns, y ≤ m') : m' = m := by
  obtain ⟨a, b⟩ := maxI_ok h
  have := b _ h1
  have := h2 _ a
  omega
theorem minI_eq {ns : List Int} {m m' : Int} (h : minI ns = some m) (h1 : m' ∈ ns) (h2 : ∀ y ∈ ns, m' ≤ y) : m' = m := by
  obtain ⟨a, b⟩ := minI_ok h
  have := b _ h1
  have := h2 _ a
  omega
def oMax1 : List DV → List MO → RE
  | [.lst xs], μ => match intsD xs with
    | some ns => (maxI ns).map fun m => (.int m, μ)
    | none => none
  | _, _ => none
def oMin1 : List DV → List MO → RE
  | [.lst xs], μ => match intsD xs with
    | some ns => (minI ns).map fun m => (.int m, μ)
    | none => none
  | _, _ => none
theorem SE.max1 (hc : X.calm = true) (hg : Gl X "max") (hm : X.mg "max" = none) (ss : SAr X [a] fs) (he : starEach [a] X.env = (false, eval a X.env) :: starEach [] X.env := by rfl) : SE X (.Call (.Name "max" p) [a] [] pos) (dBlt oMax1 fs) :=
  SE.blt ss (S := sMax) (fun ds μ R h => by
    unfold oMax1 at h
    split at h
    · split at h
      · rename_i xs _ ns e
        obtain ⟨m, em, r⟩ := okE_map (g := DV.int) h
        have hne : ns ≠ [] := by rintro rfl; cases em
        exact ⟨_, ns, rfl, by rw [intsD_eq e]; rfl, (fun _ z => nomatch z), List.length_pos_iff.mpr hne, fun m' h1 h2 => by rw [maxI_eq em h1 h2]; exact r⟩
      · exact h.elim
    · exact h.elim) fun ρ μ R k => Ev.max1 hc hg hm k he
theorem SE.min1 (hc : X.calm = true) (hg : Gl X "min") (hm : X.mg "min" = none) (ss : SAr X [a] fs) (he : starEach [a] X.env = (false, eval a X.env) :: starEach [] X.env := by rfl) : SE X (.Call (.Name "min" p) [a] [] pos) (dBlt oMin1 fs) :=
  SE.blt ss (S := sMin) (fun ds μ R h => by
    unfold oMin1 at h
    split at h
    · split at h
      · rename_i xs _ ns e
        obtain ⟨m, em, r⟩ := okE_map (g := DV.int) h
        have hne : ns ≠ [] := by rintro rfl; cases em
        exact ⟨_, ns, rfl, by rw [intsD_eq e]; rfl, (fun _ z => nomatch z), List.length_pos_iff.mpr hne, fun m' h1 h2 => by rw [minI_eq em h1 h2]; exact r⟩
      · exact h.elim
    · exact h.elim) fun ρ μ R k => Ev.min1 hc hg hm k he
/-- isinstance(x, T) -/
def kitT (t T : String) : Bool := t == T || (t == "bool" && T == "int")
def tysL : List String := ["NoneType", "bool", "int", "str", "tuple", "list", "dict"]
theorem kit_all {K : PySem.W.Frag} : ∀ t ∈ tysL, ∀ T ∈ tysL, PySem.W.kitOne K (.type t) (.type T) = some (kitT t T) := by
  have key : ∀ t ∈ tysL, ∀ T ∈ tysL, kitB t T = some (kitT t T) := by decide +kernel
  exact fun t ht T hT => kit_ty (key t ht T hT)
def dIsi (T : String) (fa : Den) : Den := fun ρ μ => bnd (fa ρ μ) fun d μ1 => match DV.ty d with
  | some t => some (.bl (kitT t T), μ1)
  | none => none
theorem ty_mem {d : DV} {t : String} (h : DV.ty d = some t) : t ∈ tysL := by
  cases d <;> first | (cases h; decide) | cases h
theorem SE.isi {y : Str} {py : Pos} {T : String} (hg : Gl X "isinstance") (hm : X.mg "isinstance" = none) (gy : Gl X y) (my : X.mg y = none) (hT : T ∈ tysL) (hy : bootBuiltins y = some (.type T)) (ny : y ≠ "__name__") (dy : (y == ("__debug__" : Str)) = false) (sa : SE X a fa)
    (he : starEach [a, .Name y py] X.env = (false, eval a X.env) :: starEach [.Name y py] X.env := by rfl) (hpl : (backTo pos (starEach [.Name y py] X.env)).any (·.1) = false := by rfl)
    (hs : starEach [.Name y py] X.env = (false, eval (.Name y py) X.env) :: starEach [] X.env := by rfl) : SE X (.Call (.Name "isinstance" p) [a, .Name y py] [] pos) (dIsi T fa) := fun ρ μ R k => by
  obtain ⟨d, μ1, e1, k⟩ := okE_bnd k
  split at k
  · rename_i t et
    exact Ev.isi hg hm gy my hy ny dy (sa.at e1 ⟨t, _, et, kit_all t (ty_mem et) T hT, k⟩) he hpl hs
  · exact k.elim
/-- list(xs): to be read, to be changed -/
def oList : List DV → List MO → RE
  | [d], μ => match itemsD μ d with
    | some xs => some (.lst xs, μ)
    | none => none
  | _, _ => none
def sListL : SA := fun ds μ R => ∃ d xs, ds = [d] ∧ itemsD μ d = some xs ∧ R (.lst xs) μ
theorem list_S : RaS X (fun xs H Q => ∃ p ys, xs = [.ref p] ∧ (SqL X.K H p ys ∨ SqT X.K H p ys) ∧ ∀ l, H l = none → Q (.ref l) (upd H l (.lst ys))) sListL := fun α μ H σ ρ vs ds R Q E hv h q => by
  obtain ⟨d, xs, rfl, e, hR⟩ := h
  obtain ⟨v, rfl, hw⟩ := hasL1 hv
  obtain ⟨p, vs, rfl, hl, s⟩ := seq_of E.live hw e
  refine ⟨p, vs, rfl, s, fun l nl => ?_⟩
  obtain ⟨k, l'⟩ := E.live.lay (o := .lst vs) nl
  exact q _ _ α μ _ hR (E.ext k l') k (.lst (.inl ⟨E.live.fresh nl, .inl upd_same⟩) (k.hasL hl))
theorem SE.list (hg : Gl X "list") (hm : X.mg "list" = none) (ss : SAr X [a] fs) (he : starEach [a] X.env = (false, eval a X.env) :: starEach [] X.env := by rfl) : SE X (.Call (.Name "list" p) [a] [] pos) (dBlt oList fs) :=
  SE.blt ss (S := sListL) (fun ds μ R h => by
    unfold oList at h
    split at h
    · split at h
      · rename_i d _ xs e
        exact ⟨d, xs, rfl, e, h⟩
      · exact h.elim
    · exact h.elim) fun ρ μ R k => Ev.callTy call_list_of list_S hg hm PyProof.Rows.boot_list k (by decide) (by decide) he rfl
/-! ### slices -/
def runP (g : Option Den) (ρ : RO) (μ : List MO) : Option (Option Int × List MO) := match g with
  | none => some (none, μ)
  | some g => bnd (g ρ μ) fun l μ2 => match l with
    | .int i => some (some i, μ2)
    | _ => none
def dSl (fa : Den) (fl fu : Option Den) : Den := fun ρ μ => bnd (fa ρ μ) fun d μ1 => bnd (runP fl ρ μ1) fun l μ2 => bnd (runP fu ρ μ2) fun u μ3 =>
  match d with
  | .lst ds => some (.lst (cutD ds l u), μ3)
  | .tup ds => some (.tup (cutD ds l u), μ3)
  | _ => none
def SPo (X : Cx) (e : Option Expr) (g : Option Den) : Prop := (e = none ∧ g = none) ∨ ∃ e' g', e = some e' ∧ g = some g' ∧ SE X e' g'
theorem spN : SPo X none none := .inl ⟨rfl, rfl⟩
theorem spS (h : SE X e f) : SPo X (some e) (some f) := .inr ⟨e, f, rfl, rfl, h⟩
theorem spo_at {eo : Option Expr} {go : Option Den} (s : SPo X eo go) {z : Option Int} {μ' : List MO} {R : Cp} (h : runP go ρ μ = some (z, μ')) (r : R z μ') : EvP X eo ρ μ R := by
  rcases s with ⟨rfl, rfl⟩ | ⟨e', g', rfl, rfl, s⟩
  · cases h
    exact EvP.none r
  · unfold runP at h
    dsimp only at h
    cases hg : g' ρ μ with
    | none => rw [hg] at h; cases h
    | some q =>
      obtain ⟨l, μ2⟩ := q
      rw [hg, bnd_some] at h
      cases l with
      | int i => cases h; exact EvP.some (s.at hg ⟨i, rfl, r⟩)
      | _ => cases h
theorem okE_bndP {o : Option (Option Int × List MO)} {k : Option Int → List MO → RE} {R : Cn} (h : okE (bnd o k) R) : ∃ d μ, o = some (d, μ) ∧ okE (k d μ) R := by
  match o, h with
  | some (d, μ), h => exact ⟨d, μ, rfl, h⟩
theorem Ev.sliceT {lo hi : Option Expr} {p2 : Pos} {R : Cn} (h : Ev X a ρ μ fun d μ1 => ∃ ds, d = .tup ds ∧ EvP X lo ρ μ1 fun l μ2 => EvP X hi ρ μ2 fun u μ3 => R (.tup (cutD ds l u)) μ3) : Ev X (.Subscript a (.Slice lo hi none p2) pos) ρ μ R :=
  PEw (pe_slice sl_tupA pe_a po_a po_a) fun σ H Q ⟨α, E, q⟩ => ⟨_, h, α, E, fun v d α1 μ1 H1 ⟨ds, e, h1⟩ E1 X1 hv => by
    subst e
    refine ⟨_, h1, α1, E1, fun l α2 μ2 H2 h2 E2 X2 => ⟨_, h2, α2, E2, fun u α3 μ3 H3 h3 E3 X3 => ?_⟩⟩
    obtain ⟨p, vs, rfl, s3, hl⟩ := sqT_of (X3.has (X2.has hv))
    refine ⟨p, vs, rfl, s3, ?_, ?_⟩
    · rintro ⟨z1, z2⟩
      have e : cutD ds l u = ds := by
        unfold cutD
        rw [hl.length] at z1 z2
        rw [z1, z2]
        simp
      have h3' : R (DV.tup (cutD ds l u)) μ3 := h3
      rw [e] at h3'
      exact q _ _ _ _ _ h3' E3 (X1.trans (X2.trans X3)) (.tup s3 hl)
    · intro _ b nb
      obtain ⟨k, l'⟩ := E3.live.lay (o := .tup (cutV vs l u)) nb
      exact q _ _ _ _ _ h3 (E3.ext k l') (X1.trans (X2.trans (X3.trans k))) (.tup (.of upd_same) (k.hasL (cut_has hl l u)))⟩
theorem SE.slice {lo hi : Option Expr} {fl fu : Option Den} {p2 : Pos} (sa : SE X a fa) (sl : SPo X lo fl) (su : SPo X hi fu) : SE X (.Subscript a (.Slice lo hi none p2) pos) (dSl fa fl fu) := fun ρ μ R k => by
  obtain ⟨d, μ1, e1, k⟩ := okE_bnd k
  obtain ⟨l, μ2, e2, k⟩ := okE_bndP k
  obtain ⟨u, μ3, e3, k⟩ := okE_bndP k
  cases d with
  | lst ds => exact Ev.sliceL (sa.at e1 ⟨ds, rfl, spo_at sl e2 (spo_at su e3 k)⟩)
  | tup ds => exact Ev.sliceT (sa.at e1 ⟨ds, rfl, spo_at sl e2 (spo_at su e3 k)⟩)
  | _ => exact k.elim
/-! ### what is walked -/
def SI (X : Cx) (tg e : Expr) (f : DenA) : Prop := ∀ ρ μ R, okA (f ρ μ) R → EvI X tg e ρ μ R
def iSeq (fa : Den) : DenA := fun ρ μ => bnd (fa ρ μ) fun d μ1 => match d with
  | .lst ds => some (ds, μ1)
  | .tup ds => some (ds, μ1)
  | .str z => some (sgD z, μ1)
  | _ => none
theorem SI.seq {tg : Expr} (sa : SE X e fa) : SI X tg e (iSeq fa) := fun ρ μ R k => by
  obtain ⟨d, μ1, e1, k⟩ := okA_bnd k
  cases d with
  | lst ds => exact EvI.lst (sa.at e1 ⟨ds, rfl, k⟩)
  | tup ds => exact EvI.tup (sa.at e1 ⟨ds, rfl, k⟩)
  | str z => exact EvI.str (sa.at e1 ⟨z, rfl, k⟩)
  | _ => exact k.elim
def iRange1 (fs : DenA) : DenA := fun ρ μ => bnd (fs ρ μ) fun ds μ1 => match ds with
  | [.int j] => if -4000000000000000000 ≤ j ∧ j < 4000000000000000000 then some (rgD 0 j.toNat, μ1) else none
  | _ => none
def iRange2 (fs : DenA) : DenA := fun ρ μ => bnd (fs ρ μ) fun ds μ1 => match ds with
  | [.int i, .int j] => if -4000000000000000000 ≤ i ∧ i < 4000000000000000000 ∧ -4000000000000000000 ≤ j ∧ j < 4000000000000000000 then some (rgD i (j - i).toNat, μ1) else none
  | _ => none
theorem okA_if {c : Prop} [Decidable c] {o : Option (List DV × List MO)} {R : Ca} (h : okA (if c then o else none) R) : c ∧ okA o R := by
  by_cases hc : c
  · rw [if_pos hc] at h
    exact ⟨hc, h⟩
  · rw [if_neg hc] at h
    exact h.elim
theorem EvI.range2 {tg : Expr} {Ra : Ca} (hg : Gl X "range") (hm : X.mg "range" = none) (h : EvA X [a, b] ρ μ fun ds μ1 => ∃ i j : Int, ds = [.int i, .int j] ∧ (-(2 ^ 62) ≤ i ∧ i < 2 ^ 62 ∧ -(2 ^ 62) ≤ j ∧ j < 2 ^ 62) ∧ Ra (rgD i (j - i).toNat) μ1) (hs : starEach [a, b] X.env = [(false, eval a X.env), (false, eval b X.env)] := by rfl) (hs2 : starEach [b] X.env = [(false, eval b X.env)] := by rfl) :
    EvI X tg (.Call (.Name "range" p) [a, b] [] pos) ρ μ Ra :=
  PIw (pi_range2 hg hm pa_a hs hs2) fun σ H Q ⟨α, E, q⟩ => ⟨_, h, α, E, fun vs ds α1 μ1 H1 ⟨i, j, e, h1, r⟩ E1 X1 hv => by
    subst e
    obtain ⟨v, u, rfl, hw, hu⟩ := hasL2 hv
    cases hw
    cases hu
    exact ⟨i, j, rfl, h1, q _ _ α1 μ1 H1 r E1 X1 (itr_ok i (j - i).toNat)⟩⟩
theorem SI.range1 {tg : Expr} (hg : Gl X "range") (hm : X.mg "range" = none) (ss : SAr X [a] fs) (hs : starEach [a] X.env = [(false, eval a X.env)] := by rfl) : SI X tg (.Call (.Name "range" p) [a] [] pos) (iRange1 fs) := fun ρ μ R k => by
  obtain ⟨ds, μ1, e1, k⟩ := okA_bndA k
  refine EvI.range1 hg hm (ss.at e1 ?_) hs
  split at k
  · obtain ⟨c, k⟩ := okA_if k
    exact ⟨_, rfl, by omega, by omega, k⟩
  · exact k.elim
theorem SI.range2 {tg : Expr} (hg : Gl X "range") (hm : X.mg "range" = none) (ss : SAr X [a, b] fs) (hs : starEach [a, b] X.env = [(false, eval a X.env), (false, eval b X.env)] := by rfl) (hs2 : starEach [b] X.env = [(false, eval b X.env)] := by rfl) : SI X tg (.Call (.Name "range" p) [a, b] [] pos) (iRange2 fs) := fun ρ μ R k => by
  obtain ⟨ds, μ1, e1, k⟩ := okA_bndA k
  refine EvI.range2 hg hm (ss.at e1 ?_) hs hs2
  split at k
  · obtain ⟨c, k⟩ := okA_if k
    exact ⟨_, _, rfl, by omega, k⟩
  · exact k.elim
def iZip (fs : DenA) : DenA := fun ρ μ => bnd (fs ρ μ) fun ds μ1 => match ds with
  | [.tup xs, .tup ys] => some (zipD xs ys, μ1)
  | [.lst xs, .lst ys] => some (zipD xs ys, μ1)
  | _ => none
theorem SI.zip {tpos : Pos} {elts : List Expr} {kk : Nat} (hg : Gl X "zip") (hm : X.mg "zip" = none) (ss : SAr X [a, b] fs)
    (hs : starEach [a, b] X.env = (false, eval a X.env) :: starEach [b] X.env := by rfl) (hpl : (backTo pos (starEach [b] X.env)).any (·.1) = false := by rfl) : SI X (.Tuple elts kk tpos) (.Call (.Name "zip" p) [a, b] [] pos) (iZip fs) := fun ρ μ R k => by
  obtain ⟨ds, μ1, e1, k⟩ := okA_bndA k
  split at k
  · exact EvI.zipT hg hm (ss.at e1 ⟨_, _, rfl, k⟩) hs hpl
  · exact EvI.zipL hg hm (ss.at e1 ⟨_, _, rfl, k⟩) hs hpl
  · exact k.elim
end
end Eg

namespace Eg
open PySem PySem.Spec PyProof.Rows L2
section
variable {X : Cx} {a b c e : Expr} {es : List Expr} {fa fb fc f : Den} {fs fi : DenA} {pos p : Pos} {ρ : RO} {μ : List MO}
/-! ### comprehensions -/
open Classical in
noncomputable def dropL (n : Nat) (acc : List DV) (μ : List MO) : Option (List MO) := if μ = μ.take n ++ [.lst acc] then some (μ.take n) else none
theorem dropL_ok {n : Nat} {acc : List DV} {μ μ4 : List MO} (h : dropL n acc μ = some μ4) : μ = μ4 ++ [.lst acc] ∧ μ4.length = n := by
  unfold dropL at h
  split at h
  · rename_i c
    cases h
    refine ⟨c, ?_⟩
    have z := congrArg List.length c
    rw [List.length_append, List.length_take, List.length_singleton] at z
    rw [List.length_take]
    omega
  · cases h
@[simp] theorem dropL_app {acc : List DV} {μ : List MO} {n : Nat} (h : μ.length = n) : dropL n acc (μ ++ [.lst acc]) = some μ := by
  unfold dropL
  subst h
  rw [List.take_left, if_pos rfl]
abbrev Bd := DV → RO → Option RO
def bd1 (i : Nat) : Bd := fun d ρ => some (ρ.set i (some d))
def bd2 (i j : Nat) : Bd := fun d ρ => match d with
  | .tup [x, y] => some ((ρ.set i (some x)).set j (some y))
  | _ => none
noncomputable def lcLoop (bd : Bd) (c elt : Den) (ρ : RO) (n : Nat) : List DV → List DV → List MO → Option (List DV × List MO)
  | [], acc, μ => some (acc, μ)
  | d :: ds, acc, μ => match bd d ρ with
    | none => none
    | some ρ' => bnd (c ρ' (μ ++ [.lst acc])) fun t μ3 => match t with
      | .bl true => bnd (elt ρ' μ3) fun y μ5 => match dropL n acc μ5 with
        | some μ4 => lcLoop bd c elt ρ n ds (acc ++ [y]) μ4
        | none => none
      | .bl false => match dropL n acc μ3 with
        | some μ4 => lcLoop bd c elt ρ n ds acc μ4
        | none => none
      | _ => none
noncomputable def dLc (fi : DenA) (bd : Bd) (c elt : Den) : Den := fun ρ μ => bnd (fi ρ μ) fun ds μ1 => if ds.length ≤ 16777216 then bnd (lcLoop bd c elt ρ μ1.length ds [] μ1) fun acc μ2 => cutd μ (.lst acc) (μ2 ++ [.dead]) else none
abbrev dT : Den := dC (.bl true)
theorem drop_cons {α : Type} {l : List α} {j : Nat} {d : α} (h : l[j]? = some d) : l.drop j = d :: l.drop (j + 1) := by
  obtain ⟨hj, e⟩ := List.getElem?_eq_some_iff.mp h
  rw [← e]
  exact List.drop_eq_getElem_cons hj
theorem sl_eq : sizeLine = 16777216 := by rw [sizeLine_eq]
/-- the turn of a comprehension -/
theorem lc_turn {bd : Bd} {c elt : Den} {n : Nat} {d : DV} {ds acc : List DV} {μ2 : List MO} {aF : List DV} {μF : List MO} (h : lcLoop bd c elt ρ n (d :: ds) acc μ2 = some (aF, μF)) :
    ∃ ρ' t μ3, bd d ρ = some ρ' ∧ c ρ' (μ2 ++ [.lst acc]) = some (.bl t, μ3) ∧
      ((t = true ∧ ∃ y μ5 μ4, elt ρ' μ3 = some (y, μ5) ∧ μ5 = μ4 ++ [.lst acc] ∧ μ4.length = n ∧ lcLoop bd c elt ρ n ds (acc ++ [y]) μ4 = some (aF, μF)) ∨
       (t = false ∧ ∃ μ4, μ3 = μ4 ++ [.lst acc] ∧ μ4.length = n ∧ lcLoop bd c elt ρ n ds acc μ4 = some (aF, μF))) := by
  unfold lcLoop at h
  cases hb : bd d ρ with
  | none => rw [hb] at h; cases h
  | some ρ' =>
    rw [hb] at h
    dsimp only at h
    cases hc : c ρ' (μ2 ++ [.lst acc]) with
    | none => rw [hc] at h; cases h
    | some q =>
      obtain ⟨t, μ3⟩ := q
      rw [hc, bnd_some] at h
      cases t with
      | bl t =>
        refine ⟨ρ', t, μ3, rfl, hc, ?_⟩
        cases t with
        | true =>
          dsimp only at h
          cases he : elt ρ' μ3 with
          | none => rw [he] at h; cases h
          | some q =>
            obtain ⟨y, μ5⟩ := q
            rw [he, bnd_some] at h
            cases hd : dropL n acc μ5 with
            | none => rw [hd] at h; cases h
            | some μ4 =>
              rw [hd] at h
              obtain ⟨e1, e2⟩ := dropL_ok hd
              exact .inl ⟨rfl, y, μ5, μ4, rfl, e1, e2, h⟩
        | false =>
          dsimp only at h
          cases hd : dropL n acc μ3 with
          | none => rw [hd] at h; cases h
          | some μ4 =>
            rw [hd] at h
            obtain ⟨e1, e2⟩ := dropL_ok hd
            exact .inr ⟨rfl, μ4, e1, e2, h⟩
      | _ => cases h
theorem SE.lcIf {elt iter ce : Expr} {scope : Scope} {x : Str} {px : Pos} (i : Nat) (hc : X.calm = true) (hN : X.N.Nodup) (hi : X.N[i]? = some x) (ok : BlkOk X.N X.env.scope scope [(x, i)])
    (hl : ∀ (s : Shared) (H : Hp) (C : Addr) (cl : List (Str × Addr)) (fp : List Addr), Loc (blkX X s H scope C cl fp).env.scope x ∧ ((blkX X s H scope C cl fp).fn x = true ∨ (blkX X s H scope C cl fp).env.scope.names.lookup x = some .local))
    (si : SI X (.Name x px) iter fi) (sc : ∀ s H C cl fp, ST (blkX X s H scope C cl fp) ce fc) (se : ∀ s H C cl fp, SE (blkX X s H scope C cl fp) elt f) (hs : ∀ x, foldedSetIterable iter X.env x = pure x := by intro _; rfl) :
    SE X (.ListComp elt [⟨.Name x px, iter, [ce], 0⟩] scope pos) (dLc fi (bd1 i) fc f) := fun ρ μ R k => by
  obtain ⟨ds, μ1, e1, k⟩ := okE_bndA k
  obtain ⟨hz, k⟩ := okE_if k
  obtain ⟨aF, μF, e2, k⟩ := okE_bndA k
  refine Ev.cutd (Ev.lcIf i hc hN hi ok hl (si ρ μ _ ?_) hs)
  rw [e1]
  refine ⟨by rw [sl_eq]; exact hz, fun j acc μ' => lcLoop (bd1 i) fc f ρ μ1.length (ds.drop j) acc μ' = some (aF, μF), e2, ?_, ?_⟩
  · intro j d acc μ2 hd hl2 hI s H C cl fp
    rw [drop_cons hd] at hI
    obtain ⟨ρ', t, μ3, b1, c1, hh⟩ := lc_turn hI
    cases b1
    refine (sc s H C cl fp).at c1 ?_
    rcases hh with ⟨rfl, y, μ5, μ4, he, h5, h4, hI'⟩ | ⟨rfl, μ4, h3, h4, hI'⟩
    · exact iteT fun s H C cl fp => (se s H C cl fp).at he ⟨μ4, h5, h4, hI'⟩
    · exact iteF ⟨μ4, h3, h4, hI'⟩
  · intro acc μ2 hl2 hI
    rw [List.drop_length] at hI
    cases hI
    exact k
theorem SE.lc {elt iter : Expr} {scope : Scope} {x : Str} {px : Pos} (i : Nat) (hc : X.calm = true) (hN : X.N.Nodup) (hi : X.N[i]? = some x) (ok : BlkOk X.N X.env.scope scope [(x, i)])
    (hl : ∀ (s : Shared) (H : Hp) (C : Addr) (cl : List (Str × Addr)) (fp : List Addr), Loc (blkX X s H scope C cl fp).env.scope x ∧ ((blkX X s H scope C cl fp).fn x = true ∨ (blkX X s H scope C cl fp).env.scope.names.lookup x = some .local))
    (si : SI X (.Name x px) iter fi) (se : ∀ s H C cl fp, SE (blkX X s H scope C cl fp) elt f) (hs : ∀ x, foldedSetIterable iter X.env x = pure x := by intro _; rfl) :
    SE X (.ListComp elt [⟨.Name x px, iter, [], 0⟩] scope pos) (dLc fi (bd1 i) dT f) := fun ρ μ R k => by
  obtain ⟨ds, μ1, e1, k⟩ := okE_bndA k
  obtain ⟨hz, k⟩ := okE_if k
  obtain ⟨aF, μF, e2, k⟩ := okE_bndA k
  refine Ev.cutd (Ev.lc i hc hN hi ok hl (si ρ μ _ ?_) hs)
  rw [e1]
  refine ⟨by rw [sl_eq]; exact hz, fun j acc μ' => lcLoop (bd1 i) dT f ρ μ1.length (ds.drop j) acc μ' = some (aF, μF), e2, ?_, ?_⟩
  · intro j d acc μ2 hd hl2 hI s H C cl fp
    rw [drop_cons hd] at hI
    obtain ⟨ρ', t, μ3, b1, c1, hh⟩ := lc_turn hI
    cases b1
    cases c1
    rcases hh with ⟨_, y, μ5, μ4, he, h5, h4, hI'⟩ | ⟨z, _⟩
    · exact (se s H C cl fp).at he ⟨μ4, h5, h4, hI'⟩
    · cases z
  · intro acc μ2 hl2 hI
    rw [List.drop_length] at hI
    cases hI
    exact k
theorem bd2_some {i j : Nat} {d : DV} {ρ' : RO} (h : bd2 i j d ρ = some ρ') : ∃ x y, d = .tup [x, y] ∧ ρ' = (ρ.set i (some x)).set j (some y) := by
  unfold bd2 at h
  split at h
  · cases h
    exact ⟨_, _, rfl, rfl⟩
  · cases h
theorem SE.lc2 {elt iter : Expr} {scope : Scope} {x x' : Str} {px px' pt : Pos} {kt : Nat} (i i' : Nat) (hne : i ≠ i') (hc : X.calm = true) (hN : X.N.Nodup) (hi : X.N[i]? = some x) (hi' : X.N[i']? = some x') (ok : BlkOk X.N X.env.scope scope [(x, i), (x', i')])
    (hcb : ∀ (s : Shared) (H : Hp) (C : Addr) (cl : List (Str × Addr)) (fp : List Addr), (blkX X s H scope C cl fp).calm = true)
    (hl : ∀ (s : Shared) (H : Hp) (C : Addr) (cl : List (Str × Addr)) (fp : List Addr), Loc (blkX X s H scope C cl fp).env.scope x ∧ ((blkX X s H scope C cl fp).fn x = true ∨ (blkX X s H scope C cl fp).env.scope.names.lookup x = some .local))
    (hl' : ∀ (s : Shared) (H : Hp) (C : Addr) (cl : List (Str × Addr)) (fp : List Addr), Loc (blkX X s H scope C cl fp).env.scope x' ∧ ((blkX X s H scope C cl fp).fn x' = true ∨ (blkX X s H scope C cl fp).env.scope.names.lookup x' = some .local))
    (si : SI X (.Tuple [.Name x px, .Name x' px'] kt pt) iter fi) (se : ∀ s H C cl fp, SE (blkX X s H scope C cl fp) elt f) (hs : ∀ x, foldedSetIterable iter X.env x = pure x := by intro _; rfl) :
    SE X (.ListComp elt [⟨.Tuple [.Name x px, .Name x' px'] kt pt, iter, [], 0⟩] scope pos) (dLc fi (bd2 i i') dT f) := fun ρ μ R k => by
  obtain ⟨ds, μ1, e1, k⟩ := okE_bndA k
  obtain ⟨hz, k⟩ := okE_if k
  obtain ⟨aF, μF, e2, k⟩ := okE_bndA k
  refine Ev.cutd (Ev.lc2 i i' hne hc hN hi hi' ok hcb hl hl' (si ρ μ _ ?_) hs)
  rw [e1]
  -- every item is a pair: else the loop would have been stopped
  have all2 : ∀ (ds acc : List DV) (μ' : List MO), lcLoop (bd2 i i') dT f ρ μ1.length ds acc μ' = some (aF, μF) → ∀ d ∈ ds, ∃ x y, d = .tup [x, y] := by
    intro ds
    induction ds with
    | nil => intro acc μ' _ d hd; cases hd
    | cons d0 ds ih =>
      intro acc μ' h d hd
      obtain ⟨ρ', t, μ3, b1, c1, hh⟩ := lc_turn h
      obtain ⟨x, y, e, _⟩ := bd2_some b1
      rcases List.mem_cons.mp hd with rfl | hd
      · exact ⟨x, y, e⟩
      · rcases hh with ⟨_, y, μ5, μ4, _, _, _, hI'⟩ | ⟨_, μ4, _, _, hI'⟩
        · exact ih _ _ hI' d hd
        · exact ih _ _ hI' d hd
  refine ⟨by rw [sl_eq]; exact hz, fun j acc μ' => lcLoop (bd2 i i') dT f ρ μ1.length (ds.drop j) acc μ' = some (aF, μF), e2, ?_, ?_⟩
  · intro j d hd
    obtain ⟨x, y, rfl⟩ := all2 _ _ _ e2 d (List.mem_of_getElem? hd)
    refine ⟨x, y, rfl, ?_⟩
    intro acc μ2 hl2 hI s H C cl fp
    rw [drop_cons hd] at hI
    obtain ⟨ρ', t, μ3, b1, c1, hh⟩ := lc_turn hI
    cases b1
    cases c1
    rcases hh with ⟨_, y, μ5, μ4, he, h5, h4, hI'⟩ | ⟨z, _⟩
    · exact (se s H C cl fp).at he ⟨μ4, h5, h4, hI'⟩
    · cases z
  · intro acc μ2 hl2 hI
    rw [List.drop_length] at hI
    cases hI
    exact k
/-- a comprehension whose items change nothing -/
theorem lcLoop_pure {bd : Bd} {c elt : Den} {p : DV → Bool} {g : DV → DV} {n : Nat} : ∀ (ds acc : List DV) (μ : List MO), μ.length = n → (∀ d ∈ ds, ∃ ρ', bd d ρ = some ρ' ∧ ∀ μ', c ρ' μ' = some (.bl (p d), μ') ∧ (p d = true → elt ρ' μ' = some (g d, μ'))) →
    lcLoop bd c elt ρ n ds acc μ = some (acc ++ (ds.filter p).map g, μ)
  | [], acc, μ, _, _ => by simp [lcLoop]
  | d :: ds, acc, μ, hn, h => by
    obtain ⟨ρ', e1, e2⟩ := h d List.mem_cons_self
    unfold lcLoop
    rw [e1]
    dsimp only
    rw [(e2 _).1, bnd_some]
    cases hp : p d with
    | true =>
      dsimp only
      rw [(e2 _).2 hp, bnd_some, dropL_app hn]
      dsimp only
      rw [lcLoop_pure ds _ μ hn fun d' hd' => h d' (List.mem_cons_of_mem _ hd'), List.filter_cons_of_pos hp]
      simp
    | false =>
      dsimp only
      rw [dropL_app hn]
      dsimp only
      rw [lcLoop_pure ds _ μ hn fun d' hd' => h d' (List.mem_cons_of_mem _ hd'), List.filter_cons_of_neg (by simp [hp])]
@[simp] theorem cutd_self {μ : List MO} {d : DV} : cutd μ d μ = some (d, μ) := by
  unfold cutd
  split <;> simp
theorem cutd_pure {μ g : List MO} {d : DV} (h : DV.bel μ.length d = true) : cutd μ d (μ ++ g) = some (d, μ) := by
  unfold cutd
  rw [List.take_left, if_pos ⟨h, fun j hj => .inl (List.getElem?_append_left hj)⟩]
theorem dLc_pure {bd : Bd} {c elt : Den} {p : DV → Bool} {g : DV → DV} {ds : List DV} (hi : fi ρ μ = some (ds, μ)) (hz : ds.length ≤ 16777216)
    (h : ∀ d ∈ ds, ∃ ρ', bd d ρ = some ρ' ∧ ∀ μ', c ρ' μ' = some (.bl (p d), μ') ∧ (p d = true → elt ρ' μ' = some (g d, μ'))) (hb : ∀ d ∈ ds, p d = true → DV.bel μ.length (g d) = true) :
    dLc fi bd c elt ρ μ = some (.lst ((ds.filter p).map g), μ) := by
  unfold dLc
  rw [hi, bnd_some, if_pos hz, lcLoop_pure ds [] μ rfl h, bnd_some, List.nil_append]
  refine cutd_pure ?_
  have : ∀ l : List DV, (∀ d ∈ l, p d = true → DV.bel μ.length (g d) = true) → DV.belL μ.length ((l.filter p).map g) = true := by
    intro l
    induction l with
    | nil => intro _; rfl
    | cons d l ih =>
      intro hl
      cases hp : p d with
      | true =>
        rw [List.filter_cons_of_pos hp]
        exact Bool.and_eq_true_iff.mpr ⟨hl d List.mem_cons_self hp, ih fun d' hd' => hl d' (List.mem_cons_of_mem _ hd')⟩
      | false =>
        rw [List.filter_cons_of_neg (by simp [hp])]
        exact ih fun d' hd' => hl d' (List.mem_cons_of_mem _ hd')
  exact this ds hb
theorem dLc_map {bd : Bd} {elt : Den} {g : DV → DV} {ds : List DV} (hi : fi ρ μ = some (ds, μ)) (hz : ds.length ≤ 16777216)
    (h : ∀ d ∈ ds, ∃ ρ', bd d ρ = some ρ' ∧ ∀ μ', elt ρ' μ' = some (g d, μ')) (hb : ∀ d ∈ ds, DV.bel μ.length (g d) = true) :
    dLc fi bd dT elt ρ μ = some (.lst (ds.map g), μ) := by
  have := dLc_pure (c := dT) (p := fun _ => true) hi hz (fun d hd => by
    obtain ⟨ρ', e1, e2⟩ := h d hd
    exact ⟨ρ', e1, fun μ' => ⟨rfl, fun _ => e2 μ'⟩⟩) fun d hd _ => hb d hd
  rw [this]
  congr 3
  rw [List.filter_eq_self.mpr fun _ _ => rfl]
/-! ### targets -/
abbrev DenG := DV → RO → List MO → Option (RO × List MO)
abbrev DenGs := List DV → RO → List MO → Option (RO × List MO)
def okG (o : Option (RO × List MO)) (R : RO → List MO → Prop) : Prop := match o with
  | some (ρ, μ) => R ρ μ
  | none => False
def SG (X : Cx) (t : Expr) (g : DenG) : Prop := ∀ d ρ μ R, okG (g d ρ μ) R → EvG X t d ρ μ R
def SGs (X : Cx) (ts : List Expr) (g : DenGs) : Prop := ∀ ds ρ μ R, okG (g ds ρ μ) R → EvGs X ts ds ρ μ R
theorem okG_bnd {o : Option (RO × List MO)} {k : RO → List MO → Option (RO × List MO)} {R : RO → List MO → Prop} (h : okG (bnd o k) R) : ∃ d μ, o = some (d, μ) ∧ okG (k d μ) R := by
  match o, h with
  | some (d, μ), h => exact ⟨d, μ, rfl, h⟩
theorem okG_bndE {o : RE} {k : DV → List MO → Option (RO × List MO)} {R : RO → List MO → Prop} (h : okG (bnd o k) R) : ∃ d μ, o = some (d, μ) ∧ okG (k d μ) R := by
  match o, h with
  | some (d, μ), h => exact ⟨d, μ, rfl, h⟩
def gNm (i : Nat) : DenG := fun d ρ μ => some (ρ.set i (some d), μ)
theorem SG.name (i : Nat) {x : Str} (hN : X.N.Nodup) (hi : X.N[i]? = some x) (hx : Loc X.env.scope x) (hf : X.fn x = true ∨ X.env.scope.names.lookup x = some .local) : SG X (.Name x pos) (gNm i) := fun d ρ μ R h => EvG.name i hN hi hx hf h
def gEnd : DenGs := fun ds ρ μ => match ds with
  | [] => some (ρ, μ)
  | _ => none
def gAnd (g : DenG) (gs : DenGs) : DenGs := fun ds ρ μ => match ds with
  | d :: ds => bnd (g d ρ μ) fun ρ1 μ1 => gs ds ρ1 μ1
  | [] => none
theorem SGs.nil : SGs X [] gEnd := fun ds ρ μ R h => by
  unfold gEnd at h
  split at h
  · exact EvGs.nil h
  · exact h.elim
theorem SGs.cons {t : Expr} {ts : List Expr} {g : DenG} {gs : DenGs} (sg : SG X t g) (ss : SGs X ts gs) (hs : (assignEach (t :: ts) X.env).map (·.2) = assign t X.env :: (assignEach ts X.env).map (·.2) := by rfl) : SGs X (t :: ts) (gAnd g gs) := fun ds ρ μ R h => by
  unfold gAnd at h
  split at h
  · rename_i d ds
    obtain ⟨ρ1, μ1, e1, h⟩ := okG_bnd h
    exact EvGs.cons (sg d ρ μ _ (by rw [e1]; exact ss ds ρ1 μ1 R h)) hs
  · exact h.elim
def gTu (n : Nat) (gs : DenGs) : DenG := fun d ρ μ => match d with
  | .tup ds => if ds.length = n then gs ds ρ μ else none
  | _ => none
theorem SG.tup {ts : List Expr} {k n : Nat} {gs : DenGs} (hc : X.calm = true) (ss : SGs X ts gs) (hn : (assignEach ts X.env).length = n := by rfl) (hst : (assignEach ts X.env).findIdx? (·.1) = none := by rfl) : SG X (.Tuple ts k pos) (gTu n gs) := fun d ρ μ R h => by
  unfold gTu at h
  split at h
  · rename_i ds
    by_cases c : ds.length = n
    · rw [if_pos c] at h
      exact EvG.tup hc (ss ds ρ μ R h) (by rw [hn, c]) hst
    · rw [if_neg c] at h
      exact h.elim
  · exact h.elim
def gSb (fo fi : Den) : DenG := fun d ρ μ => bnd (fo ρ μ) fun o μ1 => bnd (fi ρ μ1) fun i μ2 => match o, i with
  | .mu k, .int z => match μ2[k]? with
    | some (.lst xs) => match ixN xs.length z with
      | some j => some (ρ, μ2.set k (.lst (xs.set j d)))
      | none => none
    | _ => none
  | _, _ => none
theorem SG.sub {o i : Expr} {fo fi : Den} (so : SE X o fo) (si : SE X i fi) (ha : ∀ v, assign (.Subscript o i pos) X.env v = (do
      let ov ← holding [v] (eval o X.env)
      let iv ← holding [v, ov] (eval i X.env)
      standAt pos
      holding [v, ov, iv] (setItem ov iv v)
      release [v, ov, iv] []) := by intro _; rfl) : SG X (.Subscript o i pos) (gSb fo fi) := fun d ρ μ R h => by
  obtain ⟨x, μ1, e1, h⟩ := okG_bndE h
  obtain ⟨y, μ2, e2, h⟩ := okG_bndE h
  cases x with
  | mu k =>
    cases y with
    | int z =>
      dsimp only at h
      split at h
      · rename_i xs hk
        split at h
        · rename_i j hj
          exact EvG.sub (so.at e1 (si.at e2 ⟨k, xs, z, j, rfl, rfl, hk, hj, h⟩)) ha
        · exact h.elim
      · exact h.elim
    | _ => exact h.elim
  | _ => exact h.elim
/-! ### statements -/
abbrev DenS := RO → List MO → Option Out
def okS (o : Option Out) (R : Co) : Prop := match o with
  | some o => R o
  | none => False
def S1 (X : Cx) (s : Stmt) (f : DenS) : Prop := ∀ ρ μ R, okS (f ρ μ) R → St X s ρ μ R
def SS (X : Cx) (s : List Stmt) (f : DenS) : Prop := ∀ ρ μ R, okS (f ρ μ) R → Sts X s ρ μ R
theorem okS_bnd {o : RE} {k : DV → List MO → Option Out} {R : Co} (h : okS (bnd o k) R) : ∃ d μ, o = some (d, μ) ∧ okS (k d μ) R := by
  match o, h with
  | some (d, μ), h => exact ⟨d, μ, rfl, h⟩
theorem okS_bndA {o : Option (List DV × List MO)} {k : List DV → List MO → Option Out} {R : Co} (h : okS (bnd o k) R) : ∃ d μ, o = some (d, μ) ∧ okS (k d μ) R := by
  match o, h with
  | some (d, μ), h => exact ⟨d, μ, rfl, h⟩
theorem okS_bndG {o : Option (RO × List MO)} {k : RO → List MO → Option Out} {R : Co} (h : okS (bnd o k) R) : ∃ d μ, o = some (d, μ) ∧ okS (k d μ) R := by
  match o, h with
  | some (d, μ), h => exact ⟨d, μ, rfl, h⟩
variable {s : Stmt} {ss sa sb : List Stmt} {gs1 gs2 g1 g2 : DenS}
def sNo : DenS := fun _ _ => none
theorem S1.no : S1 X s sNo := fun _ _ _ h => h.elim
theorem SS.no : SS X ss sNo := fun _ _ _ h => h.elim
def sNil : DenS := fun ρ μ => some (.nx ρ μ)
theorem SS.nil : SS X [] sNil := fun ρ μ R h => Sts.nil h
def sCons (f g : DenS) : DenS := fun ρ μ => match f ρ μ with
  | some (.nx ρ1 μ1) => g ρ1 μ1
  | o => o
theorem SS.cons (h1 : S1 X s g1) (h2 : SS X ss g2) : SS X (s :: ss) (sCons g1 g2) := fun ρ μ R h => by
  unfold sCons at h
  cases e : g1 ρ μ with
  | none => rw [e] at h; exact h.elim
  | some o =>
    rw [e] at h
    refine Sts.cons (h1 ρ μ _ (by rw [e]; show seqR X ss R o; cases o with
      | nx ρ1 μ1 => exact h2 ρ1 μ1 R h
      | rt d μ1 => exact h
      | bk ρ1 μ1 => exact h
      | ct ρ1 μ1 => exact h))
def sExp (f : Den) : DenS := fun ρ μ => bnd (f ρ μ) fun _ μ1 => some (.nx ρ μ1)
theorem S1.expr (sa : SE X e f) (hs : swapsWith e none pos.line X.env = pure false := by rfl) : S1 X (.Expr e pos) (sExp f) := fun ρ μ R h => by
  obtain ⟨d, μ1, e1, h⟩ := okS_bnd h
  exact St.expr (sa.at e1 h) hs
def sRet (f : Den) : DenS := fun ρ μ => bnd (f ρ μ) fun d μ1 => some (.rt d μ1)
theorem S1.ret (sa : SE X e f) : S1 X (.Return (some e) pos) (sRet f) := fun ρ μ R h => by
  obtain ⟨d, μ1, e1, h⟩ := okS_bnd h
  exact St.ret (sa.at e1 h)
theorem S1.retN : S1 X (.Return none pos) (fun _ μ => some (.rt .non μ)) := fun ρ μ R h => St.retN h
theorem S1.pass : S1 X (.Pass pos) sNil := fun ρ μ R h => St.pass h
theorem S1.brk : S1 X (.Break pos) (fun ρ μ => some (.bk ρ μ)) := fun ρ μ R h => St.brk h
theorem S1.cont : S1 X (.Continue pos) (fun ρ μ => some (.ct ρ μ)) := fun ρ μ R h => St.cont h
def sIf (fc : Den) (f g : DenS) : DenS := fun ρ μ => bnd (fc ρ μ) fun t μ1 => match t with
  | .bl true => f ρ μ1
  | .bl false => g ρ μ1
  | _ => none
theorem S1.ifS (sc : ST X c fc) (h1 : SS X sa g1) (h2 : SS X sb g2) : S1 X (.If c sa sb pos) (sIf fc g1 g2) := fun ρ μ R h => by
  obtain ⟨t, μ1, e1, h⟩ := okS_bnd h
  split at h
  · exact St.ifS (sc.at e1 (iteT (h1 ρ μ1 R h)))
  · exact St.ifS (sc.at e1 (iteF (h2 ρ μ1 R h)))
  · exact h.elim
def sSet (i : Nat) (f : Den) : DenS := fun ρ μ => bnd (f ρ μ) fun d μ1 => some (.nx (ρ.set i (some d)) μ1)
theorem S1.set (i : Nat) {x : Str} {pos' : Pos} (hN : X.N.Nodup) (hi : X.N[i]? = some x) (hx : Loc X.env.scope x) (hf : X.fn x = true ∨ X.env.scope.names.lookup x = some .local) (sa : SE X e f) (hs : swapsWith e (some (.Name x pos')) pos.line X.env = pure false := by rfl) :
    S1 X (.Assign [.Name x pos'] e pos) (sSet i f) := fun ρ μ R h => by
  obtain ⟨d, μ1, e1, h⟩ := okS_bnd h
  exact St.set i hN hi hx hf (sa.at e1 h) hs
def sAsg (g : DenG) (f : Den) : DenS := fun ρ μ => bnd (f ρ μ) fun d μ1 => bnd (g d ρ μ1) fun ρ2 μ2 => some (.nx ρ2 μ2)
theorem S1.asg {t : Expr} {g : DenG} (sa : SE X e f) (sg : SG X t g) (hs : swapsWithSole [t] e pos.line X.env = pure false := by rfl) (hw : swappedStores [t] e X.env = pure none := by rfl) (h1 : (assignEach [t] X.env).map (·.2) = [assign t X.env] := by rfl) : S1 X (.Assign [t] e pos) (sAsg g f) := fun ρ μ R h => by
  obtain ⟨d, μ1, e1, h⟩ := okS_bnd h
  obtain ⟨ρ2, μ2, e2, h⟩ := okS_bndG h
  exact St.asg (sa.at e1 (sg d ρ μ1 _ (by rw [e2]; exact h))) hs hw h1
def sPar2 (i j : Nat) (fs : DenA) : DenS := fun ρ μ => bnd (fs ρ μ) fun ds μ1 => match ds with
  | [d1, d2] => some (.nx ((ρ.set i (some d1)).set j (some d2)) μ1)
  | _ => none
theorem S1.par {e1 e2 : Expr} (i j : Nat) {x y : Str} {px py pt : Pos} {kt k2 pt2} (hc : X.calm = true) (hN : X.N.Nodup) (hi : X.N[i]? = some x) (hj : X.N[j]? = some y) (hij : i ≠ j) (hx : X.env.scope.names.lookup x = some .local) (hy : X.env.scope.names.lookup y = some .local)
    (ss : SAr X [e1, e2] fs) (hw : swappedStores [.Tuple [.Name x px, .Name y py] kt pt] (.Tuple [e1, e2] k2 pt2) X.env = pure (some [x, y]) := by rfl)
    (hs : swapsWithSole [.Tuple [.Name x px, .Name y py] kt pt] (.Tuple [e1, e2] k2 pt2) pos.line X.env = pure false := by rfl) :
    S1 X (.Assign [.Tuple [.Name x px, .Name y py] kt pt] (.Tuple [e1, e2] k2 pt2) pos) (sPar2 i j fs) := fun ρ μ R h => by
  obtain ⟨ds, μ1, e1, h⟩ := okS_bndA h
  split at h
  · exact St.par i j hc hN hi hj hij hx hy (ss.at e1 ⟨_, _, rfl, h⟩) hw hs
  · exact h.elim
def sPar3 (i j l : Nat) (fs : DenA) : DenS := fun ρ μ => bnd (fs ρ μ) fun ds μ1 => match ds with
  | [d1, d2, d3] => some (.nx (((ρ.set i (some d1)).set j (some d2)).set l (some d3)) μ1)
  | _ => none
theorem S1.par3 {e1 e2 e3 : Expr} (i j l : Nat) {x y z : Str} {px py pz pt : Pos} {kt k2 pt2} (hc : X.calm = true) (hN : X.N.Nodup) (hi : X.N[i]? = some x) (hj : X.N[j]? = some y) (hl : X.N[l]? = some z) (hij : i ≠ j) (hil : i ≠ l) (hjl : j ≠ l)
    (hx : X.env.scope.names.lookup x = some .local) (hy : X.env.scope.names.lookup y = some .local) (hz : X.env.scope.names.lookup z = some .local) (ss : SAr X [e1, e2, e3] fs)
    (hw : swappedStores [.Tuple [.Name x px, .Name y py, .Name z pz] kt pt] (.Tuple [e1, e2, e3] k2 pt2) X.env = pure (some [x, y, z]) := by rfl)
    (hs : swapsWithSole [.Tuple [.Name x px, .Name y py, .Name z pz] kt pt] (.Tuple [e1, e2, e3] k2 pt2) pos.line X.env = pure false := by rfl) :
    S1 X (.Assign [.Tuple [.Name x px, .Name y py, .Name z pz] kt pt] (.Tuple [e1, e2, e3] k2 pt2) pos) (sPar3 i j l fs) := fun ρ μ R h => by
  obtain ⟨ds, μ1, e1, h⟩ := okS_bndA h
  split at h
  · exact St.par3 i j l hc hN hi hj hl hij hil hjl hx hy hz (ss.at e1 ⟨_, _, _, rfl, h⟩) hw hs
  · exact h.elim
/-- y = [e for x in xs] -/
theorem S1.setLc {elt iter : Expr} {scope : Scope} {x y : Str} {px py spos : Pos} (i j : Nat) (hc : X.calm = true) (hN : X.N.Nodup) (hy : X.N[i]? = some y) (hyl : X.env.scope.names.lookup y = some .local)
    (hsw : swapsWith (.ListComp elt [⟨.Name x px, iter, [], 0⟩] scope pos) (some (.Name y py)) spos.line X.env = pure true) (hj : X.N[j]? = some x) (ok : BlkOk X.N X.env.scope scope [(x, j)])
    (hl : ∀ (s : Shared) (H : Hp) (C : Addr) (cl : List (Str × Addr)) (fp : List Addr), Loc (blkX X s H scope C cl fp).env.scope x ∧ ((blkX X s H scope C cl fp).fn x = true ∨ (blkX X s H scope C cl fp).env.scope.names.lookup x = some .local))
    (si : SI X (.Name x px) iter fi) (se : ∀ s H C cl fp, SE (blkX X s H scope C cl fp) elt f) (hs : ∀ x, foldedSetIterable iter X.env x = pure x := by intro _; rfl) :
    S1 X (.Assign [.Name y py] (.ListComp elt [⟨.Name x px, iter, [], 0⟩] scope pos) spos) (sSet i (dLc fi (bd1 j) dT f)) := fun ρ μ R h => by
  obtain ⟨d, μE, e0, h⟩ := okS_bnd h
  have k : okE (dLc fi (bd1 j) dT f ρ μ) (fun d μ1 => okS (some (.nx (ρ.set i (some d)) μ1)) R) := by rw [e0]; exact h
  obtain ⟨ds, μ1, e1, k⟩ := okE_bndA k
  obtain ⟨hz, k⟩ := okE_if k
  obtain ⟨aF, μF, e2, k⟩ := okE_bndA k
  refine PSw (ps_setLc (own := [(x, j)]) (g := gName j) hc hN hy hyl hsw pi_a ok (fun s H C cl fp => pg_name hN hj (hl s H C cl fp).1 (hl s H C cl fp).2) (fun s H C cl fp => pts_aB s H C cl fp) (fun s H C cl fp => pe_aB s H C cl fp) hs)
    fun D σ H ⟨α, E, q⟩ => lc_S0 (ρ := ρ) (μ := μ) (R := fun d μ1 => okE (Eg.cutd μ d μ1) fun d μ1 => okS (some (.nx (ρ.set i (some d)) μ1)) R) ?_ σ H _ ⟨α, E, fun v d α1 μ1 H1 r E1 X1 hv => ?_⟩
  · refine si ρ μ _ ?_
    rw [e1]
    refine ⟨by rw [sl_eq]; exact hz, fun j' acc μ' => lcLoop (bd1 j) dT f ρ μ1.length (ds.drop j') acc μ' = some (aF, μF), e2, ?_, ?_⟩
    · intro j' d acc μ2 hd hl2 hI s H C cl fp
      rw [drop_cons hd] at hI
      obtain ⟨ρ', t, μ3, b1, c1, hh⟩ := lc_turn hI
      cases b1
      cases c1
      rcases hh with ⟨_, y, μ5, μ4, he, h5, h4, hI'⟩ | ⟨z, _⟩
      · exact (se s H C cl fp).at he ⟨μ4, h5, h4, hI'⟩
      · cases z
    · intro acc μ2 hl2 hI
      rw [List.drop_length] at hI
      cases hI
      exact k
  · obtain ⟨α2, μ2, r2, l2, k2, hv2⟩ := cutd_ok r E.live E1.live X1 hv
    exact q.1 _ _ _ _ _ r2 ((E.ext k2 l2).set i hv2) k2
theorem S1.setLcIf {elt iter ce : Expr} {scope : Scope} {x y : Str} {px py spos : Pos} (i j : Nat) (hc : X.calm = true) (hN : X.N.Nodup) (hy : X.N[i]? = some y) (hyl : X.env.scope.names.lookup y = some .local)
    (hsw : swapsWith (.ListComp elt [⟨.Name x px, iter, [ce], 0⟩] scope pos) (some (.Name y py)) spos.line X.env = pure true) (hj : X.N[j]? = some x) (ok : BlkOk X.N X.env.scope scope [(x, j)])
    (hl : ∀ (s : Shared) (H : Hp) (C : Addr) (cl : List (Str × Addr)) (fp : List Addr), Loc (blkX X s H scope C cl fp).env.scope x ∧ ((blkX X s H scope C cl fp).fn x = true ∨ (blkX X s H scope C cl fp).env.scope.names.lookup x = some .local))
    (si : SI X (.Name x px) iter fi) (sc : ∀ s H C cl fp, ST (blkX X s H scope C cl fp) ce fc) (se : ∀ s H C cl fp, SE (blkX X s H scope C cl fp) elt f) (hs : ∀ x, foldedSetIterable iter X.env x = pure x := by intro _; rfl) :
    S1 X (.Assign [.Name y py] (.ListComp elt [⟨.Name x px, iter, [ce], 0⟩] scope pos) spos) (sSet i (dLc fi (bd1 j) fc f)) := fun ρ μ R h => by
  obtain ⟨d, μE, e0, h⟩ := okS_bnd h
  have k : okE (dLc fi (bd1 j) fc f ρ μ) (fun d μ1 => okS (some (.nx (ρ.set i (some d)) μ1)) R) := by rw [e0]; exact h
  obtain ⟨ds, μ1, e1, k⟩ := okE_bndA k
  obtain ⟨hz, k⟩ := okE_if k
  obtain ⟨aF, μF, e2, k⟩ := okE_bndA k
  refine PSw (ps_setLc (own := [(x, j)]) (g := gName j) hc hN hy hyl hsw pi_a ok (fun s H C cl fp => pg_name hN hj (hl s H C cl fp).1 (hl s H C cl fp).2) (fun s H C cl fp => pts_aB s H C cl fp) (fun s H C cl fp => pe_aB s H C cl fp) hs)
    fun D σ H ⟨α, E, q⟩ => lc_SI (ρ := ρ) (μ := μ) (R := fun d μ1 => okE (Eg.cutd μ d μ1) fun d μ1 => okS (some (.nx (ρ.set i (some d)) μ1)) R) ?_ σ H _ ⟨α, E, fun v d α1 μ1 H1 r E1 X1 hv => ?_⟩
  · refine si ρ μ _ ?_
    rw [e1]
    refine ⟨by rw [sl_eq]; exact hz, fun j' acc μ' => lcLoop (bd1 j) fc f ρ μ1.length (ds.drop j') acc μ' = some (aF, μF), e2, ?_, ?_⟩
    · intro j' d acc μ2 hd hl2 hI s H C cl fp
      rw [drop_cons hd] at hI
      obtain ⟨ρ', t, μ3, b1, c1, hh⟩ := lc_turn hI
      cases b1
      refine (sc s H C cl fp).at c1 ?_
      rcases hh with ⟨rfl, y, μ5, μ4, he, h5, h4, hI'⟩ | ⟨rfl, μ4, h3, h4, hI'⟩
      · exact iteT fun s H C cl fp => (se s H C cl fp).at he ⟨μ4, h5, h4, hI'⟩
      · exact iteF ⟨μ4, h3, h4, hI'⟩
    · intro acc μ2 hl2 hI
      rw [List.drop_length] at hI
      cases hI
      exact k
  · obtain ⟨α2, μ2, r2, l2, k2, hv2⟩ := cutd_ok r E.live E1.live X1 hv
    exact q.1 _ _ _ _ _ r2 ((E.ext k2 l2).set i hv2) k2
/-! ### loops -/
def forL (g : DenG) (body : DenS) : List DV → RO → List MO → Option Out
  | [], ρ, μ => some (.nx ρ μ)
  | d :: ds, ρ, μ => match g d ρ μ with
    | none => none
    | some (ρ1, μ1) => match body ρ1 μ1 with
      | some (.nx ρ2 μ2) => forL g body ds ρ2 μ2
      | some (.ct ρ2 μ2) => forL g body ds ρ2 μ2
      | some (.bk ρ2 μ2) => some (.nx ρ2 μ2)
      | some (.rt d μ2) => some (.rt d μ2)
      | none => none
def sFor (fi : DenA) (g : DenG) (body : DenS) : DenS := fun ρ μ => bnd (fi ρ μ) fun ds μ1 => forL g body ds ρ μ1
theorem S1.for_ {tg : Expr} {body : List Stmt} {g : DenG} {fb : DenS} (hp : PassesOwn (model X.prog X.w) X.A X.env X.xe) (hc : X.calm = true) (si : SI X tg e fi) (sg : SG X tg g) (sb : SS X body fb) (hs : ∀ x, foldedSetIterable e X.env x = pure x := by intro _; rfl) :
    S1 X (.For tg e body [] pos) (sFor fi g fb) := fun ρ μ R h => by
  obtain ⟨ds, μ1, e1, h⟩ := okS_bndA h
  refine St.for_ hp hc (si ρ μ _ ?_) hs
  rw [e1]
  refine ⟨fun i ρ' μ' => okS (forL g fb (ds.drop i) ρ' μ') R, h, ?_, ?_⟩
  · intro i d ρ' μ' hd hI
    rw [drop_cons hd] at hI
    unfold forL at hI
    cases hg : g d ρ' μ' with
    | none => rw [hg] at hI; exact hI.elim
    | some q =>
      obtain ⟨ρ1, μ1'⟩ := q
      rw [hg] at hI
      dsimp only at hI
      refine sg d ρ' μ' _ ?_
      rw [hg]
      refine sb ρ1 μ1' _ ?_
      cases hb : fb ρ1 μ1' with
      | none => rw [hb] at hI; exact hI.elim
      | some o =>
        rw [hb] at hI
        cases o with
        | nx ρ2 μ2 => exact hI
        | ct ρ2 μ2 => exact hI
        | bk ρ2 μ2 => exact hI
        | rt d μ2 => exact hI
  · intro ρ' μ' hI
    rw [List.drop_length] at hI
    exact hI
def whL (fc : Den) (body : DenS) : Nat → RO → List MO → Option Out
  | 0, _, _ => none
  | n + 1, ρ, μ => match fc ρ μ with
    | some (.bl true, μ1) => match body ρ μ1 with
      | some (.nx ρ2 μ2) => whL fc body n ρ2 μ2
      | some (.ct ρ2 μ2) => whL fc body n ρ2 μ2
      | some (.bk ρ2 μ2) => some (.nx ρ2 μ2)
      | some (.rt d μ2) => some (.rt d μ2)
      | none => none
    | some (.bl false, μ1) => some (.nx ρ μ1)
    | _ => none
theorem S1.while_ {body : List Stmt} {fb : DenS} (n : Nat) (hp : PassesOwn (model X.prog X.w) X.A X.env X.xe) (sc : ST X c fc) (sb : SS X body fb) : S1 X (.While c body [] pos) (whL fc fb n) := fun ρ μ R h => by
  refine St.while_ hp (fun n ρ' μ' => okS (whL fc fb n ρ' μ') R) ⟨n, h⟩ ?_
  intro n ρ' μ' hI
  cases n with
  | zero => exact hI.elim
  | succ n =>
    unfold whL at hI
    cases hc : fc ρ' μ' with
    | none => rw [hc] at hI; exact hI.elim
    | some q =>
      obtain ⟨t, μ1⟩ := q
      rw [hc] at hI
      cases t with
      | bl t =>
        refine sc.at hc ?_
        cases t with
        | true =>
          refine iteT (sb ρ' μ1 _ ?_)
          dsimp only at hI
          cases hb : fb ρ' μ1 with
          | none => rw [hb] at hI; exact hI.elim
          | some o =>
            rw [hb] at hI
            cases o with
            | nx ρ2 μ2 => exact ⟨n, Nat.lt_succ_self n, hI⟩
            | ct ρ2 μ2 => exact ⟨n, Nat.lt_succ_self n, hI⟩
            | bk ρ2 μ2 => exact hI
            | rt d μ2 => exact hI
        | false => exact iteF hI
      | _ => exact hI.elim
def sAug (o : Int → Int → Int) (i : Nat) (f : Den) : DenS := fun ρ μ => match ρ[i]? with
  | some (some (.int n)) => bnd (f ρ μ) fun d μ1 => match d with
    | .int j => some (.nx (ρ.set i (some (.int (o n j)))) μ1)
    | _ => none
  | _ => none
theorem S1.augAdd (i : Nat) {x : Str} {pos' : Pos} (hN : X.N.Nodup) (hi : X.N[i]? = some x) (hx : Loc X.env.scope x) (hf : X.fn x = true ∨ X.env.scope.names.lookup x = some .local) (sa : SE X e f) : S1 X (.AugAssign (.Name x pos') .Add e pos) (sAug (· + ·) i f) := fun ρ μ R h => by
  unfold sAug at h
  split at h
  · rename_i n hn
    obtain ⟨d, μ1, e1, h⟩ := okS_bnd h
    split at h
    · exact St.augAdd i n hN hi hx hn hf (sa.at e1 ⟨_, rfl, h⟩)
    · exact h.elim
  · exact h.elim
theorem S1.augSub (i : Nat) {x : Str} {pos' : Pos} (hN : X.N.Nodup) (hi : X.N[i]? = some x) (hx : Loc X.env.scope x) (hf : X.fn x = true ∨ X.env.scope.names.lookup x = some .local) (sa : SE X e f) : S1 X (.AugAssign (.Name x pos') .Sub e pos) (sAug (· - ·) i f) := fun ρ μ R h => by
  unfold sAug at h
  split at h
  · rename_i n hn
    obtain ⟨d, μ1, e1, h⟩ := okS_bnd h
    split at h
    · exact St.augSub i n hN hi hx hn hf (sa.at e1 ⟨_, rfl, h⟩)
    · exact h.elim
  · exact h.elim
end
/-! ### defs -/
noncomputable def mkFn (n : Nat) (N : List Str) (body : DenS) : FD := fun ds μ => if ds.length = n then match body (startD N ds) μ with
    | some (.rt d μ') => cutd μ d μ'
    | some (.nx _ μ') => cutd μ .non μ'
    | _ => none
  else none
section
variable {P : Program} {w : World} {K : PySem.W.Frag} {mg : Str → Option Value} {base : Heap}
theorem mkFn_fin {μ : List MO} {R : Cn} {o : Out} (h : okE (match some o with
    | some (.rt d μ') => cutd μ d μ'
    | some (.nx _ μ') => cutd μ .non μ'
    | _ => none) R) (clo : μ.all (MO.bel μ.length) = true) : fin μ.length R o := by
  have key : ∀ (d : DV) (μ' : List MO), okE (cutd μ d μ') R → R d μ' ∨ (DV.bel μ.length d = true ∧ (μ'.take μ.length).all (MO.bel μ.length) = true ∧ R d (μ'.take μ.length)) := by
    intro d μ' h
    unfold cutd at h
    split at h
    · rename_i c
      exact .inr ⟨c.1, c.2.clo clo, h⟩
    · exact .inl h
  cases o with
  | rt d μ' => exact key d μ' h
  | nx ρ μ' =>
    rcases key .non μ' h with h | ⟨_, h1, h2⟩
    · exact .inl h
    · exact .inr ⟨h1, h2⟩
  | bk _ _ => exact h.elim
  | ct _ _ => exact h.elim
/-- from a start that stands for something real -/
theorem Sts.clo {X : Cx} {ss : List Stmt} {ρ : RO} {μ : List MO} {R : Co} (h : μ.all (MO.bel μ.length) = true → Sts X ss ρ μ R) : Sts X ss ρ μ R := by
  by_cases c : μ.all (MO.bel μ.length) = true
  · exact h c
  · exact ⟨fun pins s σ H D I ⟨α, E, _⟩ => absurd E.live.clo c⟩
/-- THE RULE for a def -/
theorem Fn.den {x : Str} {params : Arguments} {body : List Stmt} {scope : Scope} {kws : List (Str × V)} {f : Addr} {fd : FuncData} {N ps : List Str} {k : Nat} {n : Nat} {g : DenS}
    (F : FunD K x x params body scope [] kws f fd) (S : FnScope N ps scope) (hm : mg x = some (.ref f)) (hn : ps.length = n)
    (hbd : ∀ (kV doc pm : Value) (an : Option Addr) (cdv ct : Value) (us : List Value), us.length = ps.length → bindArgs (PySem.W.fnOf x x params body scope .none kV doc pm an cdv ct) ⟨us, []⟩ = pure (ps.zip us))
    (hb : ∀ (cd : Value) (A : Around) (outer : List PySem.Env) (s : Shared) (H : Hp), (bx P w K mg base N x scope f cd A outer s H).A.guards = some [] → Room k (bx P w K mg base N x scope f cd A outer s H).A → (bx P w K mg base N x scope f cd A outer s H).N.Nodup →
      SS (bx P w K mg base N x scope f cd A outer s H) body g) : Fn P w K mg base x (k + 1) (CtrOf (mkFn n N g)) := by
  refine Fn.mk F S hm hbd ?_ ?_
  · intro ds μ R h
    obtain ⟨c, _⟩ := okE_if h
    rw [c, hn]
  · intro cd A outer s H hg hr hnd ds μ R h
    obtain ⟨_, h⟩ := okE_if h
    refine Sts.clo fun clo => ?_
    refine hb cd A outer s H hg hr hnd (startD N ds) μ _ ?_
    cases e : g (startD N ds) μ with
    | none => rw [e] at h; exact h.elim
    | some o =>
      rw [e] at h
      exact mkFn_fin h clo
theorem FnG.den {x : Str} {params : Arguments} {body : List Stmt} {scope : Scope} {kws : List (Str × V)} {f : Addr} {fd : FuncData} {N ps : List Str} {k : Nat} {n : Nat} {g : DenS}
    (F : FunD K x x params body scope [] kws f fd) (S : FnScope N ps scope) (hn : ps.length = n)
    (hb : ∀ (cd : Value) (A : Around) (outer : List PySem.Env) (s : Shared) (H : Hp), (bx P w K mg base N x scope f cd A outer s H).A.guards = some [] → Room k (bx P w K mg base N x scope f cd A outer s H).A → (bx P w K mg base N x scope f cd A outer s H).N.Nodup →
      SS (bx P w K mg base N x scope f cd A outer s H) body g) : FnG P w K mg base (k + 1) f fd ps (SpD K (CtrOf (mkFn n N g))) := by
  refine FnG.mk2 F S ?_ ?_
  · intro ds μ R h
    obtain ⟨c, _⟩ := okE_if h
    rw [c, hn]
  · intro cd A outer s H hg hr hnd ds μ R h
    obtain ⟨_, h⟩ := okE_if h
    refine Sts.clo fun clo => ?_
    refine hb cd A outer s H hg hr hnd (startD N ds) μ _ ?_
    cases e : g (startD N ds) μ with
    | none => rw [e] at h; exact h.elim
    | some o =>
      rw [e] at h
      exact mkFn_fin h clo
end
end Eg
namespace Eg
/-- how often a while may turn, how deep a def may call itself -/
def Wn : Nat := 1099511627776
def recN : Nat := 8
end Eg

namespace Eg
open PySem PySem.Spec PyProof.Rows L2
section
variable {X : Cx} {a b c e o : Expr} {es : List Expr} {fa fb fc f : Den} {fs fi : DenA} {pos p : Pos} {ρ : RO} {μ : List MO}
/-! ### x in xs -/
def oInN (neg : Bool) (x y : DV) (μ : List MO) : RE := match itemsD μ y with
  | some ds => match DV.flat x, flatL ds with
    | some u, some us => some (.bl (if neg then !inV u us else inV u us), μ)
    | _, _ => none
  | none => none
abbrev oIn := oInN false
abbrev oNin := oInN true
theorem sIn_of {neg : Bool} {x y : DV} {μ : List MO} {R : Cn} (h : okE (oInN neg x y μ) R) : sIn neg x y μ R := by
  unfold oInN at h
  split at h
  · rename_i ds e1
    split at h
    · rename_i u us e2 e3
      exact ⟨ds, u, us, e1, e2, e3, h⟩
    · exact h.elim
  · exact h.elim
theorem SE.inn (hu : X.A.units + 64 < cLine) (sa : SE X a fa) (sb : SE X b fb) (hm : behindInMarks .In b = false := by rfl) : SE X (.Compare a [.In] [b] pos) (dOp2 oIn fa fb) := SE.op2 sa sb fun x y μ2 R h => ⟨_, sIn_of h, fun ρ μ k => Ev.inL k hm⟩
theorem SE.nin (hu : X.A.units + 64 < cLine) (sa : SE X a fa) (sb : SE X b fb) (hm : behindInMarks .NotIn b = false := by rfl) : SE X (.Compare a [.NotIn] [b] pos) (dOp2 oNin fa fb) := SE.op2 sa sb fun x y μ2 R h => ⟨_, sIn_of h, fun ρ μ k => Ev.notInL k hm⟩
theorem ST.inn (hu : X.A.units + 64 < cLine) (sa : SE X a fa) (sb : SE X b fb) (hm : behindInMarks .In b = false := by rfl) : ST X (.Compare a [.In] [b] pos) (dOp2 oIn fa fb) := ST.op2 sa sb fun x y μ2 R h => ⟨_, sIn_of h, fun R' e ρ μ k => by subst e; exact EvT.inL k hm⟩
theorem ST.nin (hu : X.A.units + 64 < cLine) (sa : SE X a fa) (sb : SE X b fb) (hm : behindInMarks .NotIn b = false := by rfl) : ST X (.Compare a [.NotIn] [b] pos) (dOp2 oNin fa fb) := ST.op2 sa sb fun x y μ2 R h => ⟨_, sIn_of h, fun R' e ρ μ k => by subst e; exact EvT.notInL k hm⟩
/-! ### xs.append(e) -/
def dApp (fo fa : Den) : Den := fun ρ μ => bnd (fo ρ μ) fun o μ1 => match o with
  | .mu k => match μ1[k]? with
    | some (.lst _) => bnd (fa ρ μ1) fun d μ2 => match μ2[k]? with
      | some (.lst ys) => if ys.length < 16777216 then some (.non, μ2.set k (.lst (ys ++ [d]))) else none
      | _ => none
    | _ => none
  | _ => none
theorem SE.append {fo : Den} {apos cpos : Pos} (so : SE X o fo) (sa : SE X e fa)
    (hbase : attributeBase o "append" X.env (eval o X.env) = eval o X.env := by rfl)
    (hfew : ((backTo cpos (starEach [e] X.env)).all (fun x => !x.1) && (backToKw cpos (keywordEach [] X.env)).all (fun x => x.1.isSome)
      && decide ([e].length + ([] : List Keyword).length + (if ([] : List Keyword).isEmpty then 0 else 1) < 30)) = true := by rfl)
    (hline : (apos.endLine == cpos.line) = true := by rfl) (hs : starEach [e] X.env = (false, eval e X.env) :: starEach [] X.env := by rfl) :
    SE X (.Call (.Attribute o "append" apos) [e] [] cpos) (dApp fo fa) := fun ρ μ R k => by
  obtain ⟨d, μ1, e1, k⟩ := okE_bnd k
  cases d with
  | mu n =>
    dsimp only at k
    split at k
    · rename_i xs hx
      obtain ⟨d, μ2, e2, k⟩ := okE_bnd k
      split at k
      · rename_i ys hy
        obtain ⟨c, k⟩ := okE_if k
        exact Ev.append (so.at e1 ⟨n, xs, rfl, hx, EvA.cons (sa.at e2 (EvA.nil ⟨d, ys, rfl, hy, by rw [sl_eq]; exact c, k⟩)) hs⟩) hbase hfew hline hs
      · exact k.elim
    · exact k.elim
  | _ => exact k.elim
/-! ### enumerate(xs) -/
def iEnm (fs : DenA) : DenA := fun ρ μ => bnd (fs ρ μ) fun ds μ1 => match ds with
  | [.lst xs] => some (cntD 0 xs, μ1)
  | [.tup xs] => some (cntD 0 xs, μ1)
  | _ => none
end
end Eg

namespace Eg
open PySem PySem.Spec PyProof.Rows L2
/-! The functions by cases of truths, for reckoning. -/
section
variable {fa fb fc f : Den} {fs fi : DenA} {g g1 g2 : DenS} {ρ : RO} {μ : List MO}
def ifB {α : Type} (d : DV) (x y : Option α) : Option α := match d with
  | .bl true => x
  | .bl false => y
  | _ => none
@[simp] theorem ifB_bl {α : Type} (b : Bool) (x y : Option α) : ifB (.bl b) x y = if b = true then x else y := by cases b <;> rfl
@[simp] theorem bnd_ite {α β γ : Type} (c : Prop) [Decidable c] (a b : Option (α × β)) (k : α → β → Option γ) : bnd (if c then a else b) k = if c then bnd a k else bnd b k := by split <;> rfl
def isB {α : Type} (d : DV) (k : Bool → Option α) : Option α := match d with
  | .bl b => k b
  | _ => none
@[simp] theorem isB_bl {α : Type} (b : Bool) (k : Bool → Option α) : isB (.bl b) k = k b := rfl
def isI {α : Type} (d : DV) (k : Int → Option α) : Option α := match d with
  | .int b => k b
  | _ => none
@[simp] theorem isI_int {α : Type} (b : Int) (k : Int → Option α) : isI (.int b) k = k b := rfl
theorem eAnd : dAnd fa fb ρ μ = bnd (fa ρ μ) fun t μ1 => ifB t (fb ρ μ1) (some (.bl false, μ1)) := by
  rfl
theorem eOr : dOr fa fb ρ μ = bnd (fa ρ μ) fun t μ1 => ifB t (some (.bl true, μ1)) (fb ρ μ1) := by
  unfold dOr
  cases fa ρ μ with
  | none => rfl
  | some q =>
    obtain ⟨t, μ1⟩ := q
    cases t with
    | bl b => cases b <;> rfl
    | _ => rfl
theorem eNot : dNot fa ρ μ = bnd (fa ρ μ) fun t μ1 => isB t fun b => some (.bl (!b), μ1) := by
  rfl
theorem eNeg : dNeg fa ρ μ = bnd (fa ρ μ) fun t μ1 => isI t fun b => some (.int (-b), μ1) := by
  rfl
theorem eIf : dIf fc fa fb ρ μ = bnd (fc ρ μ) fun t μ1 => ifB t (fa ρ μ1) (fb ρ μ1) := by
  rfl
theorem esIf : sIf fc g1 g2 ρ μ = bnd (fc ρ μ) fun t μ1 => ifB t (g1 ρ μ1) (g2 ρ μ1) := by
  rfl
theorem eChain {o o' : DV → DV → List MO → RE} : dChain o o' fa fb fc ρ μ = bnd (fa ρ μ) fun x μ1 => bnd (fb ρ μ1) fun y μ2 => bnd (o x y μ2) fun t μ3 => ifB t (bnd (fc ρ μ3) fun z μ4 => o' y z μ4) (some (.bl false, μ3)) := by
  rfl
def sqO (o : Option Out) (k : DenS) : Option Out := match o with
  | some (.nx ρ1 μ1) => k ρ1 μ1
  | o => o
@[simp] theorem sqO_nx (ρ : RO) (μ : List MO) (k : DenS) : sqO (some (.nx ρ μ)) k = k ρ μ := rfl
@[simp] theorem sqO_rt (d : DV) (μ : List MO) (k : DenS) : sqO (some (.rt d μ)) k = some (.rt d μ) := rfl
@[simp] theorem sqO_bk (ρ : RO) (μ : List MO) (k : DenS) : sqO (some (.bk ρ μ)) k = some (.bk ρ μ) := rfl
@[simp] theorem sqO_ct (ρ : RO) (μ : List MO) (k : DenS) : sqO (some (.ct ρ μ)) k = some (.ct ρ μ) := rfl
@[simp] theorem sqO_no (k : DenS) : sqO none k = none := rfl
@[simp] theorem sqO_ite (c : Prop) [Decidable c] (a b : Option Out) (k : DenS) : sqO (if c then a else b) k = if c then sqO a k else sqO b k := by split <;> rfl
theorem esCons : sCons g1 g2 ρ μ = sqO (g1 ρ μ) g2 := by
  unfold sCons sqO
  cases g1 ρ μ with
  | none => rfl
  | some o => cases o <;> rfl
noncomputable def endO (μ : List MO) (o : Option Out) : RE := match o with
  | some (.rt d μ') => cutd μ d μ'
  | some (.nx _ μ') => cutd μ .non μ'
  | _ => none
@[simp] theorem endO_rt (μ : List MO) (d : DV) (μ' : List MO) : endO μ (some (.rt d μ')) = cutd μ d μ' := rfl
@[simp] theorem endO_nx (μ : List MO) (ρ' : RO) (μ' : List MO) : endO μ (some (.nx ρ' μ')) = cutd μ .non μ' := rfl
@[simp] theorem endO_no (μ : List MO) : endO μ none = none := rfl
@[simp] theorem endO_ite (μ : List MO) (c : Prop) [Decidable c] (a b : Option Out) : endO μ (if c then a else b) = if c then endO μ a else endO μ b := by split <;> rfl
theorem eFn {n : Nat} {N : List Str} {body : DenS} {ds : List DV} : mkFn n N body ds μ = if ds.length = n then endO μ (body (startD N ds) μ) else none := by
  rfl
@[simp] theorem cutd_same {d : DV} : cutd μ d (μ ++ []) = some (d, μ) := by simp
/-- what was made beside is forgotten -/
noncomputable def dCut (f : Den) : Den := fun ρ μ => bnd (f ρ μ) fun d μ1 => cutd μ d μ1
theorem SE.cut {X : Cx} {e : Expr} (s : SE X e f) : SE X e (dCut f) := fun ρ μ R k => by
  obtain ⟨d, μ1, e1, k⟩ := okE_bnd k
  exact Ev.cutd (s.at e1 k)
theorem cutd_len {μ μ' : List MO} {d : DV} (h : μ'.length = μ.length) : cutd μ d μ' = some (d, μ') := by
  unfold cutd
  rw [← h, List.take_length]
  split <;> rfl
@[simp] theorem cutd_set {μ : List MO} {k : Nat} {a b : MO} {d : DV} : cutd (μ.set k a) d (μ.set k b) = some (d, μ.set k b) := cutd_len (by simp)
@[simp] theorem cutd_set0 {μ : List MO} {k : Nat} {b : MO} {d : DV} : cutd μ d (μ.set k b) = some (d, μ.set k b) := cutd_len (by simp)
theorem cutd_cut {μ μ' : List MO} {d : DV} (h1 : DV.bel μ.length d = true) (h2 : μ'.take μ.length = μ) : cutd μ d μ' = some (d, μ) := by
  unfold cutd
  have kp : Kept μ μ' := fun j hj => .inl (by
    rw [← h2, List.getElem?_take, if_pos]
    have := congrArg List.length h2
    rw [List.length_take] at this
    omega)
  rw [if_pos ⟨h1, kp⟩, h2]
/-- an object was changed, and others were made beside -/
theorem cutd_beside {μ0 g : List MO} {k : Nat} {X Y : MO} {d : DV} (h1 : DV.bel μ0.length d = true) (h2 : MO.bel μ0.length X = true) : cutd (μ0.set k Y) d (μ0.set k X ++ g) = some (d, μ0.set k X) := by
  unfold cutd
  have e : (μ0.set k Y).length = (μ0.set k X).length := by simp
  have e0 : (μ0.set k Y).length = μ0.length := by simp
  rw [if_pos, e, List.take_left]
  refine ⟨by rw [e0]; exact h1, fun j hj => ?_⟩
  rw [e] at hj
  rw [List.getElem?_append_left hj]
  by_cases c : k = j
  · subst c
    rw [e0]
    exact .inr ⟨X, List.getElem?_set_self (by simpa using hj), h2⟩
  · exact .inl (by rw [List.getElem?_set_ne c, List.getElem?_set_ne c])
/-! ### numbers that are small enough -/
theorem log_lt {i : Int} {n : Nat} (h : -(2 ^ n) < i) (h' : i < 2 ^ n) : i.natAbs.log2 ≤ n := by
  have e : i.natAbs < 2 ^ n := by
    have : ((2 ^ n : Nat) : Int) = 2 ^ n := by simp
    omega
  by_cases z : i.natAbs = 0
  · rw [z]; simp
  · have := (Nat.log2_lt z).mpr e
    omega
theorem oMul_ok {i j : Int} (h1 : -1267650600228229401496703205376 < i) (h2 : i < 1267650600228229401496703205376) (h3 : -1267650600228229401496703205376 < j) (h4 : j < 1267650600228229401496703205376) : oMul (.int i) (.int j) μ = some (.int (i * j), μ) := by
  have a := log_lt (n := 100) (i := i) (by omega) (by omega)
  have b := log_lt (n := 100) (i := j) (by omega) (by omega)
  unfold oMul
  dsimp only
  rw [if_pos (by omega)]
theorem oMul_ok2 {i j : Int} (h1 : -(2 ^ 400) < i) (h2 : i < 2 ^ 400) (h3 : -(2 ^ 400) < j) (h4 : j < 2 ^ 400) : oMul (.int i) (.int j) μ = some (.int (i * j), μ) := by
  have a := log_lt h1 h2
  have b := log_lt h3 h4
  unfold oMul
  dsimp only
  rw [if_pos (by omega)]
theorem oDiv_ok {i j : Int} (h1 : 0 < j) (h2 : j < 1267650600228229401496703205376) : oDiv (.int i) (.int j) μ = some (.int (i / j), μ) := by
  have b := log_lt (n := 100) (i := j) (by omega) (by omega)
  unfold oDiv
  dsimp only
  rw [if_pos ⟨h1, by omega⟩]
theorem oMod_ok {i j : Int} (h1 : 0 < j) : oMod (.int i) (.int j) μ = some (.int (i % j), μ) := by
  unfold oMod
  dsimp only
  rw [if_pos (by omega), Int.fmod_eq_emod_of_nonneg _ (by omega)]
theorem oPow_ok {i j : Int} (h0 : 0 ≤ j) (h1 : j ≤ 1000000) (h2 : -18446744073709551616 < i) (h3 : i < 18446744073709551616) : oPow (.int i) (.int j) μ = some (.int (i ^ j.toNat), μ) := by
  unfold oPow
  dsimp only
  rw [if_pos ⟨h0, h1, by omega⟩]
@[simp] theorem oAdd_i (i j : Int) : oAdd (.int i) (.int j) μ = some (.int (i + j), μ) := rfl
@[simp] theorem oAdd_s (i j : Str) : oAdd (.str i) (.str j) μ = if i.length + j.length ≤ sizeLine then some (.str (i ++ j), μ) else none := rfl
@[simp] theorem oAdd_t (i j : List DV) : oAdd (.tup i) (.tup j) μ = if i.length + j.length ≤ sizeLine then some (.tup (i ++ j), μ) else none := rfl
@[simp] theorem oAdd_l (i j : List DV) : oAdd (.lst i) (.lst j) μ = if i.length + j.length ≤ sizeLine then some (.lst (i ++ j), μ) else none := rfl
theorem inV1 (x : V) : inV x [] = false := rfl
theorem inV2 (x y : V) (r : List V) : inV x (y :: r) = (eqV y x || inV x r) := rfl
end
end Eg

namespace Eg
open PySem PySem.Spec PyProof.Rows L2
section
variable {fa fb fc f : Den} {fs fi : DenA} {g : DenG} {body : DenS} {ρ : RO} {μ : List MO}
/-! loops, for reckoning -/
def lpO (o : Option Out) (k : DenS) : Option Out := match o with
  | some (.nx ρ2 μ2) => k ρ2 μ2
  | some (.ct ρ2 μ2) => k ρ2 μ2
  | some (.bk ρ2 μ2) => some (.nx ρ2 μ2)
  | some (.rt d μ2) => some (.rt d μ2)
  | none => none
@[simp] theorem lpO_nx (ρ : RO) (μ : List MO) (k : DenS) : lpO (some (.nx ρ μ)) k = k ρ μ := rfl
@[simp] theorem lpO_ct (ρ : RO) (μ : List MO) (k : DenS) : lpO (some (.ct ρ μ)) k = k ρ μ := rfl
@[simp] theorem lpO_bk (ρ : RO) (μ : List MO) (k : DenS) : lpO (some (.bk ρ μ)) k = some (.nx ρ μ) := rfl
@[simp] theorem lpO_rt (d : DV) (μ : List MO) (k : DenS) : lpO (some (.rt d μ)) k = some (.rt d μ) := rfl
@[simp] theorem lpO_no (k : DenS) : lpO none k = none := rfl
@[simp] theorem lpO_ite (c : Prop) [Decidable c] (a b : Option Out) (k : DenS) : lpO (if c then a else b) k = if c then lpO a k else lpO b k := by split <;> rfl
theorem forL_nil : forL g body [] ρ μ = some (.nx ρ μ) := rfl
theorem forL_cons (d : DV) (ds : List DV) : forL g body (d :: ds) ρ μ = bnd (g d ρ μ) fun ρ1 μ1 => lpO (body ρ1 μ1) (forL g body ds) := by
  conv => lhs; unfold forL
  cases g d ρ μ with
  | none => rfl
  | some q =>
    obtain ⟨ρ1, μ1⟩ := q
    simp only [bnd_some]
    unfold lpO
    rfl
theorem whL_succ (n : Nat) : whL fc body (n + 1) ρ μ = bnd (fc ρ μ) fun t μ1 => ifB t (lpO (body ρ μ1) (whL fc body n)) (some (.nx ρ μ1)) := by
  conv => lhs; unfold whL
  cases fc ρ μ with
  | none => rfl
  | some q =>
    obtain ⟨t, μ1⟩ := q
    cases t with
    | bl b =>
      cases b
      · rfl
      · show (match body ρ μ1 with
          | some (.nx ρ2 μ2) => whL fc body n ρ2 μ2
          | some (.ct ρ2 μ2) => whL fc body n ρ2 μ2
          | some (.bk ρ2 μ2) => some (.nx ρ2 μ2)
          | some (.rt d μ2) => some (.rt d μ2)
          | none => none) = lpO (body ρ μ1) (whL fc body n)
        unfold lpO
        rfl
    | _ => rfl
/-- a walk that only goes on: each turn keeps what holds -/
theorem forL_inv {P : Nat → RO → List MO → Prop} (ds : List DV) (h0 : P 0 ρ μ)
    (turn : ∀ i d ρ' μ', ds[i]? = some d → P i ρ' μ' → ∃ ρ1 μ1 ρ2 μ2, g d ρ' μ' = some (ρ1, μ1) ∧ body ρ1 μ1 = some (.nx ρ2 μ2) ∧ P (i + 1) ρ2 μ2) :
    ∃ ρ2 μ2, forL g body ds ρ μ = some (.nx ρ2 μ2) ∧ P ds.length ρ2 μ2 := by
  have key : ∀ (ds' : List DV) (i : Nat) (ρ' : RO) (μ' : List MO), ds.drop i = ds' → i ≤ ds.length → P i ρ' μ' → ∃ ρ2 μ2, forL g body ds' ρ' μ' = some (.nx ρ2 μ2) ∧ P ds.length ρ2 μ2 := by
    intro ds'
    induction ds' with
    | nil =>
      intro i ρ' μ' hd hi h
      have : ds.length ≤ i := List.drop_eq_nil_iff.mp hd
      have e : i = ds.length := by omega
      subst e
      exact ⟨ρ', μ', rfl, h⟩
    | cons d ds' ih =>
      intro i ρ' μ' hd hi h
      have hg : ds[i]? = some d := by
        have z := congrArg List.head? hd
        rw [List.head?_drop] at z
        simpa using z
      obtain ⟨ρ1, μ1, ρ2, μ2, e1, e2, h2⟩ := turn i d ρ' μ' hg h
      have hl : i < ds.length := (List.getElem?_eq_some_iff.mp hg).1
      have ht : ds.drop (i + 1) = ds' := by
        have z := congrArg List.tail hd
        rw [List.tail_drop] at z
        simpa using z
      obtain ⟨ρ3, μ3, e3, h3⟩ := ih (i + 1) ρ2 μ2 ht hl h2
      refine ⟨ρ3, μ3, ?_, h3⟩
      rw [forL_cons, e1, bnd_some, e2, lpO_nx, e3]
  exact key ds 0 ρ μ rfl (Nat.zero_le _) h0
end
end Eg
namespace Eg
theorem forL_at {g : DenG} {body : DenS} {ρ : RO} {μ : List MO} {ds : List DV} {o : Option Out} (hF : forL g body ds ρ μ = o) (P : Nat → RO → List MO → Prop) (h0 : P 0 ρ μ)
    (turn : ∀ i d ρ' μ', ds[i]? = some d → P i ρ' μ' → ∃ ρ1 μ1 ρ2 μ2, g d ρ' μ' = some (ρ1, μ1) ∧ body ρ1 μ1 = some (.nx ρ2 μ2) ∧ P (i + 1) ρ2 μ2) :
    ∃ ρ2 μ2, o = some (.nx ρ2 μ2) ∧ P ds.length ρ2 μ2 := by
  obtain ⟨ρ2, μ2, e, h⟩ := forL_inv (P := P) ds h0 turn
  exact ⟨ρ2, μ2, hF.symm.trans e, h⟩
end Eg
namespace Eg
@[simp] theorem cutd_mu {μ μ' : List MO} : cutd μ (.mu μ.length) μ' = some (.mu μ.length, μ') := by
  unfold cutd
  rw [if_neg]
  rintro ⟨h, _⟩
  simp [DV.bel] at h
end Eg

namespace Eg
open PySem PySem.Spec PyProof.Rows L2
/-! ### enumerate of a tuple -/
theorem meets_enumT (l : Addr) (items : Array Value) (n : Nat) (dct : Option Addr) (sl : Array (Option Value)) :
    Meets (Builtin.«enumerate.__new__» ⟨[.type "enumerate", .ref l], []⟩) (fun _ R s => s.heap.get? l = some { cls := .type "tuple", dict := dct, data := .seq items n, slots := sl } ∧
      R (.ok (.ret (.ref (s.heap.push { cls := .type "tuple_iterator", data := .fields #[.ref l, .int 0 0] }).objs.size)))
        { s with heap := (s.heap.push { cls := .type "tuple_iterator", data := .fields #[.ref l, .int 0 0] }).push { cls := .type "enumerate", data := .fields #[.none, .bool false, .ref s.heap.objs.size, rawInt 0, .none, .none] } }) :=
  .of_wp fun prog w A R s h => by
    obtain ⟨hp, g, d, tk, os⟩ := s; obtain ⟨hl, h⟩ := h
    have hsub := sub_enumerate
    have hL : Heap.IsTuple (Shared.heap ⟨hp, g, d, tk, os⟩) l items := ⟨_, hl, rfl, n, rfl⟩
    wp_walk using wpAny_loadPart' hl
    refine wpAny_stack_any fun st => wpAny_pure ?_
    split
    · rename_i c _ _ _ _ _
      cases (c == Value.type "enumerate")
      · wp_walk using wpAny_loadPart' hl, wpAny_pyIter_tuple hL
        exact ⟨_, rfl, h⟩
      · wp_walk using wpAny_loadPart' hl, wpAny_pyIter_tuple hL
        exact ⟨_, rfl, h⟩
    · wp_walk using wpAny_loadPart' hl, wpAny_pyIter_tuple hL
      exact ⟨_, rfl, h⟩
section
variable {prog : Program} {w : World} {A : Around} {E : Value → Shared → Prop} {s : Shared}
theorem call_enumT {l : Addr} {items : Array Value} {Q : Value → Shared → Prop} (hL : s.heap.IsTuple l items)
    (h : ∀ h', IsEnum h' (s.heap.objs.size + 1) s.heap.objs.size 0 .none → h'.IsTupleIter s.heap.objs.size l 0 → h'.objs.size = s.heap.objs.size + 2 →
      (∀ b o, s.heap.get? b = some o → h'.get? b = some o) → Q (.ref (s.heap.objs.size + 1)) { s with heap := h' }) :
    wpAny (model prog w) A (call (.type "enumerate") [.ref l]) Q E s := by
  obtain ⟨⟨c, dct, dt, sl⟩, hl, hc, n, hd⟩ := hL
  replace hc : c = .type "tuple" := hc
  replace hd : dt = .seq items n := hd
  subst hc hd
  refine callType_new F.called_enumerate (by decide) (F.typeCall_enumerate_1 _) (F.newCall_enumerate_1 _) (fun obj => F.args_object_init_2 obj _) F.entry_enumerate_new
    (meets_enumT l items n dct sl) ⟨hl, ?_⟩
  have hz : (s.heap.push { cls := .type "tuple_iterator", data := .fields #[.ref l, .int 0 0] }).objs.size = s.heap.objs.size + 1 := Heap.size_push ..
  show _ ∧ _
  rw [hz]
  have he : IsEnum ((s.heap.push { cls := .type "tuple_iterator", data := .fields #[.ref l, .int 0 0] }).push
      { cls := .type "enumerate", data := .fields #[.none, .bool false, .ref s.heap.objs.size, rawInt 0, .none, .none] }) (s.heap.objs.size + 1) s.heap.objs.size 0 .none := by
    have := Heap.get?_push_size (s.heap.push { cls := .type "tuple_iterator", data := .fields #[.ref l, .int 0 0] })
      (o := { cls := .type "enumerate", data := .fields #[.none, .bool false, .ref s.heap.objs.size, rawInt 0, .none, .none] }) rfl
    rw [hz] at this; exact this
  refine ⟨⟨_, he, rfl⟩, h _ he ⟨_, Heap.get?_push_of_some _ (Heap.get?_push_size _ rfl), rfl, rfl⟩ (by rw [Heap.size_push, hz]) fun b o x => Heap.get?_push_of_some _ (Heap.get?_push_of_some _ x)⟩
end
def ItnT (K : PySem.W.Frag) (a : Addr) : It where
  go := fun i H => ∃ (xs : List V) (x : V), SqT K H a xs ∧ xs[i]? = some x
  yld := fun i H v H' => ∃ (T : Addr) (x : V), v = .ref T ∧ H T = none ∧ H' = upd H T (.tup [.int (i : Int), x]) ∧ ∀ xs, SqT K H a xs → xs[i]? = some x
  stop := fun i H => ∃ xs : List V, SqT K H a xs ∧ xs.length = i
theorem turn_enumT {P : Program} {w : World} {K : PySem.W.Frag} {elts : List Expr} {kk : Nat} {tpos : Pos} (a e it : Addr) :
    Turn P w K (.Tuple elts kk tpos) (ItnT K a) [e, it] e fun i h => (∃ old, IsEnum h e it (i : Int) old) ∧ h.IsTupleIter it a i ∧ e ≠ it ∧ a ≠ it ∧ a ≠ e where
  mem := List.mem_cons_self
  obj := by
    rintro i h ⟨⟨old, he⟩, ⟨o, ho, hc, hd⟩, _⟩ b hb
    rcases List.mem_cons.mp hb with z | z
    · subst z
      exact ⟨_, he, fun v q => nomatch q⟩
    · obtain rfl := List.mem_singleton.mp z
      exact ⟨o, ho, fun v q => by rw [hd] at q; cases q⟩
  keep := by
    rintro i h h' ⟨⟨old, he⟩, hi, r⟩ kp
    exact ⟨⟨old, kp e List.mem_cons_self _ he⟩, hi.at fun o q => kp it (List.mem_cons_of_mem _ List.mem_cons_self) o q, r⟩
  item := by
    rintro X rfl rfl rfl hc i pins s σ H E I hf ⟨⟨old, he⟩, hit, n1, n2, n3⟩ ⟨xs, x, hq, hx⟩
    obtain ⟨its, rv, p, hz⟩ := I.tuple hq
    obtain ⟨u, hu, ru⟩ := rv.get hx
    have hlt : i < its.toArray.size := by
      rw [List.size_toArray]
      exact (List.getElem?_eq_some_iff.mp hu).1
    have le : e < s.heap.objs.size := Heap.lt_size he
    have li : it < s.heap.objs.size := by
      obtain ⟨_, q, _⟩ := hit
      exact Heap.lt_size q
    have hef : e ∉ [it, a] := by
      intro z
      rcases List.mem_cons.mp z with z | z
      · exact n1 z
      · exact n3 (List.mem_singleton.mp z).symm
    refine wpAny_pyNext_enum_itemC (Draws.tuple (A := X.A.in1) (I.ok.hd hc) it a n2 its.toArray) he ⟨hit, p⟩ hlt n1 hef ?_
    rintro x' h' tk hx' out ⟨hit', _⟩ hT hsz keep
    have ex : x' = u := by
      have z : its.toArray[i]? = some u := by
        rw [List.getElem?_toArray]
        exact hu
      have hx2 : its.toArray[i]? = some x' := hx'
      rw [hx2] at z
      exact Option.some.inj z
    subst ex
    refine ⟨_, rfl, wpAny_letOwnedTupleGo_enum (s := { s with heap := h', toks := tk + 1 }) out fun h2 he2 sb => ?_⟩
    have at2 : h2.get? s.heap.objs.size = some { cls := .type "tuple", data := .seq #[.int (i : Int) tk, x'] } := (sb.2 _ (Nat.ne_of_gt le)).trans hT
    have new : ObjOk X.prog X.w (upd H s.heap.objs.size (.tup [.int (i : Int), x])) h2 s.heap.objs.size (.tup [.int (i : Int), x]) :=
      ⟨by show 2 ≤ sizeLine; decide, [.int (i : Int) tk, x'], .cons ⟨_, rfl⟩ (.cons ru .nil), ⟨_, at2, rfl, _, rfl⟩⟩
    have I2 : L2.Inv X pins σ (upd H s.heap.objs.size (.tup [.int (i : Int), x])) { s with heap := h2, toks := tk + 1 } := by
      refine I.turnedNew (ch := [e, it]) (fun b ob hb q => ?_) hf (Nat.le_refl _) new
      have b1 : b ≠ e := fun z => hb (by rw [z]; exact List.mem_cons_self)
      have b2 : b ≠ it := fun z => hb (by rw [z]; exact List.mem_cons_of_mem _ List.mem_cons_self)
      exact (sb.2 b b1).trans (keep b ob b1 b2 q)
    have cnt : ((i + 1 : Nat) : Int) = (i : Int) + 1 := by omega
    refine ⟨.ref s.heap.objs.size, _, I2, rfl, ⟨_, x, rfl, I.hok.fresh (Nat.le_refl _), rfl, fun ys hy => ?_⟩, ⟨⟨x', ?_⟩, hit'.at fun o q => (sb.2 it (Ne.symm n1)).trans q, n1, n2, n3⟩, fun b hb => ?_⟩
    · rw [I.tuple_inj hy hq]
      exact hx
    · rw [cnt]
      exact he2
    · have lb : b < s.heap.objs.size := by
        rcases List.mem_cons.mp hb with z | z
        · rw [z]; exact le
        · rw [List.mem_singleton.mp z]; exact li
      rw [upd_ne (Nat.ne_of_lt lb)]
      exact (hf b hb).1
  done := by
    rintro X rfl rfl rfl hc i pins s σ H E I hf ⟨⟨old, he⟩, hit, n1, n2, n3⟩ ⟨xs, hq, hx⟩
    obtain ⟨its, rv, p, hz⟩ := I.tuple hq
    obtain ⟨f0, f1, f2, f3, f4, f5⟩ := hf it (List.mem_cons_of_mem _ List.mem_cons_self)
    have en : its.toArray.size = i := by
      rw [List.size_toArray, ← rv.length]
      exact hx
    exact wpAny_pyNext_enum_endD (Draws.tuple (A := X.A.in1) (I.ok.hd hc) it a n2 its.toArray) he (by rw [en]; exact ⟨hit, p⟩) fun h' eb => ⟨rfl, I.turned (t' := s.toks) (fun b o hb q => eb b o hb q) f0 f1 f3 f4 f5⟩
  self := by
    rintro A i s Q E ⟨⟨_, he⟩, _⟩ h
    exact wpAny_pyIter_enum he h
def iEnumT (K : PySem.W.Frag) (ta : TA) : TI := fun σ H R => ta σ H fun vs H1 => ∃ a xs, vs = [.ref a] ∧ SqT K H1 a xs ∧ R (ItnT K a) H1
section
variable {X : Cx} {e a b : Expr} {fs : DenA} {ρ : RO} {μ : List MO} {p p2 pos pos2 tpos : Pos} {elts : List Expr} {kk : Nat} {Ra : Ca} {fa fb : Den}
theorem pi_enumT {ta : TA} (hg : Gl X "enumerate") (hm : X.mg "enumerate" = none) (ha : PA X [e] ta) (hs : starEach [e] X.env = [(false, eval e X.env)] := by rfl) :
    PI X (.Tuple elts kk tpos) (.Call (.Name "enumerate" p) [e] [] pos) (iEnumT X.K ta) := by
  refine ⟨fun pins s σ H R I h => ?_⟩
  refine Call_ (ld_blt I hg hm boot_enumerate (PyProof.Rows.callWith_type1 (thn (ha.run pos pins s σ H _ I h) fun us s1 ⟨vs, H1, I1, r1, q1⟩ => ?_) hs rfl))
  obtain ⟨a, xs, ex, hq, q⟩ := q1
  subst ex
  cases r1 with
  | cons r rr =>
    cases rr
    cases r
    obtain ⟨its, rv, p', hz⟩ := I1.tuple hq
    refine call_enumT p' fun h' he hit hsz hk => wpAny_pyIter_enum he ?_
    have I2 : L2.Inv X pins σ H1 { s1 with heap := h' } := I1.kept (t' := s1.toks) hk
    have ha : a < s1.heap.objs.size := by
      obtain ⟨o, q, _⟩ := p'
      exact Heap.lt_size q
    refine ⟨s1.heap.objs.size + 1, [s1.heap.objs.size + 1, s1.heap.objs.size], _, _, H1, rfl, I2, turn_enumT a (s1.heap.objs.size + 1) s1.heap.objs.size, ⟨⟨.none, he⟩, hit, Nat.succ_ne_self _, Nat.ne_of_lt ha, Nat.ne_of_lt (Nat.lt_succ_of_lt ha)⟩, fun b hb => ?_, q⟩
    have e' : b = s1.heap.objs.size + 1 ∨ b = s1.heap.objs.size := by simpa using hb
    have hle : s1.heap.objs.size ≤ b := by
      rcases e' with z | z
      · rw [z]; exact Nat.le_add_right _ _
      · rw [z]; exact Nat.le_refl _
    exact I1.fpOk hle (I1.hok.fresh hle)
theorem EvI.enmT (hg : Gl X "enumerate") (hm : X.mg "enumerate" = none) (h : EvA X [e] ρ μ fun ds μ1 => ∃ xs, ds = [.tup xs] ∧ Ra (cntD 0 xs) μ1) (hs : starEach [e] X.env = [(false, eval e X.env)] := by rfl) :
    EvI X (.Tuple elts kk tpos) (.Call (.Name "enumerate" p) [e] [] pos) ρ μ Ra :=
  PIw (pi_enumT hg hm pa_a hs) fun σ H Q ⟨α, E, q⟩ => ⟨_, h, α, E, fun vs ds α1 μ1 H1 ⟨xs, e1, r⟩ E1 X1 hv => by
    subst e1
    obtain ⟨v, rfl, hv'⟩ := hasL1 hv
    obtain ⟨a, ws, rfl, s1, t1⟩ := sqT_of hv'
    refine ⟨a, ws, rfl, s1, q _ _ α1 μ1 H1 r E1 X1 fun α3 μ3 H3 kp l => ?_⟩
    obtain ⟨a', ws', ea, s3, t3⟩ := sqT_of (kp.has hv')
    cases ea
    refine ⟨fun i d hd => ?_, ⟨ws', s3, by rw [cntD_len, t3.length]⟩⟩
    obtain ⟨x, f1, rfl⟩ := cntD_at _ _ _ _ hd
    obtain ⟨y, g1, g2⟩ := t3.get f1
    refine ⟨⟨ws', y, s3, g1⟩, ?_⟩
    rintro z H' ⟨T, y2, rfl, nT, rfl, c1⟩
    have q1 := c1 ws' s3
    rw [g1] at q1
    cases q1
    obtain ⟨k2, l2⟩ := l.lay (o := .tup [.int (i : Int), y]) nT
    rw [show (0 : Int) + (i : Int) = (i : Int) by omega]
    exact ⟨k2, l2, .tup (.of upd_same) (.cons .int (.cons (k2.has g2) .nil))⟩⟩
theorem EvI.enmL (hg : Gl X "enumerate") (hm : X.mg "enumerate" = none) (h : EvA X [e] ρ μ fun ds μ1 => ∃ xs, ds = [.lst xs] ∧ Ra (cntD 0 xs) μ1) (hs : starEach [e] X.env = [(false, eval e X.env)] := by rfl) :
    EvI X (.Tuple elts kk tpos) (.Call (.Name "enumerate" p) [e] [] pos) ρ μ Ra :=
  PIw (pi_enum hg hm pa_a hs) fun σ H Q ⟨α, E, q⟩ => ⟨_, h, α, E, fun vs ds α1 μ1 H1 ⟨xs, e1, r⟩ E1 X1 hv => by
    subst e1
    obtain ⟨v, rfl, hv'⟩ := hasL1 hv
    obtain ⟨a, ws, rfl, s1, t1⟩ := sqL_of hv'
    refine ⟨a, ws, rfl, s1, q _ _ α1 μ1 H1 r E1 X1 fun α3 μ3 H3 kp l => ?_⟩
    obtain ⟨a', ws', ea, s3, t3⟩ := sqL_of (kp.has hv')
    cases ea
    refine ⟨fun i d hd => ?_, ⟨ws', s3, by rw [cntD_len, t3.length]; exact Nat.le_refl _⟩⟩
    obtain ⟨x, f1, rfl⟩ := cntD_at _ _ _ _ hd
    obtain ⟨y, g1, g2⟩ := t3.get f1
    refine ⟨⟨ws', y, s3, g1⟩, ?_⟩
    rintro z H' ⟨T, y2, rfl, nT, rfl, c1⟩
    have q1 := c1 ws' s3
    rw [g1] at q1
    cases q1
    obtain ⟨k2, l2⟩ := l.lay (o := .tup [.int (i : Nat), y]) nT
    rw [show (0 : Int) + (i : Int) = (i : Int) by omega]
    exact ⟨k2, l2, .tup (.of upd_same) (.cons .int (.cons (k2.has g2) .nil))⟩⟩
theorem SI.enm (hg : Gl X "enumerate") (hm : X.mg "enumerate" = none) (ss : SAr X [e] fs) (hs : starEach [e] X.env = [(false, eval e X.env)] := by rfl) : SI X (.Tuple elts kk tpos) (.Call (.Name "enumerate" p) [e] [] pos) (iEnm fs) := fun ρ μ R k => by
  obtain ⟨ds, μ1, e1, k⟩ := okA_bndA k
  split at k
  · exact EvI.enmL hg hm (ss.at e1 ⟨_, rfl, k⟩) hs
  · exact EvI.enmT hg hm (ss.at e1 ⟨_, rfl, k⟩) hs
  · exact k.elim
/-! ### list(range(..)), tuple(range(..)) -/
theorem rgV_has {w : Wd} (a b : Int) : HasL w (rgV a b) (rgD a (b - a).toNat) := by
  unfold rgV rgD
  generalize (List.range (b - a).toNat) = l
  induction l with
  | nil => exact .nil
  | cons i l ih => exact .cons .int ih
def dRgL (fa fb : Den) : Den := fun ρ μ => bnd (fa ρ μ) fun x μ1 => bnd (fb ρ μ1) fun y μ2 => match x, y with
  | .int i, .int j => if -4000000000000000000 ≤ i ∧ i < 4000000000000000000 ∧ -4000000000000000000 ≤ j ∧ j < 4000000000000000000 ∧ j - i ≤ 16777216 then some (.lst (rgD i (j - i).toNat), μ2) else none
  | _, _ => none
theorem SE.rgL (hc : X.calm = true) (hg : Gl X "list") (hm : X.mg "list" = none) (hg2 : Gl X "range") (hm2 : X.mg "range" = none) (sa : SE X a fa) (sb : SE X b fb)
    (na : starEach [a, b] X.env = (false, eval a X.env) :: starEach [b] X.env := by rfl) (nb : starEach [b] X.env = (false, eval b X.env) :: starEach [] X.env := by rfl) (hp : (backTo pos2 (starEach [b] X.env)).any (·.1) = false := by rfl)
    (nc : starEach [.Call (.Name "range" p2) [a, b] [] pos2] X.env = (false, eval (.Call (.Name "range" p2) [a, b] [] pos2) X.env) :: starEach [] X.env := by rfl) :
    SE X (.Call (.Name "list" p) [.Call (.Name "range" p2) [a, b] [] pos2] [] pos) (dRgL fa fb) := fun ρ μ R k => by
  obtain ⟨x, μ1, e1, k⟩ := okE_bnd k
  obtain ⟨y, μ2, e2, k⟩ := okE_bnd k
  cases x with
  | int i =>
   cases y with
   | int j =>
    obtain ⟨c, k⟩ := okE_if k
    refine PEw (pe_listRg hc hg hm (prg_2 hg2 hm2 pe_a pe_a na nb hp) nc) fun σ H Q ⟨α, E, q⟩ => ?_
    refine ⟨_, sa.at (R := fun d m => d = .int i ∧ m = μ1) e1 ⟨rfl, rfl⟩, α, E, ?_⟩
    rintro v d α1 μ1' H1 ⟨rfl, rfl⟩ E1 X1 hv
    cases hv
    refine ⟨_, sb.at (R := fun d m => d = .int j ∧ m = μ2) e2 ⟨rfl, rfl⟩, α1, E1, ?_⟩
    rintro v d α2 μ2' H2 ⟨rfl, rfl⟩ E2 X2 hv
    cases hv
    refine ⟨i, j, rfl, rfl, ⟨by omega, by omega, by omega, by omega, by omega⟩, fun q' nq => ?_⟩
    obtain ⟨k2, l2⟩ := E2.live.lay (o := .lst (rgV i j)) nq
    exact q _ _ α2 μ2' _ k (E2.ext k2 l2) (X1.trans (X2.trans k2)) (.lst (.inl ⟨E2.live.fresh nq, .inl upd_same⟩) (rgV_has i j))
   | _ => exact k.elim
  | _ => exact k.elim
/-! ### a list that was made to be changed is told to stay as it is -/
theorem Sts.frz {xs : List Stmt} {R : Co} (i k : Nat) {ds : List DV} (hi : ρ[i]? = some (some (.mu k))) (hk : μ[k]? = some (.lst ds)) (h : Sts X xs (ρ.set i (some (.lst ds))) (μ.set k .dead) R) : Sts X xs ρ μ R :=
  PSsw h fun D σ H ⟨α, E, q⟩ => by
    obtain ⟨v, e1, e2⟩ := E.at_ i _ hi
    cases e2 with
    | mu ha =>
      obtain ⟨kp, l, nl⟩ := E.live.freeze (k := k)
      obtain ⟨vs, h1, h2⟩ := E.live.ob k _ _ ha hk
      have E2 := (E.ext kp l).set i (.lst (.inl ⟨nl _ ha, .inl h1⟩) (kp.hasL h2))
      have es : ∀ u, σ[i]? = some (some u) → σ.set i (some u) = σ := fun u e1 => by
        obtain ⟨hl, he⟩ := List.getElem?_eq_some_iff.mp e1
        apply List.ext_getElem?
        intro j
        by_cases hj : j = i
        · subst hj
          rw [List.getElem?_set_self hl]
          exact e1.symm
        · rw [List.getElem?_set_ne (Ne.symm hj)]
      rw [es _ e1] at E2
      exact ⟨α, E2, fun ρ' σ' α' μ' H' r E' k' => q.1 ρ' σ' α' μ' H' r E' (kp.trans k'), fun v d α' μ' H' r l' k' => q.2.1 v d α' μ' H' r l' (kp.trans k'),
        fun ρ' σ' α' μ' H' r E' k' => q.2.2.1 ρ' σ' α' μ' H' r E' (kp.trans k'), fun ρ' σ' α' μ' H' r E' k' => q.2.2.2 ρ' σ' α' μ' H' r E' (kp.trans k')⟩
def sFrz (i : Nat) (g : DenS) : DenS := fun ρ μ => match ρ[i]? with
  | some (some (.mu k)) => match μ[k]? with
    | some (.lst ds) => g (ρ.set i (some (.lst ds))) (μ.set k .dead)
    | _ => none
  | some (some (.lst _)) => g ρ μ
  | _ => none
theorem SS.frz {ss : List Stmt} {g : DenS} (i : Nat) (h : SS X ss g) : SS X ss (sFrz i g) := fun ρ μ R k => by
  unfold sFrz at k
  split at k
  · rename_i n hn
    split at k
    · rename_i ds hd
      exact Sts.frz i n hn hd (h _ _ R k)
    · exact k.elim
  · exact h ρ μ R k
  · exact k.elim
end
end Eg

namespace Eg
open PySem PySem.Spec PyProof.Rows L2
section
variable {μ : List MO}
theorem xItems_t (ds : List DV) : itemsD μ (.tup ds) = some ds := rfl
theorem xItems_l (ds : List DV) : itemsD μ (.lst ds) = some ds := rfl
theorem xItems_m (k : Nat) : itemsD μ (.mu k) = match μ[k]? with | some (.lst ds) => some ds | _ => none := rfl
theorem xLen_t (ds : List DV) : lenD μ (.tup ds) = some ds.length := rfl
theorem xLen_l (ds : List DV) : lenD μ (.lst ds) = some ds.length := rfl
theorem xLen_m (k : Nat) : lenD μ (.mu k) = (itemsD μ (.mu k)).map List.length := rfl
theorem xLen_s (y : Str) : lenD μ (.str y) = if y.length ≤ sizeLine then some y.length else none := rfl
theorem xIx_t (ds : List DV) (i : Int) : oIx (.tup ds) (.int i) μ = (atI ds i).map fun d => (d, μ) := rfl
theorem xIx_l (ds : List DV) (i : Int) : oIx (.lst ds) (.int i) μ = (atI ds i).map fun d => (d, μ) := rfl
theorem xIx_m (k : Nat) (i : Int) : oIx (.mu k) (.int i) μ = match itemsD μ (.mu k) with | some ds => (atI ds i).map fun d => (d, μ) | none => none := rfl
theorem xIx_s (z : Str) (i : Int) : oIx (.str z) (.int i) μ = if z.length ≤ sizeLine then (atI z.cps.toList i).map fun c => (.str ⟨#[c]⟩, μ) else none := rfl
end
end Eg

namespace Eg
open PySem PySem.Spec PyProof.Rows L2
/-! ### list(range(..)) of any bounds -/
section
variable {pr : Program} {wo : World} {Ar : Around} {sh : Shared} {rg : Addr} {lo hi : Int} {t1 t2 t3 : Tok} {m : Nat}
/-- how a builtin's code may end, when it goes on as another code -/
def goesOn (pr : Program) (wo : World) (Ar : Around) (W : Result → Shared → Prop) (x : PySem.Fin) (y : Shared) : Prop :=
  match x with
  | .done z => W (.ok z) y
  | .again z => z.quiet = true ∧ codeAny (model pr wo) Ar z W y
/-- what the made list is -/
def madeL (lo : Int) (m : Nat) (sh : Shared) (T : Addr) (W : Heap → Nat → Prop) : Prop := ∀ (g : Heap) (tk : Nat) (got : Array Value) (cap : Nat), (∀ (x : Addr) o, x ≠ T → sh.heap.get? x = some o → g.get? x = some o) →
  g.get? T = some { cls := .type "list", dict := none, data := .seq got cap, slots := #[] } → ItemsOf (fun j v => ∃ t, v = .int (lo + j * 1) t) got m → W g tk
theorem ext_long {W : Result → Shared → Prop} (ho : Ar.handled = none) (hr : IsRange sh.heap rg lo hi 1 t1 t2 t3) (hb : Builtin.Range.small lo hi 1 = false) (hn : Builtin.Range.rangeSize lo hi 1 = m)
    (hm : m ≤ 2 ^ 24) (T : Addr) (out : Value) (cap0 : Nat) (hT : sh.heap.get? T = some { cls := .type "list", data := .seq #[] cap0 })
    (fine : madeL lo m sh T fun g tk => W (.ok (.ret out)) { sh with heap := g, toks := tk }) :
    wpAny (model pr wo) Ar.in1 (Builtin.List.listExtendWith (.ref T) (.ref rg) out) (goesOn pr wo Ar W) (fun e y => W (.error e) y) sh := by
  have nr : T ≠ rg := by
    rintro rfl
    rw [hr] at hT
    simp at hT
  have lt : T < sh.heap.objs.size := Heap.lt_size hT
  have ne : T ≠ sh.heap.objs.size := Nat.ne_of_lt lt
  have walk := (Walks.longrange (prog := pr) (w := wo) (A := Ar.in1) ho sh.heap.objs.size lo 1 m).toS
  have loop : ∀ (g : Heap) (cp tk : Nat), IsLongIter g sh.heap.objs.size (lo + ((0 : Nat) : Int) * 1) ((m : Int) - ((0 : Nat) : Int)) 1 →
      (∀ (x : Addr) o, x ≠ T → sh.heap.get? x = some o → g.get? x = some o) → g.get? T = some { cls := .type "list", data := .seq #[] cp } →
      codeAny (model pr wo) Ar (.builtin "list.extend.loop" ⟨[.ref T, .ref sh.heap.objs.size, out], []⟩) W { sh with heap := g, toks := tk } := by
    intro g cp tk it kp hg
    refine codeAny_extend_loopS walk (by rw [sizeLine_eq]; omega) T (fun q => ne (List.mem_singleton.mp q)) out m 0 _ #[] cp rfl (Nat.zero_le _) it hg (ItemsOf.nil _) ?_
    intro y got cp2 mv hy its
    rw [Moved.eq_with mv]
    refine fine y.heap y.toks got cp2 (fun x o hx e => ?_) hy its
    refine mv.heap x o (fun q => ?_) (kp x o hx e)
    rcases List.mem_cons.mp q with q | q
    · exact hx q
    · rw [List.mem_singleton.mp q] at e
      exact absurd (Heap.lt_size e) (Nat.lt_irrefl _)
  unfold Builtin.List.listExtendWith
  refine wpAny_bind (wpAny_typeOf (T := "range") ⟨_, hr, rfl⟩ ?_)
  have f1 : Builtin.List.listSameRef (.ref T) (.ref rg) = false := by
    unfold Builtin.List.listSameRef
    simp [nr]
  have f2 : (Value.type "range" == Value.type "list") = false := by
    decide
  have f3 : (Value.type "range" == Value.type "tuple") = false := by
    decide
  rw [f1, f2, f3]
  simp only [Bool.or_false, Bool.false_eq_true, if_false]
  refine wpAny_bind (wpAny_pyIter_longrange hr hb ?_)
  refine wpAny_bind (wpAny_holding ?_)
  refine wpAny_hint_range (n := m) (Heap.get?_push_of_some _ hr) hn hm ?_
  generalize hob : ({ cls := .type "longrange_iterator", data := .fields #[rawInt lo, rawInt (Builtin.Range.rangeSize lo hi 1), rawInt 1] } : Obj) = ob
  have it1 : IsLongIter (sh.heap.push ob) sh.heap.objs.size (lo + ((0 : Nat) : Int) * 1) ((m : Int) - ((0 : Nat) : Int)) 1 := by
    show (sh.heap.push ob).get? sh.heap.objs.size = _
    rw [Heap.get?_push_size _ (by rw [← hob]; rfl), ← hob, hn]
    simp
  have hT1 : (sh.heap.push ob).get? T = some { cls := .type "list", data := .seq #[] cap0 } := Heap.get?_push_of_some ob hT
  refine wpAny_ite_split (fun _ => ?_) fun _ => wpAny_pure ⟨plainId_quiet F.plain_extend_loop _, loop _ cap0 _ it1 (fun x o _ e => Heap.get?_push_of_some _ e) hT1⟩
  refine wpAny_bind (wpAny_rule ?_)
  refine wpAny_bind ?_
  show wpAny _ _ (updateSeq T (fun z => z.push .none) >>= fun _ => updateSeq T (fun z => z.pop)) _ _ _
  refine wpAny_bind (wpAny_updateSeq hT1 rfl ?_)
  have hT2 := Heap.get?_update_self (Obj.mapSeq fun z => z.push Value.none) hT1 rfl
  refine wpAny_updateSeq (hz := by seq_fits) hT2 rfl ?_
  have hT3 := Heap.get?_update_self (Obj.mapSeq fun z => z.pop) hT2 rfl
  refine wpAny_pure ⟨plainId_quiet F.plain_extend_loop _, loop _ _ _ ?_ (fun x o hx e => ?_) hT3⟩
  · show Heap.get? _ _ = _
    rw [Heap.get?_update_other _ _ ne, Heap.get?_update_other _ _ ne]
    exact it1
  · rw [Heap.get?_update_other _ _ (Ne.symm hx), Heap.get?_update_other _ _ (Ne.symm hx)]
    exact Heap.get?_push_of_some _ e
theorem init_long {W : Result → Shared → Prop} (ho : Ar.handled = none) (hr : IsRange sh.heap rg lo hi 1 t1 t2 t3) (hb : Builtin.Range.small lo hi 1 = false) (hn : Builtin.Range.rangeSize lo hi 1 = m)
    (hm : m ≤ 2 ^ 24) (T : Addr) (hT : sh.heap.get? T = some { cls := .type "list", data := .seq #[] })
    (fine : madeL lo m sh T fun g tk => W (.ok (.ret .none)) { sh with heap := g, toks := tk }) :
    wpAny (model pr wo) Ar.in1 (Builtin.«list.__init__» ⟨[.ref T, .ref rg], []⟩) (goesOn pr wo Ar W) (fun e y => W (.error e) y) sh := by
  have nr : T ≠ rg := by
    rintro rfl
    rw [hr] at hT
    simp at hT
  show wpAny _ _ (Builtin.List.listItems (.ref T) >>= fun z => Builtin.List.listUpdate (.ref T) (fun _ => #[]) >>= fun _ => letGo z.toList.reverse >>= fun _ => Builtin.List.listExtendWith (.ref T) (.ref rg) .none) _ _ sh
  refine wpAny_bind ?_
  unfold Builtin.List.listItems
  refine wpAny_bind (wpAny_seqItems hT rfl (wpAny_pure ?_))
  show wpAny _ _ (updateSeq T (fun _ => #[]) >>= fun _ => letGo (#[] : Array Value).toList.reverse >>= fun _ => Builtin.List.listExtendWith (.ref T) (.ref rg) .none) _ _ sh
  refine wpAny_bind (wpAny_updateSeq hT rfl ?_)
  have hT2 := Heap.get?_update_self (Obj.mapSeq fun _ => (#[] : Array Value)) hT rfl
  have same : ∀ (x : Addr) o, x ≠ T → sh.heap.get? x = some o → (sh.heap.update T (Obj.mapSeq fun _ => (#[] : Array Value))).get? x = some o := fun x o hx e => by
    rw [Heap.get?_update_other _ _ (Ne.symm hx)]
    exact e
  refine wpAny_bind (wpAny_letGo ?_)
  refine ext_long ho (same rg _ (Ne.symm nr) hr) hb hn hm T .none _ hT2 ?_
  intro g tk got cp kp hg its
  exact fine g tk got cp (fun x o hx e => kp x o hx (same x o hx e)) hg its
theorem call_list_long {Q E : Value → Shared → Prop} (ho : Ar.handled = none) (hr : IsRange sh.heap rg lo hi 1 t1 t2 t3) (hb : Builtin.Range.small lo hi 1 = false) (hn : Builtin.Range.rangeSize lo hi 1 = m)
    (hm : m ≤ 2 ^ 24)
    (fine : ∀ (g : Heap) (tk : Nat) (got : Array Value) (cap : Nat), (∀ x o, sh.heap.get? x = some o → g.get? x = some o) → g.get? sh.heap.objs.size = some { cls := .type "list", dict := none, data := .seq got cap, slots := #[] } →
      ItemsOf (fun j v => ∃ t, v = .int (lo + j * 1) t) got m → Q (.ref sh.heap.objs.size) { sh with heap := g, toks := tk }) :
    wpAny (model pr wo) Ar (call (.type "list") [.ref rg]) Q E sh := by
  refine callType_codes (Q₁ := fun ob y => ob = .ref sh.heap.objs.size ∧ y = { sh with heap := sh.heap.push { cls := .type "list", data := .seq #[] } }) F.called_list (F.typeCall_list_1 _) F.entry_list_init
    (code_list_new _ ⟨rfl, rfl⟩) ?_
  rintro ob y ⟨rfl, rfl⟩
  have hT : (sh.heap.push { cls := .type "list", data := .seq #[] }).get? sh.heap.objs.size = some { cls := .type "list", data := .seq #[] } := Heap.get?_push_size _ rfl
  refine ⟨⟨_, hT, rfl⟩, F.args_list_init_2 _ _, ?_⟩
  refine init_long (Ar := Ar.in1) (sh := { sh with heap := sh.heap.push { cls := .type "list", data := .seq #[] } }) ho (Heap.get?_push_of_some _ hr) hb hn hm _ hT ?_
  intro g tk got cp kp hg its
  exact ⟨rfl, fine g tk got cp (fun x o e => kp x o (Nat.ne_of_lt (Heap.lt_size e)) (Heap.get?_push_of_some _ e)) hg its⟩
end
section
variable {X : Cx} {e a b : Expr} {ρ : RO} {μ : List MO} {p p2 pos pos2 : Pos} {fa fb : Den} {te : L2.St → Hp → (Int → Int → Hp → Prop) → Prop}
def tLstRgA (te : L2.St → Hp → (Int → Int → Hp → Prop) → Prop) : TE := fun σ H Q => te σ H fun i j H1 => (j - i ≤ 16777216) ∧ ∀ q, H1 q = none → Q (.ref q) (upd H1 q (.lst (rgV i j)))
theorem pe_listRgA (hc : X.calm = true) (hg : Gl X "list") (hm : X.mg "list" = none) (he : PRg X e te) (na : starEach [e] X.env = (false, eval e X.env) :: starEach [] X.env := by rfl) :
    PE X (.Call (.Name "list" p) [e] [] pos) (tLstRgA te) := by
  refine ⟨fun pins s σ H Q I h => ?_⟩
  refine Call_ (ld_blt I hg hm boot_list (PyProof.Rows.callWith_type1 (args_cons (thn (he pins s σ H _ I h) fun x s1 q1 => args_nil ?_) na) na))
  obtain ⟨r, i, j, t, u, v, H1, rfl, hr, I1, ok, q⟩ := q1
  have fine : ∀ (g : Heap) (tk : Nat) (got : Array Value) (cap : Nat), (∀ x o, s1.heap.get? x = some o → g.get? x = some o) →
      g.get? s1.heap.objs.size = some { cls := .type "list", dict := none, data := .seq got cap, slots := #[] } → ItemsOf (fun j v => ∃ t, v = .int (i + j * 1) t) got (j - i).toNat →
      ∃ (v : V) (H' : Hp), L2.Inv X pins σ H' { s1 with heap := g, toks := tk } ∧ RelV v (.ref s1.heap.objs.size) ∧ Q v H' := fun g tk got cap kp hg its => by
    refine ⟨.ref s1.heap.objs.size, upd H1 s1.heap.objs.size (.lst (rgV i j)), I1.laid kp (Nat.le_refl _) (show ObjOk X.prog X.w _ _ _ (.lst (rgV i j)) from ⟨?_, got.toList, cap, vals_rg its, ?_⟩), rfl, q _ (I1.hok.fresh (Nat.le_refl _))⟩
    · rw [rgV_length, sizeLine_eq]
      omega
    · rw [Array.toArray_toList]
      exact hg
  cases hs : Builtin.Range.small i j 1
  · exact call_list_long (m := (j - i).toNat) (I1.ok.hd hc) hr hs (rangeSize_nat i j) (by omega) fine
  · exact call_list_range (n := (j - i).toNat) (I1.ok.hd hc) hr hs (rangeSize_nat i j) (by omega) fine
def dRgA (fa fb : Den) : Den := fun ρ μ => bnd (fa ρ μ) fun x μ1 => bnd (fb ρ μ1) fun y μ2 => match x, y with
  | .int i, .int j => if j - i ≤ 16777216 then some (.lst (rgD i (j - i).toNat), μ2) else none
  | _, _ => none
theorem SE.rgA (hc : X.calm = true) (hg : Gl X "list") (hm : X.mg "list" = none) (hg2 : Gl X "range") (hm2 : X.mg "range" = none) (sa : SE X a fa) (sb : SE X b fb)
    (na : starEach [a, b] X.env = (false, eval a X.env) :: starEach [b] X.env := by rfl) (nb : starEach [b] X.env = (false, eval b X.env) :: starEach [] X.env := by rfl) (hp : (backTo pos2 (starEach [b] X.env)).any (·.1) = false := by rfl)
    (nc : starEach [.Call (.Name "range" p2) [a, b] [] pos2] X.env = (false, eval (.Call (.Name "range" p2) [a, b] [] pos2) X.env) :: starEach [] X.env := by rfl) :
    SE X (.Call (.Name "list" p) [.Call (.Name "range" p2) [a, b] [] pos2] [] pos) (dRgA fa fb) := fun ρ μ R k => by
  obtain ⟨x, μ1, e1, k⟩ := okE_bnd k
  obtain ⟨y, μ2, e2, k⟩ := okE_bnd k
  cases x with
  | int i =>
   cases y with
   | int j =>
    obtain ⟨c, k⟩ := okE_if k
    refine PEw (pe_listRgA hc hg hm (prg_2 hg2 hm2 pe_a pe_a na nb hp) nc) fun σ H Q ⟨α, E, q⟩ => ?_
    refine ⟨_, sa.at (R := fun d m => d = .int i ∧ m = μ1) e1 ⟨rfl, rfl⟩, α, E, ?_⟩
    rintro v d α1 μ1' H1 ⟨rfl, rfl⟩ E1 X1 hv
    cases hv
    refine ⟨_, sb.at (R := fun d m => d = .int j ∧ m = μ2) e2 ⟨rfl, rfl⟩, α1, E1, ?_⟩
    rintro v d α2 μ2' H2 ⟨rfl, rfl⟩ E2 X2 hv
    cases hv
    refine ⟨i, j, rfl, rfl, c, fun q' nq => ?_⟩
    obtain ⟨k2, l2⟩ := E2.live.lay (o := .lst (rgV i j)) nq
    exact q _ _ α2 μ2' _ k (E2.ext k2 l2) (X1.trans (X2.trans k2)) (.lst (.inl ⟨E2.live.fresh nq, .inl upd_same⟩) (rgV_has i j))
   | _ => exact k.elim
  | _ => exact k.elim
theorem dRgA_def (fa fb : Den) (ρ : RO) (μ : List MO) : dRgA fa fb ρ μ = bnd (fa ρ μ) fun x μ1 => bnd (fb ρ μ1) fun y μ2 => match x, y with
  | .int i, .int j => if j - i ≤ 16777216 then some (.lst (rgD i (j - i).toNat), μ2) else none
  | _, _ => none := rfl
end
end Eg

namespace Eg
open PySem PySem.Spec PyProof.Rows L2
/-! ### walking range(a, b) of any bounds -/
theorem turn_long {Pr : Program} {wo : World} {K : PySem.W.Frag} {tgt : Expr} (itr : Addr) (lo : Int) (m : Nat) :
    Turn Pr wo K tgt (Itr lo m) [itr] itr (fun j g => IsLongIter g itr (lo + (j : Nat) * 1) ((m : Int) - (j : Nat)) 1) where
  mem := List.mem_cons_self
  obj := by
    rintro j g st b hb
    obtain rfl := List.mem_singleton.mp hb
    exact ⟨_, st, fun v q => nomatch q⟩
  keep := fun j g g' st kp => kp itr List.mem_cons_self _ st
  item := by
    rintro X rfl rfl rfl hc j pins sh σ H E I hf st hg
    obtain ⟨a0, a1, a2, a3, a4, a5⟩ := hf itr List.mem_cons_self
    refine (Walks.longrange (prog := X.prog) (w := X.w) (A := X.A) (I.ok.hd hc) itr lo 1 m).item j sh _ _ hg st ?_
    rintro v g tk ⟨t, rfl⟩ st' kp
    have I2 : L2.Inv X pins σ H { sh with heap := g, toks := tk } := I.turned (fun b o hb e => kp b o (by simpa using hb) e) a0 a1 a3 a4 a5
    refine ⟨_, rfl, go_of (s := { sh with heap := g, toks := tk }) (n := "longrange_iterator") st' rfl rfl (by decide) ?_⟩
    refine ⟨.int (lo + j), H, I2, ⟨t, ?_⟩, ⟨rfl, rfl⟩, st', fun b hb => (hf b hb).1⟩
    rw [Int.mul_one]
  done := by
    rintro X rfl rfl rfl hc j pins sh σ H E I hf st hg
    obtain ⟨a0, a1, a2, a3, a4, a5⟩ := hf itr List.mem_cons_self
    have hg' : m ≤ j := hg
    refine wpAny_pyNext_long_end (I.ok.hd hc) st (by omega) fun g eb => ?_
    exact ⟨rfl, I.turned (t' := sh.toks) (fun b o hb e => eb b o hb e) a0 a1 a3 a4 a5⟩
  self := fun _ _ _ _ _ st h => wpAny_pyIter_longiter st h
def iRngA (ta : TA) : TI := fun σ H R => ta σ H fun vs H1 => ∃ i j, vs = [.int i, .int j] ∧ R (Itr i (j - i).toNat) H1
section
variable {X : Cx} {e a b : Expr} {fs : DenA} {ρ : RO} {μ : List MO} {p p2 pos pos2 tpos : Pos} {Ra : Ca} {fa fb : Den}
theorem range_itA {tg : Expr} {pins : List (Addr × Obj)} {σ : L2.St} {H : Hp} {sh : Shared} {R : It → Hp → Prop} {E : Value → Shared → Prop} {lo hi : Int} {t1 t2 t3 : Tok} {tk : Nat} (I : L2.Inv X pins σ H sh) (q : R (Itr lo (hi - lo).toNat) H) :
    wpAny (model X.prog X.w) X.A (pyIter (.ref sh.heap.objs.size)) (PIE X pins σ tg R) E { sh with heap := sh.heap.push { cls := .type "range", data := .fields #[.int lo t1, .int hi t2, .int 1 t3] }, toks := tk } := by
  generalize hg : sh.heap.push { cls := .type "range", data := .fields #[.int lo t1, .int hi t2, .int 1 t3] } = g
  have ir : IsRange g sh.heap.objs.size lo hi 1 t1 t2 t3 := by
    rw [← hg]
    exact IsRange.new ..
  have I1 : L2.Inv X pins σ H { sh with heap := g, toks := tk } := I.kept fun b o e => by
    rw [← hg]
    exact Heap.get?_push_of_some _ e
  have sz : (((hi - lo).toNat : Nat) : Int) - ((0 : Nat) : Int) = Builtin.Range.rangeSize lo hi 1 := by
    rw [rangeSize_one]
    split <;> omega
  have z1 : lo + ((0 : Nat) : Int) * 1 = lo := by omega
  have fp : ∀ b ∈ [g.objs.size], FpOk X pins H b := fun b hb => by
    rw [List.mem_singleton.mp hb]
    exact I1.fpOk (Nat.le_refl _) (I1.hok.fresh (Nat.le_refl _))
  cases hsm : Builtin.Range.small lo hi 1 with
  | true =>
    refine wpAny_pyIter_range ir hsm ⟨g.objs.size, [g.objs.size], _, _, H, rfl, I1.kept (t' := tk) fun b o e => Heap.get?_push_of_some _ e, turn_range _ lo (hi - lo).toNat, ?_, fp, q⟩
    show IsRangeIter _ _ (lo + ((0 : Nat) : Int) * 1) _ 1
    rw [z1, sz]
    exact Heap.get?_push_size _ rfl
  | false =>
    refine wpAny_pyIter_longrange ir hsm ⟨g.objs.size, [g.objs.size], _, _, H, rfl, I1.kept (t' := tk) fun b o e => Heap.get?_push_of_some _ e, turn_long _ lo (hi - lo).toNat, ?_, fp, q⟩
    show IsLongIter _ _ (lo + ((0 : Nat) : Int) * 1) _ 1
    rw [z1, sz]
    exact Heap.get?_push_size _ rfl
theorem pi_range2A {tg : Expr} {ta : TA} (hg : Gl X "range") (hm : X.mg "range" = none) (ha : PA X [a, b] ta) (hs : starEach [a, b] X.env = [(false, eval a X.env), (false, eval b X.env)] := by rfl) (hs2 : starEach [b] X.env = [(false, eval b X.env)] := by rfl) :
    PI X tg (.Call (.Name "range" p) [a, b] [] pos) (iRngA ta) := by
  refine ⟨fun pins s σ H R I h => ?_⟩
  refine Call_ (ld_blt I hg hm boot_range (PyProof.Rows.callWith_type1 (thn (ha.run pos pins s σ H _ I h) fun us s1 q1 => ?_) (by rw [hs, hs2]) (by rw [hs2]; rfl)))
  obtain ⟨vs, H1, I1, r1, i, j, rfl, q⟩ := q1
  cases r1 with
  | cons r rr =>
    cases rr with
    | cons r' rr =>
      cases rr
      obtain ⟨t, rfl⟩ := r
      obtain ⟨t', rfl⟩ := r'
      exact call_range_2 (range_itA I1 q)
def iRangeA (fs : DenA) : DenA := fun ρ μ => bnd (fs ρ μ) fun ds μ1 => match ds with
  | [.int i, .int j] => some (rgD i (j - i).toNat, μ1)
  | _ => none
theorem SI.rangeA {tg : Expr} (hg : Gl X "range") (hm : X.mg "range" = none) (ss : SAr X [a, b] fs) (hs : starEach [a, b] X.env = [(false, eval a X.env), (false, eval b X.env)] := by rfl) (hs2 : starEach [b] X.env = [(false, eval b X.env)] := by rfl) : SI X tg (.Call (.Name "range" p) [a, b] [] pos) (iRangeA fs) := fun ρ μ R k => by
  obtain ⟨ds, μ1, e1, k⟩ := okA_bndA k
  split at k
  · rename_i i j
    refine PIw (pi_range2A hg hm pa_a hs hs2) fun σ H Q ⟨α, E, q⟩ => ⟨_, ss.at (R := fun ds m => ds = [.int i, .int j] ∧ m = μ1) e1 ⟨rfl, rfl⟩, α, E, ?_⟩
    rintro vs ds α1 μ1' H1 ⟨rfl, rfl⟩ E1 X1 hv
    obtain ⟨v, u, rfl, hw, hu⟩ := hasL2 hv
    cases hw
    cases hu
    exact ⟨i, j, rfl, q _ _ α1 μ1' H1 k E1 X1 (itr_ok i (j - i).toNat)⟩
  · exact k.elim
/-! ### a list that may change and another one: a new one that may change -/
def oAddM : DV → DV → List MO → RE
  | .mu k, .lst ys, μ => match μ[k]? with
    | some (.lst xs) => if xs.length + ys.length ≤ sizeLine then some (.mu μ.length, μ ++ [.lst (xs ++ ys)]) else none
    | _ => none
  | _, _, _ => none
def sCatMM : S2 := fun x y μ R => ∃ k xs ys, x = .mu k ∧ μ[k]? = some (.lst xs) ∧ y = .lst ys ∧ xs.length + ys.length ≤ sizeLine ∧ R (.mu μ.length) (μ ++ [.lst (xs ++ ys)])
theorem rCatMM_S : R2S X (rCatL X.K) sCatMM := fun α μ H σ ρ x y da db R Q E hx hy h q => by
  obtain ⟨k, xs, ys, rfl, hk, rfl, c, r⟩ := h
  obtain ⟨b, us, rfl, s2, t2⟩ := sqL_of hy
  cases hx with
  | mu ha =>
    obtain ⟨vs, h1, t1⟩ := E.live.ob k _ _ ha hk
    refine ⟨_, b, vs, us, rfl, rfl, .inl (.inl h1), s2, by rw [t1.length, t2.length]; exact c, fun p np => ?_⟩
    obtain ⟨kp, l, e⟩ := E.live.layM (o := .lst (vs ++ us)) (m := .lst (xs ++ ys)) np (fun _ k => ⟨vs ++ us, upd_same, k.hasL (HasL.app t1 t2)⟩)
    exact q _ _ _ _ _ r (E.ext kp l) kp (.mu e)
theorem SE.addM (sa : SE X a fa) (sb : SE X b fb) : SE X (.BinOp a .Add b pos) (dOp2 oAddM fa fb) := SE.op2 sa sb fun x y μ2 R h => by
  unfold oAddM at h
  split at h
  · split at h
    · rename_i hk
      obtain ⟨c, h⟩ := okE_if h
      exact ⟨sCatMM, ⟨_, _, _, rfl, hk, rfl, c, h⟩, fun ρ μ k => Ev.op op_catL rCatMM_S k⟩
    · exact h.elim
  · exact h.elim
end
end Eg

namespace Eg
open PySem PySem.Spec PyProof.Rows L2
/-! ### gcd of two to four numbers -/
def gcdL (ns : List Int) : Nat := ns.foldl (fun g x => g.gcd x.natAbs) 0
theorem args_gcd3 (a b c : Value) : argsOk "math.gcd" ⟨[a, b, c], []⟩ := by unfold argsOk; kernel_rfl
theorem args_gcd4 (a b c d : Value) : argsOk "math.gcd" ⟨[a, b, c, d], []⟩ := by unfold argsOk; kernel_rfl
theorem run_gcd2 (a b : Int) (t u : Tok) : Gives (Builtin.«math.gcd» ⟨[.int a t, .int b u], []⟩) (.int ((gcdL [a, b] : Nat) : Int)) :=
  .of_wp fun M A E s Q h => by
    obtain ⟨hp, g, d, tk, os⟩ := s
    wp_walk
    exact ⟨_, rfl, h⟩
theorem run_gcd3 (a b c : Int) (t u v : Tok) : Gives (Builtin.«math.gcd» ⟨[.int a t, .int b u, .int c v], []⟩) (.int ((gcdL [a, b, c] : Nat) : Int)) :=
  .of_wp fun M A E s Q h => by
    obtain ⟨hp, g, d, tk, os⟩ := s
    wp_walk
    exact ⟨_, rfl, h⟩
theorem run_gcd4 (a b c e : Int) (t u v x : Tok) : Gives (Builtin.«math.gcd» ⟨[.int a t, .int b u, .int c v, .int e x], []⟩) (.int ((gcdL [a, b, c, e] : Nat) : Int)) :=
  .of_wp fun M A E s Q h => by
    obtain ⟨hp, g, d, tk, os⟩ := s
    wp_walk
    exact ⟨_, rfl, h⟩
def rGcdN : List V → Hp → VK → Prop := fun vs H Q => ∃ ns : List Int, vs = ns.map V.int ∧ (2 ≤ ns.length ∧ ns.length ≤ 4) ∧ Q (.int ((gcdL ns : Nat) : Int)) H
section
variable {X : Cx} {a : Expr} {es : List Expr} {fs : DenA} {ρ : RO} {μ : List MO} {p pos : Pos}
theorem cr_gcdN : CallR X (.builtin "math.gcd") rGcdN := by
  intro pins s σ H vs us Q I r h
  obtain ⟨ns, rfl, ⟨l1, l2⟩, q⟩ := h
  match ns, l1, l2, r with
  | [a, b], _, _, .cons r1 (.cons r2 .nil) =>
    obtain ⟨t1, rfl⟩ := r1
    obtain ⟨t2, rfl⟩ := r2
    exact call_function_meets PySem.W.MGF.kind_gcd PySem.W.MGF.plain_gcd PySem.W.MGF.entry_gcd (PySem.W.MGF.args_gcd _ _) (run_gcd2 a b t1 t2).meets ⟨.int _, H, I.tok _, ⟨_, rfl⟩, q⟩
  | [a, b, c], _, _, .cons r1 (.cons r2 (.cons r3 .nil)) =>
    obtain ⟨t1, rfl⟩ := r1
    obtain ⟨t2, rfl⟩ := r2
    obtain ⟨t3, rfl⟩ := r3
    exact call_function_meets PySem.W.MGF.kind_gcd PySem.W.MGF.plain_gcd PySem.W.MGF.entry_gcd (args_gcd3 _ _ _) (run_gcd3 a b c t1 t2 t3).meets ⟨.int _, H, I.tok _, ⟨_, rfl⟩, q⟩
  | [a, b, c, e], _, _, .cons r1 (.cons r2 (.cons r3 (.cons r4 .nil))) =>
    obtain ⟨t1, rfl⟩ := r1
    obtain ⟨t2, rfl⟩ := r2
    obtain ⟨t3, rfl⟩ := r3
    obtain ⟨t4, rfl⟩ := r4
    exact call_function_meets PySem.W.MGF.kind_gcd PySem.W.MGF.plain_gcd PySem.W.MGF.entry_gcd (args_gcd4 _ _ _ _) (run_gcd4 a b c e t1 t2 t3 t4).meets ⟨.int _, H, I.tok _, ⟨_, rfl⟩, q⟩
theorem hasL_ints {w : Wd} : ∀ {vs : List V} {ns : List Int}, HasL w vs (ns.map DV.int) → vs = ns.map V.int
  | _, [], h => by cases h; rfl
  | _, n :: ns, h => by
    cases h with
    | cons h1 h2 =>
      cases h1
      rw [hasL_ints h2]
      rfl
def oGcd : List DV → List MO → RE := fun ds μ => match intsD ds with
  | some ns => if 2 ≤ ns.length ∧ ns.length ≤ 4 then some (.int ((gcdL ns : Nat) : Int), μ) else none
  | none => none
theorem SE.gcd {x : Str} (hg : Gl X x) (hm : X.mg x = some (.builtin "math.gcd")) (ss : SAr X (a :: es) fs) (hdb : (x == ("__debug__" : Str)) = false := by decide)
    (he : starEach (a :: es) X.env = (false, eval a X.env) :: starEach es X.env := by rfl) (hpl : (backTo pos (starEach es X.env)).any (·.1) = false := by rfl) :
    SE X (.Call (.Name x p) (a :: es) [] pos) (dBlt oGcd fs) := fun ρ μ R k => by
  obtain ⟨ds, μ1, e1, k⟩ := okE_bndA k
  unfold oGcd at k
  split at k
  · rename_i ns hn
    obtain ⟨c, k⟩ := okE_if k
    have hd := intsD_eq hn
    refine PEw (pe_callBfun cr_gcdN hg hm pa_a hdb he hpl) fun σ H Q ⟨α, E, q⟩ => ⟨_, ss.at (R := fun ds' m => ds' = ds ∧ m = μ1) e1 ⟨rfl, rfl⟩, α, E, ?_⟩
    rintro vs ds' α1 μ1' H1 ⟨rfl, rfl⟩ E1 X1 hv
    subst hd
    exact ⟨ns, hasL_ints hv, c, q _ _ α1 μ1' H1 k E1 X1 .int⟩
  · exact k.elim
end
end Eg

namespace Eg
open PySem PySem.Spec PyProof.Rows L2
/-! ### lcm of two numbers -/
def rLcmN : List V → Hp → VK → Prop := fun vs H Q => ∃ a b : Int, vs = [.int a, .int b] ∧ (a.natAbs < 2 ^ 64 ∧ b.natAbs < 2 ^ 64) ∧ Q (.int ((Nat.lcm a.natAbs b.natAbs : Nat) : Int)) H
section
variable {X : Cx} {a b : Expr} {fs : DenA} {ρ : RO} {μ : List MO} {p pos : Pos}
theorem cr_lcmN : CallR X (.builtin "math.lcm") rLcmN := by
  intro pins s σ H vs us Q I r h
  obtain ⟨a, b, rfl, ⟨ha, hb⟩, q⟩ := h
  obtain ⟨t, u, rfl⟩ := Vals.int2 r
  have e : Nat.lcm 1 a.natAbs = a.natAbs := Nat.lcm_one_left _
  refine PySem.W.mg_lcm ha hb ?_ ⟨.int _, H, I.tok _, ⟨_, rfl⟩, by rw [e]; exact q⟩
  rw [e]
  have le : Nat.lcm a.natAbs b.natAbs ≤ a.natAbs * b.natAbs := Nat.div_le_self _ _
  have lt : a.natAbs * b.natAbs < 2 ^ 64 * 2 ^ 64 := Nat.mul_lt_mul'' ha hb
  have lt2 : Nat.lcm a.natAbs b.natAbs < 2 ^ 128 := Nat.lt_of_le_of_lt le lt
  have := log_lt (n := 128) (i := ((Nat.lcm a.natAbs b.natAbs : Nat) : Int)) (by omega) (by omega)
  refine Nat.lt_of_le_of_lt this ?_
  decide
def oLcm : List DV → List MO → RE
  | [.int a, .int b], μ => if a.natAbs < 2 ^ 64 ∧ b.natAbs < 2 ^ 64 then some (.int ((Nat.lcm a.natAbs b.natAbs : Nat) : Int), μ) else none
  | _, _ => none
theorem SE.lcm {x : Str} (hg : Gl X x) (hm : X.mg x = some (.builtin "math.lcm")) (ss : SAr X [a, b] fs) (hdb : (x == ("__debug__" : Str)) = false := by decide)
    (he : starEach [a, b] X.env = (false, eval a X.env) :: starEach [b] X.env := by rfl) (hpl : (backTo pos (starEach [b] X.env)).any (·.1) = false := by rfl) :
    SE X (.Call (.Name x p) [a, b] [] pos) (dBlt oLcm fs) := fun ρ μ R k => by
  obtain ⟨ds, μ1, e1, k⟩ := okE_bndA k
  unfold oLcm at k
  split at k
  · rename_i i j
    obtain ⟨c, k⟩ := okE_if k
    refine PEw (pe_callBfun cr_lcmN hg hm pa_a hdb he hpl) fun σ H Q ⟨α, E, q⟩ => ⟨_, ss.at (R := fun ds' m => ds' = [.int i, .int j] ∧ m = μ1) e1 ⟨rfl, rfl⟩, α, E, ?_⟩
    rintro vs ds' α1 μ1' H1 ⟨rfl, rfl⟩ E1 X1 hv
    obtain ⟨v, u, rfl, hw, hu⟩ := hasL2 hv
    cases hw
    cases hu
    exact ⟨i, j, rfl, c, q _ _ α1 μ1' H1 k E1 X1 .int⟩
  · exact k.elim
end
end Eg

namespace Eg
open PySem PySem.Spec PyProof.Rows L2
section
variable {X : Cx} {a b c e : Expr} {es : List Expr} {fa fb fc f : Den} {fs : DenA} {pos p : Pos} {ρ : RO} {μ : List MO}
/-! ### a tuple, k times -/
def oRep : DV → DV → List MO → RE
  | .tup xs, .int k, μ => if xs.isEmpty = false ∧ 2 ≤ k ∧ k ≤ 1000 ∧ xs.length ≤ 1000 then some (.tup (List.replicate k.toNat xs).flatten, μ) else none
  | _, _, _ => none
def sRep : S2 := fun x y μ R => ∃ xs k, x = .tup xs ∧ y = .int k ∧ xs.isEmpty = false ∧ 2 ≤ k ∧ k ≤ 1000 ∧ xs.length ≤ 1000 ∧ R (.tup (List.replicate k.toNat xs).flatten) μ
theorem HasL.rep {w : Wd} {vs : List V} {ds : List DV} (h : HasL w vs ds) : ∀ m : Nat, HasL w (List.replicate m vs).flatten (List.replicate m ds).flatten
  | 0 => .nil
  | m + 1 => by
    rw [List.replicate_succ, List.replicate_succ, List.flatten_cons, List.flatten_cons]
    exact HasL.app h (HasL.rep h m)
theorem rRepT_S : R2S X (rRepT X.K) sRep := fun α μ H σ ρ x y da db R Q E hx hy h q => by
  obtain ⟨xs, k, rfl, rfl, hne, h1, h2, hz, r⟩ := h
  cases hx with
  | @tup a vs _ s1 t1 =>
    cases hy
    refine ⟨a, k, vs, rfl, rfl, s1, ?_, h1, h2, by rw [t1.length]; exact hz, ?_⟩
    · rintro rfl
      have e : xs = [] := List.length_eq_zero_iff.mp t1.length.symm
      subst e
      simp at hne
    · intro p np
      obtain ⟨kk, l⟩ := E.live.lay (o := .tup (List.replicate k.toNat vs).flatten) np
      exact q _ _ α μ _ r (E.ext kk l) kk (.tup (.of upd_same) (kk.hasL (HasL.rep t1 _)))
theorem SE.rep (sa : SE X a fa) (sb : SE X b fb) : SE X (.BinOp a .Mult b pos) (dOp2 oRep fa fb) := SE.op2 sa sb fun x y μ2 R h => by
  unfold oRep at h
  split at h
  · obtain ⟨⟨c1, c2, c3, c4⟩, h⟩ := okE_if h
    exact ⟨sRep, ⟨_, _, rfl, rfl, c1, c2, c3, c4, h⟩, fun ρ μ k => Ev.op op_repT rRepT_S k⟩
  · exact h.elim
end
end Eg

namespace Eg
open PySem PySem.Spec PyProof.Rows L2
section
variable {X : Cx} {a b c e : Expr} {es : List Expr} {fa fb fc f : Den} {fs : DenA} {pos p : Pos} {ρ : RO} {μ : List MO}
/-! ### range(a, b, c) -/
def stD (lo c : Int) (n : Nat) : List DV := (List.range n).map fun (i : Nat) => DV.int (lo + (i : Int) * c)
theorem stD_len (lo c : Int) (n : Nat) : (stD lo c n).length = n := by simp [stD]
theorem itc_ok {w : Wd} (lo c : Int) (n : Nat) : ItOk X (Itc lo c n) (stD lo c n) w := fun α μ H k l => by
  refine ⟨fun i d hd => ?_, Nat.le_of_eq (stD_len lo c n).symm⟩
  obtain ⟨hi, e⟩ := List.getElem?_eq_some_iff.mp hd
  rw [stD_len] at hi
  refine ⟨hi, fun x H' y => ?_⟩
  obtain ⟨rfl, rfl⟩ := y
  have e' : d = .int (lo + (i : Int) * c) := by
    rw [← e]
    simp [stD]
  rw [e']
  exact ⟨l.refl, l, .int⟩
def rgOk (i j c : Int) : Prop := c ≠ 0 ∧ c.natAbs < 1073741824 ∧ Builtin.Range.small i j c = true ∧ Builtin.Range.rangeSize i j c = ((Builtin.Range.rangeSize i j c).toNat : Int)
instance (i j c : Int) : Decidable (rgOk i j c) := by unfold rgOk; infer_instance
def iRange3 (fs : DenA) : DenA := fun ρ μ => bnd (fs ρ μ) fun ds μ1 => match ds with
  | [.int i, .int j, .int c] => if rgOk i j c then some (stD i c (Builtin.Range.rangeSize i j c).toNat, μ1) else none
  | _ => none
theorem SI.range3 {tg : Expr} (hg : Gl X "range") (hm : X.mg "range" = none) (ss : SAr X [a, b, c] fs)
    (hs : starEach [a, b, c] X.env = (false, eval a X.env) :: starEach [b, c] X.env := by rfl) (hpl : (backTo pos (starEach [b, c] X.env)).any (·.1) = false := by rfl) : SI X tg (.Call (.Name "range" p) [a, b, c] [] pos) (iRange3 fs) := fun ρ μ R k => by
  obtain ⟨ds, μ1, e1, k⟩ := okA_bndA k
  split at k
  · rename_i i j c
    obtain ⟨⟨c1, c2, c3, c4⟩, k⟩ := okA_if k
    refine PIw (pi_range3 hg hm pa_a hs hpl) fun σ H Q ⟨α, E, q⟩ => ⟨_, ss.at (R := fun ds m => ds = [.int i, .int j, .int c] ∧ m = μ1) e1 ⟨rfl, rfl⟩, α, E, ?_⟩
    rintro vs ds α1 μ1' H1 ⟨rfl, rfl⟩ E1 X1 hv
    obtain ⟨v, u, t, rfl, hw, hu, ht⟩ := hasL3 hv
    cases hw
    cases hu
    cases ht
    exact ⟨i, j, c, _, rfl, ⟨c1, c2, c3, c4⟩, q _ _ α1 μ1' H1 k E1 X1 (itc_ok i c _)⟩
  · exact k.elim
theorem rgOk_up {i j c : Int} (hi : -(2 ^ 40) ≤ i) (hi' : i < 2 ^ 40) (hj : -(2 ^ 40) ≤ j) (hj' : j < 2 ^ 40) (hc : 0 < c) (hc' : c < 2 ^ 20) : rgOk i j c := by
  refine ⟨by omega, by omega, ?_, ?_⟩
  · have e : Builtin.Range.rangeSize i j c = (if i < j then (j - i - 1) / c + 1 else 0) := by
      unfold Builtin.Range.rangeSize
      rw [if_pos (by omega)]
    have n0 : 0 ≤ Builtin.Range.rangeSize i j c ∧ Builtin.Range.rangeSize i j c ≤ 2 ^ 42 := by
      rw [e]
      split
      · have h1 : (j - i - 1) / c ≤ j - i - 1 := Int.ediv_le_self _ (by omega)
        have h2 : 0 ≤ (j - i - 1) / c := Int.ediv_nonneg (by omega) (by omega)
        omega
      · omega
    unfold Builtin.Range.small
    generalize Builtin.Range.rangeSize i j c = n at *
    simp only [Builtin.Range.rangeFitsLong, Bool.and_eq_true, Bool.or_eq_true, decide_eq_true_eq, beq_iff_eq]
    have hc0 : c > 0 := hc
    simp only [if_pos hc0]
    simp
    omega
  · rw [Int.toNat_of_nonneg]
    unfold Builtin.Range.rangeSize
    rw [if_pos (by omega)]
    split
    · have h2 : 0 ≤ (j - i - 1) / c := Int.ediv_nonneg (by omega) (by omega)
      omega
    · omega
theorem oDiv_neg {i j : Int} (h1 : j < 0) (h2 : -1267650600228229401496703205376 < j) : oDiv (.int i) (.int j) μ = some (.int (i.fdiv j), μ) := by
  have b := log_lt (n := 100) (i := j) (by omega) (by omega)
  unfold oDiv
  dsimp only
  rw [if_neg (by omega), if_pos ⟨h1, by omega⟩]
theorem oDiv_big {i j : Int} (h1 : j ≠ 0) (h2 : -(2 ^ 400) < j) (h3 : j < 2 ^ 400) : oDiv (.int i) (.int j) μ = some (.int (i.fdiv j), μ) := by
  have b := log_lt (n := 400) (i := j) h2 h3
  unfold oDiv
  dsimp only
  by_cases c : 0 < j
  · rw [if_pos ⟨c, by omega⟩, Int.fdiv_eq_ediv_of_nonneg _ (by omega)]
  · rw [if_neg (by omega), if_pos ⟨by omega, by omega⟩]
theorem oMod_any {i j : Int} (h1 : j ≠ 0) : oMod (.int i) (.int j) μ = some (.int (i.fmod j), μ) := by
  unfold oMod
  dsimp only
  rw [if_pos h1]
/-! ### i << j -/
def oShl : DV → DV → List MO → RE
  | .int i, .int j, μ => if 0 ≤ j ∧ j ≤ 1000000 ∧ i.natAbs < 2 ^ 64 then some (.int (i * 2 ^ j.toNat), μ) else none
  | _, _, _ => none
def sShl : S2 := fun x y μ R => ∃ i j, x = .int i ∧ y = .int j ∧ CPow i j ∧ R (.int (i * 2 ^ j.toNat)) μ
theorem SE.shl (sa : SE X a fa) (sb : SE X b fb) : SE X (.BinOp a .LShift b pos) (dOp2 oShl fa fb) := SE.op2 sa sb fun x y μ2 R h => by
  unfold oShl at h
  split at h
  · obtain ⟨c, h⟩ := okE_if h
    exact ⟨sShl, ⟨_, _, rfl, rfl, c, h⟩, fun ρ μ k => Ev.op op_shl (rI_S fun _ _ _ => .int) k⟩
  · exact h.elim
end
end Eg

namespace Lw
open PySem PySem.Spec L2
/-- what the top has left, by names -/
structure Fx (K : PySem.W.Frag) (mg : Str → Option Value) : Prop where
  glo : ∀ (i : Nat) {x : Str}, faL[i]? = some (.glo x) → mg x = some (.ref (He.ga K x))
  free : ∀ (i : Nat) {x : Str}, faL[i]? = some (.free x) → mg x = none
  fn : ∀ (i : Nat) {d : He.DefD}, fnL[i]? = some d → ∃ fd, FunD K d.name d.qual d.params d.body d.scope (d.dvs K) (d.kws K) (He.fAd K d.at_) fd
  str : ∀ (i : Nat) {x z : Str}, faL[i]? = some (.str x z) → ∃ t, mg x = some (.str z t)
  int : ∀ (i : Nat) {x : Str} {z : Int}, faL[i]? = some (.int x z) → ∃ t, mg x = some (.int z t)
  ex : exB K = true
  b_lcm : mg "lcm" = some (.builtin "math.lcm")
  b_gcd : mg "gcd" = some (.builtin "math.gcd")
theorem fx_of {K : PySem.W.Frag} {h : Heap} {mg : Str → Option Value} {w : World} (X : K.In h) (G : h.Ns mainGlobals mg) (c : He.SaysX faL fnL [] [] exB w h K) : Fx K mg where
  glo := fun i {x} e => He.glo_ok X G (c.t.d.fact i e)
  free := fun i {x} e => He.free_ok X G (c.t.d.fact i e)
  fn := fun i {d} e => c.t.d.def_ i e
  str := fun i {x z} e => He.str_ok X G (c.t.d.fact i e)
  int := fun i {x z} e => He.int_ok X G (c.t.d.fact i e)
  ex := c.more
  b_lcm := PySem.W.mg_of X G (of_decide_eq_true (by
    have h := c.more
    unfold exB at h
    replace h := (Bool.and_eq_true _ _ ▸ h : _ ∧ _).2
    exact (Bool.and_eq_true _ _ ▸ h : _ ∧ _).1))
  b_gcd := PySem.W.mg_of X G (of_decide_eq_true (by
    have h := c.more
    unfold exB at h
    exact (Bool.and_eq_true _ _ ▸ h : _ ∧ _).1))
theorem Fx.g_LookError {K : PySem.W.Frag} {mg : Str → Option Value} (T : Fx K mg) : mg "LookError" = some (.ref (He.ga K "LookError")) := T.glo 4 rfl
theorem Fx.g_InvalidNumber {K : PySem.W.Frag} {mg : Str → Option Value} (T : Fx K mg) : mg "InvalidNumber" = some (.ref (He.ga K "InvalidNumber")) := T.glo 5 rfl
theorem Fx.g_InvalidRest {K : PySem.W.Frag} {mg : Str → Option Value} (T : Fx K mg) : mg "InvalidRest" = some (.ref (He.ga K "InvalidRest")) := T.glo 6 rfl
theorem Fx.g_InvalidWidth {K : PySem.W.Frag} {mg : Str → Option Value} (T : Fx K mg) : mg "InvalidWidth" = some (.ref (He.ga K "InvalidWidth")) := T.glo 7 rfl
theorem Fx.g_InvalidGuard {K : PySem.W.Frag} {mg : Str → Option Value} (T : Fx K mg) : mg "InvalidGuard" = some (.ref (He.ga K "InvalidGuard")) := T.glo 8 rfl
theorem Fx.g_is_whole {K : PySem.W.Frag} {mg : Str → Option Value} (T : Fx K mg) : mg "is_whole" = some (.ref (He.ga K "is_whole")) := T.glo 9 rfl
theorem Fx.g_is_residue {K : PySem.W.Frag} {mg : Str → Option Value} (T : Fx K mg) : mg "is_residue" = some (.ref (He.ga K "is_residue")) := T.glo 10 rfl
theorem Fx.g_residue_of {K : PySem.W.Frag} {mg : Str → Option Value} (T : Fx K mg) : mg "residue_of" = some (.ref (He.ga K "residue_of")) := T.glo 11 rfl
theorem Fx.g_residue_holds {K : PySem.W.Frag} {mg : Str → Option Value} (T : Fx K mg) : mg "residue_holds" = some (.ref (He.ga K "residue_holds")) := T.glo 12 rfl
theorem Fx.g_residue_met {K : PySem.W.Frag} {mg : Str → Option Value} (T : Fx K mg) : mg "residue_met" = some (.ref (He.ga K "residue_met")) := T.glo 13 rfl
theorem Fx.g_inverse {K : PySem.W.Frag} {mg : Str → Option Value} (T : Fx K mg) : mg "inverse" = some (.ref (He.ga K "inverse")) := T.glo 14 rfl
theorem Fx.g_residue_quotient {K : PySem.W.Frag} {mg : Str → Option Value} (T : Fx K mg) : mg "residue_quotient" = some (.ref (He.ga K "residue_quotient")) := T.glo 15 rfl
theorem Fx.g_residue_modulo {K : PySem.W.Frag} {mg : Str → Option Value} (T : Fx K mg) : mg "residue_modulo" = some (.ref (He.ga K "residue_modulo")) := T.glo 16 rfl
theorem Fx.g_residue_wrapped {K : PySem.W.Frag} {mg : Str → Option Value} (T : Fx K mg) : mg "residue_wrapped" = some (.ref (He.ga K "residue_wrapped")) := T.glo 17 rfl
theorem Fx.g_residue_guarded {K : PySem.W.Frag} {mg : Str → Option Value} (T : Fx K mg) : mg "residue_guarded" = some (.ref (He.ga K "residue_guarded")) := T.glo 18 rfl
theorem Fx.g_refuse_wrong_rest {K : PySem.W.Frag} {mg : Str → Option Value} (T : Fx K mg) : mg "refuse_wrong_rest" = some (.ref (He.ga K "refuse_wrong_rest")) := T.glo 19 rfl
theorem Fx.g_refuse_wrong_number {K : PySem.W.Frag} {mg : Str → Option Value} (T : Fx K mg) : mg "refuse_wrong_number" = some (.ref (He.ga K "refuse_wrong_number")) := T.glo 20 rfl
theorem Fx.g_refuse_wrong_width {K : PySem.W.Frag} {mg : Str → Option Value} (T : Fx K mg) : mg "refuse_wrong_width" = some (.ref (He.ga K "refuse_wrong_width")) := T.glo 21 rfl
theorem Fx.g_refuse_wrong_guard {K : PySem.W.Frag} {mg : Str → Option Value} (T : Fx K mg) : mg "refuse_wrong_guard" = some (.ref (He.ga K "refuse_wrong_guard")) := T.glo 22 rfl
theorem Fx.g_rest_holds {K : PySem.W.Frag} {mg : Str → Option Value} (T : Fx K mg) : mg "rest_holds" = some (.ref (He.ga K "rest_holds")) := T.glo 23 rfl
theorem Fx.g_rest_quotient {K : PySem.W.Frag} {mg : Str → Option Value} (T : Fx K mg) : mg "rest_quotient" = some (.ref (He.ga K "rest_quotient")) := T.glo 24 rfl
theorem Fx.g_rest_modulo {K : PySem.W.Frag} {mg : Str → Option Value} (T : Fx K mg) : mg "rest_modulo" = some (.ref (He.ga K "rest_modulo")) := T.glo 25 rfl
theorem Fx.g_rest_wrapped {K : PySem.W.Frag} {mg : Str → Option Value} (T : Fx K mg) : mg "rest_wrapped" = some (.ref (He.ga K "rest_wrapped")) := T.glo 26 rfl
theorem Fx.g_rest_guarded {K : PySem.W.Frag} {mg : Str → Option Value} (T : Fx K mg) : mg "rest_guarded" = some (.ref (He.ga K "rest_guarded")) := T.glo 27 rfl
theorem Fx.g_refuse_wrong_rests {K : PySem.W.Frag} {mg : Str → Option Value} (T : Fx K mg) : mg "refuse_wrong_rests" = some (.ref (He.ga K "refuse_wrong_rests")) := T.glo 28 rfl
theorem Fx.g_l_source {K : PySem.W.Frag} {mg : Str → Option Value} (T : Fx K mg) : mg "_law_source" = some (.ref (He.ga K "_law_source")) := T.glo 29 rfl
theorem Fx.g_l_take {K : PySem.W.Frag} {mg : Str → Option Value} (T : Fx K mg) : mg "_law_take" = some (.ref (He.ga K "_law_take")) := T.glo 30 rfl
theorem Fx.g_l_pick {K : PySem.W.Frag} {mg : Str → Option Value} (T : Fx K mg) : mg "_law_pick" = some (.ref (He.ga K "_law_pick")) := T.glo 31 rfl
theorem Fx.g_l_great {K : PySem.W.Frag} {mg : Str → Option Value} (T : Fx K mg) : mg "_law_great" = some (.ref (He.ga K "_law_great")) := T.glo 32 rfl
theorem Fx.g_l_number {K : PySem.W.Frag} {mg : Str → Option Value} (T : Fx K mg) : mg "_law_number" = some (.ref (He.ga K "_law_number")) := T.glo 33 rfl
theorem Fx.g_l_part {K : PySem.W.Frag} {mg : Str → Option Value} (T : Fx K mg) : mg "_law_part" = some (.ref (He.ga K "_law_part")) := T.glo 34 rfl
theorem Fx.g_l_rest {K : PySem.W.Frag} {mg : Str → Option Value} (T : Fx K mg) : mg "_law_rest" = some (.ref (He.ga K "_law_rest")) := T.glo 35 rfl
theorem Fx.g_l_rest_near {K : PySem.W.Frag} {mg : Str → Option Value} (T : Fx K mg) : mg "_law_rest_near" = some (.ref (He.ga K "_law_rest_near")) := T.glo 36 rfl
theorem Fx.g_l_rest_some {K : PySem.W.Frag} {mg : Str → Option Value} (T : Fx K mg) : mg "_law_rest_some" = some (.ref (He.ga K "_law_rest_some")) := T.glo 37 rfl
theorem Fx.g_l_is_whole {K : PySem.W.Frag} {mg : Str → Option Value} (T : Fx K mg) : mg "_law_is_whole" = some (.ref (He.ga K "_law_is_whole")) := T.glo 38 rfl
theorem Fx.g_l_same {K : PySem.W.Frag} {mg : Str → Option Value} (T : Fx K mg) : mg "_law_same" = some (.ref (He.ga K "_law_same")) := T.glo 39 rfl
theorem Fx.g_l_rest_has {K : PySem.W.Frag} {mg : Str → Option Value} (T : Fx K mg) : mg "_law_rest_has" = some (.ref (He.ga K "_law_rest_has")) := T.glo 40 rfl
theorem Fx.g_l_common {K : PySem.W.Frag} {mg : Str → Option Value} (T : Fx K mg) : mg "_law_common" = some (.ref (He.ga K "_law_common")) := T.glo 41 rfl
theorem Fx.g_l_least {K : PySem.W.Frag} {mg : Str → Option Value} (T : Fx K mg) : mg "_law_least" = some (.ref (He.ga K "_law_least")) := T.glo 42 rfl
theorem Fx.g_l_rest_meet {K : PySem.W.Frag} {mg : Str → Option Value} (T : Fx K mg) : mg "_law_rest_meet" = some (.ref (He.ga K "_law_rest_meet")) := T.glo 43 rfl
theorem Fx.g_l_over {K : PySem.W.Frag} {mg : Str → Option Value} (T : Fx K mg) : mg "_law_over" = some (.ref (He.ga K "_law_over")) := T.glo 44 rfl
theorem Fx.g_l_left {K : PySem.W.Frag} {mg : Str → Option Value} (T : Fx K mg) : mg "_law_left" = some (.ref (He.ga K "_law_left")) := T.glo 45 rfl
theorem Fx.g_l_lets {K : PySem.W.Frag} {mg : Str → Option Value} (T : Fx K mg) : mg "_law_lets" = some (.ref (He.ga K "_law_lets")) := T.glo 46 rfl
theorem Fx.g_l_guarded {K : PySem.W.Frag} {mg : Str → Option Value} (T : Fx K mg) : mg "_law_guarded" = some (.ref (He.ga K "_law_guarded")) := T.glo 47 rfl
theorem Fx.g_l_beside {K : PySem.W.Frag} {mg : Str → Option Value} (T : Fx K mg) : mg "_law_beside" = some (.ref (He.ga K "_law_beside")) := T.glo 48 rfl
theorem Fx.g_l_two_right {K : PySem.W.Frag} {mg : Str → Option Value} (T : Fx K mg) : mg "_law_two_right" = some (.ref (He.ga K "_law_two_right")) := T.glo 49 rfl
theorem Fx.g_l_guards_right {K : PySem.W.Frag} {mg : Str → Option Value} (T : Fx K mg) : mg "_law_guards_right" = some (.ref (He.ga K "_law_guards_right")) := T.glo 50 rfl
theorem Fx.g_l_held_right {K : PySem.W.Frag} {mg : Str → Option Value} (T : Fx K mg) : mg "_law_held_right" = some (.ref (He.ga K "_law_held_right")) := T.glo 51 rfl
theorem Fx.g_l_wrapped_right {K : PySem.W.Frag} {mg : Str → Option Value} (T : Fx K mg) : mg "_law_wrapped_right" = some (.ref (He.ga K "_law_wrapped_right")) := T.glo 52 rfl
theorem Fx.g_l_right {K : PySem.W.Frag} {mg : Str → Option Value} (T : Fx K mg) : mg "_law_right" = some (.ref (He.ga K "_law_right")) := T.glo 53 rfl
theorem Fx.g_l_law {K : PySem.W.Frag} {mg : Str → Option Value} (T : Fx K mg) : mg "law" = some (.ref (He.ga K "law")) := T.glo 54 rfl
theorem Fx.n_ValueError {K : PySem.W.Frag} {mg : Str → Option Value} (T : Fx K mg) : mg "ValueError" = none := T.free 55 rfl
theorem Fx.n_abs {K : PySem.W.Frag} {mg : Str → Option Value} (T : Fx K mg) : mg "abs" = none := T.free 56 rfl
theorem Fx.n_all {K : PySem.W.Frag} {mg : Str → Option Value} (T : Fx K mg) : mg "all" = none := T.free 57 rfl
theorem Fx.n_bool {K : PySem.W.Frag} {mg : Str → Option Value} (T : Fx K mg) : mg "bool" = none := T.free 58 rfl
theorem Fx.n_divmod {K : PySem.W.Frag} {mg : Str → Option Value} (T : Fx K mg) : mg "divmod" = none := T.free 59 rfl
theorem Fx.n_int {K : PySem.W.Frag} {mg : Str → Option Value} (T : Fx K mg) : mg "int" = none := T.free 60 rfl
theorem Fx.n_isinstance {K : PySem.W.Frag} {mg : Str → Option Value} (T : Fx K mg) : mg "isinstance" = none := T.free 61 rfl
theorem Fx.n_len {K : PySem.W.Frag} {mg : Str → Option Value} (T : Fx K mg) : mg "len" = none := T.free 62 rfl
theorem Fx.n_max {K : PySem.W.Frag} {mg : Str → Option Value} (T : Fx K mg) : mg "max" = none := T.free 63 rfl
theorem Fx.n_min {K : PySem.W.Frag} {mg : Str → Option Value} (T : Fx K mg) : mg "min" = none := T.free 64 rfl
theorem Fx.n_range {K : PySem.W.Frag} {mg : Str → Option Value} (T : Fx K mg) : mg "range" = none := T.free 65 rfl
theorem Fx.n_str {K : PySem.W.Frag} {mg : Str → Option Value} (T : Fx K mg) : mg "str" = none := T.free 66 rfl
theorem Fx.n_tuple {K : PySem.W.Frag} {mg : Str → Option Value} (T : Fx K mg) : mg "tuple" = none := T.free 67 rfl
theorem Fx.n_zip {K : PySem.W.Frag} {mg : Str → Option Value} (T : Fx K mg) : mg "zip" = none := T.free 68 rfl
theorem Fx.d_InvalidNumber_init {K : PySem.W.Frag} {mg : Str → Option Value} (T : Fx K mg) : ∃ fd, FunD K dInvalidNumber_init.name dInvalidNumber_init.qual dInvalidNumber_init.params dInvalidNumber_init.body dInvalidNumber_init.scope (dInvalidNumber_init.dvs K) (dInvalidNumber_init.kws K) (He.fAd K dInvalidNumber_init.at_) fd := T.fn 0 rfl
theorem Fx.d_InvalidRest_init {K : PySem.W.Frag} {mg : Str → Option Value} (T : Fx K mg) : ∃ fd, FunD K dInvalidRest_init.name dInvalidRest_init.qual dInvalidRest_init.params dInvalidRest_init.body dInvalidRest_init.scope (dInvalidRest_init.dvs K) (dInvalidRest_init.kws K) (He.fAd K dInvalidRest_init.at_) fd := T.fn 1 rfl
theorem Fx.d_InvalidWidth_init {K : PySem.W.Frag} {mg : Str → Option Value} (T : Fx K mg) : ∃ fd, FunD K dInvalidWidth_init.name dInvalidWidth_init.qual dInvalidWidth_init.params dInvalidWidth_init.body dInvalidWidth_init.scope (dInvalidWidth_init.dvs K) (dInvalidWidth_init.kws K) (He.fAd K dInvalidWidth_init.at_) fd := T.fn 2 rfl
theorem Fx.d_InvalidGuard_init {K : PySem.W.Frag} {mg : Str → Option Value} (T : Fx K mg) : ∃ fd, FunD K dInvalidGuard_init.name dInvalidGuard_init.qual dInvalidGuard_init.params dInvalidGuard_init.body dInvalidGuard_init.scope (dInvalidGuard_init.dvs K) (dInvalidGuard_init.kws K) (He.fAd K dInvalidGuard_init.at_) fd := T.fn 3 rfl
theorem Fx.d_is_whole {K : PySem.W.Frag} {mg : Str → Option Value} (T : Fx K mg) : ∃ fd, FunD K dis_whole.name dis_whole.qual dis_whole.params dis_whole.body dis_whole.scope (dis_whole.dvs K) (dis_whole.kws K) (He.fAd K dis_whole.at_) fd := T.fn 4 rfl
theorem Fx.d_is_residue {K : PySem.W.Frag} {mg : Str → Option Value} (T : Fx K mg) : ∃ fd, FunD K dis_residue.name dis_residue.qual dis_residue.params dis_residue.body dis_residue.scope (dis_residue.dvs K) (dis_residue.kws K) (He.fAd K dis_residue.at_) fd := T.fn 5 rfl
theorem Fx.d_residue_of {K : PySem.W.Frag} {mg : Str → Option Value} (T : Fx K mg) : ∃ fd, FunD K dresidue_of.name dresidue_of.qual dresidue_of.params dresidue_of.body dresidue_of.scope (dresidue_of.dvs K) (dresidue_of.kws K) (He.fAd K dresidue_of.at_) fd := T.fn 6 rfl
theorem Fx.d_residue_holds {K : PySem.W.Frag} {mg : Str → Option Value} (T : Fx K mg) : ∃ fd, FunD K dresidue_holds.name dresidue_holds.qual dresidue_holds.params dresidue_holds.body dresidue_holds.scope (dresidue_holds.dvs K) (dresidue_holds.kws K) (He.fAd K dresidue_holds.at_) fd := T.fn 7 rfl
theorem Fx.d_residue_met {K : PySem.W.Frag} {mg : Str → Option Value} (T : Fx K mg) : ∃ fd, FunD K dresidue_met.name dresidue_met.qual dresidue_met.params dresidue_met.body dresidue_met.scope (dresidue_met.dvs K) (dresidue_met.kws K) (He.fAd K dresidue_met.at_) fd := T.fn 8 rfl
theorem Fx.d_inverse {K : PySem.W.Frag} {mg : Str → Option Value} (T : Fx K mg) : ∃ fd, FunD K dinverse.name dinverse.qual dinverse.params dinverse.body dinverse.scope (dinverse.dvs K) (dinverse.kws K) (He.fAd K dinverse.at_) fd := T.fn 9 rfl
theorem Fx.d_residue_quotient {K : PySem.W.Frag} {mg : Str → Option Value} (T : Fx K mg) : ∃ fd, FunD K dresidue_quotient.name dresidue_quotient.qual dresidue_quotient.params dresidue_quotient.body dresidue_quotient.scope (dresidue_quotient.dvs K) (dresidue_quotient.kws K) (He.fAd K dresidue_quotient.at_) fd := T.fn 10 rfl
theorem Fx.d_residue_modulo {K : PySem.W.Frag} {mg : Str → Option Value} (T : Fx K mg) : ∃ fd, FunD K dresidue_modulo.name dresidue_modulo.qual dresidue_modulo.params dresidue_modulo.body dresidue_modulo.scope (dresidue_modulo.dvs K) (dresidue_modulo.kws K) (He.fAd K dresidue_modulo.at_) fd := T.fn 11 rfl
theorem Fx.d_residue_wrapped {K : PySem.W.Frag} {mg : Str → Option Value} (T : Fx K mg) : ∃ fd, FunD K dresidue_wrapped.name dresidue_wrapped.qual dresidue_wrapped.params dresidue_wrapped.body dresidue_wrapped.scope (dresidue_wrapped.dvs K) (dresidue_wrapped.kws K) (He.fAd K dresidue_wrapped.at_) fd := T.fn 12 rfl
theorem Fx.d_residue_guarded {K : PySem.W.Frag} {mg : Str → Option Value} (T : Fx K mg) : ∃ fd, FunD K dresidue_guarded.name dresidue_guarded.qual dresidue_guarded.params dresidue_guarded.body dresidue_guarded.scope (dresidue_guarded.dvs K) (dresidue_guarded.kws K) (He.fAd K dresidue_guarded.at_) fd := T.fn 13 rfl
theorem Fx.d_refuse_wrong_rest {K : PySem.W.Frag} {mg : Str → Option Value} (T : Fx K mg) : ∃ fd, FunD K drefuse_wrong_rest.name drefuse_wrong_rest.qual drefuse_wrong_rest.params drefuse_wrong_rest.body drefuse_wrong_rest.scope (drefuse_wrong_rest.dvs K) (drefuse_wrong_rest.kws K) (He.fAd K drefuse_wrong_rest.at_) fd := T.fn 14 rfl
theorem Fx.d_refuse_wrong_number {K : PySem.W.Frag} {mg : Str → Option Value} (T : Fx K mg) : ∃ fd, FunD K drefuse_wrong_number.name drefuse_wrong_number.qual drefuse_wrong_number.params drefuse_wrong_number.body drefuse_wrong_number.scope (drefuse_wrong_number.dvs K) (drefuse_wrong_number.kws K) (He.fAd K drefuse_wrong_number.at_) fd := T.fn 15 rfl
theorem Fx.d_refuse_wrong_width {K : PySem.W.Frag} {mg : Str → Option Value} (T : Fx K mg) : ∃ fd, FunD K drefuse_wrong_width.name drefuse_wrong_width.qual drefuse_wrong_width.params drefuse_wrong_width.body drefuse_wrong_width.scope (drefuse_wrong_width.dvs K) (drefuse_wrong_width.kws K) (He.fAd K drefuse_wrong_width.at_) fd := T.fn 16 rfl
theorem Fx.d_refuse_wrong_guard {K : PySem.W.Frag} {mg : Str → Option Value} (T : Fx K mg) : ∃ fd, FunD K drefuse_wrong_guard.name drefuse_wrong_guard.qual drefuse_wrong_guard.params drefuse_wrong_guard.body drefuse_wrong_guard.scope (drefuse_wrong_guard.dvs K) (drefuse_wrong_guard.kws K) (He.fAd K drefuse_wrong_guard.at_) fd := T.fn 17 rfl
theorem Fx.d_rest_holds {K : PySem.W.Frag} {mg : Str → Option Value} (T : Fx K mg) : ∃ fd, FunD K drest_holds.name drest_holds.qual drest_holds.params drest_holds.body drest_holds.scope (drest_holds.dvs K) (drest_holds.kws K) (He.fAd K drest_holds.at_) fd := T.fn 18 rfl
theorem Fx.d_rest_quotient {K : PySem.W.Frag} {mg : Str → Option Value} (T : Fx K mg) : ∃ fd, FunD K drest_quotient.name drest_quotient.qual drest_quotient.params drest_quotient.body drest_quotient.scope (drest_quotient.dvs K) (drest_quotient.kws K) (He.fAd K drest_quotient.at_) fd := T.fn 19 rfl
theorem Fx.d_rest_modulo {K : PySem.W.Frag} {mg : Str → Option Value} (T : Fx K mg) : ∃ fd, FunD K drest_modulo.name drest_modulo.qual drest_modulo.params drest_modulo.body drest_modulo.scope (drest_modulo.dvs K) (drest_modulo.kws K) (He.fAd K drest_modulo.at_) fd := T.fn 20 rfl
theorem Fx.d_rest_wrapped {K : PySem.W.Frag} {mg : Str → Option Value} (T : Fx K mg) : ∃ fd, FunD K drest_wrapped.name drest_wrapped.qual drest_wrapped.params drest_wrapped.body drest_wrapped.scope (drest_wrapped.dvs K) (drest_wrapped.kws K) (He.fAd K drest_wrapped.at_) fd := T.fn 21 rfl
theorem Fx.d_rest_guarded {K : PySem.W.Frag} {mg : Str → Option Value} (T : Fx K mg) : ∃ fd, FunD K drest_guarded.name drest_guarded.qual drest_guarded.params drest_guarded.body drest_guarded.scope (drest_guarded.dvs K) (drest_guarded.kws K) (He.fAd K drest_guarded.at_) fd := T.fn 22 rfl
theorem Fx.d_refuse_wrong_rests {K : PySem.W.Frag} {mg : Str → Option Value} (T : Fx K mg) : ∃ fd, FunD K drefuse_wrong_rests.name drefuse_wrong_rests.qual drefuse_wrong_rests.params drefuse_wrong_rests.body drefuse_wrong_rests.scope (drefuse_wrong_rests.dvs K) (drefuse_wrong_rests.kws K) (He.fAd K drefuse_wrong_rests.at_) fd := T.fn 23 rfl
theorem Fx.d_l_source {K : PySem.W.Frag} {mg : Str → Option Value} (T : Fx K mg) : ∃ fd, FunD K dl_source.name dl_source.qual dl_source.params dl_source.body dl_source.scope (dl_source.dvs K) (dl_source.kws K) (He.fAd K dl_source.at_) fd := T.fn 24 rfl
theorem Fx.d_l_take {K : PySem.W.Frag} {mg : Str → Option Value} (T : Fx K mg) : ∃ fd, FunD K dl_take.name dl_take.qual dl_take.params dl_take.body dl_take.scope (dl_take.dvs K) (dl_take.kws K) (He.fAd K dl_take.at_) fd := T.fn 25 rfl
theorem Fx.d_l_pick {K : PySem.W.Frag} {mg : Str → Option Value} (T : Fx K mg) : ∃ fd, FunD K dl_pick.name dl_pick.qual dl_pick.params dl_pick.body dl_pick.scope (dl_pick.dvs K) (dl_pick.kws K) (He.fAd K dl_pick.at_) fd := T.fn 26 rfl
theorem Fx.d_l_great {K : PySem.W.Frag} {mg : Str → Option Value} (T : Fx K mg) : ∃ fd, FunD K dl_great.name dl_great.qual dl_great.params dl_great.body dl_great.scope (dl_great.dvs K) (dl_great.kws K) (He.fAd K dl_great.at_) fd := T.fn 27 rfl
theorem Fx.d_l_number {K : PySem.W.Frag} {mg : Str → Option Value} (T : Fx K mg) : ∃ fd, FunD K dl_number.name dl_number.qual dl_number.params dl_number.body dl_number.scope (dl_number.dvs K) (dl_number.kws K) (He.fAd K dl_number.at_) fd := T.fn 28 rfl
theorem Fx.d_l_part {K : PySem.W.Frag} {mg : Str → Option Value} (T : Fx K mg) : ∃ fd, FunD K dl_part.name dl_part.qual dl_part.params dl_part.body dl_part.scope (dl_part.dvs K) (dl_part.kws K) (He.fAd K dl_part.at_) fd := T.fn 29 rfl
theorem Fx.d_l_rest {K : PySem.W.Frag} {mg : Str → Option Value} (T : Fx K mg) : ∃ fd, FunD K dl_rest.name dl_rest.qual dl_rest.params dl_rest.body dl_rest.scope (dl_rest.dvs K) (dl_rest.kws K) (He.fAd K dl_rest.at_) fd := T.fn 30 rfl
theorem Fx.d_l_rest_near {K : PySem.W.Frag} {mg : Str → Option Value} (T : Fx K mg) : ∃ fd, FunD K dl_rest_near.name dl_rest_near.qual dl_rest_near.params dl_rest_near.body dl_rest_near.scope (dl_rest_near.dvs K) (dl_rest_near.kws K) (He.fAd K dl_rest_near.at_) fd := T.fn 31 rfl
theorem Fx.d_l_rest_some {K : PySem.W.Frag} {mg : Str → Option Value} (T : Fx K mg) : ∃ fd, FunD K dl_rest_some.name dl_rest_some.qual dl_rest_some.params dl_rest_some.body dl_rest_some.scope (dl_rest_some.dvs K) (dl_rest_some.kws K) (He.fAd K dl_rest_some.at_) fd := T.fn 32 rfl
theorem Fx.d_l_is_whole {K : PySem.W.Frag} {mg : Str → Option Value} (T : Fx K mg) : ∃ fd, FunD K dl_is_whole.name dl_is_whole.qual dl_is_whole.params dl_is_whole.body dl_is_whole.scope (dl_is_whole.dvs K) (dl_is_whole.kws K) (He.fAd K dl_is_whole.at_) fd := T.fn 33 rfl
theorem Fx.d_l_same {K : PySem.W.Frag} {mg : Str → Option Value} (T : Fx K mg) : ∃ fd, FunD K dl_same.name dl_same.qual dl_same.params dl_same.body dl_same.scope (dl_same.dvs K) (dl_same.kws K) (He.fAd K dl_same.at_) fd := T.fn 34 rfl
theorem Fx.d_l_rest_has {K : PySem.W.Frag} {mg : Str → Option Value} (T : Fx K mg) : ∃ fd, FunD K dl_rest_has.name dl_rest_has.qual dl_rest_has.params dl_rest_has.body dl_rest_has.scope (dl_rest_has.dvs K) (dl_rest_has.kws K) (He.fAd K dl_rest_has.at_) fd := T.fn 35 rfl
theorem Fx.d_l_common {K : PySem.W.Frag} {mg : Str → Option Value} (T : Fx K mg) : ∃ fd, FunD K dl_common.name dl_common.qual dl_common.params dl_common.body dl_common.scope (dl_common.dvs K) (dl_common.kws K) (He.fAd K dl_common.at_) fd := T.fn 36 rfl
theorem Fx.d_l_least {K : PySem.W.Frag} {mg : Str → Option Value} (T : Fx K mg) : ∃ fd, FunD K dl_least.name dl_least.qual dl_least.params dl_least.body dl_least.scope (dl_least.dvs K) (dl_least.kws K) (He.fAd K dl_least.at_) fd := T.fn 37 rfl
theorem Fx.d_l_rest_meet {K : PySem.W.Frag} {mg : Str → Option Value} (T : Fx K mg) : ∃ fd, FunD K dl_rest_meet.name dl_rest_meet.qual dl_rest_meet.params dl_rest_meet.body dl_rest_meet.scope (dl_rest_meet.dvs K) (dl_rest_meet.kws K) (He.fAd K dl_rest_meet.at_) fd := T.fn 38 rfl
theorem Fx.d_l_over {K : PySem.W.Frag} {mg : Str → Option Value} (T : Fx K mg) : ∃ fd, FunD K dl_over.name dl_over.qual dl_over.params dl_over.body dl_over.scope (dl_over.dvs K) (dl_over.kws K) (He.fAd K dl_over.at_) fd := T.fn 39 rfl
theorem Fx.d_l_left {K : PySem.W.Frag} {mg : Str → Option Value} (T : Fx K mg) : ∃ fd, FunD K dl_left.name dl_left.qual dl_left.params dl_left.body dl_left.scope (dl_left.dvs K) (dl_left.kws K) (He.fAd K dl_left.at_) fd := T.fn 40 rfl
theorem Fx.d_l_lets {K : PySem.W.Frag} {mg : Str → Option Value} (T : Fx K mg) : ∃ fd, FunD K dl_lets.name dl_lets.qual dl_lets.params dl_lets.body dl_lets.scope (dl_lets.dvs K) (dl_lets.kws K) (He.fAd K dl_lets.at_) fd := T.fn 41 rfl
theorem Fx.d_l_guarded {K : PySem.W.Frag} {mg : Str → Option Value} (T : Fx K mg) : ∃ fd, FunD K dl_guarded.name dl_guarded.qual dl_guarded.params dl_guarded.body dl_guarded.scope (dl_guarded.dvs K) (dl_guarded.kws K) (He.fAd K dl_guarded.at_) fd := T.fn 42 rfl
theorem Fx.d_l_beside {K : PySem.W.Frag} {mg : Str → Option Value} (T : Fx K mg) : ∃ fd, FunD K dl_beside.name dl_beside.qual dl_beside.params dl_beside.body dl_beside.scope (dl_beside.dvs K) (dl_beside.kws K) (He.fAd K dl_beside.at_) fd := T.fn 43 rfl
theorem Fx.d_l_two_right {K : PySem.W.Frag} {mg : Str → Option Value} (T : Fx K mg) : ∃ fd, FunD K dl_two_right.name dl_two_right.qual dl_two_right.params dl_two_right.body dl_two_right.scope (dl_two_right.dvs K) (dl_two_right.kws K) (He.fAd K dl_two_right.at_) fd := T.fn 44 rfl
theorem Fx.d_l_guards_right {K : PySem.W.Frag} {mg : Str → Option Value} (T : Fx K mg) : ∃ fd, FunD K dl_guards_right.name dl_guards_right.qual dl_guards_right.params dl_guards_right.body dl_guards_right.scope (dl_guards_right.dvs K) (dl_guards_right.kws K) (He.fAd K dl_guards_right.at_) fd := T.fn 45 rfl
theorem Fx.d_l_held_right {K : PySem.W.Frag} {mg : Str → Option Value} (T : Fx K mg) : ∃ fd, FunD K dl_held_right.name dl_held_right.qual dl_held_right.params dl_held_right.body dl_held_right.scope (dl_held_right.dvs K) (dl_held_right.kws K) (He.fAd K dl_held_right.at_) fd := T.fn 46 rfl
theorem Fx.d_l_wrapped_right {K : PySem.W.Frag} {mg : Str → Option Value} (T : Fx K mg) : ∃ fd, FunD K dl_wrapped_right.name dl_wrapped_right.qual dl_wrapped_right.params dl_wrapped_right.body dl_wrapped_right.scope (dl_wrapped_right.dvs K) (dl_wrapped_right.kws K) (He.fAd K dl_wrapped_right.at_) fd := T.fn 47 rfl
theorem Fx.d_l_right {K : PySem.W.Frag} {mg : Str → Option Value} (T : Fx K mg) : ∃ fd, FunD K dl_right.name dl_right.qual dl_right.params dl_right.body dl_right.scope (dl_right.dvs K) (dl_right.kws K) (He.fAd K dl_right.at_) fd := T.fn 48 rfl
theorem Fx.d_l_law {K : PySem.W.Frag} {mg : Str → Option Value} (T : Fx K mg) : ∃ fd, FunD K dl_law.name dl_law.qual dl_law.params dl_law.body dl_law.scope (dl_law.dvs K) (dl_law.kws K) (He.fAd K dl_law.at_) fd := T.fn 49 rfl
section
open Eg
theorem kB_vals : ∀ (l : List Value) (zs : List (Int ⊕ Str)), l.map kB = zs.map some → Vals (zs.map fun z => match z with | .inl n => V.int n | .inr y => V.str y) l
  | [], [], _ => .nil
  | [], _ :: _, h => by cases h
  | _ :: _, [], h => by cases h
  | v :: r, z :: zs, h => by
    rw [List.map_cons, List.map_cons] at h
    injection h with h1 h2
    refine .cons ?_ (kB_vals r zs h2)
    cases v <;> first | (cases h1; exact ⟨_, rfl⟩) | cases h1
theorem kB_has {w : Wd} : ∀ (zs : List (Int ⊕ Str)), HasL w (zs.map fun z => match z with | .inl n => V.int n | .inr y => V.str y) (zs.map fun z => match z with | .inl n => DV.int n | .inr y => DV.str y)
  | [] => .nil
  | .inl _ :: r => .cons .int (kB_has r)
  | .inr _ :: r => .cons .str (kB_has r)
theorem tup_has {K : PySem.W.Frag} {x : Str} {zs : List (Int ⊕ Str)} (h : tupB K x zs = true) (hz : zs.length ≤ 1000) (α : List Addr) (μ : List MO) (H : Hp) : Has ⟨K, α, μ, H⟩ (V.ref (He.ga K x)) (.tup (zs.map fun z => match z with | .inl n => DV.int n | .inr y => DV.str y)) := by
  unfold tupB at h
  split at h
  · rename_i dd its n sl hl
    have hm := of_decide_eq_true h
    have vals := kB_vals its.toList zs hm
    have hlen : its.size = zs.length := by
      have z := vals.length
      rw [List.length_map, Array.length_toList] at z
      exact z.symm
    exact .tup (.inr ⟨_, its, n, hl, rfl, rfl, by rw [hlen, sizeLine_eq]; omega, vals⟩) (kB_has zs)
  · cases h
theorem Fx.c_GRAIN {K : PySem.W.Frag} {mg : Str → Option Value} (T : Fx K mg) {X : Cx} {pos : Pos} (hg : Gl X "GRAIN") (hm : X.mg = mg := by rfl) : SE X (.Name "GRAIN" pos) (dC (.int 20160)) := by
  obtain ⟨t, e⟩ := T.int 0 rfl
  exact SE.glob (v := .int 20160) hg (by rw [hm]; exact e) ⟨t, rfl⟩ fun _ _ _ => .int
theorem Fx.c_ANY_REST {K : PySem.W.Frag} {mg : Str → Option Value} (T : Fx K mg) {X : Cx} {pos : Pos} (hg : Gl X "ANY_REST") (hm : X.mg = mg := by rfl) (hK : X.K = K := by rfl) : SE X (.Name "ANY_REST" pos) (dC (.tup [.int 0, .int 1])) := by
  have h := T.ex
  unfold exB at h
  replace h := (Bool.and_eq_true _ _ ▸ h : _ ∧ _).2
  replace h := (Bool.and_eq_true _ _ ▸ h : _ ∧ _).2
  have h1 := (Bool.and_eq_true _ _ ▸ h : _ ∧ _).1
  exact SE.glob (v := .ref (He.ga K "ANY_REST")) hg (by rw [hm]; exact T.glo 1 rfl) rfl fun α μ H => by rw [hK]; exact tup_has h1 (by decide) α μ H
theorem Fx.c_MOST_WIDTH {K : PySem.W.Frag} {mg : Str → Option Value} (T : Fx K mg) {X : Cx} {pos : Pos} (hg : Gl X "MOST_WIDTH") (hm : X.mg = mg := by rfl) : SE X (.Name "MOST_WIDTH" pos) (dC (.int 16)) := by
  obtain ⟨t, e⟩ := T.int 2 rfl
  exact SE.glob (v := .int 16) hg (by rw [hm]; exact e) ⟨t, rfl⟩ fun _ _ _ => .int
theorem Fx.c_COMPARISONS {K : PySem.W.Frag} {mg : Str → Option Value} (T : Fx K mg) {X : Cx} {pos : Pos} (hg : Gl X "COMPARISONS") (hm : X.mg = mg := by rfl) (hK : X.K = K := by rfl) : SE X (.Name "COMPARISONS" pos) (dC (.tup [.str "<", .str "<=", .str "==", .str "!="])) := by
  have h := T.ex
  unfold exB at h
  replace h := (Bool.and_eq_true _ _ ▸ h : _ ∧ _).2
  replace h := (Bool.and_eq_true _ _ ▸ h : _ ∧ _).2
  replace h := (Bool.and_eq_true _ _ ▸ h : _ ∧ _).2
  have h1 := (Bool.and_eq_true _ _ ▸ h : _ ∧ _).1
  exact SE.glob (v := .ref (He.ga K "COMPARISONS")) hg (by rw [hm]; exact T.glo 3 rfl) rfl fun α μ H => by rw [hK]; exact tup_has h1 (by decide) α μ H
end
end Lw

namespace Lw
open PySem PySem.Spec L2 Eg
noncomputable def D_is_whole : DenS :=
  (sCons (sRet (dAnd (dIsi "int" (dVar 0)) (dNot (dIsi "bool" (dVar 0)))))
  sNil)
noncomputable def V_is_whole : FD := mkFn 1 ["value"] D_is_whole
noncomputable def D_is_end : DenS :=
  (sCons (sRet (dOr (dOp2 oIs (dVar 0) (dC .non)) (dCall V_is_whole (aCons (dVar 0) aNil))))
  sNil)
noncomputable def V_is_end : FD := mkFn 1 ["value"] D_is_end
noncomputable def D_is_span : DenS :=
  (sCons (sIf (dOr (dNot (dIsi "tuple" (dVar 0))) (dOp2 oNin (dBlt oLen (aCons (dVar 0) aNil)) (dTup (aCons (dC (.int 0)) (aCons (dC (.int 2)) aNil)))))
  (sCons (sRet (dC (.bl false)))
  sNil)
  sNil)
  (sCons (sIf (dNot (dBlt oAll (aCons (dLc (iSeq (dVar 0)) (bd1 1) dT (dCall V_is_end (aCons (dVar 1) aNil))) aNil)))
  (sCons (sRet (dC (.bl false)))
  sNil)
  sNil)
  (sCons (sRet (dOr (dOp2 oEq (dBlt oLen (aCons (dVar 0) aNil)) (dC (.int 0))) (dOr (dOp2 oIs (dOp2 oIx (dVar 0) (dC (.int 0))) (dC .non)) (dOr (dOp2 oIs (dOp2 oIx (dVar 0) (dC (.int 1))) (dC .non)) (dOp2 oLe (dOp2 oIx (dVar 0) (dC (.int 0))) (dOp2 oIx (dVar 0) (dC (.int 1))))))))
  sNil)))
noncomputable def V_is_span : FD := mkFn 1 ["value", "end"] D_is_span
noncomputable def D_span_holds : DenS :=
  (sCons (sIf (dOp2 oEq (dVar 0) (dTup aNil))
  (sCons (sRet (dC (.bl false)))
  sNil)
  sNil)
  (sCons (sAsg (gTu 2 (gAnd (gNm 2) (gAnd (gNm 3) gEnd))) (dVar 0))
  (sCons (sRet (dAnd (dOr (dOp2 oIs (dVar 2) (dC .non)) (dOp2 oLe (dVar 2) (dVar 1))) (dOr (dOp2 oIs (dVar 3) (dC .non)) (dOp2 oLe (dVar 1) (dVar 3)))))
  sNil)))
noncomputable def V_span_holds : FD := mkFn 2 ["span", "number", "low", "high"] D_span_holds
noncomputable def D_is_residue : DenS :=
  (sCons (sIf (dOr (dNot (dIsi "tuple" (dVar 0))) (dOp2 oNin (dBlt oLen (aCons (dVar 0) aNil)) (dTup (aCons (dC (.int 0)) (aCons (dC (.int 2)) aNil)))))
  (sCons (sRet (dC (.bl false)))
  sNil)
  sNil)
  (sCons (sIf (dNot (dBlt oAll (aCons (dLc (iSeq (dVar 0)) (bd1 1) dT (dCall V_is_whole (aCons (dVar 1) aNil))) aNil)))
  (sCons (sRet (dC (.bl false)))
  sNil)
  sNil)
  (sCons (sIf (dOr (dOp2 oEq (dBlt oLen (aCons (dVar 0) aNil)) (dC (.int 0))) (dOp2 oEq (dOp2 oIx (dVar 0) (dC (.int 1))) (dC (.int 0))))
  (sCons (sRet (dC (.bl true)))
  sNil)
  sNil)
  (sCons (sAsg (gTu 2 (gAnd (gNm 1) (gAnd (gNm 2) gEnd))) (dVar 0))
  (sCons (sRet (dAnd (dOp2 oGt (dVar 2) (dC (.int 0))) (dAnd (dOp2 oEq (dOp2 oMod (dC (.int 20160)) (dVar 2)) (dC (.int 0))) (dChain oLe oLt (dC (.int 0)) (dVar 1) (dVar 2)))))
  sNil)))))
noncomputable def V_is_residue : FD := mkFn 1 ["value", "number", "divisor"] D_is_residue
noncomputable def D_residue_of : DenS :=
  (sCons (sRet (dIf (dOp2 oEq (dVar 1) (dC (.int 0))) (dTup (aCons (dVar 0) (aCons (dC (.int 0)) aNil))) (dTup (aCons (dOp2 oMod (dVar 0) (dVar 1)) (aCons (dVar 1) aNil)))))
  sNil)
noncomputable def V_residue_of : FD := mkFn 2 ["number", "divisor"] D_residue_of
noncomputable def D_residue_holds : DenS :=
  (sCons (sIf (dOp2 oEq (dVar 0) (dTup aNil))
  (sCons (sRet (dC (.bl false)))
  sNil)
  sNil)
  (sCons (sRet (dOp2 oEq (dCall V_residue_of (aCons (dVar 1) (aCons (dOp2 oIx (dVar 0) (dC (.int 1))) aNil))) (dVar 0)))
  sNil))
noncomputable def V_residue_holds : FD := mkFn 2 ["residue", "number"] D_residue_holds
noncomputable def D_refuse_wrong_stretch : DenS :=
  (sCons (sIf (dNot (dCall V_is_span (aCons (dVar 0) aNil)))
  (sCons sNo
  sNil)
  sNil)
  sNil)
noncomputable def V_refuse_wrong_stretch : FD := mkFn 1 ["stretch"] D_refuse_wrong_stretch
noncomputable def D_refuse_wrong_rest : DenS :=
  (sCons (sIf (dNot (dCall V_is_residue (aCons (dVar 0) aNil)))
  (sCons sNo
  sNil)
  sNil)
  sNil)
noncomputable def V_refuse_wrong_rest : FD := mkFn 1 ["rest"] D_refuse_wrong_rest
noncomputable def D_refuse_wrong_number : DenS :=
  (sCons (sIf (dNot (dCall V_is_whole (aCons (dVar 0) aNil)))
  (sCons sNo
  sNil)
  sNil)
  sNil)
noncomputable def V_refuse_wrong_number : FD := mkFn 1 ["number"] D_refuse_wrong_number
noncomputable def D_stretch_holds : DenS :=
  (sCons (sExp (dCall V_refuse_wrong_stretch (aCons (dVar 0) aNil)))
  (sCons (sExp (dCall V_refuse_wrong_number (aCons (dVar 1) aNil)))
  (sCons (sRet (dCall V_span_holds (aCons (dVar 0) (aCons (dVar 1) aNil))))
  sNil)))
noncomputable def V_stretch_holds : FD := mkFn 2 ["stretch", "number"] D_stretch_holds
noncomputable def D_rest_holds : DenS :=
  (sCons (sExp (dCall V_refuse_wrong_rest (aCons (dVar 0) aNil)))
  (sCons (sExp (dCall V_refuse_wrong_number (aCons (dVar 1) aNil)))
  (sCons (sRet (dCall V_residue_holds (aCons (dVar 0) (aCons (dVar 1) aNil))))
  sNil)))
noncomputable def V_rest_holds : FD := mkFn 2 ["rest", "number"] D_rest_holds
noncomputable def D_l_take : DenS :=
  (sCons (sIf (dOp2 oGt (dOp2 oIx (dVar 0) (dC (.int 0))) (dC (.int 0)))
  (sCons (sAsg (gTu 2 (gAnd (gSb (dVar 0) (dC (.int 0))) (gAnd (gNm 2) gEnd))) (dBlt oDivmod (aCons (dOp2 oIx (dVar 0) (dC (.int 0))) (aCons (dVar 1) aNil))))
  (sCons (sRet (dVar 2))
  sNil))
  sNil)
  (sCons (sAsg (gSb (dVar 0) (dC (.int 2))) (dOp2 oAdd (dOp2 oIx (dVar 0) (dC (.int 2))) (dC (.int 1))))
  (sCons (sSet 3 (dOp2 oMod (dBlt oInt (aCons (dOp2 oAdd (dOp2 oIx (dVar 0) (dC (.int 1))) (dOp2 oMul (dC (.int 40093)) (dOp2 oIx (dVar 0) (dC (.int 2))))) aNil)) (dC (.int 2147483629))))
  (sCons (sAsg (gSb (dVar 0) (dC (.int 1))) (dOp2 oMod (dBlt oInt (aCons (dOp2 oAdd (dOp2 oMul (dVar 3) (dOp2 oAdd (dOp2 oMod (dBlt oInt (aCons (dVar 3) aNil)) (dC (.int 4001))) (dC (.int 30029)))) (dOp2 oMul (dC (.int 17)) (dOp2 oIx (dVar 0) (dC (.int 2))))) aNil)) (dC (.int 2147483629))))
  (sCons (sRet (dOp2 oMod (dBlt oInt (aCons (dOp2 oDiv (dOp2 oIx (dVar 0) (dC (.int 1))) (dC (.int 523))) aNil)) (dVar 1)))
  sNil)))))
noncomputable def V_l_take : FD := mkFn 2 ["_law_source_here", "_law_many", "_law_figure", "_law_mixed"] D_l_take
noncomputable def D_l_pick : DenS :=
  (sCons (sRet (dOp2 oIx (dVar 1) (dCall V_l_take (aCons (dVar 0) (aCons (dBlt oLen (aCons (dVar 1) aNil)) aNil)))))
  sNil)
noncomputable def V_l_pick : FD := mkFn 2 ["_law_source_here", "_law_some"] D_l_pick
noncomputable def D_l_great : DenS :=
  (sCons (sSet 1 (dC (.int 0)))
  (sCons (sFor (iRange1 (aCons (dC (.int 5)) aNil)) (gNm 2)
  (sCons (sSet 1 (dOp2 oAdd (dOp2 oMul (dVar 1) (dC (.int 1000003))) (dCall V_l_take (aCons (dVar 0) (aCons (dC (.int 1000003)) aNil)))))
  sNil))
  (sCons (sRet (dVar 1))
  sNil)))
noncomputable def V_l_great : FD := mkFn 1 ["_law_source_here", "_law_got", "_law_turn"] D_l_great
noncomputable def D_l_number : DenS :=
  (sCons (sSet 1 (dCall V_l_take (aCons (dVar 0) (aCons (dC (.int 16)) aNil))))
  (sCons (sIf (dOp2 oLt (dVar 1) (dC (.int 8)))
  (sCons (sRet (dOp2 oSub (dCall V_l_take (aCons (dVar 0) (aCons (dC (.int 13)) aNil))) (dC (.int 6))))
  sNil)
  sNil)
  (sCons (sIf (dOp2 oLt (dVar 1) (dC (.int 13)))
  (sCons (sRet (dOp2 oSub (dCall V_l_take (aCons (dVar 0) (aCons (dC (.int 121)) aNil))) (dC (.int 60))))
  sNil)
  sNil)
  (sCons (sIf (dOp2 oLt (dVar 1) (dC (.int 15)))
  (sCons (sRet (dOp2 oSub (dCall V_l_take (aCons (dVar 0) (aCons (dC (.int 200003)) aNil))) (dC (.int 100001))))
  sNil)
  sNil)
  (sCons (sSet 2 (dCall V_l_great (aCons (dVar 0) aNil)))
  (sCons (sRet (dIf (dOp2 oEq (dCall V_l_take (aCons (dVar 0) (aCons (dC (.int 2)) aNil))) (dC (.int 0))) (dVar 2) (dOp2 oSub (dC (.int 0)) (dVar 2))))
  sNil))))))
noncomputable def V_l_number : FD := mkFn 1 ["_law_source_here", "_law_branch", "_law_got"] D_l_number
noncomputable def D_l_stretch : DenS :=
  (sCons (sSet 1 (dCall V_l_take (aCons (dVar 0) (aCons (dC (.int 14)) aNil))))
  (sCons (sIf (dOp2 oLt (dVar 1) (dC (.int 2)))
  (sCons (sRet (dIf (dOp2 oEq (dVar 1) (dC (.int 0))) (dTup aNil) (dTup (aCons (dC .non) (aCons (dC .non) aNil)))))
  sNil)
  sNil)
  (sCons (sSet 2 (dCall V_l_number (aCons (dVar 0) aNil)))
  (sCons (sIf (dOp2 oLt (dVar 1) (dC (.int 6)))
  (sCons (sRet (dIf (dOp2 oLt (dVar 1) (dC (.int 4))) (dTup (aCons (dC .non) (aCons (dVar 2) aNil))) (dTup (aCons (dVar 2) (aCons (dC .non) aNil)))))
  sNil)
  sNil)
  (sCons (sIf (dOp2 oEq (dVar 1) (dC (.int 6)))
  (sCons (sRet (dTup (aCons (dVar 2) (aCons (dVar 2) aNil))))
  sNil)
  sNil)
  (sCons (sRet (dTup (aCons (dVar 2) (aCons (dOp2 oAdd (dVar 2) (dCall V_l_take (aCons (dVar 0) (aCons (dIf (dOp2 oLt (dVar 1) (dC (.int 12))) (dC (.int 12)) (dC (.int 100003))) aNil)))) aNil))))
  sNil))))))
noncomputable def V_l_stretch : FD := mkFn 1 ["_law_source_here", "_law_branch", "_law_low"] D_l_stretch
noncomputable def D_l_near : DenS :=
  (sCons (sSet 2 (dLc (iSeq (dVar 1)) (bd1 6) (dOp2 oIsnt (dVar 6) (dC .non)) (dVar 6)))
  (sCons (sIf (dOr (dOp2 oEq (dVar 2) (dLst aNil)) (dOp2 oEq (dCall V_l_take (aCons (dVar 0) (aCons (dC (.int 4)) aNil))) (dC (.int 0))))
  (sCons (sRet (dCall V_l_stretch (aCons (dVar 0) aNil)))
  sNil)
  sNil)
  (sCons (sSet 3 (dOp2 oSub (dOp2 oAdd (dCall V_l_pick (aCons (dVar 0) (aCons (dVar 2) aNil))) (dCall V_l_take (aCons (dVar 0) (aCons (dC (.int 5)) aNil)))) (dC (.int 2))))
  (sCons (sSet 4 (dCall V_l_take (aCons (dVar 0) (aCons (dC (.int 7)) aNil))))
  (sCons (sIf (dOp2 oLt (dVar 4) (dC (.int 2)))
  (sCons (sRet (dIf (dOp2 oEq (dVar 4) (dC (.int 0))) (dTup (aCons (dC .non) (aCons (dVar 3) aNil))) (dTup (aCons (dVar 3) (aCons (dC .non) aNil)))))
  sNil)
  sNil)
  (sCons (sSet 5 (dIf (dOp2 oLt (dVar 4) (dC (.int 6))) (dOp2 oSub (dOp2 oAdd (dCall V_l_pick (aCons (dVar 0) (aCons (dVar 2) aNil))) (dCall V_l_take (aCons (dVar 0) (aCons (dC (.int 5)) aNil)))) (dC (.int 2))) (dVar 3)))
  (sCons (sRet (dTup (aCons (dBlt oMin2 (aCons (dVar 3) (aCons (dVar 5) aNil))) (aCons (dBlt oMax2 (aCons (dVar 3) (aCons (dVar 5) aNil))) aNil))))
  sNil)))))))
noncomputable def V_l_near : FD := mkFn 2 ["_law_source_here", "_law_ends", "_law_lots", "_law_low", "_law_branch", "_law_high", "_law_end"] D_l_near
noncomputable def D_l_part : DenS :=
  (sCons (sSet 1 (dCall V_l_pick (aCons (dVar 0) (aCons (dTup (aCons (dC (.int 1)) (aCons (dC (.int 1)) (aCons (dC (.int 2)) (aCons (dC (.int 2)) (aCons (dC (.int 4)) (aCons (dC (.int 4)) (aCons (dC (.int 8)) (aCons (dC (.int 16)) (aCons (dC (.int 32)) (aCons (dC (.int 64)) aNil))))))))))) aNil))))
  (sCons (sSet 2 (dCall V_l_pick (aCons (dVar 0) (aCons (dTup (aCons (dC (.int 1)) (aCons (dC (.int 1)) (aCons (dC (.int 3)) (aCons (dC (.int 9)) aNil))))) aNil))))
  (sCons (sRet (dOp2 oMul (dOp2 oMul (dOp2 oMul (dVar 1) (dVar 2)) (dCall V_l_pick (aCons (dVar 0) (aCons (dTup (aCons (dC (.int 1)) (aCons (dC (.int 1)) (aCons (dC (.int 1)) (aCons (dC (.int 5)) aNil))))) aNil)))) (dCall V_l_pick (aCons (dVar 0) (aCons (dTup (aCons (dC (.int 1)) (aCons (dC (.int 1)) (aCons (dC (.int 1)) (aCons (dC (.int 7)) aNil))))) aNil)))))
  sNil)))
noncomputable def V_l_part : FD := mkFn 1 ["_law_source_here", "_law_twos", "_law_threes"] D_l_part
noncomputable def D_l_rest : DenS :=
  (sCons (sSet 1 (dCall V_l_take (aCons (dVar 0) (aCons (dC (.int 9)) aNil))))
  (sCons (sIf (dOp2 oLt (dVar 1) (dC (.int 3)))
  (sCons (sRet (dIf (dOp2 oEq (dVar 1) (dC (.int 0))) (dTup aNil) (dTup (aCons (dCall V_l_number (aCons (dVar 0) aNil)) (aCons (dC (.int 0)) aNil)))))
  sNil)
  sNil)
  (sCons (sSet 2 (dCall V_l_part (aCons (dVar 0) aNil)))
  (sCons (sRet (dTup (aCons (dCall V_l_take (aCons (dVar 0) (aCons (dVar 2) aNil))) (aCons (dVar 2) aNil))))
  sNil))))
noncomputable def V_l_rest : FD := mkFn 1 ["_law_source_here", "_law_branch", "_law_by"] D_l_rest
noncomputable def D_l_rest_near : DenS :=
  (sCons (sIf (dOr (dOp2 oEq (dVar 1) (dTup aNil)) (dOp2 oEq (dCall V_l_take (aCons (dVar 0) (aCons (dC (.int 4)) aNil))) (dC (.int 0))))
  (sCons (sRet (dCall V_l_rest (aCons (dVar 0) aNil)))
  sNil)
  sNil)
  (sCons (sSet 2 (dOp2 oAdd (dOp2 oAdd (dOp2 oIx (dVar 1) (dC (.int 0))) (dOp2 oMul (dOp2 oIx (dVar 1) (dC (.int 1))) (dOp2 oSub (dCall V_l_take (aCons (dVar 0) (aCons (dC (.int 7)) aNil))) (dC (.int 3))))) (dCall V_l_pick (aCons (dVar 0) (aCons (dTup (aCons (dC (.int 0)) (aCons (dC (.int 0)) (aCons (dC (.int 0)) (aCons (dC (.int 1)) (aCons (dOp2 oDiv (dOp2 oIx (dVar 1) (dC (.int 1))) (dC (.int 2))) aNil)))))) aNil)))))
  (sCons (sIf (dOp2 oEq (dCall V_l_take (aCons (dVar 0) (aCons (dC (.int 4)) aNil))) (dC (.int 0)))
  (sCons (sRet (dTup (aCons (dVar 2) (aCons (dC (.int 0)) aNil))))
  sNil)
  sNil)
  (sCons (sSet 3 (dCall V_l_part (aCons (dVar 0) aNil)))
  (sCons (sRet (dTup (aCons (dOp2 oMod (dBlt oInt (aCons (dVar 2) aNil)) (dVar 3)) (aCons (dVar 3) aNil))))
  sNil)))))
noncomputable def V_l_rest_near : FD := mkFn 2 ["_law_source_here", "_law_one", "_law_spot", "_law_by"] D_l_rest_near
noncomputable def D_l_is_whole : DenS :=
  (sCons (sRet (dAnd (dIsi "int" (dVar 0)) (dNot (dIsi "bool" (dVar 0)))))
  sNil)
noncomputable def V_l_is_whole : FD := mkFn 1 ["_law_thing"] D_l_is_whole
noncomputable def D_l_same (self : FD) : DenS :=
  (sCons (sIf (dIsi "tuple" (dVar 1))
  (sCons (sIf (dOr (dNot (dIsi "tuple" (dVar 0))) (dOp2 oNe (dBlt oLen (aCons (dVar 0) aNil)) (dBlt oLen (aCons (dVar 1) aNil))))
  (sCons (sRet (dC (.bl false)))
  sNil)
  sNil)
  (sCons (sRet (dBlt oAll (aCons (dLc (iZip (aCons (dVar 0) (aCons (dVar 1) aNil))) (bd2 2 3) dT (dCall (self) (aCons (dVar 2) (aCons (dVar 3) aNil)))) aNil)))
  sNil))
  sNil)
  (sCons (sIf (dOr (dOp2 oIs (dVar 1) (dC .non)) (dOp2 oIs (dVar 0) (dC .non)))
  (sCons (sRet (dAnd (dOp2 oIs (dVar 1) (dC .non)) (dOp2 oIs (dVar 0) (dC .non))))
  sNil)
  sNil)
  (sCons (sIf (dOr (dIsi "bool" (dVar 1)) (dIsi "bool" (dVar 0)))
  (sCons (sRet (dAnd (dIsi "bool" (dVar 1)) (dAnd (dIsi "bool" (dVar 0)) (dOp2 oEq (dVar 0) (dVar 1)))))
  sNil)
  sNil)
  (sCons (sRet (dAnd (dCall V_l_is_whole (aCons (dVar 0) aNil)) (dOp2 oEq (dVar 0) (dVar 1))))
  sNil))))
noncomputable def V_l_same : Nat → FD
  | 0 => mkFn 2 ["_law_told", "_law_due", "_law_this", "_law_that"] sNo
  | n + 1 => mkFn 2 ["_law_told", "_law_due", "_law_this", "_law_that"] (D_l_same (V_l_same n))
noncomputable def D_l_has : DenS :=
  (sCons (sRet (dAnd (dOp2 oNe (dVar 0) (dTup aNil)) (dAnd (dOr (dOp2 oIs (dOp2 oIx (dVar 0) (dC (.int 0))) (dC .non)) (dOp2 oLe (dOp2 oIx (dVar 0) (dC (.int 0))) (dVar 1))) (dOr (dOp2 oIs (dOp2 oIx (dVar 0) (dC (.int 1))) (dC .non)) (dOp2 oLe (dVar 1) (dOp2 oIx (dVar 0) (dC (.int 1))))))))
  sNil)
noncomputable def V_l_has : FD := mkFn 2 ["_law_one", "_law_count"] D_l_has
noncomputable def D_l_rest_has : DenS :=
  (sCons (sRet (dAnd (dOp2 oNe (dVar 0) (dTup aNil)) (dIf (dOp2 oEq (dOp2 oIx (dVar 0) (dC (.int 1))) (dC (.int 0))) (dOp2 oEq (dOp2 oIx (dVar 0) (dC (.int 0))) (dVar 1)) (dOp2 oEq (dOp2 oMod (dBlt oInt (aCons (dVar 1) aNil)) (dOp2 oIx (dVar 0) (dC (.int 1)))) (dOp2 oIx (dVar 0) (dC (.int 0)))))))
  sNil)
noncomputable def V_l_rest_has : FD := mkFn 2 ["_law_one", "_law_count"] D_l_rest_has
noncomputable def D_is_lesser_low : DenS :=
  (sCons (sRet (dAnd (dOp2 oIsnt (dVar 1) (dC .non)) (dOr (dOp2 oIs (dVar 0) (dC .non)) (dOp2 oLt (dVar 0) (dVar 1)))))
  sNil)
noncomputable def V_is_lesser_low : FD := mkFn 2 ["one", "other"] D_is_lesser_low
noncomputable def D_is_greater_high : DenS :=
  (sCons (sRet (dAnd (dOp2 oIsnt (dVar 1) (dC .non)) (dOr (dOp2 oIs (dVar 0) (dC .non)) (dOp2 oGt (dVar 0) (dVar 1)))))
  sNil)
noncomputable def V_is_greater_high : FD := mkFn 2 ["one", "other"] D_is_greater_high
noncomputable def D_span_within : DenS :=
  (sCons (sIf (dOr (dOp2 oEq (dVar 0) (dTup aNil)) (dOp2 oEq (dVar 1) (dTup aNil)))
  (sCons (sRet (dOp2 oEq (dVar 0) (dTup aNil)))
  sNil)
  sNil)
  (sCons (sRet (dAnd (dNot (dCall V_is_lesser_low (aCons (dOp2 oIx (dVar 0) (dC (.int 0))) (aCons (dOp2 oIx (dVar 1) (dC (.int 0))) aNil)))) (dNot (dCall V_is_greater_high (aCons (dOp2 oIx (dVar 0) (dC (.int 1))) (aCons (dOp2 oIx (dVar 1) (dC (.int 1))) aNil))))))
  sNil))
noncomputable def V_span_within : FD := mkFn 2 ["span", "other"] D_span_within
noncomputable def D_span_joined : DenS :=
  (sCons (sIf (dOp2 oEq (dVar 0) (dTup aNil))
  (sCons (sRet (dVar 1))
  sNil)
  sNil)
  (sCons (sIf (dOp2 oEq (dVar 1) (dTup aNil))
  (sCons (sRet (dVar 0))
  sNil)
  sNil)
  (sCons (sSet 2 (dIf (dCall V_is_lesser_low (aCons (dOp2 oIx (dVar 0) (dC (.int 0))) (aCons (dOp2 oIx (dVar 1) (dC (.int 0))) aNil))) (dOp2 oIx (dVar 0) (dC (.int 0))) (dOp2 oIx (dVar 1) (dC (.int 0)))))
  (sCons (sSet 3 (dIf (dCall V_is_greater_high (aCons (dOp2 oIx (dVar 0) (dC (.int 1))) (aCons (dOp2 oIx (dVar 1) (dC (.int 1))) aNil))) (dOp2 oIx (dVar 0) (dC (.int 1))) (dOp2 oIx (dVar 1) (dC (.int 1)))))
  (sCons (sRet (dTup (aCons (dVar 2) (aCons (dVar 3) aNil))))
  sNil)))))
noncomputable def V_span_joined : FD := mkFn 2 ["span", "other", "low", "high"] D_span_joined
noncomputable def D_span_from : DenS :=
  (sCons (sIf (dAnd (dOp2 oIsnt (dVar 0) (dC .non)) (dAnd (dOp2 oIsnt (dVar 1) (dC .non)) (dOp2 oGt (dVar 0) (dVar 1))))
  (sCons (sRet (dTup aNil))
  sNil)
  sNil)
  (sCons (sRet (dTup (aCons (dVar 0) (aCons (dVar 1) aNil))))
  sNil))
noncomputable def V_span_from : FD := mkFn 2 ["low", "high"] D_span_from
noncomputable def D_span_met : DenS :=
  (sCons (sIf (dOr (dOp2 oEq (dVar 0) (dTup aNil)) (dOp2 oEq (dVar 1) (dTup aNil)))
  (sCons (sRet (dTup aNil))
  sNil)
  sNil)
  (sCons (sSet 2 (dIf (dCall V_is_lesser_low (aCons (dOp2 oIx (dVar 0) (dC (.int 0))) (aCons (dOp2 oIx (dVar 1) (dC (.int 0))) aNil))) (dOp2 oIx (dVar 1) (dC (.int 0))) (dOp2 oIx (dVar 0) (dC (.int 0)))))
  (sCons (sSet 3 (dIf (dCall V_is_greater_high (aCons (dOp2 oIx (dVar 0) (dC (.int 1))) (aCons (dOp2 oIx (dVar 1) (dC (.int 1))) aNil))) (dOp2 oIx (dVar 1) (dC (.int 1))) (dOp2 oIx (dVar 0) (dC (.int 1)))))
  (sCons (sRet (dCall V_span_from (aCons (dVar 2) (aCons (dVar 3) aNil))))
  sNil))))
noncomputable def V_span_met : FD := mkFn 2 ["span", "other", "low", "high"] D_span_met
noncomputable def D_refuse_wrong_stretches : DenS :=
  (sCons (sExp (dCall V_refuse_wrong_stretch (aCons (dVar 0) aNil)))
  (sCons (sExp (dCall V_refuse_wrong_stretch (aCons (dVar 1) aNil)))
  sNil))
noncomputable def V_refuse_wrong_stretches : FD := mkFn 2 ["stretch", "other"] D_refuse_wrong_stretches
noncomputable def D_stretch_within : DenS :=
  (sCons (sExp (dCall V_refuse_wrong_stretches (aCons (dVar 0) (aCons (dVar 1) aNil))))
  (sCons (sRet (dCall V_span_within (aCons (dVar 0) (aCons (dVar 1) aNil))))
  sNil))
noncomputable def V_stretch_within : FD := mkFn 2 ["stretch", "other"] D_stretch_within
noncomputable def D_stretch_met : DenS :=
  (sCons (sExp (dCall V_refuse_wrong_stretches (aCons (dVar 0) (aCons (dVar 1) aNil))))
  (sCons (sRet (dCall V_span_met (aCons (dVar 0) (aCons (dVar 1) aNil))))
  sNil))
noncomputable def V_stretch_met : FD := mkFn 2 ["stretch", "other"] D_stretch_met
noncomputable def D_l_inside : DenS :=
  (sCons (sIf (dOr (dOp2 oEq (dVar 0) (dTup aNil)) (dOp2 oEq (dVar 1) (dTup aNil)))
  (sCons (sRet (dOp2 oEq (dVar 0) (dTup aNil)))
  sNil)
  sNil)
  (sCons (sSet 2 (dOr (dOp2 oIs (dOp2 oIx (dVar 1) (dC (.int 0))) (dC .non)) (dAnd (dOp2 oIsnt (dOp2 oIx (dVar 0) (dC (.int 0))) (dC .non)) (dOp2 oLe (dOp2 oIx (dVar 1) (dC (.int 0))) (dOp2 oIx (dVar 0) (dC (.int 0)))))))
  (sCons (sRet (dAnd (dVar 2) (dOr (dOp2 oIs (dOp2 oIx (dVar 1) (dC (.int 1))) (dC .non)) (dAnd (dOp2 oIsnt (dOp2 oIx (dVar 0) (dC (.int 1))) (dC .non)) (dOp2 oLe (dOp2 oIx (dVar 0) (dC (.int 1))) (dOp2 oIx (dVar 1) (dC (.int 1))))))))
  sNil)))
noncomputable def V_l_inside : FD := mkFn 2 ["_law_one", "_law_two", "_law_is_low"] D_l_inside
noncomputable def D_l_join : DenS :=
  (sCons (sIf (dOr (dOp2 oEq (dVar 0) (dTup aNil)) (dOp2 oEq (dVar 1) (dTup aNil)))
  (sCons (sRet (dIf (dOp2 oEq (dVar 0) (dTup aNil)) (dVar 1) (dVar 0)))
  sNil)
  sNil)
  (sCons (sSet 2 (dIf (dOr (dOp2 oIs (dOp2 oIx (dVar 0) (dC (.int 0))) (dC .non)) (dOp2 oIs (dOp2 oIx (dVar 1) (dC (.int 0))) (dC .non))) (dC .non) (dBlt oMin2 (aCons (dOp2 oIx (dVar 0) (dC (.int 0))) (aCons (dOp2 oIx (dVar 1) (dC (.int 0))) aNil)))))
  (sCons (sRet (dTup (aCons (dVar 2) (aCons (dIf (dOr (dOp2 oIs (dOp2 oIx (dVar 0) (dC (.int 1))) (dC .non)) (dOp2 oIs (dOp2 oIx (dVar 1) (dC (.int 1))) (dC .non))) (dC .non) (dBlt oMax2 (aCons (dOp2 oIx (dVar 0) (dC (.int 1))) (aCons (dOp2 oIx (dVar 1) (dC (.int 1))) aNil)))) aNil))))
  sNil)))
noncomputable def V_l_join : FD := mkFn 2 ["_law_one", "_law_two", "_law_low"] D_l_join
noncomputable def D_l_meet : DenS :=
  (sCons (sIf (dOr (dOp2 oEq (dVar 0) (dTup aNil)) (dOp2 oEq (dVar 1) (dTup aNil)))
  (sCons (sRet (dTup aNil))
  sNil)
  sNil)
  (sCons (sSet 2 (dLc (iSeq (dTup (aCons (dOp2 oIx (dVar 0) (dC (.int 0))) (aCons (dOp2 oIx (dVar 1) (dC (.int 0))) aNil)))) (bd1 4) (dOp2 oIsnt (dVar 4) (dC .non)) (dVar 4)))
  (sCons (sSet 3 (dLc (iSeq (dTup (aCons (dOp2 oIx (dVar 0) (dC (.int 1))) (aCons (dOp2 oIx (dVar 1) (dC (.int 1))) aNil)))) (bd1 4) (dOp2 oIsnt (dVar 4) (dC .non)) (dVar 4)))
  (sCons (sIf (dAnd (dOp2 oNe (dVar 2) (dLst aNil)) (dAnd (dOp2 oNe (dVar 3) (dLst aNil)) (dOp2 oGt (dBlt oMax1 (aCons (dVar 2) aNil)) (dBlt oMin1 (aCons (dVar 3) aNil)))))
  (sCons (sRet (dTup aNil))
  sNil)
  sNil)
  (sCons (sRet (dTup (aCons (dIf (dOp2 oNe (dVar 2) (dLst aNil)) (dBlt oMax1 (aCons (dVar 2) aNil)) (dC .non)) (aCons (dIf (dOp2 oNe (dVar 3) (dLst aNil)) (dBlt oMin1 (aCons (dVar 3) aNil)) (dC .non)) aNil))))
  sNil)))))
noncomputable def V_l_meet : FD := mkFn 2 ["_law_one", "_law_two", "_law_lows", "_law_highs", "_law_end"] D_l_meet
noncomputable def D_opposite : DenS :=
  (sCons (sRet (dIf (dOp2 oIs (dVar 0) (dC .non)) (dC .non) (dNeg (dVar 0))))
  sNil)
noncomputable def V_opposite : FD := mkFn 1 ["end"] D_opposite
noncomputable def D_span_back : DenS :=
  (sCons (sRet (dIf (dOp2 oEq (dVar 0) (dTup aNil)) (dTup aNil) (dTup (aCons (dCall V_opposite (aCons (dOp2 oIx (dVar 0) (dC (.int 1))) aNil)) (aCons (dCall V_opposite (aCons (dOp2 oIx (dVar 0) (dC (.int 0))) aNil)) aNil)))))
  sNil)
noncomputable def V_span_back : FD := mkFn 1 ["span"] D_span_back
noncomputable def D_end_sum : DenS :=
  (sCons (sRet (dIf (dOr (dOp2 oIs (dVar 0) (dC .non)) (dOp2 oIs (dVar 1) (dC .non))) (dC .non) (dOp2 oAdd (dVar 0) (dVar 1))))
  sNil)
noncomputable def V_end_sum : FD := mkFn 2 ["end", "by"] D_end_sum
noncomputable def D_ends_of : DenS :=
  (sCons (sAsg (gTu 2 (gAnd (gNm 1) (gAnd (gNm 2) gEnd))) (dVar 0))
  (sCons (sRet (dLst (aCons (dIf (dOp2 oIs (dVar 1) (dC .non)) (dTup (aCons (dNeg (dC (.int 1))) (aCons (dC (.int 0)) aNil))) (dTup (aCons (dC (.int 0)) (aCons (dVar 1) aNil)))) (aCons (dIf (dOp2 oIs (dVar 2) (dC .non)) (dTup (aCons (dC (.int 1)) (aCons (dC (.int 0)) aNil))) (dTup (aCons (dC (.int 0)) (aCons (dVar 2) aNil)))) aNil))))
  sNil))
noncomputable def V_ends_of : FD := mkFn 1 ["span", "low", "high"] D_ends_of
noncomputable def D_sign_of : DenS :=
  (sCons (sIf (dOp2 oEq (dVar 0) (dTup (aCons (dC (.int 0)) (aCons (dC (.int 0)) aNil))))
  (sCons (sRet (dC (.int 0)))
  sNil)
  sNil)
  (sCons (sRet (dIf (dOp2 oGt (dVar 0) (dTup (aCons (dC (.int 0)) (aCons (dC (.int 0)) aNil)))) (dC (.int 1)) (dNeg (dC (.int 1)))))
  sNil))
noncomputable def V_sign_of : FD := mkFn 1 ["end"] D_sign_of
noncomputable def D_end_product : DenS :=
  (sCons (sSet 2 (dOp2 oMul (dCall V_sign_of (aCons (dVar 0) aNil)) (dCall V_sign_of (aCons (dVar 1) aNil))))
  (sCons (sIf (dOr (dOp2 oEq (dVar 2) (dC (.int 0))) (dAnd (dOp2 oEq (dOp2 oIx (dVar 0) (dC (.int 0))) (dC (.int 0))) (dOp2 oEq (dOp2 oIx (dVar 1) (dC (.int 0))) (dC (.int 0)))))
  (sCons (sRet (dTup (aCons (dC (.int 0)) (aCons (dOp2 oMul (dOp2 oIx (dVar 0) (dC (.int 1))) (dOp2 oIx (dVar 1) (dC (.int 1)))) aNil))))
  sNil)
  sNil)
  (sCons (sRet (dTup (aCons (dVar 2) (aCons (dC (.int 0)) aNil))))
  sNil)))
noncomputable def V_end_product : FD := mkFn 2 ["end", "other", "sign"] D_end_product
noncomputable def D_l_turn : DenS :=
  (sCons (sIf (dOp2 oEq (dVar 0) (dTup aNil))
  (sCons (sRet (dTup aNil))
  sNil)
  sNil)
  (sCons (sRet (dTup (aCons (dIf (dOp2 oIs (dOp2 oIx (dVar 0) (dC (.int 1))) (dC .non)) (dC .non) (dOp2 oSub (dC (.int 0)) (dOp2 oIx (dVar 0) (dC (.int 1))))) (aCons (dIf (dOp2 oIs (dOp2 oIx (dVar 0) (dC (.int 0))) (dC .non)) (dC .non) (dOp2 oSub (dC (.int 0)) (dOp2 oIx (dVar 0) (dC (.int 0))))) aNil))))
  sNil))
noncomputable def V_l_turn : FD := mkFn 1 ["_law_one"] D_l_turn
noncomputable def D_l_all : DenS :=
  (sCons (sIf (dOr (dOp2 oEq (dVar 0) (dTup aNil)) (dOr (dOp2 oIs (dOp2 oIx (dVar 0) (dC (.int 0))) (dC .non)) (dOr (dOp2 oIs (dOp2 oIx (dVar 0) (dC (.int 1))) (dC .non)) (dOp2 oGt (dOp2 oSub (dOp2 oIx (dVar 0) (dC (.int 1))) (dOp2 oIx (dVar 0) (dC (.int 0)))) (dC (.int 11))))))
  (sCons (sRet (dLst aNil))
  sNil)
  sNil)
  (sCons (sRet (dRgA (dOp2 oIx (dVar 0) (dC (.int 0))) (dOp2 oAdd (dOp2 oIx (dVar 0) (dC (.int 1))) (dC (.int 1)))))
  sNil))
noncomputable def V_l_all : FD := mkFn 1 ["_law_one"] D_l_all
noncomputable def D_l_hull : DenS :=
  (sCons (sRet (dIf (dOp2 oNe (dVar 0) (dLst aNil)) (dTup (aCons (dBlt oMin1 (aCons (dVar 0) aNil)) (aCons (dBlt oMax1 (aCons (dVar 0) aNil)) aNil))) (dTup aNil)))
  sNil)
noncomputable def V_l_hull : FD := mkFn 1 ["_law_lots"] D_l_hull
noncomputable def D_refuse_wrong_width : DenS :=
  (sCons (sIf (dOr (dNot (dCall V_is_whole (aCons (dVar 0) aNil))) (dNot (dChain oLe oLe (dC (.int 1)) (dVar 0) (dC (.int 16)))))
  (sCons sNo
  sNil)
  sNil)
  sNil)
noncomputable def V_refuse_wrong_width : FD := mkFn 1 ["width"] D_refuse_wrong_width
noncomputable def D_refuse_wrong_guard : DenS :=
  (sCons (sIf (dOr (dNot (dIsi "str" (dVar 0))) (dOp2 oNin (dVar 0) (dC (.tup [.str "<", .str "<=", .str "==", .str "!="]))))
  (sCons sNo
  sNil)
  sNil)
  sNil)
noncomputable def V_refuse_wrong_guard : FD := mkFn 1 ["guard"] D_refuse_wrong_guard
noncomputable def D_residue_within : DenS :=
  (sCons (sIf (dOr (dOp2 oEq (dVar 0) (dTup aNil)) (dOp2 oEq (dVar 1) (dTup aNil)))
  (sCons (sRet (dOp2 oEq (dVar 0) (dTup aNil)))
  sNil)
  sNil)
  (sCons (sIf (dOp2 oEq (dOp2 oIx (dVar 1) (dC (.int 1))) (dC (.int 0)))
  (sCons (sRet (dOp2 oEq (dVar 0) (dVar 1)))
  sNil)
  sNil)
  (sCons (sRet (dAnd (dOp2 oEq (dOp2 oMod (dOp2 oIx (dVar 0) (dC (.int 1))) (dOp2 oIx (dVar 1) (dC (.int 1)))) (dC (.int 0))) (dCall V_residue_holds (aCons (dVar 1) (aCons (dOp2 oIx (dVar 0) (dC (.int 0))) aNil)))))
  sNil)))
noncomputable def V_residue_within : FD := mkFn 2 ["residue", "other"] D_residue_within
noncomputable def D_residue_joined : DenS :=
  (sCons (sIf (dOp2 oEq (dVar 0) (dTup aNil))
  (sCons (sRet (dVar 1))
  sNil)
  sNil)
  (sCons (sIf (dOr (dOp2 oEq (dVar 1) (dTup aNil)) (dOp2 oEq (dVar 0) (dVar 1)))
  (sCons (sRet (dVar 0))
  sNil)
  sNil)
  (sCons (sRet (dCall V_residue_of (aCons (dOp2 oIx (dVar 0) (dC (.int 0))) (aCons (dBlt oGcd (aCons (dOp2 oIx (dVar 0) (dC (.int 1))) (aCons (dOp2 oIx (dVar 1) (dC (.int 1))) (aCons (dOp2 oSub (dOp2 oIx (dVar 0) (dC (.int 0))) (dOp2 oIx (dVar 1) (dC (.int 0)))) (aCons (dC (.int 20160)) aNil))))) aNil))))
  sNil)))
noncomputable def V_residue_joined : FD := mkFn 2 ["residue", "other"] D_residue_joined
noncomputable def D_inverse : DenS :=
  (sCons (sPar2 2 3 (aCons (dVar 0) (aCons (dC (.int 1)) aNil)))
  (sCons (sPar2 4 5 (aCons (dVar 1) (aCons (dC (.int 0)) aNil)))
  (sCons (whL (dOp2 oNe (dVar 4) (dC (.int 0)))
  (sCons (sSet 6 (dOp2 oDiv (dVar 2) (dVar 4)))
  (sCons (sPar2 2 4 (aCons (dVar 4) (aCons (dOp2 oSub (dVar 2) (dOp2 oMul (dVar 6) (dVar 4))) aNil)))
  (sCons (sPar2 3 5 (aCons (dVar 5) (aCons (dOp2 oSub (dVar 3) (dOp2 oMul (dVar 6) (dVar 5))) aNil)))
  sNil))) Wn)
  (sCons (sRet (dVar 3))
  sNil))))
noncomputable def V_inverse : FD := mkFn 2 ["number", "divisor", "begun", "factor", "left", "factor_left", "times"] D_inverse
noncomputable def D_residue_met : DenS :=
  (sCons (sIf (dOr (dOp2 oEq (dVar 0) (dTup aNil)) (dOp2 oEq (dVar 1) (dTup aNil)))
  (sCons (sRet (dTup aNil))
  sNil)
  sNil)
  (sCons (sIf (dOr (dOp2 oEq (dOp2 oIx (dVar 0) (dC (.int 1))) (dC (.int 0))) (dOp2 oEq (dOp2 oIx (dVar 1) (dC (.int 1))) (dC (.int 0))))
  (sCons (sAsg (gTu 2 (gAnd (gNm 2) (gAnd (gNm 3) gEnd))) (dIf (dOp2 oEq (dOp2 oIx (dVar 0) (dC (.int 1))) (dC (.int 0))) (dTup (aCons (dVar 0) (aCons (dVar 1) aNil))) (dTup (aCons (dVar 1) (aCons (dVar 0) aNil)))))
  (sCons (sRet (dIf (dCall V_residue_holds (aCons (dVar 3) (aCons (dOp2 oIx (dVar 2) (dC (.int 0))) aNil))) (dVar 2) (dTup aNil)))
  sNil))
  sNil)
  (sCons (sSet 4 (dBlt oGcd (aCons (dOp2 oIx (dVar 0) (dC (.int 1))) (aCons (dOp2 oIx (dVar 1) (dC (.int 1))) aNil))))
  (sCons (sSet 5 (dOp2 oSub (dOp2 oIx (dVar 1) (dC (.int 0))) (dOp2 oIx (dVar 0) (dC (.int 0)))))
  (sCons (sIf (dOp2 oNe (dOp2 oMod (dVar 5) (dVar 4)) (dC (.int 0)))
  (sCons (sRet (dTup aNil))
  sNil)
  sNil)
  (sCons (sSet 6 (dOp2 oMul (dOp2 oDiv (dVar 5) (dVar 4)) (dCall V_inverse (aCons (dOp2 oDiv (dOp2 oIx (dVar 0) (dC (.int 1))) (dVar 4)) (aCons (dOp2 oDiv (dOp2 oIx (dVar 1) (dC (.int 1))) (dVar 4)) aNil)))))
  (sCons (sRet (dCall V_residue_of (aCons (dOp2 oAdd (dOp2 oIx (dVar 0) (dC (.int 0))) (dOp2 oMul (dOp2 oIx (dVar 0) (dC (.int 1))) (dVar 6))) (aCons (dBlt oLcm (aCons (dOp2 oIx (dVar 0) (dC (.int 1))) (aCons (dOp2 oIx (dVar 1) (dC (.int 1))) aNil))) aNil))))
  sNil)))))))
noncomputable def V_residue_met : FD := mkFn 2 ["residue", "other", "alone", "beside", "common", "apart", "times"] D_residue_met
noncomputable def D_refuse_wrong_rests : DenS :=
  (sCons (sExp (dCall V_refuse_wrong_rest (aCons (dVar 0) aNil)))
  (sCons (sExp (dCall V_refuse_wrong_rest (aCons (dVar 1) aNil)))
  sNil))
noncomputable def V_refuse_wrong_rests : FD := mkFn 2 ["rest", "other"] D_refuse_wrong_rests
noncomputable def D_rest_within : DenS :=
  (sCons (sExp (dCall V_refuse_wrong_rests (aCons (dVar 0) (aCons (dVar 1) aNil))))
  (sCons (sRet (dCall V_residue_within (aCons (dVar 0) (aCons (dVar 1) aNil))))
  sNil))
noncomputable def V_rest_within : FD := mkFn 2 ["rest", "other"] D_rest_within
noncomputable def D_rest_joined : DenS :=
  (sCons (sExp (dCall V_refuse_wrong_rests (aCons (dVar 0) (aCons (dVar 1) aNil))))
  (sCons (sRet (dCall V_residue_joined (aCons (dVar 0) (aCons (dVar 1) aNil))))
  sNil))
noncomputable def V_rest_joined : FD := mkFn 2 ["rest", "other"] D_rest_joined
noncomputable def D_rest_met : DenS :=
  (sCons (sExp (dCall V_refuse_wrong_rests (aCons (dVar 0) (aCons (dVar 1) aNil))))
  (sCons (sRet (dCall V_residue_met (aCons (dVar 0) (aCons (dVar 1) aNil))))
  sNil))
noncomputable def V_rest_met : FD := mkFn 2 ["rest", "other"] D_rest_met
noncomputable def D_l_common : DenS :=
  (sCons (sPar2 0 1 (aCons (dBlt oAbs (aCons (dVar 0) aNil)) (aCons (dBlt oAbs (aCons (dVar 1) aNil)) aNil)))
  (sCons (whL (dOp2 oNe (dVar 1) (dC (.int 0)))
  (sCons (sPar2 0 1 (aCons (dVar 1) (aCons (dOp2 oMod (dBlt oInt (aCons (dVar 0) aNil)) (dVar 1)) aNil)))
  sNil) Wn)
  (sCons (sRet (dVar 0))
  sNil)))
noncomputable def V_l_common : FD := mkFn 2 ["_law_far", "_law_near"] D_l_common
noncomputable def D_l_least : DenS :=
  (sCons (sIf (dOp2 oEq (dVar 0) (dLst aNil))
  (sCons (sRet (dTup aNil))
  sNil)
  sNil)
  (sCons (sSet 1 (dC (.int 0)))
  (sCons (sFor (iSeq (dVar 0)) (gNm 2)
  (sCons (sSet 1 (dCall V_l_common (aCons (dVar 1) (aCons (dOp2 oSub (dVar 2) (dOp2 oIx (dVar 0) (dC (.int 0)))) aNil))))
  sNil))
  (sCons (sIf (dOp2 oEq (dVar 1) (dC (.int 0)))
  (sCons (sRet (dTup (aCons (dOp2 oIx (dVar 0) (dC (.int 0))) (aCons (dC (.int 0)) aNil))))
  sNil)
  sNil)
  (sCons (sSet 1 (dCall V_l_common (aCons (dVar 1) (aCons (dC (.int 20160)) aNil))))
  (sCons (sRet (dTup (aCons (dOp2 oMod (dBlt oInt (aCons (dOp2 oIx (dVar 0) (dC (.int 0))) aNil)) (dVar 1)) (aCons (dVar 1) aNil))))
  sNil))))))
noncomputable def V_l_least : FD := mkFn 1 ["_law_lots", "_law_by", "_law_count"] D_l_least
noncomputable def D_l_two_of : DenS :=
  (sCons (sRet (dIf (dOp2 oEq (dVar 0) (dTup aNil)) (dLst aNil) (dLst (aCons (dOp2 oIx (dVar 0) (dC (.int 0))) (aCons (dOp2 oAdd (dOp2 oIx (dVar 0) (dC (.int 0))) (dOp2 oIx (dVar 0) (dC (.int 1)))) aNil)))))
  sNil)
noncomputable def V_l_two_of : FD := mkFn 1 ["_law_one"] D_l_two_of
noncomputable def D_l_rest_inside : DenS :=
  (sCons (sRet (dBlt oAll (aCons (dLc (iSeq (dCall V_l_two_of (aCons (dVar 0) aNil))) (bd1 2) dT (dCall V_l_rest_has (aCons (dVar 1) (aCons (dVar 2) aNil)))) aNil)))
  sNil)
noncomputable def V_l_rest_inside : FD := mkFn 2 ["_law_one", "_law_two", "_law_count"] D_l_rest_inside
noncomputable def D_l_rest_meet : DenS :=
  (sCons (sIf (dOr (dOp2 oEq (dVar 0) (dTup aNil)) (dOp2 oEq (dVar 1) (dTup aNil)))
  (sCons (sRet (dTup aNil))
  sNil)
  sNil)
  (sCons (sAsg (gTu 2 (gAnd (gNm 2) (gAnd (gNm 3) gEnd))) (dIf (dOp2 oLe (dOp2 oIx (dVar 0) (dC (.int 1))) (dOp2 oIx (dVar 1) (dC (.int 1)))) (dTup (aCons (dVar 0) (aCons (dVar 1) aNil))) (dTup (aCons (dVar 1) (aCons (dVar 0) aNil)))))
  (sCons (sIf (dOp2 oEq (dOp2 oIx (dVar 2) (dC (.int 1))) (dC (.int 0)))
  (sCons (sRet (dIf (dCall V_l_rest_has (aCons (dVar 3) (aCons (dOp2 oIx (dVar 2) (dC (.int 0))) aNil))) (dVar 2) (dTup aNil)))
  sNil)
  sNil)
  (sCons (sSet 4 (dOp2 oDiv (dOp2 oIx (dVar 2) (dC (.int 1))) (dCall V_l_common (aCons (dOp2 oIx (dVar 2) (dC (.int 1))) (aCons (dOp2 oIx (dVar 3) (dC (.int 1))) aNil)))))
  (sCons (sSet 5 (dLc (iRange3 (aCons (dOp2 oIx (dVar 3) (dC (.int 0))) (aCons (dOp2 oAdd (dOp2 oIx (dVar 3) (dC (.int 0))) (dOp2 oMul (dOp2 oIx (dVar 3) (dC (.int 1))) (dVar 4))) (aCons (dOp2 oIx (dVar 3) (dC (.int 1))) aNil)))) (bd1 6) (dCall V_l_rest_has (aCons (dVar 2) (aCons (dVar 6) aNil))) (dVar 6)))
  (sCons (sRet (dIf (dOp2 oNe (dVar 5) (dLst aNil)) (dTup (aCons (dOp2 oIx (dVar 5) (dC (.int 0))) (aCons (dOp2 oMul (dOp2 oIx (dVar 3) (dC (.int 1))) (dVar 4)) aNil))) (dTup aNil)))
  sNil))))))
noncomputable def V_l_rest_meet : FD := mkFn 2 ["_law_one", "_law_two", "_law_few", "_law_many", "_law_turns", "_law_lots", "_law_count"] D_l_rest_meet
noncomputable def D_l_rest_some : DenS :=
  (sCons (sRet (dOp2 oAdd (dOp2 oIx (dVar 1) (dC (.int 0))) (dOp2 oMul (dOp2 oIx (dVar 1) (dC (.int 1))) (dCall V_l_number (aCons (dVar 0) aNil)))))
  sNil)
noncomputable def V_l_rest_some : FD := mkFn 2 ["_law_source_here", "_law_one"] D_l_rest_some
end Lw

namespace Lw
open PySem PySem.Spec L2 Eg
noncomputable def D_residue_quotient : DenS :=
  (sCons (sIf (dOr (dOp2 oEq (dVar 0) (dTup aNil)) (dOr (dOp2 oEq (dVar 1) (dTup aNil)) (dOp2 oEq (dVar 1) (dTup (aCons (dC (.int 0)) (aCons (dC (.int 0)) aNil))))))
  (sCons (sRet (dTup aNil))
  sNil)
  sNil)
  (sCons (sIf (dAnd (dOp2 oEq (dOp2 oIx (dVar 1) (dC (.int 1))) (dC (.int 0))) (dOp2 oEq (dOp2 oMod (dOp2 oIx (dVar 0) (dC (.int 1))) (dOp2 oIx (dVar 1) (dC (.int 0)))) (dC (.int 0))))
  (sCons (sRet (dCall V_residue_of (aCons (dOp2 oDiv (dOp2 oIx (dVar 0) (dC (.int 0))) (dOp2 oIx (dVar 1) (dC (.int 0)))) (aCons (dBlt oAbs (aCons (dOp2 oDiv (dOp2 oIx (dVar 0) (dC (.int 1))) (dOp2 oIx (dVar 1) (dC (.int 0)))) aNil)) aNil))))
  sNil)
  sNil)
  (sCons (sRet (dIf (dOp2 oEq (dVar 0) (dTup (aCons (dC (.int 0)) (aCons (dC (.int 0)) aNil)))) (dVar 0) (dC (.tup [.int 0, .int 1]))))
  sNil)))
noncomputable def V_residue_quotient : FD := mkFn 2 ["residue", "other"] D_residue_quotient
noncomputable def D_residue_modulo : DenS :=
  (sCons (sIf (dOr (dOp2 oEq (dVar 0) (dTup aNil)) (dOr (dOp2 oEq (dVar 1) (dTup aNil)) (dOp2 oEq (dVar 1) (dTup (aCons (dC (.int 0)) (aCons (dC (.int 0)) aNil))))))
  (sCons (sRet (dTup aNil))
  sNil)
  sNil)
  (sCons (sIf (dAnd (dOp2 oEq (dOp2 oIx (dVar 1) (dC (.int 1))) (dC (.int 0))) (dOp2 oEq (dOp2 oMod (dOp2 oIx (dVar 0) (dC (.int 1))) (dOp2 oIx (dVar 1) (dC (.int 0)))) (dC (.int 0))))
  (sCons (sRet (dCall V_residue_of (aCons (dOp2 oMod (dOp2 oIx (dVar 0) (dC (.int 0))) (dOp2 oIx (dVar 1) (dC (.int 0)))) (aCons (dC (.int 0)) aNil))))
  sNil)
  sNil)
  (sCons (sRet (dCall V_residue_of (aCons (dOp2 oIx (dVar 0) (dC (.int 0))) (aCons (dBlt oGcd (aCons (dOp2 oIx (dVar 0) (dC (.int 1))) (aCons (dOp2 oIx (dVar 1) (dC (.int 0))) (aCons (dOp2 oIx (dVar 1) (dC (.int 1))) aNil)))) aNil))))
  sNil)))
noncomputable def V_residue_modulo : FD := mkFn 2 ["residue", "other"] D_residue_modulo
noncomputable def D_residue_wrapped : DenS :=
  (sCons (sRet (dCall V_residue_modulo (aCons (dVar 0) (aCons (dTup (aCons (dOp2 oShl (dC (.int 1)) (dVar 1)) (aCons (dC (.int 0)) aNil))) aNil))))
  sNil)
noncomputable def V_residue_wrapped : FD := mkFn 2 ["residue", "width"] D_residue_wrapped
noncomputable def D_residue_guarded : DenS :=
  (sCons (sIf (dOr (dOp2 oEq (dVar 1) (dTup aNil)) (dOp2 oEq (dVar 2) (dTup aNil)))
  (sCons (sRet (dTup (aCons (dTup aNil) (aCons (dTup aNil) aNil))))
  sNil)
  sNil)
  (sCons (sIf (dOp2 oEq (dVar 0) (dC (.str "==")))
  (sCons (sSet 3 (dCall V_residue_met (aCons (dVar 1) (aCons (dVar 2) aNil))))
  (sCons (sRet (dTup (aCons (dVar 3) (aCons (dVar 3) aNil))))
  sNil))
  sNil)
  (sCons (sIf (dAnd (dOp2 oEq (dVar 0) (dC (.str "!="))) (dAnd (dOp2 oEq (dOp2 oIx (dVar 1) (dC (.int 1))) (dC (.int 0))) (dOp2 oEq (dVar 1) (dVar 2))))
  (sCons (sRet (dTup (aCons (dTup aNil) (aCons (dTup aNil) aNil))))
  sNil)
  sNil)
  (sCons (sRet (dTup (aCons (dVar 1) (aCons (dVar 2) aNil))))
  sNil))))
noncomputable def V_residue_guarded : FD := mkFn 3 ["guard", "residue", "other", "met"] D_residue_guarded
noncomputable def D_rest_quotient : DenS :=
  (sCons (sExp (dCall V_refuse_wrong_rests (aCons (dVar 0) (aCons (dVar 1) aNil))))
  (sCons (sRet (dCall V_residue_quotient (aCons (dVar 0) (aCons (dVar 1) aNil))))
  sNil))
noncomputable def V_rest_quotient : FD := mkFn 2 ["rest", "other"] D_rest_quotient
noncomputable def D_rest_modulo : DenS :=
  (sCons (sExp (dCall V_refuse_wrong_rests (aCons (dVar 0) (aCons (dVar 1) aNil))))
  (sCons (sRet (dCall V_residue_modulo (aCons (dVar 0) (aCons (dVar 1) aNil))))
  sNil))
noncomputable def V_rest_modulo : FD := mkFn 2 ["rest", "other"] D_rest_modulo
noncomputable def D_rest_wrapped : DenS :=
  (sCons (sExp (dCall V_refuse_wrong_rest (aCons (dVar 0) aNil)))
  (sCons (sExp (dCall V_refuse_wrong_width (aCons (dVar 1) aNil)))
  (sCons (sRet (dCall V_residue_wrapped (aCons (dVar 0) (aCons (dVar 1) aNil))))
  sNil)))
noncomputable def V_rest_wrapped : FD := mkFn 2 ["rest", "width"] D_rest_wrapped
noncomputable def D_rest_guarded : DenS :=
  (sCons (sExp (dCall V_refuse_wrong_guard (aCons (dVar 0) aNil)))
  (sCons (sExp (dCall V_refuse_wrong_rests (aCons (dVar 1) (aCons (dVar 2) aNil))))
  (sCons (sRet (dCall V_residue_guarded (aCons (dVar 0) (aCons (dVar 1) (aCons (dVar 2) aNil)))))
  sNil)))
noncomputable def V_rest_guarded : FD := mkFn 3 ["guard", "rest", "other"] D_rest_guarded
noncomputable def D_l_source : DenS :=
  (sCons (sSet 2 (dOp2 oAdd (dC (.int 610361)) (dOp2 oMul (dC (.int 9176)) (dVar 1))))
  (sCons (sFor (iSeq (dSl (dVar 0) none (some (dC (.int 10))))) (gNm 3)
  (sCons (sSet 2 (dOp2 oMod (dBlt oInt (aCons (dOp2 oAdd (dOp2 oAdd (dOp2 oMul (dVar 2) (dC (.int 30011))) (dOp2 oMod (dBlt oInt (aCons (dVar 3) aNil)) (dC (.int 1000000007)))) (dC (.int 3))) aNil)) (dC (.int 2147483629))))
  sNil))
  (sCons (sSet 4 (dIf (dOp2 oLt (dVar 1) (dBlt oLen (aCons (dVar 0) aNil))) (dBlt oInt (aCons (dOp2 oIx (dVar 0) (dVar 1)) aNil)) (dC (.int 0))))
  (sCons (sSet 2 (dOp2 oMod (dBlt oInt (aCons (dOp2 oAdd (dOp2 oAdd (dOp2 oMul (dVar 2) (dC (.int 59))) (dOp2 oMul (dOp2 oMod (dBlt oInt (aCons (dVar 4) aNil)) (dC (.int 1000000007))) (dC (.int 15013)))) (dC (.int 11))) aNil)) (dC (.int 2147483629))))
  (sCons (sRet (dLstM (aCons (dIf (dOr (dOp2 oLt (dVar 4) (dC (.int 0))) (dOp2 oGe (dVar 4) (dOp2 oPow (dC (.int 10)) (dC (.int 15))))) (dBlt oAbs (aCons (dVar 4) aNil)) (dC (.int 0))) (aCons (dVar 2) (aCons (dC (.int 0)) aNil)))))
  sNil)))))
noncomputable def V_l_source : FD := mkFn 2 ["_law_script", "_law_turn", "_law_mixed", "_law_cell", "_law_own"] D_l_source
noncomputable def D_l_over : DenS :=
  (sCons (sIf (dOr (dOp2 oEq (dVar 0) (dTup aNil)) (dOr (dOp2 oEq (dVar 1) (dTup aNil)) (dOp2 oEq (dVar 1) (dTup (aCons (dC (.int 0)) (aCons (dC (.int 0)) aNil))))))
  (sCons (sRet (dTup aNil))
  sNil)
  sNil)
  (sCons (sIf (dAnd (dOp2 oEq (dOp2 oIx (dVar 1) (dC (.int 1))) (dC (.int 0))) (dOp2 oEq (dOp2 oMod (dBlt oInt (aCons (dOp2 oIx (dVar 0) (dC (.int 1))) aNil)) (dOp2 oIx (dVar 1) (dC (.int 0)))) (dC (.int 0))))
  (sCons (sRet (dCall V_l_least (aCons (dLst (aCons (dOp2 oDiv (dOp2 oIx (dVar 0) (dC (.int 0))) (dOp2 oIx (dVar 1) (dC (.int 0)))) (aCons (dOp2 oDiv (dOp2 oAdd (dOp2 oIx (dVar 0) (dC (.int 0))) (dOp2 oIx (dVar 0) (dC (.int 1)))) (dOp2 oIx (dVar 1) (dC (.int 0)))) aNil))) aNil)))
  sNil)
  sNil)
  (sCons (sRet (dIf (dOp2 oEq (dVar 0) (dTup (aCons (dC (.int 0)) (aCons (dC (.int 0)) aNil)))) (dTup (aCons (dC (.int 0)) (aCons (dC (.int 0)) aNil))) (dTup (aCons (dC (.int 0)) (aCons (dC (.int 1)) aNil)))))
  sNil)))
noncomputable def V_l_over : FD := mkFn 2 ["_law_one", "_law_two"] D_l_over
noncomputable def D_l_left : DenS :=
  (sCons (sIf (dOr (dOp2 oEq (dVar 0) (dTup aNil)) (dOr (dOp2 oEq (dVar 1) (dTup aNil)) (dOp2 oEq (dVar 1) (dTup (aCons (dC (.int 0)) (aCons (dC (.int 0)) aNil))))))
  (sCons (sRet (dTup aNil))
  sNil)
  sNil)
  (sCons (sIf (dAnd (dOp2 oEq (dOp2 oIx (dVar 1) (dC (.int 1))) (dC (.int 0))) (dOp2 oEq (dOp2 oMod (dBlt oInt (aCons (dOp2 oIx (dVar 0) (dC (.int 1))) aNil)) (dOp2 oIx (dVar 1) (dC (.int 0)))) (dC (.int 0))))
  (sCons (sRet (dTup (aCons (dOp2 oMod (dBlt oInt (aCons (dOp2 oIx (dVar 0) (dC (.int 0))) aNil)) (dOp2 oIx (dVar 1) (dC (.int 0)))) (aCons (dC (.int 0)) aNil))))
  sNil)
  sNil)
  (sCons (sSet 2 (dCall V_l_common (aCons (dCall V_l_common (aCons (dOp2 oIx (dVar 0) (dC (.int 1))) (aCons (dOp2 oIx (dVar 1) (dC (.int 0))) aNil))) (aCons (dOp2 oIx (dVar 1) (dC (.int 1))) aNil))))
  (sCons (sRet (dTup (aCons (dOp2 oMod (dBlt oInt (aCons (dOp2 oIx (dVar 0) (dC (.int 0))) aNil)) (dVar 2)) (aCons (dVar 2) aNil))))
  sNil))))
noncomputable def V_l_left : FD := mkFn 2 ["_law_one", "_law_two", "_law_by"] D_l_left
noncomputable def D_l_lets : DenS :=
  (sCons (sIf (dOp2 oEq (dVar 0) (dC (.str "<")))
  (sCons (sRet (dOp2 oLt (dVar 1) (dVar 2)))
  sNil)
  sNil)
  (sCons (sIf (dOp2 oEq (dVar 0) (dC (.str "<=")))
  (sCons (sRet (dOp2 oLe (dVar 1) (dVar 2)))
  sNil)
  sNil)
  (sCons (sRet (dIf (dOp2 oEq (dVar 0) (dC (.str "=="))) (dOp2 oEq (dVar 1) (dVar 2)) (dOp2 oNe (dVar 1) (dVar 2))))
  sNil)))
noncomputable def V_l_lets : FD := mkFn 3 ["_law_word", "_law_left_here", "_law_right_here"] D_l_lets
noncomputable def D_l_guarded : DenS :=
  (sCons (sIf (dOr (dOp2 oEq (dVar 1) (dTup aNil)) (dOr (dOp2 oEq (dVar 2) (dTup aNil)) (dAnd (dOp2 oEq (dVar 0) (dC (.str "!="))) (dAnd (dOp2 oEq (dVar 1) (dVar 2)) (dOp2 oEq (dOp2 oIx (dVar 1) (dC (.int 1))) (dC (.int 0)))))))
  (sCons (sRet (dTup (aCons (dTup aNil) (aCons (dTup aNil) aNil))))
  sNil)
  sNil)
  (sCons (sIf (dOp2 oEq (dVar 0) (dC (.str "==")))
  (sCons (sRet (dOp2 oRep (dTup (aCons (dCall V_l_rest_meet (aCons (dVar 1) (aCons (dVar 2) aNil))) aNil)) (dC (.int 2))))
  sNil)
  sNil)
  (sCons (sRet (dTup (aCons (dVar 1) (aCons (dVar 2) aNil))))
  sNil)))
noncomputable def V_l_guarded : FD := mkFn 3 ["_law_word", "_law_one", "_law_two"] D_l_guarded
noncomputable def D_l_beside : DenS :=
  (sCons (sIf (dOr (dOp2 oEq (dVar 1) (dTup aNil)) (dOp2 oEq (dCall V_l_take (aCons (dVar 0) (aCons (dC (.int 2)) aNil))) (dC (.int 0))))
  (sCons (sRet (dCall V_l_rest_near (aCons (dVar 0) (aCons (dVar 1) aNil))))
  sNil)
  sNil)
  (sCons (sSet 2 (dCall V_l_common (aCons (dOp2 oIx (dVar 1) (dC (.int 1))) (aCons (dCall V_l_part (aCons (dVar 0) aNil)) aNil))))
  (sCons (sRet (dTup (aCons (dIf (dOp2 oEq (dCall V_l_take (aCons (dVar 0) (aCons (dC (.int 2)) aNil))) (dC (.int 0))) (dVar 2) (dOp2 oSub (dC (.int 0)) (dVar 2))) (aCons (dC (.int 0)) aNil))))
  sNil)))
noncomputable def V_l_beside : FD := mkFn 2 ["_law_source_here", "_law_one", "_law_by"] D_l_beside
noncomputable def D_l_two_right : DenS :=
  (sCons (sSet 2 (dTup (aCons (dCall V_l_over (aCons (dVar 0) (aCons (dVar 1) aNil))) (aCons (dCall V_l_left (aCons (dVar 0) (aCons (dVar 1) aNil))) aNil))))
  (sCons (sIf (dNot (dCall (V_l_same 8) (aCons (dTup (aCons (dCall V_rest_quotient (aCons (dVar 0) (aCons (dVar 1) aNil))) (aCons (dCall V_rest_modulo (aCons (dVar 0) (aCons (dVar 1) aNil))) aNil))) (aCons (dVar 2) aNil))))
  (sCons (sRet (dC (.bl false)))
  sNil)
  sNil)
  (sCons (sRet (dCall (V_l_same 8) (aCons (dTup (aCons (dCallW 2 [1, 0] V_rest_quotient (aCons (dVar 1) (aCons (dVar 0) aNil))) (aCons (dCallW 2 [1, 0] V_rest_modulo (aCons (dVar 1) (aCons (dVar 0) aNil))) aNil))) (aCons (dVar 2) aNil))))
  sNil)))
noncomputable def V_l_two_right : FD := mkFn 2 ["_law_one", "_law_two", "_law_due"] D_l_two_right
noncomputable def D_l_guards_right : DenS :=
  (sCons (sFor (iSeq (dTup (aCons (dC (.str "<")) (aCons (dC (.str "<=")) (aCons (dC (.str "==")) (aCons (dC (.str "!=")) aNil)))))) (gNm 3)
  (sCons (sSet 4 (dCall V_l_guarded (aCons (dVar 3) (aCons (dVar 0) (aCons (dVar 1) aNil)))))
  (sCons (sSet 5 (dCall V_rest_guarded (aCons (dVar 3) (aCons (dVar 0) (aCons (dVar 1) aNil)))))
  (sCons (sIf (dNot (dCall (V_l_same 8) (aCons (dTup (aCons (dVar 5) (aCons (dCallW 3 [2, 1, 0] V_rest_guarded (aCons (dVar 1) (aCons (dVar 0) (aCons (dVar 3) aNil)))) aNil))) (aCons (dTup (aCons (dVar 4) (aCons (dVar 4) aNil))) aNil))))
  (sCons (sRet (dC (.bl false)))
  sNil)
  sNil)
  (sCons (sFor (iSeq (dVar 2)) (gTu 2 (gAnd (gNm 6) (gAnd (gNm 7) gEnd)))
  (sCons (sSet 8 (dTup (aCons (dCall V_rest_holds (aCons (dOp2 oIx (dVar 5) (dC (.int 0))) (aCons (dVar 6) aNil))) (aCons (dCall V_rest_holds (aCons (dOp2 oIx (dVar 5) (dC (.int 1))) (aCons (dVar 7) aNil))) aNil))))
  (sCons (sIf (dAnd (dCall V_l_lets (aCons (dVar 3) (aCons (dVar 6) (aCons (dVar 7) aNil)))) (dNot (dCall (V_l_same 8) (aCons (dVar 8) (aCons (dTup (aCons (dC (.bl true)) (aCons (dC (.bl true)) aNil))) aNil)))))
  (sCons (sRet (dC (.bl false)))
  sNil)
  sNil)
  sNil)))
  sNil)))))
  (sCons (sRet (dC (.bl true)))
  sNil))
noncomputable def V_l_guards_right : FD := mkFn 3 ["_law_one", "_law_two", "_law_pairs", "_law_word", "_law_due", "_law_told", "_law_here", "_law_there", "_law_held"] D_l_guards_right
noncomputable def D_l_held_right : DenS :=
  (sCons (sIf (dOp2 oEq (dVar 3) (dC (.int 0)))
  (sCons (sRet (dC (.bl true)))
  sNil)
  sNil)
  (sCons (sSet 4 (dTup (aCons (dCall V_rest_holds (aCons (dCall V_rest_quotient (aCons (dVar 0) (aCons (dVar 1) aNil))) (aCons (dOp2 oDiv (dVar 2) (dVar 3)) aNil))) (aCons (dCall V_rest_holds (aCons (dCall V_rest_modulo (aCons (dVar 0) (aCons (dVar 1) aNil))) (aCons (dOp2 oMod (dBlt oInt (aCons (dVar 2) aNil)) (dVar 3)) aNil))) aNil))))
  (sCons (sRet (dCall (V_l_same 8) (aCons (dVar 4) (aCons (dTup (aCons (dC (.bl true)) (aCons (dC (.bl true)) aNil))) aNil))))
  sNil)))
noncomputable def V_l_held_right : FD := mkFn 4 ["_law_one", "_law_two", "_law_here", "_law_there", "_law_told"] D_l_held_right
noncomputable def D_l_wrapped_right : DenS :=
  (sCons (sSet 3 (dC (.int 1)))
  (sCons (sFor (iRange1 (aCons (dVar 1) aNil)) (gNm 4)
  (sCons (sSet 3 (dOp2 oMul (dVar 3) (dC (.int 2))))
  sNil))
  (sCons (sAsg (gTu 2 (gAnd (gNm 5) (gAnd (gNm 6) gEnd))) (dTup (aCons (dCall V_rest_wrapped (aCons (dVar 0) (aCons (dVar 1) aNil))) (aCons (dCall V_l_left (aCons (dVar 0) (aCons (dTup (aCons (dVar 3) (aCons (dC (.int 0)) aNil))) aNil))) aNil))))
  (sCons (sIf (dNot (dCall (V_l_same 8) (aCons (dTup (aCons (dVar 5) (aCons (dCallW 2 [1, 0] V_rest_wrapped (aCons (dVar 1) (aCons (dVar 0) aNil))) (aCons (dCall V_rest_modulo (aCons (dVar 0) (aCons (dTup (aCons (dVar 3) (aCons (dC (.int 0)) aNil))) aNil))) aNil)))) (aCons (dOp2 oRep (dTup (aCons (dVar 6) aNil)) (dC (.int 3))) aNil))))
  (sCons (sRet (dC (.bl false)))
  sNil)
  sNil)
  (sCons (sRet (dBlt oAll (aCons (dLc (iSeq (dVar 2)) (bd1 7) dT (dCall (V_l_same 8) (aCons (dCall V_rest_holds (aCons (dVar 5) (aCons (dOp2 oMod (dBlt oInt (aCons (dVar 7) aNil)) (dVar 3)) aNil))) (aCons (dC (.bl true)) aNil)))) aNil)))
  sNil)))))
noncomputable def V_l_wrapped_right : FD := mkFn 3 ["_law_one", "_law_wide", "_law_counts", "_law_power", "_law_turn", "_law_told", "_law_due", "_law_count"] D_l_wrapped_right
noncomputable def D_l_right : DenS :=
  (sCons (sAsg (gTu 3 (gAnd (gNm 1) (gAnd (gNm 2) (gAnd (gNm 3) gEnd)))) (dTup (aCons (dCall V_l_rest (aCons (dVar 0) aNil)) (aCons (dOp2 oAdd (dC (.int 1)) (dCall V_l_take (aCons (dVar 0) (aCons (dC (.int 16)) aNil)))) (aCons (dLstM aNil) aNil)))))
  (sCons (sSet 4 (dCall V_l_beside (aCons (dVar 0) (aCons (dVar 1) aNil))))
  (sCons (sIf (dAnd (dOp2 oNe (dVar 1) (dTup aNil)) (dOp2 oNe (dVar 4) (dTup aNil)))
  (sCons (sFor (iRange1 (aCons (dC (.int 4)) aNil)) (gNm 5)
  (sCons (sExp (dApp (dVar 3) (dTup (aCons (dCall V_l_rest_some (aCons (dVar 0) (aCons (dVar 1) aNil))) (aCons (dCall V_l_rest_some (aCons (dVar 0) (aCons (dVar 4) aNil))) aNil)))))
  sNil))
  (sCons (sExp (dApp (dVar 3) (dTup (aCons (dOp2 oIx (dVar 1) (dC (.int 0))) (aCons (dOp2 oIx (dVar 4) (dC (.int 0))) aNil)))))
  (sCons (sExp (dApp (dVar 3) (dIf (dCall V_l_rest_has (aCons (dVar 4) (aCons (dOp2 oIx (dVar 1) (dC (.int 0))) aNil))) (dTup (aCons (dOp2 oIx (dVar 1) (dC (.int 0))) (aCons (dOp2 oIx (dVar 1) (dC (.int 0))) aNil))) (dTup (aCons (dOp2 oSub (dOp2 oIx (dVar 1) (dC (.int 0))) (dOp2 oIx (dVar 1) (dC (.int 1)))) (aCons (dOp2 oAdd (dOp2 oIx (dVar 4) (dC (.int 0))) (dOp2 oIx (dVar 4) (dC (.int 1)))) aNil))))))
  sNil)))
  sNil)
  (sFrz 3 (sCons (sIf (dOr (dNot (dCall V_l_two_right (aCons (dVar 1) (aCons (dVar 4) aNil)))) (dOr (dNot (dCall V_l_two_right (aCons (dVar 4) (aCons (dVar 1) aNil)))) (dNot (dCall V_l_guards_right (aCons (dVar 1) (aCons (dVar 4) (aCons (dVar 3) aNil)))))))
  (sCons (sRet (dC (.bl false)))
  sNil)
  sNil)
  (sCons (sIf (dNot (dBlt oAll (aCons (dLc (iSeq (dVar 3)) (bd2 6 7) dT (dCall V_l_held_right (aCons (dVar 1) (aCons (dVar 4) (aCons (dVar 6) (aCons (dVar 7) aNil)))))) aNil)))
  (sCons (sRet (dC (.bl false)))
  sNil)
  sNil)
  (sCons (sIf (dNot (dBlt oAll (aCons (dLc (iSeq (dVar 3)) (bd2 6 7) dT (dCall V_l_held_right (aCons (dVar 4) (aCons (dVar 1) (aCons (dVar 7) (aCons (dVar 6) aNil)))))) aNil)))
  (sCons (sRet (dC (.bl false)))
  sNil)
  sNil)
  (sCons (sRet (dCall V_l_wrapped_right (aCons (dVar 1) (aCons (dVar 2) (aCons (dLc (iSeq (dVar 3)) (bd2 6 7) dT (dVar 6)) aNil)))))
  sNil))))))))
noncomputable def V_l_right : FD := mkFn 1 ["_law_source_here", "_law_one", "_law_wide", "_law_pairs", "_law_two", "_law_turn", "_law_here", "_law_there"] D_l_right
noncomputable def D_l_law : DenS :=
  (sCons (sRet (dBlt oAll (aCons (dLc (iRange1 (aCons (dBlt oMax2 (aCons (dC (.int 2)) (aCons (dBlt oMin2 (aCons (dBlt oLen (aCons (dVar 0) aNil)) (aCons (dC (.int 5)) aNil))) aNil))) aNil)) (bd1 1) dT (dCut (dCall V_l_right (aCons (dCall V_l_source (aCons (dVar 0) (aCons (dVar 1) aNil))) aNil)))) aNil)))
  sNil)
noncomputable def V_l_law : FD := mkFn 1 ["_law_script", "_law_turn"] D_l_law
end Lw

namespace Lw
open PySem PySem.Spec L2 Eg
local macro_rules | `(tactic| walk_at "vis") => `(tactic| first | exact Or.inl rfl | exact Or.inr (Or.inl rfl) | exact Or.inr (Or.inr rfl))
local macro_rules | `(tactic| walk_at "loc") => `(tactic| first | exact Or.inl rfl | exact Or.inr rfl)
section
variable {P : Program} {w : World} {K : PySem.W.Frag} {mg : Str → Option Value} {base : Heap}
theorem okG_is_whole (T : Fx K mg) {fd : FuncData} (F : FunD K dis_whole.name dis_whole.qual dis_whole.params dis_whole.body dis_whole.scope (dis_whole.dvs K) (dis_whole.kws K) (He.fAd K dis_whole.at_) fd) : FnG P w K mg base 1 (He.fAd K dis_whole.at_) fd ["value"] (SpD K (CtrOf V_is_whole)) :=
  FnG.den (k := 0) F scis_whole rfl fun cd A outer s H hg hr hnd =>
  (SS.cons (S1.ret (SE.and (SE.isi rfl T.n_isinstance rfl T.n_int (by decide) (by decide +kernel) (by decide) (by decide) (SE.var 0 rfl (by walk_at "vis"))) (SE.one (SE.not (SE.isi rfl T.n_isinstance rfl T.n_bool (by decide) (by decide +kernel) (by decide) (by decide) (SE.var 0 rfl (by walk_at "vis")))))))
  SS.nil)
theorem ok_is_whole (T : Fx K mg) : Fn P w K mg base "is_whole" 1 (CtrOf V_is_whole) := by
  obtain ⟨fd, F⟩ := T.d_is_whole
  exact ⟨_, _, _, okG_is_whole T F, T.g_is_whole, F.kp, F.bindsN fun _ _ _ _ _ _ us hl => match us, hl with | [_], _ => rfl⟩
theorem okG_is_residue (T : Fx K mg) {fd : FuncData} (F : FunD K dis_residue.name dis_residue.qual dis_residue.params dis_residue.body dis_residue.scope (dis_residue.dvs K) (dis_residue.kws K) (He.fAd K dis_residue.at_) fd) : FnG P w K mg base 2 (He.fAd K dis_residue.at_) fd ["value"] (SpD K (CtrOf V_is_residue)) :=
  FnG.den (k := 1) F scis_residue rfl fun cd A outer s H hg hr hnd =>
  (SS.cons (S1.ifS (ST.w (SW.or (ST.not (ST.val (SE.isi rfl T.n_isinstance rfl T.n_tuple (by decide) (by decide +kernel) (by decide) (by decide) (SE.var 0 rfl (by walk_at "vis"))))) (SW.or1 (ST.nin hr.units (SE.len rfl T.n_len (SAr.cons (SE.var 0 rfl (by walk_at "vis")) SAr.nil)) (SE.tup (SAr.cons SE.int (SAr.cons SE.int SAr.nil)))))))
  (SS.cons (S1.ret SE.bl)
  SS.nil)
  SS.nil)
  (SS.cons (S1.ifS (ST.not (ST.val (SE.all rfl rfl T.n_all (SAr.cons (SE.lc 1 rfl hnd rfl (blkOk_by (by kernel_rfl)) (fun _ _ _ _ _ => ⟨by walk_at "loc", by walk_at "loc"⟩) (SI.seq (SE.var 0 rfl (by walk_at "vis"))) (fun _ _ _ _ _ => (SE.call (ok_is_whole T) hg (hr.mono (by omega)) rfl (SAr.cons (SE.var 1 rfl (by walk_at "vis")) SAr.nil)))) SAr.nil))))
  (SS.cons (S1.ret SE.bl)
  SS.nil)
  SS.nil)
  (SS.cons (S1.ifS (ST.w (SW.or (ST.cmp rfl hr.units (SE.len rfl T.n_len (SAr.cons (SE.var 0 rfl (by walk_at "vis")) SAr.nil)) SE.int) (SW.or1 (ST.cmp rfl hr.units (SE.ix (SE.var 0 rfl (by walk_at "vis")) SE.int) SE.int))))
  (SS.cons (S1.ret SE.bl)
  SS.nil)
  SS.nil)
  (SS.cons (S1.asg (SE.var 0 rfl (by walk_at "vis")) (SG.tup (n := 2) rfl (SGs.cons (SG.name 1 hnd rfl (by walk_at "loc") (by walk_at "loc")) (SGs.cons (SG.name 2 hnd rfl (by walk_at "loc") (by walk_at "loc")) SGs.nil))))
  (SS.cons (S1.ret (SE.and (SE.cmp rfl hr.units (SE.var 2 rfl (by walk_at "vis")) SE.int) (SE.and (SE.cmp rfl hr.units (SE.mod (T.c_GRAIN rfl) (SE.var 2 rfl (by walk_at "vis"))) SE.int) (SE.one (SE.chain rfl rfl hr.units SE.int (SE.var 1 rfl (by walk_at "vis")) (SE.var 2 rfl (by walk_at "vis")))))))
  SS.nil)))))
theorem ok_is_residue (T : Fx K mg) : Fn P w K mg base "is_residue" 2 (CtrOf V_is_residue) := by
  obtain ⟨fd, F⟩ := T.d_is_residue
  exact ⟨_, _, _, okG_is_residue T F, T.g_is_residue, F.kp, F.bindsN fun _ _ _ _ _ _ us hl => match us, hl with | [_], _ => rfl⟩
theorem okG_residue_of (T : Fx K mg) {fd : FuncData} (F : FunD K dresidue_of.name dresidue_of.qual dresidue_of.params dresidue_of.body dresidue_of.scope (dresidue_of.dvs K) (dresidue_of.kws K) (He.fAd K dresidue_of.at_) fd) : FnG P w K mg base 1 (He.fAd K dresidue_of.at_) fd ["number", "divisor"] (SpD K (CtrOf V_residue_of)) :=
  FnG.den (k := 0) F scresidue_of rfl fun cd A outer s H hg hr hnd =>
  (SS.cons (S1.ret (SE.ifE (ST.cmp rfl hr.units (SE.var 1 rfl (by walk_at "vis")) SE.int) (SE.tup (SAr.cons (SE.var 0 rfl (by walk_at "vis")) (SAr.cons SE.int SAr.nil))) (SE.tup (SAr.cons (SE.mod (SE.var 0 rfl (by walk_at "vis")) (SE.var 1 rfl (by walk_at "vis"))) (SAr.cons (SE.var 1 rfl (by walk_at "vis")) SAr.nil)))))
  SS.nil)
theorem ok_residue_of (T : Fx K mg) : Fn P w K mg base "residue_of" 1 (CtrOf V_residue_of) := by
  obtain ⟨fd, F⟩ := T.d_residue_of
  exact ⟨_, _, _, okG_residue_of T F, T.g_residue_of, F.kp, F.bindsN fun _ _ _ _ _ _ us hl => match us, hl with | [_, _], _ => rfl⟩
theorem okG_residue_holds (T : Fx K mg) {fd : FuncData} (F : FunD K dresidue_holds.name dresidue_holds.qual dresidue_holds.params dresidue_holds.body dresidue_holds.scope (dresidue_holds.dvs K) (dresidue_holds.kws K) (He.fAd K dresidue_holds.at_) fd) : FnG P w K mg base 2 (He.fAd K dresidue_holds.at_) fd ["residue", "number"] (SpD K (CtrOf V_residue_holds)) :=
  FnG.den (k := 1) F scresidue_holds rfl fun cd A outer s H hg hr hnd =>
  (SS.cons (S1.ifS (ST.cmp rfl hr.units (SE.var 0 rfl (by walk_at "vis")) (SE.tup SAr.nil))
  (SS.cons (S1.ret SE.bl)
  SS.nil)
  SS.nil)
  (SS.cons (S1.ret (SE.cmp rfl hr.units (SE.call (ok_residue_of T) hg (hr.mono (by omega)) rfl (SAr.cons (SE.var 1 rfl (by walk_at "vis")) (SAr.cons (SE.ix (SE.var 0 rfl (by walk_at "vis")) SE.int) SAr.nil))) (SE.var 0 rfl (by walk_at "vis"))))
  SS.nil))
theorem ok_residue_holds (T : Fx K mg) : Fn P w K mg base "residue_holds" 2 (CtrOf V_residue_holds) := by
  obtain ⟨fd, F⟩ := T.d_residue_holds
  exact ⟨_, _, _, okG_residue_holds T F, T.g_residue_holds, F.kp, F.bindsN fun _ _ _ _ _ _ us hl => match us, hl with | [_, _], _ => rfl⟩
theorem okG_inverse (T : Fx K mg) {fd : FuncData} (F : FunD K dinverse.name dinverse.qual dinverse.params dinverse.body dinverse.scope (dinverse.dvs K) (dinverse.kws K) (He.fAd K dinverse.at_) fd) : FnG P w K mg base 1 (He.fAd K dinverse.at_) fd ["number", "divisor"] (SpD K (CtrOf V_inverse)) :=
  FnG.den (k := 0) F scinverse rfl fun cd A outer s H hg hr hnd =>
  (SS.cons (S1.par 2 3 rfl hnd rfl rfl (by decide) rfl rfl (SAr.cons (SE.var 0 rfl (by walk_at "vis")) (SAr.cons SE.int SAr.nil)))
  (SS.cons (S1.par 4 5 rfl hnd rfl rfl (by decide) rfl rfl (SAr.cons (SE.var 1 rfl (by walk_at "vis")) (SAr.cons SE.int SAr.nil)))
  (SS.cons (S1.while_ Wn PassesOwn.never (ST.cmp rfl hr.units (SE.var 4 rfl (by walk_at "vis")) SE.int)
  (SS.cons (S1.set 6 hnd rfl (by walk_at "loc") (by walk_at "loc") (SE.fdiv (SE.var 2 rfl (by walk_at "vis")) (SE.var 4 rfl (by walk_at "vis"))))
  (SS.cons (S1.par 2 4 rfl hnd rfl rfl (by decide) rfl rfl (SAr.cons (SE.var 4 rfl (by walk_at "vis")) (SAr.cons (SE.sub (SE.var 2 rfl (by walk_at "vis")) (SE.mul (SE.var 6 rfl (by walk_at "vis")) (SE.var 4 rfl (by walk_at "vis")))) SAr.nil)))
  (SS.cons (S1.par 3 5 rfl hnd rfl rfl (by decide) rfl rfl (SAr.cons (SE.var 5 rfl (by walk_at "vis")) (SAr.cons (SE.sub (SE.var 3 rfl (by walk_at "vis")) (SE.mul (SE.var 6 rfl (by walk_at "vis")) (SE.var 5 rfl (by walk_at "vis")))) SAr.nil)))
  SS.nil))))
  (SS.cons (S1.ret (SE.var 3 rfl (by walk_at "vis")))
  SS.nil))))
theorem ok_inverse (T : Fx K mg) : Fn P w K mg base "inverse" 1 (CtrOf V_inverse) := by
  obtain ⟨fd, F⟩ := T.d_inverse
  exact ⟨_, _, _, okG_inverse T F, T.g_inverse, F.kp, F.bindsN fun _ _ _ _ _ _ us hl => match us, hl with | [_, _], _ => rfl⟩
theorem okG_residue_met (T : Fx K mg) {fd : FuncData} (F : FunD K dresidue_met.name dresidue_met.qual dresidue_met.params dresidue_met.body dresidue_met.scope (dresidue_met.dvs K) (dresidue_met.kws K) (He.fAd K dresidue_met.at_) fd) : FnG P w K mg base 3 (He.fAd K dresidue_met.at_) fd ["residue", "other"] (SpD K (CtrOf V_residue_met)) :=
  FnG.den (k := 2) F scresidue_met rfl fun cd A outer s H hg hr hnd =>
  (SS.cons (S1.ifS (ST.w (SW.or (ST.cmp rfl hr.units (SE.var 0 rfl (by walk_at "vis")) (SE.tup SAr.nil)) (SW.or1 (ST.cmp rfl hr.units (SE.var 1 rfl (by walk_at "vis")) (SE.tup SAr.nil)))))
  (SS.cons (S1.ret (SE.tup SAr.nil))
  SS.nil)
  SS.nil)
  (SS.cons (S1.ifS (ST.w (SW.or (ST.cmp rfl hr.units (SE.ix (SE.var 0 rfl (by walk_at "vis")) SE.int) SE.int) (SW.or1 (ST.cmp rfl hr.units (SE.ix (SE.var 1 rfl (by walk_at "vis")) SE.int) SE.int))))
  (SS.cons (S1.asg (SE.ifE (ST.cmp rfl hr.units (SE.ix (SE.var 0 rfl (by walk_at "vis")) SE.int) SE.int) (SE.tup (SAr.cons (SE.var 0 rfl (by walk_at "vis")) (SAr.cons (SE.var 1 rfl (by walk_at "vis")) SAr.nil))) (SE.tup (SAr.cons (SE.var 1 rfl (by walk_at "vis")) (SAr.cons (SE.var 0 rfl (by walk_at "vis")) SAr.nil)))) (SG.tup (n := 2) rfl (SGs.cons (SG.name 2 hnd rfl (by walk_at "loc") (by walk_at "loc")) (SGs.cons (SG.name 3 hnd rfl (by walk_at "loc") (by walk_at "loc")) SGs.nil))))
  (SS.cons (S1.ret (SE.ifE (ST.val (SE.call (ok_residue_holds T) hg (hr.mono (by omega)) rfl (SAr.cons (SE.var 3 rfl (by walk_at "vis")) (SAr.cons (SE.ix (SE.var 2 rfl (by walk_at "vis")) SE.int) SAr.nil)))) (SE.var 2 rfl (by walk_at "vis")) (SE.tup SAr.nil)))
  SS.nil))
  SS.nil)
  (SS.cons (S1.set 4 hnd rfl (by walk_at "loc") (by walk_at "loc") (SE.gcd rfl T.b_gcd (SAr.cons (SE.ix (SE.var 0 rfl (by walk_at "vis")) SE.int) (SAr.cons (SE.ix (SE.var 1 rfl (by walk_at "vis")) SE.int) SAr.nil))))
  (SS.cons (S1.set 5 hnd rfl (by walk_at "loc") (by walk_at "loc") (SE.sub (SE.ix (SE.var 1 rfl (by walk_at "vis")) SE.int) (SE.ix (SE.var 0 rfl (by walk_at "vis")) SE.int)))
  (SS.cons (S1.ifS (ST.cmp rfl hr.units (SE.mod (SE.var 5 rfl (by walk_at "vis")) (SE.var 4 rfl (by walk_at "vis"))) SE.int)
  (SS.cons (S1.ret (SE.tup SAr.nil))
  SS.nil)
  SS.nil)
  (SS.cons (S1.set 6 hnd rfl (by walk_at "loc") (by walk_at "loc") (SE.mul (SE.fdiv (SE.var 5 rfl (by walk_at "vis")) (SE.var 4 rfl (by walk_at "vis"))) (SE.call (ok_inverse T) hg (hr.mono (by omega)) rfl (SAr.cons (SE.fdiv (SE.ix (SE.var 0 rfl (by walk_at "vis")) SE.int) (SE.var 4 rfl (by walk_at "vis"))) (SAr.cons (SE.fdiv (SE.ix (SE.var 1 rfl (by walk_at "vis")) SE.int) (SE.var 4 rfl (by walk_at "vis"))) SAr.nil)))))
  (SS.cons (S1.ret (SE.call (ok_residue_of T) hg (hr.mono (by omega)) rfl (SAr.cons (SE.add (SE.ix (SE.var 0 rfl (by walk_at "vis")) SE.int) (SE.mul (SE.ix (SE.var 0 rfl (by walk_at "vis")) SE.int) (SE.var 6 rfl (by walk_at "vis")))) (SAr.cons (SE.lcm rfl T.b_lcm (SAr.cons (SE.ix (SE.var 0 rfl (by walk_at "vis")) SE.int) (SAr.cons (SE.ix (SE.var 1 rfl (by walk_at "vis")) SE.int) SAr.nil))) SAr.nil))))
  SS.nil)))))))
theorem ok_residue_met (T : Fx K mg) : Fn P w K mg base "residue_met" 3 (CtrOf V_residue_met) := by
  obtain ⟨fd, F⟩ := T.d_residue_met
  exact ⟨_, _, _, okG_residue_met T F, T.g_residue_met, F.kp, F.bindsN fun _ _ _ _ _ _ us hl => match us, hl with | [_, _], _ => rfl⟩
theorem okG_residue_quotient (T : Fx K mg) {fd : FuncData} (F : FunD K dresidue_quotient.name dresidue_quotient.qual dresidue_quotient.params dresidue_quotient.body dresidue_quotient.scope (dresidue_quotient.dvs K) (dresidue_quotient.kws K) (He.fAd K dresidue_quotient.at_) fd) : FnG P w K mg base 2 (He.fAd K dresidue_quotient.at_) fd ["residue", "other"] (SpD K (CtrOf V_residue_quotient)) :=
  FnG.den (k := 1) F scresidue_quotient rfl fun cd A outer s H hg hr hnd =>
  (SS.cons (S1.ifS (ST.w (SW.or (ST.cmp rfl hr.units (SE.var 0 rfl (by walk_at "vis")) (SE.tup SAr.nil)) (SW.or (ST.cmp rfl hr.units (SE.var 1 rfl (by walk_at "vis")) (SE.tup SAr.nil)) (SW.or1 (ST.cmp rfl hr.units (SE.var 1 rfl (by walk_at "vis")) (SE.tup (SAr.cons SE.int (SAr.cons SE.int SAr.nil))))))))
  (SS.cons (S1.ret (SE.tup SAr.nil))
  SS.nil)
  SS.nil)
  (SS.cons (S1.ifS (ST.w (SW.and (ST.cmp rfl hr.units (SE.ix (SE.var 1 rfl (by walk_at "vis")) SE.int) SE.int) (SW.and1 (ST.cmp rfl hr.units (SE.mod (SE.ix (SE.var 0 rfl (by walk_at "vis")) SE.int) (SE.ix (SE.var 1 rfl (by walk_at "vis")) SE.int)) SE.int))))
  (SS.cons (S1.ret (SE.call (ok_residue_of T) hg (hr.mono (by omega)) rfl (SAr.cons (SE.fdiv (SE.ix (SE.var 0 rfl (by walk_at "vis")) SE.int) (SE.ix (SE.var 1 rfl (by walk_at "vis")) SE.int)) (SAr.cons (SE.abs rfl T.n_abs (SAr.cons (SE.fdiv (SE.ix (SE.var 0 rfl (by walk_at "vis")) SE.int) (SE.ix (SE.var 1 rfl (by walk_at "vis")) SE.int)) SAr.nil)) SAr.nil))))
  SS.nil)
  SS.nil)
  (SS.cons (S1.ret (SE.ifE (ST.cmp rfl hr.units (SE.var 0 rfl (by walk_at "vis")) (SE.tup (SAr.cons SE.int (SAr.cons SE.int SAr.nil)))) (SE.var 0 rfl (by walk_at "vis")) (T.c_ANY_REST rfl)))
  SS.nil)))
theorem ok_residue_quotient (T : Fx K mg) : Fn P w K mg base "residue_quotient" 2 (CtrOf V_residue_quotient) := by
  obtain ⟨fd, F⟩ := T.d_residue_quotient
  exact ⟨_, _, _, okG_residue_quotient T F, T.g_residue_quotient, F.kp, F.bindsN fun _ _ _ _ _ _ us hl => match us, hl with | [_, _], _ => rfl⟩
theorem okG_residue_modulo (T : Fx K mg) {fd : FuncData} (F : FunD K dresidue_modulo.name dresidue_modulo.qual dresidue_modulo.params dresidue_modulo.body dresidue_modulo.scope (dresidue_modulo.dvs K) (dresidue_modulo.kws K) (He.fAd K dresidue_modulo.at_) fd) : FnG P w K mg base 2 (He.fAd K dresidue_modulo.at_) fd ["residue", "other"] (SpD K (CtrOf V_residue_modulo)) :=
  FnG.den (k := 1) F scresidue_modulo rfl fun cd A outer s H hg hr hnd =>
  (SS.cons (S1.ifS (ST.w (SW.or (ST.cmp rfl hr.units (SE.var 0 rfl (by walk_at "vis")) (SE.tup SAr.nil)) (SW.or (ST.cmp rfl hr.units (SE.var 1 rfl (by walk_at "vis")) (SE.tup SAr.nil)) (SW.or1 (ST.cmp rfl hr.units (SE.var 1 rfl (by walk_at "vis")) (SE.tup (SAr.cons SE.int (SAr.cons SE.int SAr.nil))))))))
  (SS.cons (S1.ret (SE.tup SAr.nil))
  SS.nil)
  SS.nil)
  (SS.cons (S1.ifS (ST.w (SW.and (ST.cmp rfl hr.units (SE.ix (SE.var 1 rfl (by walk_at "vis")) SE.int) SE.int) (SW.and1 (ST.cmp rfl hr.units (SE.mod (SE.ix (SE.var 0 rfl (by walk_at "vis")) SE.int) (SE.ix (SE.var 1 rfl (by walk_at "vis")) SE.int)) SE.int))))
  (SS.cons (S1.ret (SE.call (ok_residue_of T) hg (hr.mono (by omega)) rfl (SAr.cons (SE.mod (SE.ix (SE.var 0 rfl (by walk_at "vis")) SE.int) (SE.ix (SE.var 1 rfl (by walk_at "vis")) SE.int)) (SAr.cons SE.int SAr.nil))))
  SS.nil)
  SS.nil)
  (SS.cons (S1.ret (SE.call (ok_residue_of T) hg (hr.mono (by omega)) rfl (SAr.cons (SE.ix (SE.var 0 rfl (by walk_at "vis")) SE.int) (SAr.cons (SE.gcd rfl T.b_gcd (SAr.cons (SE.ix (SE.var 0 rfl (by walk_at "vis")) SE.int) (SAr.cons (SE.ix (SE.var 1 rfl (by walk_at "vis")) SE.int) (SAr.cons (SE.ix (SE.var 1 rfl (by walk_at "vis")) SE.int) SAr.nil)))) SAr.nil))))
  SS.nil)))
theorem ok_residue_modulo (T : Fx K mg) : Fn P w K mg base "residue_modulo" 2 (CtrOf V_residue_modulo) := by
  obtain ⟨fd, F⟩ := T.d_residue_modulo
  exact ⟨_, _, _, okG_residue_modulo T F, T.g_residue_modulo, F.kp, F.bindsN fun _ _ _ _ _ _ us hl => match us, hl with | [_, _], _ => rfl⟩
theorem okG_residue_wrapped (T : Fx K mg) {fd : FuncData} (F : FunD K dresidue_wrapped.name dresidue_wrapped.qual dresidue_wrapped.params dresidue_wrapped.body dresidue_wrapped.scope (dresidue_wrapped.dvs K) (dresidue_wrapped.kws K) (He.fAd K dresidue_wrapped.at_) fd) : FnG P w K mg base 3 (He.fAd K dresidue_wrapped.at_) fd ["residue", "width"] (SpD K (CtrOf V_residue_wrapped)) :=
  FnG.den (k := 2) F scresidue_wrapped rfl fun cd A outer s H hg hr hnd =>
  (SS.cons (S1.ret (SE.call (ok_residue_modulo T) hg (hr.mono (by omega)) rfl (SAr.cons (SE.var 0 rfl (by walk_at "vis")) (SAr.cons (SE.tup (SAr.cons (SE.shl SE.int (SE.var 1 rfl (by walk_at "vis"))) (SAr.cons SE.int SAr.nil))) SAr.nil))))
  SS.nil)
theorem ok_residue_wrapped (T : Fx K mg) : Fn P w K mg base "residue_wrapped" 3 (CtrOf V_residue_wrapped) := by
  obtain ⟨fd, F⟩ := T.d_residue_wrapped
  exact ⟨_, _, _, okG_residue_wrapped T F, T.g_residue_wrapped, F.kp, F.bindsN fun _ _ _ _ _ _ us hl => match us, hl with | [_, _], _ => rfl⟩
theorem okG_residue_guarded (T : Fx K mg) {fd : FuncData} (F : FunD K dresidue_guarded.name dresidue_guarded.qual dresidue_guarded.params dresidue_guarded.body dresidue_guarded.scope (dresidue_guarded.dvs K) (dresidue_guarded.kws K) (He.fAd K dresidue_guarded.at_) fd) : FnG P w K mg base 4 (He.fAd K dresidue_guarded.at_) fd ["guard", "residue", "other"] (SpD K (CtrOf V_residue_guarded)) :=
  FnG.den (k := 3) F scresidue_guarded rfl fun cd A outer s H hg hr hnd =>
  (SS.cons (S1.ifS (ST.w (SW.or (ST.cmp rfl hr.units (SE.var 1 rfl (by walk_at "vis")) (SE.tup SAr.nil)) (SW.or1 (ST.cmp rfl hr.units (SE.var 2 rfl (by walk_at "vis")) (SE.tup SAr.nil)))))
  (SS.cons (S1.ret (SE.tup (SAr.cons (SE.tup SAr.nil) (SAr.cons (SE.tup SAr.nil) SAr.nil))))
  SS.nil)
  SS.nil)
  (SS.cons (S1.ifS (ST.cmp rfl hr.units (SE.var 0 rfl (by walk_at "vis")) SE.str)
  (SS.cons (S1.set 3 hnd rfl (by walk_at "loc") (by walk_at "loc") (SE.call (ok_residue_met T) hg (hr.mono (by omega)) rfl (SAr.cons (SE.var 1 rfl (by walk_at "vis")) (SAr.cons (SE.var 2 rfl (by walk_at "vis")) SAr.nil))))
  (SS.cons (S1.ret (SE.tup (SAr.cons (SE.var 3 rfl (by walk_at "vis")) (SAr.cons (SE.var 3 rfl (by walk_at "vis")) SAr.nil))))
  SS.nil))
  SS.nil)
  (SS.cons (S1.ifS (ST.w (SW.and (ST.cmp rfl hr.units (SE.var 0 rfl (by walk_at "vis")) SE.str) (SW.and (ST.cmp rfl hr.units (SE.ix (SE.var 1 rfl (by walk_at "vis")) SE.int) SE.int) (SW.and1 (ST.cmp rfl hr.units (SE.var 1 rfl (by walk_at "vis")) (SE.var 2 rfl (by walk_at "vis")))))))
  (SS.cons (S1.ret (SE.tup (SAr.cons (SE.tup SAr.nil) (SAr.cons (SE.tup SAr.nil) SAr.nil))))
  SS.nil)
  SS.nil)
  (SS.cons (S1.ret (SE.tup (SAr.cons (SE.var 1 rfl (by walk_at "vis")) (SAr.cons (SE.var 2 rfl (by walk_at "vis")) SAr.nil))))
  SS.nil))))
theorem ok_residue_guarded (T : Fx K mg) : Fn P w K mg base "residue_guarded" 4 (CtrOf V_residue_guarded) := by
  obtain ⟨fd, F⟩ := T.d_residue_guarded
  exact ⟨_, _, _, okG_residue_guarded T F, T.g_residue_guarded, F.kp, F.bindsN fun _ _ _ _ _ _ us hl => match us, hl with | [_, _, _], _ => rfl⟩
theorem okG_refuse_wrong_rest (T : Fx K mg) {fd : FuncData} (F : FunD K drefuse_wrong_rest.name drefuse_wrong_rest.qual drefuse_wrong_rest.params drefuse_wrong_rest.body drefuse_wrong_rest.scope (drefuse_wrong_rest.dvs K) (drefuse_wrong_rest.kws K) (He.fAd K drefuse_wrong_rest.at_) fd) : FnG P w K mg base 3 (He.fAd K drefuse_wrong_rest.at_) fd ["rest"] (SpD K (CtrOf V_refuse_wrong_rest)) :=
  FnG.den (k := 2) F screfuse_wrong_rest rfl fun cd A outer s H hg hr hnd =>
  (SS.cons (S1.ifS (ST.not (ST.val (SE.call (ok_is_residue T) hg (hr.mono (by omega)) rfl (SAr.cons (SE.var 0 rfl (by walk_at "vis")) SAr.nil))))
  (SS.cons S1.no
  SS.nil)
  SS.nil)
  SS.nil)
theorem ok_refuse_wrong_rest (T : Fx K mg) : Fn P w K mg base "refuse_wrong_rest" 3 (CtrOf V_refuse_wrong_rest) := by
  obtain ⟨fd, F⟩ := T.d_refuse_wrong_rest
  exact ⟨_, _, _, okG_refuse_wrong_rest T F, T.g_refuse_wrong_rest, F.kp, F.bindsN fun _ _ _ _ _ _ us hl => match us, hl with | [_], _ => rfl⟩
theorem okG_refuse_wrong_number (T : Fx K mg) {fd : FuncData} (F : FunD K drefuse_wrong_number.name drefuse_wrong_number.qual drefuse_wrong_number.params drefuse_wrong_number.body drefuse_wrong_number.scope (drefuse_wrong_number.dvs K) (drefuse_wrong_number.kws K) (He.fAd K drefuse_wrong_number.at_) fd) : FnG P w K mg base 2 (He.fAd K drefuse_wrong_number.at_) fd ["number"] (SpD K (CtrOf V_refuse_wrong_number)) :=
  FnG.den (k := 1) F screfuse_wrong_number rfl fun cd A outer s H hg hr hnd =>
  (SS.cons (S1.ifS (ST.not (ST.val (SE.call (ok_is_whole T) hg (hr.mono (by omega)) rfl (SAr.cons (SE.var 0 rfl (by walk_at "vis")) SAr.nil))))
  (SS.cons S1.no
  SS.nil)
  SS.nil)
  SS.nil)
theorem ok_refuse_wrong_number (T : Fx K mg) : Fn P w K mg base "refuse_wrong_number" 2 (CtrOf V_refuse_wrong_number) := by
  obtain ⟨fd, F⟩ := T.d_refuse_wrong_number
  exact ⟨_, _, _, okG_refuse_wrong_number T F, T.g_refuse_wrong_number, F.kp, F.bindsN fun _ _ _ _ _ _ us hl => match us, hl with | [_], _ => rfl⟩
theorem okG_refuse_wrong_width (T : Fx K mg) {fd : FuncData} (F : FunD K drefuse_wrong_width.name drefuse_wrong_width.qual drefuse_wrong_width.params drefuse_wrong_width.body drefuse_wrong_width.scope (drefuse_wrong_width.dvs K) (drefuse_wrong_width.kws K) (He.fAd K drefuse_wrong_width.at_) fd) : FnG P w K mg base 2 (He.fAd K drefuse_wrong_width.at_) fd ["width"] (SpD K (CtrOf V_refuse_wrong_width)) :=
  FnG.den (k := 1) F screfuse_wrong_width rfl fun cd A outer s H hg hr hnd =>
  (SS.cons (S1.ifS (ST.w (SW.or (ST.not (ST.val (SE.call (ok_is_whole T) hg (hr.mono (by omega)) rfl (SAr.cons (SE.var 0 rfl (by walk_at "vis")) SAr.nil)))) (SW.or1 (ST.not (ST.chain rfl rfl hr.units SE.int (SE.var 0 rfl (by walk_at "vis")) (T.c_MOST_WIDTH rfl))))))
  (SS.cons S1.no
  SS.nil)
  SS.nil)
  SS.nil)
theorem ok_refuse_wrong_width (T : Fx K mg) : Fn P w K mg base "refuse_wrong_width" 2 (CtrOf V_refuse_wrong_width) := by
  obtain ⟨fd, F⟩ := T.d_refuse_wrong_width
  exact ⟨_, _, _, okG_refuse_wrong_width T F, T.g_refuse_wrong_width, F.kp, F.bindsN fun _ _ _ _ _ _ us hl => match us, hl with | [_], _ => rfl⟩
theorem okG_refuse_wrong_guard (T : Fx K mg) {fd : FuncData} (F : FunD K drefuse_wrong_guard.name drefuse_wrong_guard.qual drefuse_wrong_guard.params drefuse_wrong_guard.body drefuse_wrong_guard.scope (drefuse_wrong_guard.dvs K) (drefuse_wrong_guard.kws K) (He.fAd K drefuse_wrong_guard.at_) fd) : FnG P w K mg base 1 (He.fAd K drefuse_wrong_guard.at_) fd ["guard"] (SpD K (CtrOf V_refuse_wrong_guard)) :=
  FnG.den (k := 0) F screfuse_wrong_guard rfl fun cd A outer s H hg hr hnd =>
  (SS.cons (S1.ifS (ST.w (SW.or (ST.not (ST.val (SE.isi rfl T.n_isinstance rfl T.n_str (by decide) (by decide +kernel) (by decide) (by decide) (SE.var 0 rfl (by walk_at "vis"))))) (SW.or1 (ST.nin hr.units (SE.var 0 rfl (by walk_at "vis")) (T.c_COMPARISONS rfl)))))
  (SS.cons S1.no
  SS.nil)
  SS.nil)
  SS.nil)
theorem ok_refuse_wrong_guard (T : Fx K mg) : Fn P w K mg base "refuse_wrong_guard" 1 (CtrOf V_refuse_wrong_guard) := by
  obtain ⟨fd, F⟩ := T.d_refuse_wrong_guard
  exact ⟨_, _, _, okG_refuse_wrong_guard T F, T.g_refuse_wrong_guard, F.kp, F.bindsN fun _ _ _ _ _ _ us hl => match us, hl with | [_], _ => rfl⟩
theorem okG_rest_holds (T : Fx K mg) {fd : FuncData} (F : FunD K drest_holds.name drest_holds.qual drest_holds.params drest_holds.body drest_holds.scope (drest_holds.dvs K) (drest_holds.kws K) (He.fAd K drest_holds.at_) fd) : FnG P w K mg base 4 (He.fAd K drest_holds.at_) fd ["rest", "number"] (SpD K (CtrOf V_rest_holds)) :=
  FnG.den (k := 3) F screst_holds rfl fun cd A outer s H hg hr hnd =>
  (SS.cons (S1.expr (SE.call (ok_refuse_wrong_rest T) hg (hr.mono (by omega)) rfl (SAr.cons (SE.var 0 rfl (by walk_at "vis")) SAr.nil)))
  (SS.cons (S1.expr (SE.call (ok_refuse_wrong_number T) hg (hr.mono (by omega)) rfl (SAr.cons (SE.var 1 rfl (by walk_at "vis")) SAr.nil)))
  (SS.cons (S1.ret (SE.call (ok_residue_holds T) hg (hr.mono (by omega)) rfl (SAr.cons (SE.var 0 rfl (by walk_at "vis")) (SAr.cons (SE.var 1 rfl (by walk_at "vis")) SAr.nil))))
  SS.nil)))
theorem ok_rest_holds (T : Fx K mg) : Fn P w K mg base "rest_holds" 4 (CtrOf V_rest_holds) := by
  obtain ⟨fd, F⟩ := T.d_rest_holds
  exact ⟨_, _, _, okG_rest_holds T F, T.g_rest_holds, F.kp, F.bindsN fun _ _ _ _ _ _ us hl => match us, hl with | [_, _], _ => rfl⟩
theorem okG_refuse_wrong_rests (T : Fx K mg) {fd : FuncData} (F : FunD K drefuse_wrong_rests.name drefuse_wrong_rests.qual drefuse_wrong_rests.params drefuse_wrong_rests.body drefuse_wrong_rests.scope (drefuse_wrong_rests.dvs K) (drefuse_wrong_rests.kws K) (He.fAd K drefuse_wrong_rests.at_) fd) : FnG P w K mg base 4 (He.fAd K drefuse_wrong_rests.at_) fd ["rest", "other"] (SpD K (CtrOf V_refuse_wrong_rests)) :=
  FnG.den (k := 3) F screfuse_wrong_rests rfl fun cd A outer s H hg hr hnd =>
  (SS.cons (S1.expr (SE.call (ok_refuse_wrong_rest T) hg (hr.mono (by omega)) rfl (SAr.cons (SE.var 0 rfl (by walk_at "vis")) SAr.nil)))
  (SS.cons (S1.expr (SE.call (ok_refuse_wrong_rest T) hg (hr.mono (by omega)) rfl (SAr.cons (SE.var 1 rfl (by walk_at "vis")) SAr.nil)))
  SS.nil))
theorem ok_refuse_wrong_rests (T : Fx K mg) : Fn P w K mg base "refuse_wrong_rests" 4 (CtrOf V_refuse_wrong_rests) := by
  obtain ⟨fd, F⟩ := T.d_refuse_wrong_rests
  exact ⟨_, _, _, okG_refuse_wrong_rests T F, T.g_refuse_wrong_rests, F.kp, F.bindsN fun _ _ _ _ _ _ us hl => match us, hl with | [_, _], _ => rfl⟩
theorem okG_rest_quotient (T : Fx K mg) {fd : FuncData} (F : FunD K drest_quotient.name drest_quotient.qual drest_quotient.params drest_quotient.body drest_quotient.scope (drest_quotient.dvs K) (drest_quotient.kws K) (He.fAd K drest_quotient.at_) fd) : FnG P w K mg base 5 (He.fAd K drest_quotient.at_) fd ["rest", "other"] (SpD K (CtrOf V_rest_quotient)) :=
  FnG.den (k := 4) F screst_quotient rfl fun cd A outer s H hg hr hnd =>
  (SS.cons (S1.expr (SE.call (ok_refuse_wrong_rests T) hg (hr.mono (by omega)) rfl (SAr.cons (SE.var 0 rfl (by walk_at "vis")) (SAr.cons (SE.var 1 rfl (by walk_at "vis")) SAr.nil))))
  (SS.cons (S1.ret (SE.call (ok_residue_quotient T) hg (hr.mono (by omega)) rfl (SAr.cons (SE.var 0 rfl (by walk_at "vis")) (SAr.cons (SE.var 1 rfl (by walk_at "vis")) SAr.nil))))
  SS.nil))
theorem ok_rest_quotient (T : Fx K mg) : Fn P w K mg base "rest_quotient" 5 (CtrOf V_rest_quotient) := by
  obtain ⟨fd, F⟩ := T.d_rest_quotient
  exact ⟨_, _, _, okG_rest_quotient T F, T.g_rest_quotient, F.kp, F.bindsN fun _ _ _ _ _ _ us hl => match us, hl with | [_, _], _ => rfl⟩
theorem okG_rest_modulo (T : Fx K mg) {fd : FuncData} (F : FunD K drest_modulo.name drest_modulo.qual drest_modulo.params drest_modulo.body drest_modulo.scope (drest_modulo.dvs K) (drest_modulo.kws K) (He.fAd K drest_modulo.at_) fd) : FnG P w K mg base 5 (He.fAd K drest_modulo.at_) fd ["rest", "other"] (SpD K (CtrOf V_rest_modulo)) :=
  FnG.den (k := 4) F screst_modulo rfl fun cd A outer s H hg hr hnd =>
  (SS.cons (S1.expr (SE.call (ok_refuse_wrong_rests T) hg (hr.mono (by omega)) rfl (SAr.cons (SE.var 0 rfl (by walk_at "vis")) (SAr.cons (SE.var 1 rfl (by walk_at "vis")) SAr.nil))))
  (SS.cons (S1.ret (SE.call (ok_residue_modulo T) hg (hr.mono (by omega)) rfl (SAr.cons (SE.var 0 rfl (by walk_at "vis")) (SAr.cons (SE.var 1 rfl (by walk_at "vis")) SAr.nil))))
  SS.nil))
theorem ok_rest_modulo (T : Fx K mg) : Fn P w K mg base "rest_modulo" 5 (CtrOf V_rest_modulo) := by
  obtain ⟨fd, F⟩ := T.d_rest_modulo
  exact ⟨_, _, _, okG_rest_modulo T F, T.g_rest_modulo, F.kp, F.bindsN fun _ _ _ _ _ _ us hl => match us, hl with | [_, _], _ => rfl⟩
theorem okG_rest_wrapped (T : Fx K mg) {fd : FuncData} (F : FunD K drest_wrapped.name drest_wrapped.qual drest_wrapped.params drest_wrapped.body drest_wrapped.scope (drest_wrapped.dvs K) (drest_wrapped.kws K) (He.fAd K drest_wrapped.at_) fd) : FnG P w K mg base 4 (He.fAd K drest_wrapped.at_) fd ["rest", "width"] (SpD K (CtrOf V_rest_wrapped)) :=
  FnG.den (k := 3) F screst_wrapped rfl fun cd A outer s H hg hr hnd =>
  (SS.cons (S1.expr (SE.call (ok_refuse_wrong_rest T) hg (hr.mono (by omega)) rfl (SAr.cons (SE.var 0 rfl (by walk_at "vis")) SAr.nil)))
  (SS.cons (S1.expr (SE.call (ok_refuse_wrong_width T) hg (hr.mono (by omega)) rfl (SAr.cons (SE.var 1 rfl (by walk_at "vis")) SAr.nil)))
  (SS.cons (S1.ret (SE.call (ok_residue_wrapped T) hg (hr.mono (by omega)) rfl (SAr.cons (SE.var 0 rfl (by walk_at "vis")) (SAr.cons (SE.var 1 rfl (by walk_at "vis")) SAr.nil))))
  SS.nil)))
theorem ok_rest_wrapped (T : Fx K mg) : Fn P w K mg base "rest_wrapped" 4 (CtrOf V_rest_wrapped) := by
  obtain ⟨fd, F⟩ := T.d_rest_wrapped
  exact ⟨_, _, _, okG_rest_wrapped T F, T.g_rest_wrapped, F.kp, F.bindsN fun _ _ _ _ _ _ us hl => match us, hl with | [_, _], _ => rfl⟩
theorem okG_rest_guarded (T : Fx K mg) {fd : FuncData} (F : FunD K drest_guarded.name drest_guarded.qual drest_guarded.params drest_guarded.body drest_guarded.scope (drest_guarded.dvs K) (drest_guarded.kws K) (He.fAd K drest_guarded.at_) fd) : FnG P w K mg base 5 (He.fAd K drest_guarded.at_) fd ["guard", "rest", "other"] (SpD K (CtrOf V_rest_guarded)) :=
  FnG.den (k := 4) F screst_guarded rfl fun cd A outer s H hg hr hnd =>
  (SS.cons (S1.expr (SE.call (ok_refuse_wrong_guard T) hg (hr.mono (by omega)) rfl (SAr.cons (SE.var 0 rfl (by walk_at "vis")) SAr.nil)))
  (SS.cons (S1.expr (SE.call (ok_refuse_wrong_rests T) hg (hr.mono (by omega)) rfl (SAr.cons (SE.var 1 rfl (by walk_at "vis")) (SAr.cons (SE.var 2 rfl (by walk_at "vis")) SAr.nil))))
  (SS.cons (S1.ret (SE.call (ok_residue_guarded T) hg (hr.mono (by omega)) rfl (SAr.cons (SE.var 0 rfl (by walk_at "vis")) (SAr.cons (SE.var 1 rfl (by walk_at "vis")) (SAr.cons (SE.var 2 rfl (by walk_at "vis")) SAr.nil)))))
  SS.nil)))
theorem ok_rest_guarded (T : Fx K mg) : Fn P w K mg base "rest_guarded" 5 (CtrOf V_rest_guarded) := by
  obtain ⟨fd, F⟩ := T.d_rest_guarded
  exact ⟨_, _, _, okG_rest_guarded T F, T.g_rest_guarded, F.kp, F.bindsN fun _ _ _ _ _ _ us hl => match us, hl with | [_, _, _], _ => rfl⟩
theorem okG_l_source (T : Fx K mg) {fd : FuncData} (F : FunD K dl_source.name dl_source.qual dl_source.params dl_source.body dl_source.scope (dl_source.dvs K) (dl_source.kws K) (He.fAd K dl_source.at_) fd) : FnG P w K mg base 1 (He.fAd K dl_source.at_) fd ["_law_script", "_law_turn"] (SpD K (CtrOf V_l_source)) :=
  FnG.den (k := 0) F scl_source rfl fun cd A outer s H hg hr hnd =>
  (SS.cons (S1.set 2 hnd rfl (by walk_at "loc") (by walk_at "loc") (SE.add SE.int (SE.mul SE.int (SE.var 1 rfl (by walk_at "vis")))))
  (SS.cons (S1.for_ PassesOwn.never rfl (SI.seq (SE.slice (SE.var 0 rfl (by walk_at "vis")) spN (spS SE.int))) (SG.name 3 hnd rfl (by walk_at "loc") (by walk_at "loc"))
  (SS.cons (S1.set 2 hnd rfl (by walk_at "loc") (by walk_at "loc") (SE.mod (SE.toInt rfl T.n_int (SAr.cons (SE.add (SE.add (SE.mul (SE.var 2 rfl (by walk_at "vis")) SE.int) (SE.mod (SE.toInt rfl T.n_int (SAr.cons (SE.var 3 rfl (by walk_at "vis")) SAr.nil)) SE.int)) SE.int) SAr.nil)) SE.int))
  SS.nil))
  (SS.cons (S1.set 4 hnd rfl (by walk_at "loc") (by walk_at "loc") (SE.ifE (ST.cmp rfl hr.units (SE.var 1 rfl (by walk_at "vis")) (SE.len rfl T.n_len (SAr.cons (SE.var 0 rfl (by walk_at "vis")) SAr.nil))) (SE.toInt rfl T.n_int (SAr.cons (SE.ix (SE.var 0 rfl (by walk_at "vis")) (SE.var 1 rfl (by walk_at "vis"))) SAr.nil)) SE.int))
  (SS.cons (S1.set 2 hnd rfl (by walk_at "loc") (by walk_at "loc") (SE.mod (SE.toInt rfl T.n_int (SAr.cons (SE.add (SE.add (SE.mul (SE.var 2 rfl (by walk_at "vis")) SE.int) (SE.mul (SE.mod (SE.toInt rfl T.n_int (SAr.cons (SE.var 4 rfl (by walk_at "vis")) SAr.nil)) SE.int) SE.int)) SE.int) SAr.nil)) SE.int))
  (SS.cons (S1.ret (SE.lstM (SAr.cons (SE.ifE (ST.w (SW.or (ST.cmp rfl hr.units (SE.var 4 rfl (by walk_at "vis")) SE.int) (SW.or1 (ST.cmp rfl hr.units (SE.var 4 rfl (by walk_at "vis")) (SE.pow SE.int SE.int))))) (SE.abs rfl T.n_abs (SAr.cons (SE.var 4 rfl (by walk_at "vis")) SAr.nil)) SE.int) (SAr.cons (SE.var 2 rfl (by walk_at "vis")) (SAr.cons SE.int SAr.nil)))))
  SS.nil)))))
theorem ok_l_source (T : Fx K mg) : Fn P w K mg base "_law_source" 1 (CtrOf V_l_source) := by
  obtain ⟨fd, F⟩ := T.d_l_source
  exact ⟨_, _, _, okG_l_source T F, T.g_l_source, F.kp, F.bindsN fun _ _ _ _ _ _ us hl => match us, hl with | [_, _], _ => rfl⟩
theorem okG_l_take (T : Fx K mg) {fd : FuncData} (F : FunD K dl_take.name dl_take.qual dl_take.params dl_take.body dl_take.scope (dl_take.dvs K) (dl_take.kws K) (He.fAd K dl_take.at_) fd) : FnG P w K mg base 1 (He.fAd K dl_take.at_) fd ["_law_source_here", "_law_many"] (SpD K (CtrOf V_l_take)) :=
  FnG.den (k := 0) F scl_take rfl fun cd A outer s H hg hr hnd =>
  (SS.cons (S1.ifS (ST.cmp rfl hr.units (SE.ix (SE.var 0 rfl (by walk_at "vis")) SE.int) SE.int)
  (SS.cons (S1.asg (SE.divmod rfl T.n_divmod (SAr.cons (SE.ix (SE.var 0 rfl (by walk_at "vis")) SE.int) (SAr.cons (SE.var 1 rfl (by walk_at "vis")) SAr.nil))) (SG.tup (n := 2) rfl (SGs.cons (SG.sub (SE.var 0 rfl (by walk_at "vis")) SE.int) (SGs.cons (SG.name 2 hnd rfl (by walk_at "loc") (by walk_at "loc")) SGs.nil))))
  (SS.cons (S1.ret (SE.var 2 rfl (by walk_at "vis")))
  SS.nil))
  SS.nil)
  (SS.cons (S1.asg (SE.add (SE.ix (SE.var 0 rfl (by walk_at "vis")) SE.int) SE.int) (SG.sub (SE.var 0 rfl (by walk_at "vis")) SE.int))
  (SS.cons (S1.set 3 hnd rfl (by walk_at "loc") (by walk_at "loc") (SE.mod (SE.toInt rfl T.n_int (SAr.cons (SE.add (SE.ix (SE.var 0 rfl (by walk_at "vis")) SE.int) (SE.mul SE.int (SE.ix (SE.var 0 rfl (by walk_at "vis")) SE.int))) SAr.nil)) SE.int))
  (SS.cons (S1.asg (SE.mod (SE.toInt rfl T.n_int (SAr.cons (SE.add (SE.mul (SE.var 3 rfl (by walk_at "vis")) (SE.add (SE.mod (SE.toInt rfl T.n_int (SAr.cons (SE.var 3 rfl (by walk_at "vis")) SAr.nil)) SE.int) SE.int)) (SE.mul SE.int (SE.ix (SE.var 0 rfl (by walk_at "vis")) SE.int))) SAr.nil)) SE.int) (SG.sub (SE.var 0 rfl (by walk_at "vis")) SE.int))
  (SS.cons (S1.ret (SE.mod (SE.toInt rfl T.n_int (SAr.cons (SE.fdiv (SE.ix (SE.var 0 rfl (by walk_at "vis")) SE.int) SE.int) SAr.nil)) (SE.var 1 rfl (by walk_at "vis"))))
  SS.nil)))))
theorem ok_l_take (T : Fx K mg) : Fn P w K mg base "_law_take" 1 (CtrOf V_l_take) := by
  obtain ⟨fd, F⟩ := T.d_l_take
  exact ⟨_, _, _, okG_l_take T F, T.g_l_take, F.kp, F.bindsN fun _ _ _ _ _ _ us hl => match us, hl with | [_, _], _ => rfl⟩
theorem okG_l_pick (T : Fx K mg) {fd : FuncData} (F : FunD K dl_pick.name dl_pick.qual dl_pick.params dl_pick.body dl_pick.scope (dl_pick.dvs K) (dl_pick.kws K) (He.fAd K dl_pick.at_) fd) : FnG P w K mg base 2 (He.fAd K dl_pick.at_) fd ["_law_source_here", "_law_some"] (SpD K (CtrOf V_l_pick)) :=
  FnG.den (k := 1) F scl_pick rfl fun cd A outer s H hg hr hnd =>
  (SS.cons (S1.ret (SE.ix (SE.var 1 rfl (by walk_at "vis")) (SE.call (ok_l_take T) hg (hr.mono (by omega)) rfl (SAr.cons (SE.var 0 rfl (by walk_at "vis")) (SAr.cons (SE.len rfl T.n_len (SAr.cons (SE.var 1 rfl (by walk_at "vis")) SAr.nil)) SAr.nil)))))
  SS.nil)
theorem ok_l_pick (T : Fx K mg) : Fn P w K mg base "_law_pick" 2 (CtrOf V_l_pick) := by
  obtain ⟨fd, F⟩ := T.d_l_pick
  exact ⟨_, _, _, okG_l_pick T F, T.g_l_pick, F.kp, F.bindsN fun _ _ _ _ _ _ us hl => match us, hl with | [_, _], _ => rfl⟩
theorem okG_l_great (T : Fx K mg) {fd : FuncData} (F : FunD K dl_great.name dl_great.qual dl_great.params dl_great.body dl_great.scope (dl_great.dvs K) (dl_great.kws K) (He.fAd K dl_great.at_) fd) : FnG P w K mg base 2 (He.fAd K dl_great.at_) fd ["_law_source_here"] (SpD K (CtrOf V_l_great)) :=
  FnG.den (k := 1) F scl_great rfl fun cd A outer s H hg hr hnd =>
  (SS.cons (S1.set 1 hnd rfl (by walk_at "loc") (by walk_at "loc") SE.int)
  (SS.cons (S1.for_ PassesOwn.never rfl (SI.range1 rfl T.n_range (SAr.cons SE.int SAr.nil)) (SG.name 2 hnd rfl (by walk_at "loc") (by walk_at "loc"))
  (SS.cons (S1.set 1 hnd rfl (by walk_at "loc") (by walk_at "loc") (SE.add (SE.mul (SE.var 1 rfl (by walk_at "vis")) SE.int) (SE.call (ok_l_take T) hg (hr.mono (by omega)) rfl (SAr.cons (SE.var 0 rfl (by walk_at "vis")) (SAr.cons SE.int SAr.nil)))))
  SS.nil))
  (SS.cons (S1.ret (SE.var 1 rfl (by walk_at "vis")))
  SS.nil)))
theorem ok_l_great (T : Fx K mg) : Fn P w K mg base "_law_great" 2 (CtrOf V_l_great) := by
  obtain ⟨fd, F⟩ := T.d_l_great
  exact ⟨_, _, _, okG_l_great T F, T.g_l_great, F.kp, F.bindsN fun _ _ _ _ _ _ us hl => match us, hl with | [_], _ => rfl⟩
theorem okG_l_number (T : Fx K mg) {fd : FuncData} (F : FunD K dl_number.name dl_number.qual dl_number.params dl_number.body dl_number.scope (dl_number.dvs K) (dl_number.kws K) (He.fAd K dl_number.at_) fd) : FnG P w K mg base 3 (He.fAd K dl_number.at_) fd ["_law_source_here"] (SpD K (CtrOf V_l_number)) :=
  FnG.den (k := 2) F scl_number rfl fun cd A outer s H hg hr hnd =>
  (SS.cons (S1.set 1 hnd rfl (by walk_at "loc") (by walk_at "loc") (SE.call (ok_l_take T) hg (hr.mono (by omega)) rfl (SAr.cons (SE.var 0 rfl (by walk_at "vis")) (SAr.cons SE.int SAr.nil))))
  (SS.cons (S1.ifS (ST.cmp rfl hr.units (SE.var 1 rfl (by walk_at "vis")) SE.int)
  (SS.cons (S1.ret (SE.sub (SE.call (ok_l_take T) hg (hr.mono (by omega)) rfl (SAr.cons (SE.var 0 rfl (by walk_at "vis")) (SAr.cons SE.int SAr.nil))) SE.int))
  SS.nil)
  SS.nil)
  (SS.cons (S1.ifS (ST.cmp rfl hr.units (SE.var 1 rfl (by walk_at "vis")) SE.int)
  (SS.cons (S1.ret (SE.sub (SE.call (ok_l_take T) hg (hr.mono (by omega)) rfl (SAr.cons (SE.var 0 rfl (by walk_at "vis")) (SAr.cons SE.int SAr.nil))) SE.int))
  SS.nil)
  SS.nil)
  (SS.cons (S1.ifS (ST.cmp rfl hr.units (SE.var 1 rfl (by walk_at "vis")) SE.int)
  (SS.cons (S1.ret (SE.sub (SE.call (ok_l_take T) hg (hr.mono (by omega)) rfl (SAr.cons (SE.var 0 rfl (by walk_at "vis")) (SAr.cons SE.int SAr.nil))) SE.int))
  SS.nil)
  SS.nil)
  (SS.cons (S1.set 2 hnd rfl (by walk_at "loc") (by walk_at "loc") (SE.call (ok_l_great T) hg (hr.mono (by omega)) rfl (SAr.cons (SE.var 0 rfl (by walk_at "vis")) SAr.nil)))
  (SS.cons (S1.ret (SE.ifE (ST.cmp rfl hr.units (SE.call (ok_l_take T) hg (hr.mono (by omega)) rfl (SAr.cons (SE.var 0 rfl (by walk_at "vis")) (SAr.cons SE.int SAr.nil))) SE.int) (SE.var 2 rfl (by walk_at "vis")) (SE.sub SE.int (SE.var 2 rfl (by walk_at "vis")))))
  SS.nil))))))
theorem ok_l_number (T : Fx K mg) : Fn P w K mg base "_law_number" 3 (CtrOf V_l_number) := by
  obtain ⟨fd, F⟩ := T.d_l_number
  exact ⟨_, _, _, okG_l_number T F, T.g_l_number, F.kp, F.bindsN fun _ _ _ _ _ _ us hl => match us, hl with | [_], _ => rfl⟩
theorem okG_l_part (T : Fx K mg) {fd : FuncData} (F : FunD K dl_part.name dl_part.qual dl_part.params dl_part.body dl_part.scope (dl_part.dvs K) (dl_part.kws K) (He.fAd K dl_part.at_) fd) : FnG P w K mg base 3 (He.fAd K dl_part.at_) fd ["_law_source_here"] (SpD K (CtrOf V_l_part)) :=
  FnG.den (k := 2) F scl_part rfl fun cd A outer s H hg hr hnd =>
  (SS.cons (S1.set 1 hnd rfl (by walk_at "loc") (by walk_at "loc") (SE.call (ok_l_pick T) hg (hr.mono (by omega)) rfl (SAr.cons (SE.var 0 rfl (by walk_at "vis")) (SAr.cons (SE.tup (SAr.cons SE.int (SAr.cons SE.int (SAr.cons SE.int (SAr.cons SE.int (SAr.cons SE.int (SAr.cons SE.int (SAr.cons SE.int (SAr.cons SE.int (SAr.cons SE.int (SAr.cons SE.int SAr.nil))))))))))) SAr.nil))))
  (SS.cons (S1.set 2 hnd rfl (by walk_at "loc") (by walk_at "loc") (SE.call (ok_l_pick T) hg (hr.mono (by omega)) rfl (SAr.cons (SE.var 0 rfl (by walk_at "vis")) (SAr.cons (SE.tup (SAr.cons SE.int (SAr.cons SE.int (SAr.cons SE.int (SAr.cons SE.int SAr.nil))))) SAr.nil))))
  (SS.cons (S1.ret (SE.mul (SE.mul (SE.mul (SE.var 1 rfl (by walk_at "vis")) (SE.var 2 rfl (by walk_at "vis"))) (SE.call (ok_l_pick T) hg (hr.mono (by omega)) rfl (SAr.cons (SE.var 0 rfl (by walk_at "vis")) (SAr.cons (SE.tup (SAr.cons SE.int (SAr.cons SE.int (SAr.cons SE.int (SAr.cons SE.int SAr.nil))))) SAr.nil)))) (SE.call (ok_l_pick T) hg (hr.mono (by omega)) rfl (SAr.cons (SE.var 0 rfl (by walk_at "vis")) (SAr.cons (SE.tup (SAr.cons SE.int (SAr.cons SE.int (SAr.cons SE.int (SAr.cons SE.int SAr.nil))))) SAr.nil)))))
  SS.nil)))
theorem ok_l_part (T : Fx K mg) : Fn P w K mg base "_law_part" 3 (CtrOf V_l_part) := by
  obtain ⟨fd, F⟩ := T.d_l_part
  exact ⟨_, _, _, okG_l_part T F, T.g_l_part, F.kp, F.bindsN fun _ _ _ _ _ _ us hl => match us, hl with | [_], _ => rfl⟩
theorem okG_l_rest (T : Fx K mg) {fd : FuncData} (F : FunD K dl_rest.name dl_rest.qual dl_rest.params dl_rest.body dl_rest.scope (dl_rest.dvs K) (dl_rest.kws K) (He.fAd K dl_rest.at_) fd) : FnG P w K mg base 4 (He.fAd K dl_rest.at_) fd ["_law_source_here"] (SpD K (CtrOf V_l_rest)) :=
  FnG.den (k := 3) F scl_rest rfl fun cd A outer s H hg hr hnd =>
  (SS.cons (S1.set 1 hnd rfl (by walk_at "loc") (by walk_at "loc") (SE.call (ok_l_take T) hg (hr.mono (by omega)) rfl (SAr.cons (SE.var 0 rfl (by walk_at "vis")) (SAr.cons SE.int SAr.nil))))
  (SS.cons (S1.ifS (ST.cmp rfl hr.units (SE.var 1 rfl (by walk_at "vis")) SE.int)
  (SS.cons (S1.ret (SE.ifE (ST.cmp rfl hr.units (SE.var 1 rfl (by walk_at "vis")) SE.int) (SE.tup SAr.nil) (SE.tup (SAr.cons (SE.call (ok_l_number T) hg (hr.mono (by omega)) rfl (SAr.cons (SE.var 0 rfl (by walk_at "vis")) SAr.nil)) (SAr.cons SE.int SAr.nil)))))
  SS.nil)
  SS.nil)
  (SS.cons (S1.set 2 hnd rfl (by walk_at "loc") (by walk_at "loc") (SE.call (ok_l_part T) hg (hr.mono (by omega)) rfl (SAr.cons (SE.var 0 rfl (by walk_at "vis")) SAr.nil)))
  (SS.cons (S1.ret (SE.tup (SAr.cons (SE.call (ok_l_take T) hg (hr.mono (by omega)) rfl (SAr.cons (SE.var 0 rfl (by walk_at "vis")) (SAr.cons (SE.var 2 rfl (by walk_at "vis")) SAr.nil))) (SAr.cons (SE.var 2 rfl (by walk_at "vis")) SAr.nil))))
  SS.nil))))
theorem ok_l_rest (T : Fx K mg) : Fn P w K mg base "_law_rest" 4 (CtrOf V_l_rest) := by
  obtain ⟨fd, F⟩ := T.d_l_rest
  exact ⟨_, _, _, okG_l_rest T F, T.g_l_rest, F.kp, F.bindsN fun _ _ _ _ _ _ us hl => match us, hl with | [_], _ => rfl⟩
theorem okG_l_rest_near (T : Fx K mg) {fd : FuncData} (F : FunD K dl_rest_near.name dl_rest_near.qual dl_rest_near.params dl_rest_near.body dl_rest_near.scope (dl_rest_near.dvs K) (dl_rest_near.kws K) (He.fAd K dl_rest_near.at_) fd) : FnG P w K mg base 5 (He.fAd K dl_rest_near.at_) fd ["_law_source_here", "_law_one"] (SpD K (CtrOf V_l_rest_near)) :=
  FnG.den (k := 4) F scl_rest_near rfl fun cd A outer s H hg hr hnd =>
  (SS.cons (S1.ifS (ST.w (SW.or (ST.cmp rfl hr.units (SE.var 1 rfl (by walk_at "vis")) (SE.tup SAr.nil)) (SW.or1 (ST.cmp rfl hr.units (SE.call (ok_l_take T) hg (hr.mono (by omega)) rfl (SAr.cons (SE.var 0 rfl (by walk_at "vis")) (SAr.cons SE.int SAr.nil))) SE.int))))
  (SS.cons (S1.ret (SE.call (ok_l_rest T) hg (hr.mono (by omega)) rfl (SAr.cons (SE.var 0 rfl (by walk_at "vis")) SAr.nil)))
  SS.nil)
  SS.nil)
  (SS.cons (S1.set 2 hnd rfl (by walk_at "loc") (by walk_at "loc") (SE.add (SE.add (SE.ix (SE.var 1 rfl (by walk_at "vis")) SE.int) (SE.mul (SE.ix (SE.var 1 rfl (by walk_at "vis")) SE.int) (SE.sub (SE.call (ok_l_take T) hg (hr.mono (by omega)) rfl (SAr.cons (SE.var 0 rfl (by walk_at "vis")) (SAr.cons SE.int SAr.nil))) SE.int))) (SE.call (ok_l_pick T) hg (hr.mono (by omega)) rfl (SAr.cons (SE.var 0 rfl (by walk_at "vis")) (SAr.cons (SE.tup (SAr.cons SE.int (SAr.cons SE.int (SAr.cons SE.int (SAr.cons SE.int (SAr.cons (SE.fdiv (SE.ix (SE.var 1 rfl (by walk_at "vis")) SE.int) SE.int) SAr.nil)))))) SAr.nil)))))
  (SS.cons (S1.ifS (ST.cmp rfl hr.units (SE.call (ok_l_take T) hg (hr.mono (by omega)) rfl (SAr.cons (SE.var 0 rfl (by walk_at "vis")) (SAr.cons SE.int SAr.nil))) SE.int)
  (SS.cons (S1.ret (SE.tup (SAr.cons (SE.var 2 rfl (by walk_at "vis")) (SAr.cons SE.int SAr.nil))))
  SS.nil)
  SS.nil)
  (SS.cons (S1.set 3 hnd rfl (by walk_at "loc") (by walk_at "loc") (SE.call (ok_l_part T) hg (hr.mono (by omega)) rfl (SAr.cons (SE.var 0 rfl (by walk_at "vis")) SAr.nil)))
  (SS.cons (S1.ret (SE.tup (SAr.cons (SE.mod (SE.toInt rfl T.n_int (SAr.cons (SE.var 2 rfl (by walk_at "vis")) SAr.nil)) (SE.var 3 rfl (by walk_at "vis"))) (SAr.cons (SE.var 3 rfl (by walk_at "vis")) SAr.nil))))
  SS.nil)))))
theorem ok_l_rest_near (T : Fx K mg) : Fn P w K mg base "_law_rest_near" 5 (CtrOf V_l_rest_near) := by
  obtain ⟨fd, F⟩ := T.d_l_rest_near
  exact ⟨_, _, _, okG_l_rest_near T F, T.g_l_rest_near, F.kp, F.bindsN fun _ _ _ _ _ _ us hl => match us, hl with | [_, _], _ => rfl⟩
theorem okG_l_rest_some (T : Fx K mg) {fd : FuncData} (F : FunD K dl_rest_some.name dl_rest_some.qual dl_rest_some.params dl_rest_some.body dl_rest_some.scope (dl_rest_some.dvs K) (dl_rest_some.kws K) (He.fAd K dl_rest_some.at_) fd) : FnG P w K mg base 4 (He.fAd K dl_rest_some.at_) fd ["_law_source_here", "_law_one"] (SpD K (CtrOf V_l_rest_some)) :=
  FnG.den (k := 3) F scl_rest_some rfl fun cd A outer s H hg hr hnd =>
  (SS.cons (S1.ret (SE.add (SE.ix (SE.var 1 rfl (by walk_at "vis")) SE.int) (SE.mul (SE.ix (SE.var 1 rfl (by walk_at "vis")) SE.int) (SE.call (ok_l_number T) hg (hr.mono (by omega)) rfl (SAr.cons (SE.var 0 rfl (by walk_at "vis")) SAr.nil)))))
  SS.nil)
theorem ok_l_rest_some (T : Fx K mg) : Fn P w K mg base "_law_rest_some" 4 (CtrOf V_l_rest_some) := by
  obtain ⟨fd, F⟩ := T.d_l_rest_some
  exact ⟨_, _, _, okG_l_rest_some T F, T.g_l_rest_some, F.kp, F.bindsN fun _ _ _ _ _ _ us hl => match us, hl with | [_, _], _ => rfl⟩
theorem okG_l_is_whole (T : Fx K mg) {fd : FuncData} (F : FunD K dl_is_whole.name dl_is_whole.qual dl_is_whole.params dl_is_whole.body dl_is_whole.scope (dl_is_whole.dvs K) (dl_is_whole.kws K) (He.fAd K dl_is_whole.at_) fd) : FnG P w K mg base 1 (He.fAd K dl_is_whole.at_) fd ["_law_thing"] (SpD K (CtrOf V_l_is_whole)) :=
  FnG.den (k := 0) F scl_is_whole rfl fun cd A outer s H hg hr hnd =>
  (SS.cons (S1.ret (SE.and (SE.isi rfl T.n_isinstance rfl T.n_int (by decide) (by decide +kernel) (by decide) (by decide) (SE.var 0 rfl (by walk_at "vis"))) (SE.one (SE.not (SE.isi rfl T.n_isinstance rfl T.n_bool (by decide) (by decide +kernel) (by decide) (by decide) (SE.var 0 rfl (by walk_at "vis")))))))
  SS.nil)
theorem ok_l_is_whole (T : Fx K mg) : Fn P w K mg base "_law_is_whole" 1 (CtrOf V_l_is_whole) := by
  obtain ⟨fd, F⟩ := T.d_l_is_whole
  exact ⟨_, _, _, okG_l_is_whole T F, T.g_l_is_whole, F.kp, F.bindsN fun _ _ _ _ _ _ us hl => match us, hl with | [_], _ => rfl⟩
theorem ok_l_same (T : Fx K mg) : ∀ n, Fn P w K mg base "_law_same" (n + 2) (CtrOf (V_l_same n))
  | 0 => by
    obtain ⟨fd, F⟩ := T.d_l_same
    exact Fn.mono (Fn.den (k := 0) F scl_same T.g_l_same rfl (fun _ _ _ _ _ _ us hl => match us, hl with | [_, _], _ => rfl) fun _ _ _ _ _ _ _ _ => SS.no) (by omega)
  | n + 1 => by
    obtain ⟨fd, F⟩ := T.d_l_same
    have ih := ok_l_same T n
    exact Fn.mono (Fn.den (k := n + 2) F scl_same T.g_l_same rfl (fun _ _ _ _ _ _ us hl => match us, hl with | [_, _], _ => rfl) fun cd A outer s H hg hr hnd =>
  (SS.cons (S1.ifS (ST.val (SE.isi rfl T.n_isinstance rfl T.n_tuple (by decide) (by decide +kernel) (by decide) (by decide) (SE.var 1 rfl (by walk_at "vis"))))
  (SS.cons (S1.ifS (ST.w (SW.or (ST.not (ST.val (SE.isi rfl T.n_isinstance rfl T.n_tuple (by decide) (by decide +kernel) (by decide) (by decide) (SE.var 0 rfl (by walk_at "vis"))))) (SW.or1 (ST.cmp rfl hr.units (SE.len rfl T.n_len (SAr.cons (SE.var 0 rfl (by walk_at "vis")) SAr.nil)) (SE.len rfl T.n_len (SAr.cons (SE.var 1 rfl (by walk_at "vis")) SAr.nil))))))
  (SS.cons (S1.ret SE.bl)
  SS.nil)
  SS.nil)
  (SS.cons (S1.ret (SE.all rfl rfl T.n_all (SAr.cons (SE.lc2 2 3 (by decide) rfl hnd rfl rfl (blkOk_by (by kernel_rfl)) (fun _ _ _ _ _ => rfl) (fun _ _ _ _ _ => ⟨by walk_at "loc", by walk_at "loc"⟩) (fun _ _ _ _ _ => ⟨by walk_at "loc", by walk_at "loc"⟩) (SI.zip rfl T.n_zip (SAr.cons (SE.var 0 rfl (by walk_at "vis")) (SAr.cons (SE.var 1 rfl (by walk_at "vis")) SAr.nil))) (fun _ _ _ _ _ => (SE.call ih hg (hr.mono (by omega)) rfl (SAr.cons (SE.var 2 rfl (by walk_at "vis")) (SAr.cons (SE.var 3 rfl (by walk_at "vis")) SAr.nil))))) SAr.nil)))
  SS.nil))
  SS.nil)
  (SS.cons (S1.ifS (ST.w (SW.or (ST.cmp rfl hr.units (SE.var 1 rfl (by walk_at "vis")) SE.non) (SW.or1 (ST.cmp rfl hr.units (SE.var 0 rfl (by walk_at "vis")) SE.non))))
  (SS.cons (S1.ret (SE.and (SE.cmp rfl hr.units (SE.var 1 rfl (by walk_at "vis")) SE.non) (SE.one (SE.cmp rfl hr.units (SE.var 0 rfl (by walk_at "vis")) SE.non))))
  SS.nil)
  SS.nil)
  (SS.cons (S1.ifS (ST.w (SW.or (ST.val (SE.isi rfl T.n_isinstance rfl T.n_bool (by decide) (by decide +kernel) (by decide) (by decide) (SE.var 1 rfl (by walk_at "vis")))) (SW.or1 (ST.val (SE.isi rfl T.n_isinstance rfl T.n_bool (by decide) (by decide +kernel) (by decide) (by decide) (SE.var 0 rfl (by walk_at "vis")))))))
  (SS.cons (S1.ret (SE.and (SE.isi rfl T.n_isinstance rfl T.n_bool (by decide) (by decide +kernel) (by decide) (by decide) (SE.var 1 rfl (by walk_at "vis"))) (SE.and (SE.isi rfl T.n_isinstance rfl T.n_bool (by decide) (by decide +kernel) (by decide) (by decide) (SE.var 0 rfl (by walk_at "vis"))) (SE.one (SE.cmp rfl hr.units (SE.var 0 rfl (by walk_at "vis")) (SE.var 1 rfl (by walk_at "vis")))))))
  SS.nil)
  SS.nil)
  (SS.cons (S1.ret (SE.and (SE.call (ok_l_is_whole T) hg (hr.mono (by omega)) rfl (SAr.cons (SE.var 0 rfl (by walk_at "vis")) SAr.nil)) (SE.one (SE.cmp rfl hr.units (SE.var 0 rfl (by walk_at "vis")) (SE.var 1 rfl (by walk_at "vis"))))))
  SS.nil))))) (by omega)
theorem okG_l_rest_has (T : Fx K mg) {fd : FuncData} (F : FunD K dl_rest_has.name dl_rest_has.qual dl_rest_has.params dl_rest_has.body dl_rest_has.scope (dl_rest_has.dvs K) (dl_rest_has.kws K) (He.fAd K dl_rest_has.at_) fd) : FnG P w K mg base 1 (He.fAd K dl_rest_has.at_) fd ["_law_one", "_law_count"] (SpD K (CtrOf V_l_rest_has)) :=
  FnG.den (k := 0) F scl_rest_has rfl fun cd A outer s H hg hr hnd =>
  (SS.cons (S1.ret (SE.and (SE.cmp rfl hr.units (SE.var 0 rfl (by walk_at "vis")) (SE.tup SAr.nil)) (SE.one (SE.ifE (ST.cmp rfl hr.units (SE.ix (SE.var 0 rfl (by walk_at "vis")) SE.int) SE.int) (SE.cmp rfl hr.units (SE.ix (SE.var 0 rfl (by walk_at "vis")) SE.int) (SE.var 1 rfl (by walk_at "vis"))) (SE.cmp rfl hr.units (SE.mod (SE.toInt rfl T.n_int (SAr.cons (SE.var 1 rfl (by walk_at "vis")) SAr.nil)) (SE.ix (SE.var 0 rfl (by walk_at "vis")) SE.int)) (SE.ix (SE.var 0 rfl (by walk_at "vis")) SE.int))))))
  SS.nil)
theorem ok_l_rest_has (T : Fx K mg) : Fn P w K mg base "_law_rest_has" 1 (CtrOf V_l_rest_has) := by
  obtain ⟨fd, F⟩ := T.d_l_rest_has
  exact ⟨_, _, _, okG_l_rest_has T F, T.g_l_rest_has, F.kp, F.bindsN fun _ _ _ _ _ _ us hl => match us, hl with | [_, _], _ => rfl⟩
theorem okG_l_common (T : Fx K mg) {fd : FuncData} (F : FunD K dl_common.name dl_common.qual dl_common.params dl_common.body dl_common.scope (dl_common.dvs K) (dl_common.kws K) (He.fAd K dl_common.at_) fd) : FnG P w K mg base 1 (He.fAd K dl_common.at_) fd ["_law_far", "_law_near"] (SpD K (CtrOf V_l_common)) :=
  FnG.den (k := 0) F scl_common rfl fun cd A outer s H hg hr hnd =>
  (SS.cons (S1.par 0 1 rfl hnd rfl rfl (by decide) rfl rfl (SAr.cons (SE.abs rfl T.n_abs (SAr.cons (SE.var 0 rfl (by walk_at "vis")) SAr.nil)) (SAr.cons (SE.abs rfl T.n_abs (SAr.cons (SE.var 1 rfl (by walk_at "vis")) SAr.nil)) SAr.nil)))
  (SS.cons (S1.while_ Wn PassesOwn.never (ST.cmp rfl hr.units (SE.var 1 rfl (by walk_at "vis")) SE.int)
  (SS.cons (S1.par 0 1 rfl hnd rfl rfl (by decide) rfl rfl (SAr.cons (SE.var 1 rfl (by walk_at "vis")) (SAr.cons (SE.mod (SE.toInt rfl T.n_int (SAr.cons (SE.var 0 rfl (by walk_at "vis")) SAr.nil)) (SE.var 1 rfl (by walk_at "vis"))) SAr.nil)))
  SS.nil))
  (SS.cons (S1.ret (SE.var 0 rfl (by walk_at "vis")))
  SS.nil)))
theorem ok_l_common (T : Fx K mg) : Fn P w K mg base "_law_common" 1 (CtrOf V_l_common) := by
  obtain ⟨fd, F⟩ := T.d_l_common
  exact ⟨_, _, _, okG_l_common T F, T.g_l_common, F.kp, F.bindsN fun _ _ _ _ _ _ us hl => match us, hl with | [_, _], _ => rfl⟩
theorem okG_l_least (T : Fx K mg) {fd : FuncData} (F : FunD K dl_least.name dl_least.qual dl_least.params dl_least.body dl_least.scope (dl_least.dvs K) (dl_least.kws K) (He.fAd K dl_least.at_) fd) : FnG P w K mg base 2 (He.fAd K dl_least.at_) fd ["_law_lots"] (SpD K (CtrOf V_l_least)) :=
  FnG.den (k := 1) F scl_least rfl fun cd A outer s H hg hr hnd =>
  (SS.cons (S1.ifS (ST.cmp rfl hr.units (SE.var 0 rfl (by walk_at "vis")) (SE.lst SAr.nil))
  (SS.cons (S1.ret (SE.tup SAr.nil))
  SS.nil)
  SS.nil)
  (SS.cons (S1.set 1 hnd rfl (by walk_at "loc") (by walk_at "loc") SE.int)
  (SS.cons (S1.for_ PassesOwn.never rfl (SI.seq (SE.var 0 rfl (by walk_at "vis"))) (SG.name 2 hnd rfl (by walk_at "loc") (by walk_at "loc"))
  (SS.cons (S1.set 1 hnd rfl (by walk_at "loc") (by walk_at "loc") (SE.call (ok_l_common T) hg (hr.mono (by omega)) rfl (SAr.cons (SE.var 1 rfl (by walk_at "vis")) (SAr.cons (SE.sub (SE.var 2 rfl (by walk_at "vis")) (SE.ix (SE.var 0 rfl (by walk_at "vis")) SE.int)) SAr.nil))))
  SS.nil))
  (SS.cons (S1.ifS (ST.cmp rfl hr.units (SE.var 1 rfl (by walk_at "vis")) SE.int)
  (SS.cons (S1.ret (SE.tup (SAr.cons (SE.ix (SE.var 0 rfl (by walk_at "vis")) SE.int) (SAr.cons SE.int SAr.nil))))
  SS.nil)
  SS.nil)
  (SS.cons (S1.set 1 hnd rfl (by walk_at "loc") (by walk_at "loc") (SE.call (ok_l_common T) hg (hr.mono (by omega)) rfl (SAr.cons (SE.var 1 rfl (by walk_at "vis")) (SAr.cons SE.int SAr.nil))))
  (SS.cons (S1.ret (SE.tup (SAr.cons (SE.mod (SE.toInt rfl T.n_int (SAr.cons (SE.ix (SE.var 0 rfl (by walk_at "vis")) SE.int) SAr.nil)) (SE.var 1 rfl (by walk_at "vis"))) (SAr.cons (SE.var 1 rfl (by walk_at "vis")) SAr.nil))))
  SS.nil))))))
theorem ok_l_least (T : Fx K mg) : Fn P w K mg base "_law_least" 2 (CtrOf V_l_least) := by
  obtain ⟨fd, F⟩ := T.d_l_least
  exact ⟨_, _, _, okG_l_least T F, T.g_l_least, F.kp, F.bindsN fun _ _ _ _ _ _ us hl => match us, hl with | [_], _ => rfl⟩
theorem okG_l_rest_meet (T : Fx K mg) {fd : FuncData} (F : FunD K dl_rest_meet.name dl_rest_meet.qual dl_rest_meet.params dl_rest_meet.body dl_rest_meet.scope (dl_rest_meet.dvs K) (dl_rest_meet.kws K) (He.fAd K dl_rest_meet.at_) fd) : FnG P w K mg base 2 (He.fAd K dl_rest_meet.at_) fd ["_law_one", "_law_two"] (SpD K (CtrOf V_l_rest_meet)) :=
  FnG.den (k := 1) F scl_rest_meet rfl fun cd A outer s H hg hr hnd =>
  (SS.cons (S1.ifS (ST.w (SW.or (ST.cmp rfl hr.units (SE.var 0 rfl (by walk_at "vis")) (SE.tup SAr.nil)) (SW.or1 (ST.cmp rfl hr.units (SE.var 1 rfl (by walk_at "vis")) (SE.tup SAr.nil)))))
  (SS.cons (S1.ret (SE.tup SAr.nil))
  SS.nil)
  SS.nil)
  (SS.cons (S1.asg (SE.ifE (ST.cmp rfl hr.units (SE.ix (SE.var 0 rfl (by walk_at "vis")) SE.int) (SE.ix (SE.var 1 rfl (by walk_at "vis")) SE.int)) (SE.tup (SAr.cons (SE.var 0 rfl (by walk_at "vis")) (SAr.cons (SE.var 1 rfl (by walk_at "vis")) SAr.nil))) (SE.tup (SAr.cons (SE.var 1 rfl (by walk_at "vis")) (SAr.cons (SE.var 0 rfl (by walk_at "vis")) SAr.nil)))) (SG.tup (n := 2) rfl (SGs.cons (SG.name 2 hnd rfl (by walk_at "loc") (by walk_at "loc")) (SGs.cons (SG.name 3 hnd rfl (by walk_at "loc") (by walk_at "loc")) SGs.nil))))
  (SS.cons (S1.ifS (ST.cmp rfl hr.units (SE.ix (SE.var 2 rfl (by walk_at "vis")) SE.int) SE.int)
  (SS.cons (S1.ret (SE.ifE (ST.val (SE.call (ok_l_rest_has T) hg (hr.mono (by omega)) rfl (SAr.cons (SE.var 3 rfl (by walk_at "vis")) (SAr.cons (SE.ix (SE.var 2 rfl (by walk_at "vis")) SE.int) SAr.nil)))) (SE.var 2 rfl (by walk_at "vis")) (SE.tup SAr.nil)))
  SS.nil)
  SS.nil)
  (SS.cons (S1.set 4 hnd rfl (by walk_at "loc") (by walk_at "loc") (SE.fdiv (SE.ix (SE.var 2 rfl (by walk_at "vis")) SE.int) (SE.call (ok_l_common T) hg (hr.mono (by omega)) rfl (SAr.cons (SE.ix (SE.var 2 rfl (by walk_at "vis")) SE.int) (SAr.cons (SE.ix (SE.var 3 rfl (by walk_at "vis")) SE.int) SAr.nil)))))
  (SS.cons (S1.setLcIf 5 6 rfl hnd rfl rfl (sw_true rfl rfl rfl (by decide +kernel)) rfl (blkOk_by (by kernel_rfl)) (fun _ _ _ _ _ => ⟨by walk_at "loc", by walk_at "loc"⟩) (SI.range3 rfl T.n_range (SAr.cons (SE.ix (SE.var 3 rfl (by walk_at "vis")) SE.int) (SAr.cons (SE.add (SE.ix (SE.var 3 rfl (by walk_at "vis")) SE.int) (SE.mul (SE.ix (SE.var 3 rfl (by walk_at "vis")) SE.int) (SE.var 4 rfl (by walk_at "vis")))) (SAr.cons (SE.ix (SE.var 3 rfl (by walk_at "vis")) SE.int) SAr.nil)))) (fun _ _ _ _ _ => (ST.val (SE.call (ok_l_rest_has T) hg (hr.mono (by omega)) rfl (SAr.cons (SE.var 2 rfl (by walk_at "vis")) (SAr.cons (SE.var 6 rfl (by walk_at "vis")) SAr.nil))))) (fun _ _ _ _ _ => (SE.var 6 rfl (by walk_at "vis"))))
  (SS.cons (S1.ret (SE.ifE (ST.cmp rfl hr.units (SE.var 5 rfl (by walk_at "vis")) (SE.lst SAr.nil)) (SE.tup (SAr.cons (SE.ix (SE.var 5 rfl (by walk_at "vis")) SE.int) (SAr.cons (SE.mul (SE.ix (SE.var 3 rfl (by walk_at "vis")) SE.int) (SE.var 4 rfl (by walk_at "vis"))) SAr.nil))) (SE.tup SAr.nil)))
  SS.nil))))))
theorem ok_l_rest_meet (T : Fx K mg) : Fn P w K mg base "_law_rest_meet" 2 (CtrOf V_l_rest_meet) := by
  obtain ⟨fd, F⟩ := T.d_l_rest_meet
  exact ⟨_, _, _, okG_l_rest_meet T F, T.g_l_rest_meet, F.kp, F.bindsN fun _ _ _ _ _ _ us hl => match us, hl with | [_, _], _ => rfl⟩
theorem okG_l_over (T : Fx K mg) {fd : FuncData} (F : FunD K dl_over.name dl_over.qual dl_over.params dl_over.body dl_over.scope (dl_over.dvs K) (dl_over.kws K) (He.fAd K dl_over.at_) fd) : FnG P w K mg base 3 (He.fAd K dl_over.at_) fd ["_law_one", "_law_two"] (SpD K (CtrOf V_l_over)) :=
  FnG.den (k := 2) F scl_over rfl fun cd A outer s H hg hr hnd =>
  (SS.cons (S1.ifS (ST.w (SW.or (ST.cmp rfl hr.units (SE.var 0 rfl (by walk_at "vis")) (SE.tup SAr.nil)) (SW.or (ST.cmp rfl hr.units (SE.var 1 rfl (by walk_at "vis")) (SE.tup SAr.nil)) (SW.or1 (ST.cmp rfl hr.units (SE.var 1 rfl (by walk_at "vis")) (SE.tup (SAr.cons SE.int (SAr.cons SE.int SAr.nil))))))))
  (SS.cons (S1.ret (SE.tup SAr.nil))
  SS.nil)
  SS.nil)
  (SS.cons (S1.ifS (ST.w (SW.and (ST.cmp rfl hr.units (SE.ix (SE.var 1 rfl (by walk_at "vis")) SE.int) SE.int) (SW.and1 (ST.cmp rfl hr.units (SE.mod (SE.toInt rfl T.n_int (SAr.cons (SE.ix (SE.var 0 rfl (by walk_at "vis")) SE.int) SAr.nil)) (SE.ix (SE.var 1 rfl (by walk_at "vis")) SE.int)) SE.int))))
  (SS.cons (S1.ret (SE.call (ok_l_least T) hg (hr.mono (by omega)) rfl (SAr.cons (SE.lst (SAr.cons (SE.fdiv (SE.ix (SE.var 0 rfl (by walk_at "vis")) SE.int) (SE.ix (SE.var 1 rfl (by walk_at "vis")) SE.int)) (SAr.cons (SE.fdiv (SE.add (SE.ix (SE.var 0 rfl (by walk_at "vis")) SE.int) (SE.ix (SE.var 0 rfl (by walk_at "vis")) SE.int)) (SE.ix (SE.var 1 rfl (by walk_at "vis")) SE.int)) SAr.nil))) SAr.nil)))
  SS.nil)
  SS.nil)
  (SS.cons (S1.ret (SE.ifE (ST.cmp rfl hr.units (SE.var 0 rfl (by walk_at "vis")) (SE.tup (SAr.cons SE.int (SAr.cons SE.int SAr.nil)))) (SE.tup (SAr.cons SE.int (SAr.cons SE.int SAr.nil))) (SE.tup (SAr.cons SE.int (SAr.cons SE.int SAr.nil)))))
  SS.nil)))
theorem ok_l_over (T : Fx K mg) : Fn P w K mg base "_law_over" 3 (CtrOf V_l_over) := by
  obtain ⟨fd, F⟩ := T.d_l_over
  exact ⟨_, _, _, okG_l_over T F, T.g_l_over, F.kp, F.bindsN fun _ _ _ _ _ _ us hl => match us, hl with | [_, _], _ => rfl⟩
theorem okG_l_left (T : Fx K mg) {fd : FuncData} (F : FunD K dl_left.name dl_left.qual dl_left.params dl_left.body dl_left.scope (dl_left.dvs K) (dl_left.kws K) (He.fAd K dl_left.at_) fd) : FnG P w K mg base 2 (He.fAd K dl_left.at_) fd ["_law_one", "_law_two"] (SpD K (CtrOf V_l_left)) :=
  FnG.den (k := 1) F scl_left rfl fun cd A outer s H hg hr hnd =>
  (SS.cons (S1.ifS (ST.w (SW.or (ST.cmp rfl hr.units (SE.var 0 rfl (by walk_at "vis")) (SE.tup SAr.nil)) (SW.or (ST.cmp rfl hr.units (SE.var 1 rfl (by walk_at "vis")) (SE.tup SAr.nil)) (SW.or1 (ST.cmp rfl hr.units (SE.var 1 rfl (by walk_at "vis")) (SE.tup (SAr.cons SE.int (SAr.cons SE.int SAr.nil))))))))
  (SS.cons (S1.ret (SE.tup SAr.nil))
  SS.nil)
  SS.nil)
  (SS.cons (S1.ifS (ST.w (SW.and (ST.cmp rfl hr.units (SE.ix (SE.var 1 rfl (by walk_at "vis")) SE.int) SE.int) (SW.and1 (ST.cmp rfl hr.units (SE.mod (SE.toInt rfl T.n_int (SAr.cons (SE.ix (SE.var 0 rfl (by walk_at "vis")) SE.int) SAr.nil)) (SE.ix (SE.var 1 rfl (by walk_at "vis")) SE.int)) SE.int))))
  (SS.cons (S1.ret (SE.tup (SAr.cons (SE.mod (SE.toInt rfl T.n_int (SAr.cons (SE.ix (SE.var 0 rfl (by walk_at "vis")) SE.int) SAr.nil)) (SE.ix (SE.var 1 rfl (by walk_at "vis")) SE.int)) (SAr.cons SE.int SAr.nil))))
  SS.nil)
  SS.nil)
  (SS.cons (S1.set 2 hnd rfl (by walk_at "loc") (by walk_at "loc") (SE.call (ok_l_common T) hg (hr.mono (by omega)) rfl (SAr.cons (SE.call (ok_l_common T) hg (hr.mono (by omega)) rfl (SAr.cons (SE.ix (SE.var 0 rfl (by walk_at "vis")) SE.int) (SAr.cons (SE.ix (SE.var 1 rfl (by walk_at "vis")) SE.int) SAr.nil))) (SAr.cons (SE.ix (SE.var 1 rfl (by walk_at "vis")) SE.int) SAr.nil))))
  (SS.cons (S1.ret (SE.tup (SAr.cons (SE.mod (SE.toInt rfl T.n_int (SAr.cons (SE.ix (SE.var 0 rfl (by walk_at "vis")) SE.int) SAr.nil)) (SE.var 2 rfl (by walk_at "vis"))) (SAr.cons (SE.var 2 rfl (by walk_at "vis")) SAr.nil))))
  SS.nil))))
theorem ok_l_left (T : Fx K mg) : Fn P w K mg base "_law_left" 2 (CtrOf V_l_left) := by
  obtain ⟨fd, F⟩ := T.d_l_left
  exact ⟨_, _, _, okG_l_left T F, T.g_l_left, F.kp, F.bindsN fun _ _ _ _ _ _ us hl => match us, hl with | [_, _], _ => rfl⟩
theorem okG_l_lets (T : Fx K mg) {fd : FuncData} (F : FunD K dl_lets.name dl_lets.qual dl_lets.params dl_lets.body dl_lets.scope (dl_lets.dvs K) (dl_lets.kws K) (He.fAd K dl_lets.at_) fd) : FnG P w K mg base 1 (He.fAd K dl_lets.at_) fd ["_law_word", "_law_left_here", "_law_right_here"] (SpD K (CtrOf V_l_lets)) :=
  FnG.den (k := 0) F scl_lets rfl fun cd A outer s H hg hr hnd =>
  (SS.cons (S1.ifS (ST.cmp rfl hr.units (SE.var 0 rfl (by walk_at "vis")) SE.str)
  (SS.cons (S1.ret (SE.cmp rfl hr.units (SE.var 1 rfl (by walk_at "vis")) (SE.var 2 rfl (by walk_at "vis"))))
  SS.nil)
  SS.nil)
  (SS.cons (S1.ifS (ST.cmp rfl hr.units (SE.var 0 rfl (by walk_at "vis")) SE.str)
  (SS.cons (S1.ret (SE.cmp rfl hr.units (SE.var 1 rfl (by walk_at "vis")) (SE.var 2 rfl (by walk_at "vis"))))
  SS.nil)
  SS.nil)
  (SS.cons (S1.ret (SE.ifE (ST.cmp rfl hr.units (SE.var 0 rfl (by walk_at "vis")) SE.str) (SE.cmp rfl hr.units (SE.var 1 rfl (by walk_at "vis")) (SE.var 2 rfl (by walk_at "vis"))) (SE.cmp rfl hr.units (SE.var 1 rfl (by walk_at "vis")) (SE.var 2 rfl (by walk_at "vis")))))
  SS.nil)))
theorem ok_l_lets (T : Fx K mg) : Fn P w K mg base "_law_lets" 1 (CtrOf V_l_lets) := by
  obtain ⟨fd, F⟩ := T.d_l_lets
  exact ⟨_, _, _, okG_l_lets T F, T.g_l_lets, F.kp, F.bindsN fun _ _ _ _ _ _ us hl => match us, hl with | [_, _, _], _ => rfl⟩
theorem okG_l_guarded (T : Fx K mg) {fd : FuncData} (F : FunD K dl_guarded.name dl_guarded.qual dl_guarded.params dl_guarded.body dl_guarded.scope (dl_guarded.dvs K) (dl_guarded.kws K) (He.fAd K dl_guarded.at_) fd) : FnG P w K mg base 3 (He.fAd K dl_guarded.at_) fd ["_law_word", "_law_one", "_law_two"] (SpD K (CtrOf V_l_guarded)) :=
  FnG.den (k := 2) F scl_guarded rfl fun cd A outer s H hg hr hnd =>
  (SS.cons (S1.ifS (ST.w (SW.or (ST.cmp rfl hr.units (SE.var 1 rfl (by walk_at "vis")) (SE.tup SAr.nil)) (SW.or (ST.cmp rfl hr.units (SE.var 2 rfl (by walk_at "vis")) (SE.tup SAr.nil)) (SW.or1 (ST.w (SW.and (ST.cmp rfl hr.units (SE.var 0 rfl (by walk_at "vis")) SE.str) (SW.and (ST.cmp rfl hr.units (SE.var 1 rfl (by walk_at "vis")) (SE.var 2 rfl (by walk_at "vis"))) (SW.and1 (ST.cmp rfl hr.units (SE.ix (SE.var 1 rfl (by walk_at "vis")) SE.int) SE.int)))))))))
  (SS.cons (S1.ret (SE.tup (SAr.cons (SE.tup SAr.nil) (SAr.cons (SE.tup SAr.nil) SAr.nil))))
  SS.nil)
  SS.nil)
  (SS.cons (S1.ifS (ST.cmp rfl hr.units (SE.var 0 rfl (by walk_at "vis")) SE.str)
  (SS.cons (S1.ret (SE.rep (SE.tup (SAr.cons (SE.call (ok_l_rest_meet T) hg (hr.mono (by omega)) rfl (SAr.cons (SE.var 1 rfl (by walk_at "vis")) (SAr.cons (SE.var 2 rfl (by walk_at "vis")) SAr.nil))) SAr.nil)) SE.int))
  SS.nil)
  SS.nil)
  (SS.cons (S1.ret (SE.tup (SAr.cons (SE.var 1 rfl (by walk_at "vis")) (SAr.cons (SE.var 2 rfl (by walk_at "vis")) SAr.nil))))
  SS.nil)))
theorem ok_l_guarded (T : Fx K mg) : Fn P w K mg base "_law_guarded" 3 (CtrOf V_l_guarded) := by
  obtain ⟨fd, F⟩ := T.d_l_guarded
  exact ⟨_, _, _, okG_l_guarded T F, T.g_l_guarded, F.kp, F.bindsN fun _ _ _ _ _ _ us hl => match us, hl with | [_, _, _], _ => rfl⟩
theorem okG_l_beside (T : Fx K mg) {fd : FuncData} (F : FunD K dl_beside.name dl_beside.qual dl_beside.params dl_beside.body dl_beside.scope (dl_beside.dvs K) (dl_beside.kws K) (He.fAd K dl_beside.at_) fd) : FnG P w K mg base 6 (He.fAd K dl_beside.at_) fd ["_law_source_here", "_law_one"] (SpD K (CtrOf V_l_beside)) :=
  FnG.den (k := 5) F scl_beside rfl fun cd A outer s H hg hr hnd =>
  (SS.cons (S1.ifS (ST.w (SW.or (ST.cmp rfl hr.units (SE.var 1 rfl (by walk_at "vis")) (SE.tup SAr.nil)) (SW.or1 (ST.cmp rfl hr.units (SE.call (ok_l_take T) hg (hr.mono (by omega)) rfl (SAr.cons (SE.var 0 rfl (by walk_at "vis")) (SAr.cons SE.int SAr.nil))) SE.int))))
  (SS.cons (S1.ret (SE.call (ok_l_rest_near T) hg (hr.mono (by omega)) rfl (SAr.cons (SE.var 0 rfl (by walk_at "vis")) (SAr.cons (SE.var 1 rfl (by walk_at "vis")) SAr.nil))))
  SS.nil)
  SS.nil)
  (SS.cons (S1.set 2 hnd rfl (by walk_at "loc") (by walk_at "loc") (SE.call (ok_l_common T) hg (hr.mono (by omega)) rfl (SAr.cons (SE.ix (SE.var 1 rfl (by walk_at "vis")) SE.int) (SAr.cons (SE.call (ok_l_part T) hg (hr.mono (by omega)) rfl (SAr.cons (SE.var 0 rfl (by walk_at "vis")) SAr.nil)) SAr.nil))))
  (SS.cons (S1.ret (SE.tup (SAr.cons (SE.ifE (ST.cmp rfl hr.units (SE.call (ok_l_take T) hg (hr.mono (by omega)) rfl (SAr.cons (SE.var 0 rfl (by walk_at "vis")) (SAr.cons SE.int SAr.nil))) SE.int) (SE.var 2 rfl (by walk_at "vis")) (SE.sub SE.int (SE.var 2 rfl (by walk_at "vis")))) (SAr.cons SE.int SAr.nil))))
  SS.nil)))
theorem ok_l_beside (T : Fx K mg) : Fn P w K mg base "_law_beside" 6 (CtrOf V_l_beside) := by
  obtain ⟨fd, F⟩ := T.d_l_beside
  exact ⟨_, _, _, okG_l_beside T F, T.g_l_beside, F.kp, F.bindsN fun _ _ _ _ _ _ us hl => match us, hl with | [_, _], _ => rfl⟩
theorem okW_rest_modulo_other_rest (T : Fx K mg) : FnW P w K mg base "rest_modulo" 5 (CtrOf V_rest_modulo) ["other", "rest"] [1, 0] := by
  obtain ⟨fd, F⟩ := T.d_rest_modulo
  exact FnW.mk F (okG_rest_modulo T F) T.g_rest_modulo ["other", "rest"] [1, 0] fun _ _ _ _ _ _ us hl => match us, hl with | [_, _], _ => rfl

theorem okW_rest_quotient_other_rest (T : Fx K mg) : FnW P w K mg base "rest_quotient" 5 (CtrOf V_rest_quotient) ["other", "rest"] [1, 0] := by
  obtain ⟨fd, F⟩ := T.d_rest_quotient
  exact FnW.mk F (okG_rest_quotient T F) T.g_rest_quotient ["other", "rest"] [1, 0] fun _ _ _ _ _ _ us hl => match us, hl with | [_, _], _ => rfl

theorem okG_l_two_right (T : Fx K mg) {fd : FuncData} (F : FunD K dl_two_right.name dl_two_right.qual dl_two_right.params dl_two_right.body dl_two_right.scope (dl_two_right.dvs K) (dl_two_right.kws K) (He.fAd K dl_two_right.at_) fd) : FnG P w K mg base 15 (He.fAd K dl_two_right.at_) fd ["_law_one", "_law_two"] (SpD K (CtrOf V_l_two_right)) :=
  FnG.den (k := 14) F scl_two_right rfl fun cd A outer s H hg hr hnd =>
  (SS.cons (S1.set 2 hnd rfl (by walk_at "loc") (by walk_at "loc") (SE.tup (SAr.cons (SE.call (ok_l_over T) hg (hr.mono (by omega)) rfl (SAr.cons (SE.var 0 rfl (by walk_at "vis")) (SAr.cons (SE.var 1 rfl (by walk_at "vis")) SAr.nil))) (SAr.cons (SE.call (ok_l_left T) hg (hr.mono (by omega)) rfl (SAr.cons (SE.var 0 rfl (by walk_at "vis")) (SAr.cons (SE.var 1 rfl (by walk_at "vis")) SAr.nil))) SAr.nil))))
  (SS.cons (S1.ifS (ST.not (ST.val (SE.call (ok_l_same T 8) hg (hr.mono (by omega)) rfl (SAr.cons (SE.tup (SAr.cons (SE.call (ok_rest_quotient T) hg (hr.mono (by omega)) rfl (SAr.cons (SE.var 0 rfl (by walk_at "vis")) (SAr.cons (SE.var 1 rfl (by walk_at "vis")) SAr.nil))) (SAr.cons (SE.call (ok_rest_modulo T) hg (hr.mono (by omega)) rfl (SAr.cons (SE.var 0 rfl (by walk_at "vis")) (SAr.cons (SE.var 1 rfl (by walk_at "vis")) SAr.nil))) SAr.nil))) (SAr.cons (SE.var 2 rfl (by walk_at "vis")) SAr.nil)))))
  (SS.cons (S1.ret SE.bl)
  SS.nil)
  SS.nil)
  (SS.cons (S1.ret (SE.call (ok_l_same T 8) hg (hr.mono (by omega)) rfl (SAr.cons (SE.tup (SAr.cons (SE.callW (okW_rest_quotient_other_rest T) hg (hr.mono (by omega)) rfl rfl (SK.cons (SE.var 1 rfl (by walk_at "vis")) (SK.cons (SE.var 0 rfl (by walk_at "vis")) SK.nil))) (SAr.cons (SE.callW (okW_rest_modulo_other_rest T) hg (hr.mono (by omega)) rfl rfl (SK.cons (SE.var 1 rfl (by walk_at "vis")) (SK.cons (SE.var 0 rfl (by walk_at "vis")) SK.nil))) SAr.nil))) (SAr.cons (SE.var 2 rfl (by walk_at "vis")) SAr.nil))))
  SS.nil)))
theorem ok_l_two_right (T : Fx K mg) : Fn P w K mg base "_law_two_right" 15 (CtrOf V_l_two_right) := by
  obtain ⟨fd, F⟩ := T.d_l_two_right
  exact ⟨_, _, _, okG_l_two_right T F, T.g_l_two_right, F.kp, F.bindsN fun _ _ _ _ _ _ us hl => match us, hl with | [_, _], _ => rfl⟩
theorem okW_rest_guarded_other_rest_guard (T : Fx K mg) : FnW P w K mg base "rest_guarded" 5 (CtrOf V_rest_guarded) ["other", "rest", "guard"] [2, 1, 0] := by
  obtain ⟨fd, F⟩ := T.d_rest_guarded
  exact FnW.mk F (okG_rest_guarded T F) T.g_rest_guarded ["other", "rest", "guard"] [2, 1, 0] fun _ _ _ _ _ _ us hl => match us, hl with | [_, _, _], _ => rfl

theorem okG_l_guards_right (T : Fx K mg) {fd : FuncData} (F : FunD K dl_guards_right.name dl_guards_right.qual dl_guards_right.params dl_guards_right.body dl_guards_right.scope (dl_guards_right.dvs K) (dl_guards_right.kws K) (He.fAd K dl_guards_right.at_) fd) : FnG P w K mg base 15 (He.fAd K dl_guards_right.at_) fd ["_law_one", "_law_two", "_law_pairs"] (SpD K (CtrOf V_l_guards_right)) :=
  FnG.den (k := 14) F scl_guards_right rfl fun cd A outer s H hg hr hnd =>
  (SS.cons (S1.for_ PassesOwn.never rfl (SI.seq (SE.tup (SAr.cons SE.str (SAr.cons SE.str (SAr.cons SE.str (SAr.cons SE.str SAr.nil)))))) (SG.name 3 hnd rfl (by walk_at "loc") (by walk_at "loc"))
  (SS.cons (S1.set 4 hnd rfl (by walk_at "loc") (by walk_at "loc") (SE.call (ok_l_guarded T) hg (hr.mono (by omega)) rfl (SAr.cons (SE.var 3 rfl (by walk_at "vis")) (SAr.cons (SE.var 0 rfl (by walk_at "vis")) (SAr.cons (SE.var 1 rfl (by walk_at "vis")) SAr.nil)))))
  (SS.cons (S1.set 5 hnd rfl (by walk_at "loc") (by walk_at "loc") (SE.call (ok_rest_guarded T) hg (hr.mono (by omega)) rfl (SAr.cons (SE.var 3 rfl (by walk_at "vis")) (SAr.cons (SE.var 0 rfl (by walk_at "vis")) (SAr.cons (SE.var 1 rfl (by walk_at "vis")) SAr.nil)))))
  (SS.cons (S1.ifS (ST.not (ST.val (SE.call (ok_l_same T 8) hg (hr.mono (by omega)) rfl (SAr.cons (SE.tup (SAr.cons (SE.var 5 rfl (by walk_at "vis")) (SAr.cons (SE.callW (okW_rest_guarded_other_rest_guard T) hg (hr.mono (by omega)) rfl rfl (SK.cons (SE.var 1 rfl (by walk_at "vis")) (SK.cons (SE.var 0 rfl (by walk_at "vis")) (SK.cons (SE.var 3 rfl (by walk_at "vis")) SK.nil)))) SAr.nil))) (SAr.cons (SE.tup (SAr.cons (SE.var 4 rfl (by walk_at "vis")) (SAr.cons (SE.var 4 rfl (by walk_at "vis")) SAr.nil))) SAr.nil)))))
  (SS.cons (S1.ret SE.bl)
  SS.nil)
  SS.nil)
  (SS.cons (S1.for_ PassesOwn.never rfl (SI.seq (SE.var 2 rfl (by walk_at "vis"))) (SG.tup (n := 2) rfl (SGs.cons (SG.name 6 hnd rfl (by walk_at "loc") (by walk_at "loc")) (SGs.cons (SG.name 7 hnd rfl (by walk_at "loc") (by walk_at "loc")) SGs.nil)))
  (SS.cons (S1.set 8 hnd rfl (by walk_at "loc") (by walk_at "loc") (SE.tup (SAr.cons (SE.call (ok_rest_holds T) hg (hr.mono (by omega)) rfl (SAr.cons (SE.ix (SE.var 5 rfl (by walk_at "vis")) SE.int) (SAr.cons (SE.var 6 rfl (by walk_at "vis")) SAr.nil))) (SAr.cons (SE.call (ok_rest_holds T) hg (hr.mono (by omega)) rfl (SAr.cons (SE.ix (SE.var 5 rfl (by walk_at "vis")) SE.int) (SAr.cons (SE.var 7 rfl (by walk_at "vis")) SAr.nil))) SAr.nil))))
  (SS.cons (S1.ifS (ST.w (SW.and (ST.val (SE.call (ok_l_lets T) hg (hr.mono (by omega)) rfl (SAr.cons (SE.var 3 rfl (by walk_at "vis")) (SAr.cons (SE.var 6 rfl (by walk_at "vis")) (SAr.cons (SE.var 7 rfl (by walk_at "vis")) SAr.nil))))) (SW.and1 (ST.not (ST.val (SE.call (ok_l_same T 8) hg (hr.mono (by omega)) rfl (SAr.cons (SE.var 8 rfl (by walk_at "vis")) (SAr.cons (SE.tup (SAr.cons SE.bl (SAr.cons SE.bl SAr.nil))) SAr.nil))))))))
  (SS.cons (S1.ret SE.bl)
  SS.nil)
  SS.nil)
  SS.nil)))
  SS.nil)))))
  (SS.cons (S1.ret SE.bl)
  SS.nil))
theorem ok_l_guards_right (T : Fx K mg) : Fn P w K mg base "_law_guards_right" 15 (CtrOf V_l_guards_right) := by
  obtain ⟨fd, F⟩ := T.d_l_guards_right
  exact ⟨_, _, _, okG_l_guards_right T F, T.g_l_guards_right, F.kp, F.bindsN fun _ _ _ _ _ _ us hl => match us, hl with | [_, _, _], _ => rfl⟩
theorem okG_l_held_right (T : Fx K mg) {fd : FuncData} (F : FunD K dl_held_right.name dl_held_right.qual dl_held_right.params dl_held_right.body dl_held_right.scope (dl_held_right.dvs K) (dl_held_right.kws K) (He.fAd K dl_held_right.at_) fd) : FnG P w K mg base 15 (He.fAd K dl_held_right.at_) fd ["_law_one", "_law_two", "_law_here", "_law_there"] (SpD K (CtrOf V_l_held_right)) :=
  FnG.den (k := 14) F scl_held_right rfl fun cd A outer s H hg hr hnd =>
  (SS.cons (S1.ifS (ST.cmp rfl hr.units (SE.var 3 rfl (by walk_at "vis")) SE.int)
  (SS.cons (S1.ret SE.bl)
  SS.nil)
  SS.nil)
  (SS.cons (S1.set 4 hnd rfl (by walk_at "loc") (by walk_at "loc") (SE.tup (SAr.cons (SE.call (ok_rest_holds T) hg (hr.mono (by omega)) rfl (SAr.cons (SE.call (ok_rest_quotient T) hg (hr.mono (by omega)) rfl (SAr.cons (SE.var 0 rfl (by walk_at "vis")) (SAr.cons (SE.var 1 rfl (by walk_at "vis")) SAr.nil))) (SAr.cons (SE.fdiv (SE.var 2 rfl (by walk_at "vis")) (SE.var 3 rfl (by walk_at "vis"))) SAr.nil))) (SAr.cons (SE.call (ok_rest_holds T) hg (hr.mono (by omega)) rfl (SAr.cons (SE.call (ok_rest_modulo T) hg (hr.mono (by omega)) rfl (SAr.cons (SE.var 0 rfl (by walk_at "vis")) (SAr.cons (SE.var 1 rfl (by walk_at "vis")) SAr.nil))) (SAr.cons (SE.mod (SE.toInt rfl T.n_int (SAr.cons (SE.var 2 rfl (by walk_at "vis")) SAr.nil)) (SE.var 3 rfl (by walk_at "vis"))) SAr.nil))) SAr.nil))))
  (SS.cons (S1.ret (SE.call (ok_l_same T 8) hg (hr.mono (by omega)) rfl (SAr.cons (SE.var 4 rfl (by walk_at "vis")) (SAr.cons (SE.tup (SAr.cons SE.bl (SAr.cons SE.bl SAr.nil))) SAr.nil))))
  SS.nil)))
theorem ok_l_held_right (T : Fx K mg) : Fn P w K mg base "_law_held_right" 15 (CtrOf V_l_held_right) := by
  obtain ⟨fd, F⟩ := T.d_l_held_right
  exact ⟨_, _, _, okG_l_held_right T F, T.g_l_held_right, F.kp, F.bindsN fun _ _ _ _ _ _ us hl => match us, hl with | [_, _, _, _], _ => rfl⟩
theorem okW_rest_wrapped_width_rest (T : Fx K mg) : FnW P w K mg base "rest_wrapped" 4 (CtrOf V_rest_wrapped) ["width", "rest"] [1, 0] := by
  obtain ⟨fd, F⟩ := T.d_rest_wrapped
  exact FnW.mk F (okG_rest_wrapped T F) T.g_rest_wrapped ["width", "rest"] [1, 0] fun _ _ _ _ _ _ us hl => match us, hl with | [_, _], _ => rfl

theorem okG_l_wrapped_right (T : Fx K mg) {fd : FuncData} (F : FunD K dl_wrapped_right.name dl_wrapped_right.qual dl_wrapped_right.params dl_wrapped_right.body dl_wrapped_right.scope (dl_wrapped_right.dvs K) (dl_wrapped_right.kws K) (He.fAd K dl_wrapped_right.at_) fd) : FnG P w K mg base 15 (He.fAd K dl_wrapped_right.at_) fd ["_law_one", "_law_wide", "_law_counts"] (SpD K (CtrOf V_l_wrapped_right)) :=
  FnG.den (k := 14) F scl_wrapped_right rfl fun cd A outer s H hg hr hnd =>
  (SS.cons (S1.set 3 hnd rfl (by walk_at "loc") (by walk_at "loc") SE.int)
  (SS.cons (S1.for_ PassesOwn.never rfl (SI.range1 rfl T.n_range (SAr.cons (SE.var 1 rfl (by walk_at "vis")) SAr.nil)) (SG.name 4 hnd rfl (by walk_at "loc") (by walk_at "loc"))
  (SS.cons (S1.set 3 hnd rfl (by walk_at "loc") (by walk_at "loc") (SE.mul (SE.var 3 rfl (by walk_at "vis")) SE.int))
  SS.nil))
  (SS.cons (S1.asg (SE.tup (SAr.cons (SE.call (ok_rest_wrapped T) hg (hr.mono (by omega)) rfl (SAr.cons (SE.var 0 rfl (by walk_at "vis")) (SAr.cons (SE.var 1 rfl (by walk_at "vis")) SAr.nil))) (SAr.cons (SE.call (ok_l_left T) hg (hr.mono (by omega)) rfl (SAr.cons (SE.var 0 rfl (by walk_at "vis")) (SAr.cons (SE.tup (SAr.cons (SE.var 3 rfl (by walk_at "vis")) (SAr.cons SE.int SAr.nil))) SAr.nil))) SAr.nil))) (SG.tup (n := 2) rfl (SGs.cons (SG.name 5 hnd rfl (by walk_at "loc") (by walk_at "loc")) (SGs.cons (SG.name 6 hnd rfl (by walk_at "loc") (by walk_at "loc")) SGs.nil))))
  (SS.cons (S1.ifS (ST.not (ST.val (SE.call (ok_l_same T 8) hg (hr.mono (by omega)) rfl (SAr.cons (SE.tup (SAr.cons (SE.var 5 rfl (by walk_at "vis")) (SAr.cons (SE.callW (okW_rest_wrapped_width_rest T) hg (hr.mono (by omega)) rfl rfl (SK.cons (SE.var 1 rfl (by walk_at "vis")) (SK.cons (SE.var 0 rfl (by walk_at "vis")) SK.nil))) (SAr.cons (SE.call (ok_rest_modulo T) hg (hr.mono (by omega)) rfl (SAr.cons (SE.var 0 rfl (by walk_at "vis")) (SAr.cons (SE.tup (SAr.cons (SE.var 3 rfl (by walk_at "vis")) (SAr.cons SE.int SAr.nil))) SAr.nil))) SAr.nil)))) (SAr.cons (SE.rep (SE.tup (SAr.cons (SE.var 6 rfl (by walk_at "vis")) SAr.nil)) SE.int) SAr.nil)))))
  (SS.cons (S1.ret SE.bl)
  SS.nil)
  SS.nil)
  (SS.cons (S1.ret (SE.all rfl rfl T.n_all (SAr.cons (SE.lc 7 rfl hnd rfl (blkOk_by (by kernel_rfl)) (fun _ _ _ _ _ => ⟨by walk_at "loc", by walk_at "loc"⟩) (SI.seq (SE.var 2 rfl (by walk_at "vis"))) (fun _ _ _ _ _ => (SE.call (ok_l_same T 8) hg (hr.mono (by omega)) rfl (SAr.cons (SE.call (ok_rest_holds T) hg (hr.mono (by omega)) rfl (SAr.cons (SE.var 5 rfl (by walk_at "vis")) (SAr.cons (SE.mod (SE.toInt rfl T.n_int (SAr.cons (SE.var 7 rfl (by walk_at "vis")) SAr.nil)) (SE.var 3 rfl (by walk_at "vis"))) SAr.nil))) (SAr.cons SE.bl SAr.nil))))) SAr.nil)))
  SS.nil)))))
theorem ok_l_wrapped_right (T : Fx K mg) : Fn P w K mg base "_law_wrapped_right" 15 (CtrOf V_l_wrapped_right) := by
  obtain ⟨fd, F⟩ := T.d_l_wrapped_right
  exact ⟨_, _, _, okG_l_wrapped_right T F, T.g_l_wrapped_right, F.kp, F.bindsN fun _ _ _ _ _ _ us hl => match us, hl with | [_, _, _], _ => rfl⟩
theorem okG_l_right (T : Fx K mg) {fd : FuncData} (F : FunD K dl_right.name dl_right.qual dl_right.params dl_right.body dl_right.scope (dl_right.dvs K) (dl_right.kws K) (He.fAd K dl_right.at_) fd) : FnG P w K mg base 16 (He.fAd K dl_right.at_) fd ["_law_source_here"] (SpD K (CtrOf V_l_right)) :=
  FnG.den (k := 15) F scl_right rfl fun cd A outer s H hg hr hnd =>
  (SS.cons (S1.asg (SE.tup (SAr.cons (SE.call (ok_l_rest T) hg (hr.mono (by omega)) rfl (SAr.cons (SE.var 0 rfl (by walk_at "vis")) SAr.nil)) (SAr.cons (SE.add SE.int (SE.call (ok_l_take T) hg (hr.mono (by omega)) rfl (SAr.cons (SE.var 0 rfl (by walk_at "vis")) (SAr.cons SE.int SAr.nil)))) (SAr.cons (SE.lstM SAr.nil) SAr.nil)))) (SG.tup (n := 3) rfl (SGs.cons (SG.name 1 hnd rfl (by walk_at "loc") (by walk_at "loc")) (SGs.cons (SG.name 2 hnd rfl (by walk_at "loc") (by walk_at "loc")) (SGs.cons (SG.name 3 hnd rfl (by walk_at "loc") (by walk_at "loc")) SGs.nil)))))
  (SS.cons (S1.set 4 hnd rfl (by walk_at "loc") (by walk_at "loc") (SE.call (ok_l_beside T) hg (hr.mono (by omega)) rfl (SAr.cons (SE.var 0 rfl (by walk_at "vis")) (SAr.cons (SE.var 1 rfl (by walk_at "vis")) SAr.nil))))
  (SS.cons (S1.ifS (ST.w (SW.and (ST.cmp rfl hr.units (SE.var 1 rfl (by walk_at "vis")) (SE.tup SAr.nil)) (SW.and1 (ST.cmp rfl hr.units (SE.var 4 rfl (by walk_at "vis")) (SE.tup SAr.nil)))))
  (SS.cons (S1.for_ PassesOwn.never rfl (SI.range1 rfl T.n_range (SAr.cons SE.int SAr.nil)) (SG.name 5 hnd rfl (by walk_at "loc") (by walk_at "loc"))
  (SS.cons (S1.expr (SE.append (SE.var 3 rfl (by walk_at "vis")) (SE.tup (SAr.cons (SE.call (ok_l_rest_some T) hg (hr.mono (by omega)) rfl (SAr.cons (SE.var 0 rfl (by walk_at "vis")) (SAr.cons (SE.var 1 rfl (by walk_at "vis")) SAr.nil))) (SAr.cons (SE.call (ok_l_rest_some T) hg (hr.mono (by omega)) rfl (SAr.cons (SE.var 0 rfl (by walk_at "vis")) (SAr.cons (SE.var 4 rfl (by walk_at "vis")) SAr.nil))) SAr.nil)))))
  SS.nil))
  (SS.cons (S1.expr (SE.append (SE.var 3 rfl (by walk_at "vis")) (SE.tup (SAr.cons (SE.ix (SE.var 1 rfl (by walk_at "vis")) SE.int) (SAr.cons (SE.ix (SE.var 4 rfl (by walk_at "vis")) SE.int) SAr.nil)))))
  (SS.cons (S1.expr (SE.append (SE.var 3 rfl (by walk_at "vis")) (SE.ifE (ST.val (SE.call (ok_l_rest_has T) hg (hr.mono (by omega)) rfl (SAr.cons (SE.var 4 rfl (by walk_at "vis")) (SAr.cons (SE.ix (SE.var 1 rfl (by walk_at "vis")) SE.int) SAr.nil)))) (SE.tup (SAr.cons (SE.ix (SE.var 1 rfl (by walk_at "vis")) SE.int) (SAr.cons (SE.ix (SE.var 1 rfl (by walk_at "vis")) SE.int) SAr.nil))) (SE.tup (SAr.cons (SE.sub (SE.ix (SE.var 1 rfl (by walk_at "vis")) SE.int) (SE.ix (SE.var 1 rfl (by walk_at "vis")) SE.int)) (SAr.cons (SE.add (SE.ix (SE.var 4 rfl (by walk_at "vis")) SE.int) (SE.ix (SE.var 4 rfl (by walk_at "vis")) SE.int)) SAr.nil))))))
  SS.nil)))
  SS.nil)
  (SS.frz 3 (SS.cons (S1.ifS (ST.w (SW.or (ST.not (ST.val (SE.call (ok_l_two_right T) hg (hr.mono (by omega)) rfl (SAr.cons (SE.var 1 rfl (by walk_at "vis")) (SAr.cons (SE.var 4 rfl (by walk_at "vis")) SAr.nil))))) (SW.or (ST.not (ST.val (SE.call (ok_l_two_right T) hg (hr.mono (by omega)) rfl (SAr.cons (SE.var 4 rfl (by walk_at "vis")) (SAr.cons (SE.var 1 rfl (by walk_at "vis")) SAr.nil))))) (SW.or1 (ST.not (ST.val (SE.call (ok_l_guards_right T) hg (hr.mono (by omega)) rfl (SAr.cons (SE.var 1 rfl (by walk_at "vis")) (SAr.cons (SE.var 4 rfl (by walk_at "vis")) (SAr.cons (SE.var 3 rfl (by walk_at "vis")) SAr.nil))))))))))
  (SS.cons (S1.ret SE.bl)
  SS.nil)
  SS.nil)
  (SS.cons (S1.ifS (ST.not (ST.val (SE.all rfl rfl T.n_all (SAr.cons (SE.lc2 6 7 (by decide) rfl hnd rfl rfl (blkOk_by (by kernel_rfl)) (fun _ _ _ _ _ => rfl) (fun _ _ _ _ _ => ⟨by walk_at "loc", by walk_at "loc"⟩) (fun _ _ _ _ _ => ⟨by walk_at "loc", by walk_at "loc"⟩) (SI.seq (SE.var 3 rfl (by walk_at "vis"))) (fun _ _ _ _ _ => (SE.call (ok_l_held_right T) hg (hr.mono (by omega)) rfl (SAr.cons (SE.var 1 rfl (by walk_at "vis")) (SAr.cons (SE.var 4 rfl (by walk_at "vis")) (SAr.cons (SE.var 6 rfl (by walk_at "vis")) (SAr.cons (SE.var 7 rfl (by walk_at "vis")) SAr.nil))))))) SAr.nil))))
  (SS.cons (S1.ret SE.bl)
  SS.nil)
  SS.nil)
  (SS.cons (S1.ifS (ST.not (ST.val (SE.all rfl rfl T.n_all (SAr.cons (SE.lc2 6 7 (by decide) rfl hnd rfl rfl (blkOk_by (by kernel_rfl)) (fun _ _ _ _ _ => rfl) (fun _ _ _ _ _ => ⟨by walk_at "loc", by walk_at "loc"⟩) (fun _ _ _ _ _ => ⟨by walk_at "loc", by walk_at "loc"⟩) (SI.seq (SE.var 3 rfl (by walk_at "vis"))) (fun _ _ _ _ _ => (SE.call (ok_l_held_right T) hg (hr.mono (by omega)) rfl (SAr.cons (SE.var 4 rfl (by walk_at "vis")) (SAr.cons (SE.var 1 rfl (by walk_at "vis")) (SAr.cons (SE.var 7 rfl (by walk_at "vis")) (SAr.cons (SE.var 6 rfl (by walk_at "vis")) SAr.nil))))))) SAr.nil))))
  (SS.cons (S1.ret SE.bl)
  SS.nil)
  SS.nil)
  (SS.cons (S1.ret (SE.call (ok_l_wrapped_right T) hg (hr.mono (by omega)) rfl (SAr.cons (SE.var 1 rfl (by walk_at "vis")) (SAr.cons (SE.var 2 rfl (by walk_at "vis")) (SAr.cons (SE.lc2 6 7 (by decide) rfl hnd rfl rfl (blkOk_by (by kernel_rfl)) (fun _ _ _ _ _ => rfl) (fun _ _ _ _ _ => ⟨by walk_at "loc", by walk_at "loc"⟩) (fun _ _ _ _ _ => ⟨by walk_at "loc", by walk_at "loc"⟩) (SI.seq (SE.var 3 rfl (by walk_at "vis"))) (fun _ _ _ _ _ => (SE.var 6 rfl (by walk_at "vis")))) SAr.nil)))))
  SS.nil))))))))
theorem ok_l_right (T : Fx K mg) : Fn P w K mg base "_law_right" 16 (CtrOf V_l_right) := by
  obtain ⟨fd, F⟩ := T.d_l_right
  exact ⟨_, _, _, okG_l_right T F, T.g_l_right, F.kp, F.bindsN fun _ _ _ _ _ _ us hl => match us, hl with | [_], _ => rfl⟩
theorem okG_l_law (T : Fx K mg) {fd : FuncData} (F : FunD K dl_law.name dl_law.qual dl_law.params dl_law.body dl_law.scope (dl_law.dvs K) (dl_law.kws K) (He.fAd K dl_law.at_) fd) : FnG P w K mg base 17 (He.fAd K dl_law.at_) fd ["_law_script"] (SpD K (CtrOf V_l_law)) :=
  FnG.den (k := 16) F scl_law rfl fun cd A outer s H hg hr hnd =>
  (SS.cons (S1.ret (SE.all rfl rfl T.n_all (SAr.cons (SE.lc 1 rfl hnd rfl (blkOk_by (by kernel_rfl)) (fun _ _ _ _ _ => ⟨by walk_at "loc", by walk_at "loc"⟩) (SI.range1 rfl T.n_range (SAr.cons (SE.max2 rfl rfl T.n_max (SAr.cons SE.int (SAr.cons (SE.min2 rfl rfl T.n_min (SAr.cons (SE.len rfl T.n_len (SAr.cons (SE.var 0 rfl (by walk_at "vis")) SAr.nil)) (SAr.cons SE.int SAr.nil))) SAr.nil))) SAr.nil)) (fun _ _ _ _ _ => (SE.cut (SE.call (ok_l_right T) hg (hr.mono (by omega)) rfl (SAr.cons (SE.call (ok_l_source T) hg (hr.mono (by omega)) rfl (SAr.cons (SE.var 0 rfl (by walk_at "vis")) (SAr.cons (SE.var 1 rfl (by walk_at "vis")) SAr.nil))) SAr.nil))))) SAr.nil)))
  SS.nil)
end
end Lw

namespace Lw
open PySem PySem.Spec L2 Eg
local macro_rules | `(tactic| walk_at "ex") => `(tactic| simp [eFn, startD, esCons, sRet, esIf, sNil, sSet, sAsg, sExp, sPar2, sPar3, dVar, dC, dOp2, dCall, dBlt, dTup, dLst, dLstM, eIf, eAnd, eOr, eNot, eNeg, dIsi, eChain, aCons, aNil, gTu, gAnd, gNm, gSb, gEnd, dSl, runP, sFor, forL_nil, forL_cons, iSeq, iRange1, iRange2, oDiv_ok, oMod_ok, oPow_ok, oSub, oLt, oLe, oGt, oGe, oEq, oNe, oIs, oIsnt, xIx_t, xIx_l, xIx_m, xIx_s, oLen, oInt, oAbs, oMM, oTuple, oDivmod, oInN, flatL, DV.flat, dCallW, permI, oAll, blsD, oMax1, oMin1, maxI, minI, intsD, inV1, inV2, eqV, DV.isN, eqvD, eqvL, shD, shL, xItems_t, xItems_l, xItems_m, xLen_t, xLen_l, xLen_m, xLen_s, atI, ixN, DV.ty, kitT, sl_eq, *])
/-! ### the lesser and the greater one -/
@[simp] theorem ite_mn (a b : Int) : (if b < a then b else a) = min a b := by omega
@[simp] theorem ite_mx (a b : Int) : (if a < b then b else a) = max a b := by omega
@[simp] theorem dec_nlt (a b : Int) : (!decide (a < b)) = decide (b ≤ a) := by
  by_cases h : a < b
  · rw [decide_eq_true h, decide_eq_false (by omega)]; rfl
  · rw [decide_eq_false h, decide_eq_true (by omega)]; rfl
@[simp] theorem dec_nle (a b : Int) : (!decide (a ≤ b)) = decide (b < a) := by
  by_cases h : a ≤ b
  · rw [decide_eq_true h, decide_eq_false (by omega)]; rfl
  · rw [decide_eq_false h, decide_eq_true (by omega)]; rfl
@[simp] theorem ite_bl_and {c : Prop} [Decidable c] (b : Bool) (μ : List MO) : (if c then some (DV.bl b, μ) else some (DV.bl false, μ)) = some (.bl (decide c && b), μ) := by
  by_cases h : c <;> simp [h]
@[simp] theorem ite_bl_or {c : Prop} [Decidable c] (b : Bool) (μ : List MO) : (if c then some (DV.bl true, μ) else some (DV.bl b, μ)) = some (.bl (decide c || b), μ) := by
  by_cases h : c <;> simp [h]
/-! ### stretches -/
def oi : Option Int → DV
  | none => .non
  | some i => .int i
abbrev Sp := Option (Option Int × Option Int)
def eS : Sp → DV
  | none => .tup []
  | some (l, h) => .tup [oi l, oi h]
theorem ite_eS {c : Prop} [Decidable c] {d d' : DV} {s s' : Sp} {μ : List MO} (h : d = eS s) (h' : d' = eS s') : (if c then some (d, μ) else some (d', μ)) = some (eS (if c then s else s'), μ) := by
  subst h h'
  split <;> rfl
def wS : Sp → Prop
  | some (some l, some h) => l ≤ h
  | _ => True
def loI (l : Option Int) (x : Int) : Bool := match l with
  | none => true
  | some l => decide (l ≤ x)
def hiI (h : Option Int) (x : Int) : Bool := match h with
  | none => true
  | some h => decide (x ≤ h)
def holds (s : Sp) (x : Int) : Bool := match s with
  | none => false
  | some (l, h) => loI l x && hiI h x
/-- one low end is below another one -/
def lowB : Option Int → Option Int → Bool
  | _, none => false
  | none, some _ => true
  | some a, some b => decide (a < b)
def highB : Option Int → Option Int → Bool
  | _, none => false
  | none, some _ => true
  | some a, some b => decide (b < a)
def within (s t : Sp) : Bool := match s, t with
  | none, _ => true
  | some _, none => false
  | some (a, b), some (c, d) => !lowB a c && !highB b d
def minL : Option Int → Option Int → Option Int
  | some a, some b => some (min a b)
  | _, _ => none
def maxH : Option Int → Option Int → Option Int
  | some a, some b => some (max a b)
  | _, _ => none
def maxL : Option Int → Option Int → Option Int
  | some a, some b => some (max a b)
  | some a, none => some a
  | none, b => b
def minH : Option Int → Option Int → Option Int
  | some a, some b => some (min a b)
  | some a, none => some a
  | none, b => b
def join (s t : Sp) : Sp := match s, t with
  | none, t => t
  | s, none => s
  | some (a, b), some (c, d) => some (minL a c, maxH b d)
def fromE (l h : Option Int) : Sp := match l, h with
  | some l, some h => if h < l then none else some (some l, some h)
  | l, h => some (l, h)
def meet (s t : Sp) : Sp := match s, t with
  | some (a, b), some (c, d) => fromE (maxL a c) (minH b d)
  | _, _ => none
variable {μ : List MO}
@[simp] theorem is_whole_i (i : Int) : V_is_whole [.int i] μ = some (.bl true, μ) := by
  unfold V_is_whole D_is_whole; walk_at "ex"
@[simp] theorem is_end_oi (o : Option Int) : V_is_end [oi o] μ = some (.bl true, μ) := by
  unfold V_is_end D_is_end; cases o <;> (simp only [oi]; walk_at "ex")
@[simp] theorem span_holds_ok (s : Sp) (x : Int) : V_span_holds [eS s, .int x] μ = some (.bl (holds s x), μ) := by
  unfold V_span_holds D_span_holds
  match s with
  | none => simp only [eS]; walk_at "ex"; rfl
  | some (none, none) => simp only [eS, oi]; walk_at "ex"; rfl
  | some (some l, none) => simp only [eS, oi]; walk_at "ex"; simp [holds, loI, hiI]
  | some (none, some h) => simp only [eS, oi]; walk_at "ex"; simp [holds, loI, hiI]
  | some (some l, some h) => simp only [eS, oi]; walk_at "ex"; simp [holds, loI, hiI]
@[simp] theorem low_ok (a b : Option Int) : V_is_lesser_low [oi a, oi b] μ = some (.bl (lowB a b), μ) := by
  unfold V_is_lesser_low D_is_lesser_low
  cases a <;> cases b <;> (simp only [oi]; walk_at "ex"; rfl)
@[simp] theorem high_ok (a b : Option Int) : V_is_greater_high [oi a, oi b] μ = some (.bl (highB a b), μ) := by
  unfold V_is_greater_high D_is_greater_high
  cases a <;> cases b <;> (simp only [oi]; walk_at "ex"; rfl)
@[simp] theorem sh_oi (n : Nat) (o : Option Int) : shD n (oi o) = true := by cases n <;> cases o <;> rfl
@[simp] theorem eqv_empty (s : Sp) : eqvD (eS s) (.tup []) = s.isNone := by
  match s with
  | none => rfl
  | some (l, h) => rfl
@[simp] theorem sh_eS (n : Nat) (s : Sp) : shD (n + 1) (eS s) = true := by
  match s with
  | none => rfl
  | some (l, h) => simp [eS, shD, shL]
@[simp] theorem span_within_ok (s t : Sp) : V_span_within [eS s, eS t] μ = some (.bl (within s t), μ) := by
  unfold V_span_within D_span_within
  match s, t with
  | none, none => simp only [eS]; walk_at "ex"; rfl
  | none, some (c, d) => simp only [eS]; walk_at "ex"; rfl
  | some (a, b), none => simp only [eS]; walk_at "ex"; rfl
  | some (a, b), some (c, d) =>
    simp only [eS]; walk_at "ex"; simp [within]
@[simp] theorem span_joined_ok (s t : Sp) : V_span_joined [eS s, eS t] μ = some (eS (join s t), μ) := by
  unfold V_span_joined D_span_joined
  match s, t with
  | none, t => simp only [eS]; walk_at "ex"; rfl
  | some (a, b), none => simp only [eS]; walk_at "ex"; rfl
  | some (a, b), some (c, d) =>
    simp only [eS]; walk_at "ex"
    cases a <;> cases b <;> cases c <;> cases d <;> simp [lowB, highB, minL, maxH, oi, join, eS] <;> (repeat' split) <;> simp <;> omega
@[simp] theorem span_from_ok (l h : Option Int) : V_span_from [oi l, oi h] μ = some (eS (fromE l h), μ) := by
  unfold V_span_from D_span_from
  cases l <;> cases h <;> (simp only [oi]; walk_at "ex") <;> simp [fromE, eS, oi]
  split <;> simp [eS, oi]
theorem maxL_if (a c : Option Int) : maxL a c = if lowB a c = true then c else a := by
  cases a <;> cases c <;> simp [lowB, maxL] <;> (try split) <;> simp <;> omega
theorem minH_if (a c : Option Int) : minH a c = if highB a c = true then c else a := by
  cases a <;> cases c <;> simp [highB, minH] <;> (try split) <;> simp <;> omega
@[simp] theorem span_met_ok (s t : Sp) : V_span_met [eS s, eS t] μ = some (eS (meet s t), μ) := by
  match s, t with
  | none, t => unfold V_span_met D_span_met; simp only [eS]; walk_at "ex"; rfl
  | some (a, b), none => unfold V_span_met D_span_met; simp only [eS]; walk_at "ex"; rfl
  | some (a, b), some (c, d) =>
    show V_span_met [.tup [oi a, oi b], .tup [oi c, oi d]] μ = _
    unfold V_span_met D_span_met; walk_at "ex"
    simp only [meet, maxL_if, minH_if]
    cases lowB a c <;> cases highB b d <;> simp
theorem is_end_ds : ∀ (ds : List DV), (∀ d ∈ ds, ∃ o, d = oi o) → ∀ d ∈ ds, ∃ ρ', bd1 1 d [some (.tup ds), none] = some ρ' ∧ ∀ μ' : List MO, dCall V_is_end (aCons (dVar 1) aNil) ρ' μ' = some (.bl true, μ') := by
  intro ds h d hd
  obtain ⟨o, rfl⟩ := h d hd
  exact ⟨_, rfl, fun μ' => by walk_at "ex"⟩
@[simp] theorem all_true_map (ds : List DV) : blsD (ds.map fun _ => DV.bl true) = some (ds.map fun _ => true) := by
  induction ds with
  | nil => rfl
  | cons d ds ih => simp [blsD, ih]
@[simp] theorem is_span_ok (s : Sp) (h : wS s) : V_is_span [eS s] μ = some (.bl true, μ) := by
  have key : ∀ ds : List DV, ds.length ≤ 2 → (∀ d ∈ ds, ∃ o, d = oi o) → dLc (iSeq (dVar 0)) (bd1 1) dT (dCall V_is_end (aCons (dVar 1) aNil)) [some (.tup ds), none] μ = some (.lst (ds.map fun _ => DV.bl true), μ) := by
    intro ds hl h
    exact dLc_map (ds := ds) (by simp [iSeq, dVar]) (by omega) (is_end_ds ds h) fun _ _ => rfl
  unfold V_is_span D_is_span
  match s, h with
  | none, _ =>
    have k := key [] (by simp) (by simp)
    simp only [eS]; walk_at "ex"
  | some (l, u), h =>
    have k := key [oi l, oi u] (by simp) (by simp; exact ⟨⟨_, rfl⟩, ⟨_, rfl⟩⟩)
    simp only [eS]
    cases l <;> cases u <;> simp only [oi] at k ⊢ <;> walk_at "ex"
    exact h
@[simp] theorem refuse_wrong_stretch_ok (s : Sp) (h : wS s) : V_refuse_wrong_stretch [eS s] μ = some (.non, μ) := by
  unfold V_refuse_wrong_stretch D_refuse_wrong_stretch; walk_at "ex"
@[simp] theorem refuse_wrong_number_ok (n : Int) : V_refuse_wrong_number [.int n] μ = some (.non, μ) := by
  unfold V_refuse_wrong_number D_refuse_wrong_number; walk_at "ex"
@[simp] theorem refuse_wrong_stretches_ok (s t : Sp) (h : wS s) (h2 : wS t) : V_refuse_wrong_stretches [eS s, eS t] μ = some (.non, μ) := by
  unfold V_refuse_wrong_stretches D_refuse_wrong_stretches; walk_at "ex"
@[simp] theorem stretch_holds_ok (s : Sp) (n : Int) (h : wS s) : V_stretch_holds [eS s, .int n] μ = some (.bl (holds s n), μ) := by
  unfold V_stretch_holds D_stretch_holds; walk_at "ex"
@[simp] theorem stretch_within_ok (s t : Sp) (h : wS s) (h2 : wS t) : V_stretch_within [eS s, eS t] μ = some (.bl (within s t), μ) := by
  unfold V_stretch_within D_stretch_within; walk_at "ex"
@[simp] theorem stretch_met_ok (s t : Sp) (h : wS s) (h2 : wS t) : V_stretch_met [eS s, eS t] μ = some (eS (meet s t), μ) := by
  unfold V_stretch_met D_stretch_met; walk_at "ex"
theorem wS_join (s t : Sp) (h : wS s) (h2 : wS t) : wS (join s t) := by
  match s, t with
  | none, t => exact h2
  | some (a, b), none => exact h
  | some (a, b), some (c, d) =>
    cases a <;> cases b <;> cases c <;> cases d <;> simp_all [wS, join, minL, maxH] <;> omega
theorem wS_from (l h : Option Int) : wS (fromE l h) := by
  match l, h with
  | none, none => trivial
  | none, some _ => trivial
  | some _, none => trivial
  | some l, some h =>
    unfold fromE
    dsimp only
    by_cases c : h < l
    · rw [if_pos c]; trivial
    · rw [if_neg c]; exact (by omega : l ≤ h)
theorem wS_meet (s t : Sp) : wS (meet s t) := by
  match s, t with
  | none, t => trivial
  | some (a, b), none => trivial
  | some (a, b), some (c, d) => exact wS_from _ _
/-! ### the law's own -/
@[simp] theorem l_has_ok (s : Sp) (x : Int) : V_l_has [eS s, .int x] μ = some (.bl (holds s x), μ) := by
  unfold V_l_has D_l_has
  match s with
  | none => simp only [eS]; walk_at "ex"; rfl
  | some (l, h) =>
    cases l <;> cases h <;> simp only [eS, oi] <;> walk_at "ex" <;> simp [holds, loI, hiI]
@[simp] theorem l_inside_ok (s t : Sp) : V_l_inside [eS s, eS t] μ = some (.bl (within s t), μ) := by
  unfold V_l_inside D_l_inside
  match s, t with
  | none, none => simp only [eS]; walk_at "ex"; rfl
  | none, some (c, d) => simp only [eS]; walk_at "ex"; rfl
  | some (a, b), none => simp only [eS]; walk_at "ex"; rfl
  | some (a, b), some (c, d) =>
    cases a <;> cases b <;> cases c <;> cases d <;> simp only [eS, oi] <;> walk_at "ex" <;> simp [within, lowB, highB]
@[simp] theorem l_join_ok (s t : Sp) : V_l_join [eS s, eS t] μ = some (eS (join s t), μ) := by
  unfold V_l_join D_l_join
  match s, t with
  | none, none => simp only [eS]; walk_at "ex"; rfl
  | none, some (c, d) => simp only [eS]; walk_at "ex"; rfl
  | some (a, b), none => simp only [eS]; walk_at "ex"; rfl
  | some (a, b), some (c, d) =>
    cases a <;> cases b <;> cases c <;> cases d <;> simp only [eS, oi] <;> walk_at "ex" <;> simp [join, minL, maxH]
theorem bel_oi (n : Nat) (o : Option Int) : DV.bel n (oi o) = true := by cases o <;> rfl
@[simp] theorem bel_eS (n : Nat) (s : Sp) : DV.bel n (eS s) = true := by
  match s with
  | none => rfl
  | some (l, h) => simp [eS, DV.bel, DV.belL, bel_oi]
/-- ends that are told -/
def told2 (a c : Option Int) : List Int := (match a with | none => [] | some a => [a]) ++ (match c with | none => [] | some c => [c])
theorem told_lc {ρ : RO} {i : Nat} {fs : DenA} (a c : Option Int) (hi : i < ρ.length) (hf : iSeq (dTup fs) ρ μ = some ([oi a, oi c], μ)) :
    dLc (iSeq (dTup fs)) (bd1 i) (dOp2 oIsnt (dVar i) (dC .non)) (dVar i) ρ μ = some (.lst ((told2 a c).map DV.int), μ) := by
  have := dLc_pure (bd := bd1 i) (c := dOp2 oIsnt (dVar i) (dC .non)) (elt := dVar i) (p := fun d => !DV.isN d) (g := id) hf (by simp) (fun d hd => ⟨_, rfl, fun μ' => ⟨by
    simp [dOp2, dVar, dC, oIsnt, List.getElem?_set_self hi], fun _ => by simp [dVar, List.getElem?_set_self hi]⟩⟩) (fun d hd _ => by
      simp at hd
      rcases hd with rfl | rfl <;> exact bel_oi _ _)
  rw [this]
  cases a <;> cases c <;> simp [oi, DV.isN, told2]
@[simp] theorem l_meet_ok (s t : Sp) : V_l_meet [eS s, eS t] μ = some (eS (meet s t), μ) := by
  match s, t with
  | none, none => unfold V_l_meet D_l_meet; simp only [eS]; walk_at "ex"; rfl
  | none, some (c, d) => unfold V_l_meet D_l_meet; simp only [eS]; walk_at "ex"; rfl
  | some (a, b), none => unfold V_l_meet D_l_meet; simp only [eS]; walk_at "ex"; rfl
  | some (a, b), some (c, d) =>
    show V_l_meet [.tup [oi a, oi b], .tup [oi c, oi d]] μ = _
    unfold V_l_meet D_l_meet; walk_at "ex"
    rw [told_lc a c (i := 4)]
    case hi => simp
    case hf => simp [iSeq]; walk_at "ex"
    walk_at "ex"
    rw [told_lc b d (i := 4)]
    case hi => simp
    case hf => simp [iSeq]; walk_at "ex"
    cases a <;> cases b <;> cases c <;> cases d <;> simp only [told2, List.nil_append, List.append_nil, List.cons_append, List.map, oi] <;> walk_at "ex" <;> simp only [meet, maxL, minH, fromE] <;> (first | rfl | (refine ite_eS ?_ ?_ <;> rfl))

end Lw

namespace Lw
open PySem PySem.Spec L2 Eg
local macro_rules | `(tactic| walk_at "ex") => `(tactic| simp [eFn, startD, esCons, sRet, esIf, sNil, sSet, sAsg, sExp, sPar2, sPar3, dVar, dC, dOp2, dCall, dBlt, dTup, dLst, dLstM, eIf, eAnd, eOr, eNot, eNeg, dIsi, eChain, aCons, aNil, gTu, gAnd, gNm, gSb, gEnd, dSl, runP, sFor, forL_nil, forL_cons, iSeq, iRange1, iRange2, oDiv_ok, oMod_ok, oPow_ok, oSub, oLt, oLe, oGt, oGe, oEq, oNe, oIs, oIsnt, xIx_t, xIx_l, xIx_m, xIx_s, oLen, oInt, oAbs, oMM, oTuple, oDivmod, oInN, flatL, DV.flat, dCallW, permI, oAll, blsD, oMax1, oMin1, maxI, minI, intsD, inV1, inV2, eqV, DV.isN, eqvD, eqvL, shD, shL, xItems_t, xItems_l, xItems_m, xLen_t, xLen_l, xLen_m, xLen_s, atI, ixN, DV.ty, kitT, sl_eq, *])
variable {μ : List MO}
/-! ### draws -/
def Sr (k : Nat) (μ0 : List MO) (n : Nat) (μ : List MO) : Prop := k < μ0.length ∧ ∃ a b c : Int, μ = μ0.set k (.lst [.int a, .int b, .int c]) ∧ 0 ≤ a ∧ 0 ≤ b ∧ b < 2147483629 ∧ 0 ≤ c ∧ c ≤ n
theorem Sr.mono {k : Nat} {μ0 : List MO} {n m : Nat} (w : Sr k μ0 n μ) (h : n ≤ m) : Sr k μ0 m μ := by
  obtain ⟨hk, a, b, c, e, h1, h2, h3, h4, h5⟩ := w
  exact ⟨hk, a, b, c, e, h1, h2, h3, h4, by omega⟩
theorem Sr.len {k : Nat} {μ0 : List MO} {n : Nat} (w : Sr k μ0 n μ) : μ.length = μ0.length := by
  obtain ⟨hk, a, b, c, rfl, _⟩ := w
  simp
theorem take_ok {k : Nat} {μ0 : List MO} {n : Nat} (w : Sr k μ0 n μ) (hn : n < 1152921504606846976) {m : Int} (h0 : 0 < m) (h1 : m < 1073741824) :
    ∃ r μ', V_l_take [.mu k, .int m] μ = some (.int r, μ') ∧ 0 ≤ r ∧ r < m ∧ Sr k μ0 (n + 1) μ' := by
  obtain ⟨hk, a, b, c, rfl, ha, hb, hb2, hc, hc2⟩ := w
  have p1 : ∀ μ : List MO, oMul (.int 40093) (.int (c + 1)) μ = some (.int (40093 * (c + 1)), μ) := fun μ => oMul_ok (by omega) (by omega) (by omega) (by omega)
  have p2 : ∀ μ : List MO, oMul (.int 17) (.int (c + 1)) μ = some (.int (17 * (c + 1)), μ) := fun μ => oMul_ok (by omega) (by omega) (by omega) (by omega)
  have p3 : ∀ (x : Int) (μ : List MO), oMul (.int (x % 2147483629)) (.int (x % 2147483629 % 4001 + 30029)) μ = some (.int (x % 2147483629 * (x % 2147483629 % 4001 + 30029)), μ) := fun x μ => oMul_ok (by omega) (by omega) (by omega) (by omega)
  by_cases h : 0 < a
  · refine ⟨a % m, μ0.set k (.lst [.int (a / m), .int b, .int c]), ?_, Int.emod_nonneg _ (by omega), Int.emod_lt_of_pos _ h0, hk, _, _, _, rfl, Int.ediv_nonneg ha (by omega), hb, hb2, hc, by omega⟩
    unfold V_l_take D_l_take
    walk_at "ex"
  · have e : a = 0 := by omega
    subst e
    refine ⟨_, _, by
      unfold V_l_take D_l_take
      walk_at "ex"
      exact ⟨rfl, rfl⟩, Int.emod_nonneg _ (by omega), Int.emod_lt_of_pos _ h0, hk, _, _, _, rfl, by omega, Int.emod_nonneg _ (by omega), Int.emod_lt_of_pos _ (by omega), by omega, by omega⟩
theorem pick_ok {k : Nat} {μ0 : List MO} {n : Nat} (w : Sr k μ0 n μ) (hn : n < 1152921504606846976) {ds : List DV} (h0 : 0 < ds.length) (h1 : ds.length < 1073741824) :
    ∃ d μ', V_l_pick [.mu k, .lst ds] μ = some (d, μ') ∧ d ∈ ds ∧ Sr k μ0 (n + 1) μ' := by
  obtain ⟨r, μ1, e1, r0, r1, w1⟩ := take_ok w hn (m := ds.length) (by omega) (by omega)
  have hr : r.toNat < ds.length := by omega
  refine ⟨ds[r.toNat], μ1, ?_, List.getElem_mem hr, w1⟩
  have hl : μ1.length = μ.length := by rw [w1.len, w.len]
  unfold V_l_pick D_l_pick
  walk_at "ex"
  rw [cutd_len hl]
theorem great_ok {k : Nat} {μ0 : List MO} {n : Nat} (w : Sr k μ0 n μ) (hn : n < 1152921504606840000) :
    ∃ r μ', V_l_great [.mu k] μ = some (.int r, μ') ∧ 0 ≤ r ∧ r < 1267650600228229401496703205376 ∧ Sr k μ0 (n + 5) μ' := by
  obtain ⟨r1, μ1, e1, a1, b1, w1⟩ := take_ok w (by omega) (m := 1000003) (by omega) (by omega)
  obtain ⟨r2, μ2, e2, a2, b2, w2⟩ := take_ok w1 (by omega) (m := 1000003) (by omega) (by omega)
  obtain ⟨r3, μ3, e3, a3, b3, w3⟩ := take_ok w2 (by omega) (m := 1000003) (by omega) (by omega)
  obtain ⟨r4, μ4, e4, a4, b4, w4⟩ := take_ok w3 (by omega) (m := 1000003) (by omega) (by omega)
  obtain ⟨r5, μ5, e5, a5, b5, w5⟩ := take_ok w4 (by omega) (m := 1000003) (by omega) (by omega)
  have hl : μ5.length = μ.length := by rw [w5.len, w.len]
  have rg : rgD 0 5 = [.int 0, .int 1, .int 2, .int 3, .int 4] := rfl
  have m1 : ∀ μ : List MO, oMul (.int 0) (.int 1000003) μ = some (.int (0 * 1000003), μ) := fun μ => oMul_ok (by omega) (by omega) (by omega) (by omega)
  have m2 : ∀ μ : List MO, oMul (.int r1) (.int 1000003) μ = some (.int (r1 * 1000003), μ) := fun μ => oMul_ok (by omega) (by omega) (by omega) (by omega)
  have m3 : ∀ μ : List MO, oMul (.int (r1 * 1000003 + r2)) (.int 1000003) μ = some (.int ((r1 * 1000003 + r2) * 1000003), μ) := fun μ => oMul_ok (by omega) (by omega) (by omega) (by omega)
  have m4 : ∀ μ : List MO, oMul (.int ((r1 * 1000003 + r2) * 1000003 + r3)) (.int 1000003) μ = some (.int (((r1 * 1000003 + r2) * 1000003 + r3) * 1000003), μ) := fun μ => oMul_ok (by omega) (by omega) (by omega) (by omega)
  have m5 : ∀ μ : List MO, oMul (.int (((r1 * 1000003 + r2) * 1000003 + r3) * 1000003 + r4)) (.int 1000003) μ = some (.int ((((r1 * 1000003 + r2) * 1000003 + r3) * 1000003 + r4) * 1000003), μ) := fun μ => oMul_ok (by omega) (by omega) (by omega) (by omega)
  refine ⟨(((r1 * 1000003 + r2) * 1000003 + r3) * 1000003 + r4) * 1000003 + r5, μ5, ?_, by omega, by omega, w5⟩
  unfold V_l_great D_l_great
  walk_at "ex"
  rw [cutd_len hl]
/-- what the draws of numbers keep to -/
def bigN (r : Int) : Prop := -1267650600228229401496703205376 < r ∧ r < 1267650600228229401496703205376
theorem number_ok {k : Nat} {μ0 : List MO} {n : Nat} (w : Sr k μ0 n μ) (hn : n < 1152921504606830000) :
    ∃ r μ', V_l_number [.mu k] μ = some (.int r, μ') ∧ bigN r ∧ Sr k μ0 (n + 7) μ' := by
  obtain ⟨r1, μ1, e1, a1, b1, w1⟩ := take_ok w (by omega) (m := 16) (by omega) (by omega)
  unfold V_l_number D_l_number
  by_cases h8 : r1 < 8
  · obtain ⟨r2, μ2, e2, a2, b2, w2⟩ := take_ok w1 (by omega) (m := 13) (by omega) (by omega)
    have hl : μ2.length = μ.length := by rw [w2.len, w.len]
    refine ⟨r2 - 6, μ2, ?_, ⟨by omega, by omega⟩, w2.mono (by omega)⟩
    walk_at "ex"
    rw [cutd_len hl]
  by_cases h13 : r1 < 13
  · obtain ⟨r2, μ2, e2, a2, b2, w2⟩ := take_ok w1 (by omega) (m := 121) (by omega) (by omega)
    have hl : μ2.length = μ.length := by rw [w2.len, w.len]
    refine ⟨r2 - 60, μ2, ?_, ⟨by omega, by omega⟩, w2.mono (by omega)⟩
    walk_at "ex"
    rw [cutd_len hl]
  by_cases h15 : r1 < 15
  · obtain ⟨r2, μ2, e2, a2, b2, w2⟩ := take_ok w1 (by omega) (m := 200003) (by omega) (by omega)
    have hl : μ2.length = μ.length := by rw [w2.len, w.len]
    refine ⟨r2 - 100001, μ2, ?_, ⟨by omega, by omega⟩, w2.mono (by omega)⟩
    walk_at "ex"
    rw [cutd_len hl]
  obtain ⟨r2, μ2, e2, a2, b2, w2⟩ := great_ok w1 (by omega)
  obtain ⟨r3, μ3, e3, a3, b3, w3⟩ := take_ok w2 (by omega) (m := 2) (by omega) (by omega)
  have hl : μ3.length = μ.length := by rw [w3.len, w.len]
  have hb : bigN (if r3 = 0 then r2 else 0 - r2) := by
    by_cases z : r3 = 0
    · rw [if_pos z]; exact ⟨by omega, by omega⟩
    · rw [if_neg z]; exact ⟨by omega, by omega⟩
  refine ⟨if r3 = 0 then r2 else 0 - r2, μ3, ?_, hb, w3⟩
  walk_at "ex"
  rw [cutd_len hl, cutd_len hl]
  split <;> simp
/-- ends that are not too great -/
def bE (B : Int) : Option Int → Prop
  | none => True
  | some x => -1267650600228229401496703205376 - B < x ∧ x < 1267650600228229401496703205376 + B
def bS (B : Int) : Sp → Prop
  | none => True
  | some (l, h) => bE B l ∧ bE B h
theorem bE.mono {B B' : Int} {o : Option Int} (h : bE B o) (l : B ≤ B') : bE B' o := by
  cases o with
  | none => trivial
  | some x => exact ⟨by have := h.1; omega, by have := h.2; omega⟩
theorem bS.mono {B B' : Int} {s : Sp} (h : bS B s) (l : B ≤ B') : bS B' s := by
  match s, h with
  | none, _ => trivial
  | some (a, b), h => exact ⟨h.1.mono l, h.2.mono l⟩
theorem stretch_ok {k : Nat} {μ0 : List MO} {n : Nat} (w : Sr k μ0 n μ) (hn : n < 1152921504606820000) :
    ∃ s μ', V_l_stretch [.mu k] μ = some (eS s, μ') ∧ wS s ∧ bS 100003 s ∧ Sr k μ0 (n + 9) μ' := by
  obtain ⟨r1, μ1, e1, a1, b1, w1⟩ := take_ok w (by omega) (m := 14) (by omega) (by omega)
  have l1 : μ1.length = μ.length := by rw [w1.len, w.len]
  unfold V_l_stretch D_l_stretch
  by_cases h2 : r1 < 2
  · refine ⟨if r1 = 0 then none else some (none, none), μ1, ?_, by split <;> trivial, by split <;> simp [bS, bE], w1.mono (by omega)⟩
    walk_at "ex"
    rw [cutd_len l1, cutd_len l1]
    split <;> rfl
  obtain ⟨x, μ2, e2, ⟨a2, b2⟩, w2⟩ := number_ok w1 (by omega)
  have l2 : μ2.length = μ.length := by rw [w2.len, w.len]
  by_cases h6 : r1 < 6
  · refine ⟨if r1 < 4 then some (none, some x) else some (some x, none), μ2, ?_, by split <;> trivial, by split <;> simp [bS, bE] <;> omega, w2.mono (by omega)⟩
    walk_at "ex"
    rw [cutd_len l2, cutd_len l2]
    split <;> rfl
  by_cases h7 : r1 = 6
  · refine ⟨some (some x, some x), μ2, ?_, Int.le_refl _, by simp [bS, bE]; omega, w2.mono (by omega)⟩
    subst h7
    walk_at "ex"
    rw [cutd_len l2]
    rfl
  by_cases h12 : r1 < 12
  · obtain ⟨y, μ3, e3, a3, b3, w3⟩ := take_ok w2 (by omega) (m := 12) (by omega) (by omega)
    have l3 : μ3.length = μ.length := by rw [w3.len, w.len]
    refine ⟨some (some x, some (x + y)), μ3, ?_, (by omega : x ≤ x + y), by simp [bS, bE]; omega, w3.mono (by omega)⟩
    walk_at "ex"
    rw [cutd_len l3]
    rfl
  · obtain ⟨y, μ3, e3, a3, b3, w3⟩ := take_ok w2 (by omega) (m := 100003) (by omega) (by omega)
    have l3 : μ3.length = μ.length := by rw [w3.len, w.len]
    refine ⟨some (some x, some (x + y)), μ3, ?_, (by omega : x ≤ x + y), by simp [bS, bE]; omega, w3.mono (by omega)⟩
    walk_at "ex"
    rw [cutd_len l3]
    rfl
/-! ### ends that are told -/
theorem told_ok {ρ : RO} {i : Nat} {fa : Den} (ends : List (Option Int)) (hl : ends.length ≤ 1000) (hi : i < ρ.length) (hf : fa ρ μ = some (.tup (ends.map oi), μ)) :
    dLc (iSeq fa) (bd1 i) (dOp2 oIsnt (dVar i) (dC .non)) (dVar i) ρ μ = some (.lst ((ends.filterMap id).map DV.int), μ) := by
  have := dLc_pure (fi := iSeq fa) (bd := bd1 i) (c := dOp2 oIsnt (dVar i) (dC .non)) (elt := dVar i) (p := fun d => !DV.isN d) (g := id) (ds := ends.map oi) (ρ := ρ) (μ := μ) (by simp [iSeq, hf]) (by simp; omega) (fun d hd => ⟨_, rfl, fun μ' => ⟨by
    simp [dOp2, dVar, dC, oIsnt, List.getElem?_set_self hi], fun _ => by simp [dVar, List.getElem?_set_self hi]⟩⟩) (fun d hd _ => by
      obtain ⟨o, _, rfl⟩ := List.mem_map.mp hd
      exact bel_oi _ _)
  rw [this]
  have e : ∀ l : List (Option Int), List.map id (List.filter (fun d => !DV.isN d) (List.map oi l)) = (l.filterMap id).map DV.int := by
    intro l
    induction l with
    | nil => rfl
    | cons o l ih => cases o <;> simp_all [oi, DV.isN]
  rw [e]
@[simp] theorem sh_ints (ns : List Int) (n : Nat) : shL n (ns.map DV.int) = true := by
  induction ns with
  | nil => rfl
  | cons x ns ih => cases n <;> simp [shL, shD, ih]
@[simp] theorem sh_intsD (ns : List Int) : shD 60 (.lst (ns.map DV.int)) = true := by
  show shL 59 _ = true
  simp
@[simp] theorem eqv_ints (ns : List Int) : eqvD (.lst (ns.map DV.int)) (.lst []) = ns.isEmpty := by cases ns <;> rfl
/-- numbers within bounds -/
def bN (B : Int) (ns : List Int) : Prop := ∀ x ∈ ns, -1267650600228229401496703205376 - B < x ∧ x < 1267650600228229401496703205376 + B
theorem near_ok {k : Nat} {μ0 : List MO} {n : Nat} (w : Sr k μ0 n μ) (hn : n < 1152921504606810000) (ends : List (Option Int)) (hl : ends.length ≤ 1000) {B : Int} (hB0 : 100003 ≤ B) (hB : ∀ o ∈ ends, bE B o) :
    ∃ s μ', V_l_near [.mu k, .tup (ends.map oi)] μ = some (eS s, μ') ∧ wS s ∧ bS (B + 2) s ∧ Sr k μ0 (n + 10) μ' := by
  have hlots : (ends.filterMap id).length ≤ 1000 := Nat.le_trans (List.length_filterMap_le _ _) hl
  have hbn : ∀ x ∈ ends.filterMap id, -1267650600228229401496703205376 - B < x ∧ x < 1267650600228229401496703205376 + B := by
    intro x hx
    obtain ⟨o, ho, he⟩ := List.mem_filterMap.mp hx
    cases he
    exact hB _ ho
  have k1 := told_ok (μ := μ) (ρ := [some (.mu k), some (.tup (ends.map oi)), none, none, none, none, none]) (i := 6) (fa := dVar 1) ends hl (by simp) rfl
  generalize hL : ends.filterMap id = lots at *
  unfold V_l_near D_l_near
  by_cases he : lots = []
  · obtain ⟨s, μ1, e1, h1, h2, w1⟩ := stretch_ok w (by omega)
    have l1 : μ1.length = μ.length := by rw [w1.len, w.len]
    refine ⟨s, μ1, ?_, h1, h2.mono (by omega), w1.mono (by omega)⟩
    subst he
    walk_at "ex"
    rw [cutd_len l1]
  have hne : lots.isEmpty = false := by cases lots <;> simp_all
  have hlen : 0 < (lots.map DV.int).length := by cases lots <;> simp_all
  obtain ⟨r1, μ1, e1, a1, b1, w1⟩ := take_ok w (by omega) (m := 4) (by omega) (by omega)
  by_cases h0 : r1 = 0
  · obtain ⟨s, μ2, e2, h1, h2, w2⟩ := stretch_ok w1 (by omega)
    have l2 : μ2.length = μ.length := by rw [w2.len, w.len]
    refine ⟨s, μ2, ?_, h1, h2.mono (by omega), w2⟩
    subst h0
    walk_at "ex"
    rw [cutd_len l2]
  obtain ⟨d, μ2, e2, hd, w2⟩ := pick_ok w1 (by omega) (ds := lots.map DV.int) hlen (by simp; omega)
  obtain ⟨x, hx, rfl⟩ := List.mem_map.mp hd
  obtain ⟨x1, x2⟩ := hbn x hx
  obtain ⟨r3, μ3, e3, a3, b3, w3⟩ := take_ok w2 (by omega) (m := 5) (by omega) (by omega)
  obtain ⟨r4, μ4, e4, a4, b4, w4⟩ := take_ok w3 (by omega) (m := 7) (by omega) (by omega)
  have l4 : μ4.length = μ.length := by rw [w4.len, w.len]
  by_cases h2 : r4 < 2
  · refine ⟨if r4 = 0 then some (none, some (x + r3 - 2)) else some (some (x + r3 - 2), none), μ4, ?_, by split <;> trivial, by split <;> simp [bS, bE] <;> omega, w4.mono (by omega)⟩
    walk_at "ex"
    rw [cutd_len l4, cutd_len l4]
    split <;> rfl
  by_cases h6 : r4 < 6
  · obtain ⟨d, μ5, e5, hd, w5⟩ := pick_ok w4 (by omega) (ds := lots.map DV.int) hlen (by simp; omega)
    obtain ⟨y, hy, rfl⟩ := List.mem_map.mp hd
    obtain ⟨y1, y2⟩ := hbn y hy
    obtain ⟨r6, μ6, e6, a6, b6, w6⟩ := take_ok w5 (by omega) (m := 5) (by omega) (by omega)
    have l6 : μ6.length = μ.length := by rw [w6.len, w.len]
    refine ⟨some (some (min (x + r3 - 2) (y + r6 - 2)), some (max (x + r3 - 2) (y + r6 - 2))), μ6, ?_, by show min _ _ ≤ max _ _; omega, by simp only [bS, bE]; omega, w6.mono (by omega)⟩
    have q1 : (if y + r6 < x + r3 then y + r6 - 2 else x + r3 - 2) = min (x + r3 - 2) (y + r6 - 2) := by omega
    have q2 : (if x + r3 < y + r6 then y + r6 - 2 else x + r3 - 2) = max (x + r3 - 2) (y + r6 - 2) := by omega
    walk_at "ex"
    rw [cutd_len l6]
    try rw [q1, q2]
    rfl
  · refine ⟨some (some (x + r3 - 2), some (x + r3 - 2)), μ4, ?_, Int.le_refl _, by simp only [bS, bE]; omega, w4.mono (by omega)⟩
    walk_at "ex"
    rw [cutd_len l4]
    rfl

end Lw

namespace Lw
open PySem PySem.Spec L2 Eg
local macro_rules | `(tactic| walk_at "ex") => `(tactic| simp [eFn, startD, esCons, sRet, esIf, sNil, sSet, sAsg, sExp, sPar2, sPar3, dVar, dC, dOp2, dCall, dBlt, dTup, dLst, dLstM, eIf, eAnd, eOr, eNot, eNeg, dIsi, eChain, aCons, aNil, gTu, gAnd, gNm, gSb, gEnd, dSl, runP, sFor, forL_nil, forL_cons, iSeq, iRange1, iRange2, oDiv_ok, oMod_ok, oPow_ok, oSub, oLt, oLe, oGt, oGe, oEq, oNe, oIs, oIsnt, xIx_t, xIx_l, xIx_m, xIx_s, oLen, oInt, oAbs, oMM, oTuple, oDivmod, oInN, flatL, DV.flat, dCallW, permI, oAll, blsD, oMax1, oMin1, maxI, minI, intsD, inV1, inV2, eqV, DV.isN, eqvD, eqvL, shD, shL, xItems_t, xItems_l, xItems_m, xLen_t, xLen_l, xLen_m, xLen_s, atI, ixN, DV.ty, kitT, sl_eq, *])
variable {μ : List MO}
/-! ### stretches: what holds of them -/
theorem within_join (s t u : Sp) : within (join s t) u = (within s u && within t u) := by
  match s, t, u with
  | none, t, u => simp [join, within]
  | some (a, b), none, u => cases u <;> simp [join, within]
  | some (a, b), some (c, d), none => simp [join, within]
  | some (a, b), some (c, d), some (e, f) =>
    have h1 : lowB (minL a c) e = (lowB a e || lowB c e) := by
      cases a <;> cases c <;> cases e <;> simp [minL, lowB] <;> (rw [Bool.eq_iff_iff]; simp; omega)
    have h2 : highB (maxH b d) f = (highB b f || highB d f) := by
      cases b <;> cases d <;> cases f <;> simp [maxH, highB] <;> (rw [Bool.eq_iff_iff]; simp; omega)
    simp only [join, within, h1, h2]
    cases lowB a e <;> cases lowB c e <;> cases highB b f <;> cases highB d f <;> rfl
theorem within_meet (s t u : Sp) (hu : wS u) : within u (meet s t) = (within u s && within u t) := by
  match u, s, t with
  | none, s, t => simp [within]
  | some (a, b), none, t => simp [meet, within]
  | some (a, b), some (c, d), none => simp [meet, within]
  | some (a, b), some (c, d), some (e, f) =>
    have h1 : lowB a (maxL c e) = (lowB a c || lowB a e) := by
      cases a <;> cases c <;> cases e <;> simp [maxL, lowB] <;> (rw [Bool.eq_iff_iff]; simp; omega)
    have h2 : highB b (minH d f) = (highB b d || highB b f) := by
      cases b <;> cases d <;> cases f <;> simp [minH, highB] <;> (rw [Bool.eq_iff_iff]; simp; omega)
    have h3 : within (some (a, b)) (fromE (maxL c e) (minH d f)) = (!lowB a (maxL c e) && !highB b (minH d f)) := by
      cases hl : maxL c e with
      | none => simp [fromE, within]
      | some l =>
        cases hh : minH d f with
        | none => simp [fromE, within]
        | some h =>
          simp only [fromE]
          by_cases hc : h < l
          · rw [if_pos hc]
            cases a <;> cases b <;> simp [within, lowB, highB]
            have : _ ≤ _ := hu
            omega
          · rw [if_neg hc]
            rfl
    show within (some (a, b)) (fromE (maxL c e) (minH d f)) = _
    rw [h3, h1, h2]
    simp only [within]
    cases lowB a c <;> cases lowB a e <;> cases highB b d <;> cases highB b f <;> rfl
theorem meet_join (s t : Sp) (hs : wS s) : meet s (join s t) = s := by
  match s, t, hs with
  | none, t, _ => rfl
  | some (a, b), none, h =>
    cases a <;> cases b <;> simp [join, meet, maxL, minH, fromE]
    exact h
  | some (a, b), some (c, d), h =>
    have h1 : maxL a (minL a c) = a := by cases a <;> cases c <;> simp [maxL, minL] <;> omega
    have h2 : minH b (maxH b d) = b := by cases b <;> cases d <;> simp [minH, maxH] <;> omega
    simp only [join, meet, h1, h2]
    cases a <;> cases b <;> simp [fromE]
    exact h
theorem join_meet (s t : Sp) (hs : wS s) : join s (meet s t) = s := by
  match s, t, hs with
  | none, t, _ => rfl
  | some (a, b), none, h => rfl
  | some (a, b), some (c, d), h =>
    have h1 : minL a (maxL a c) = a := by cases a <;> cases c <;> simp [maxL, minL] <;> omega
    have h2 : maxH b (minH b d) = b := by cases b <;> cases d <;> simp [minH, maxH] <;> omega
    simp only [meet]
    cases hl : maxL a c with
    | none => rw [hl] at h1; cases hh : minH b d with
      | none => rw [hh] at h2; simp [fromE, join, h1, h2]
      | some h => rw [hh] at h2; simp [fromE, join, h1, h2]
    | some l =>
      rw [hl] at h1
      cases hh : minH b d with
      | none => rw [hh] at h2; simp [fromE, join, h1, h2]
      | some h =>
        rw [hh] at h2
        simp only [fromE]
        split
        · rfl
        · simp [join, h1, h2]
theorem join_assoc (s t u : Sp) : join (join s t) u = join s (join t u) := by
  match s, t, u with
  | none, t, u => rfl
  | some (a, b), none, u => rfl
  | some (a, b), some (c, d), none => rfl
  | some (a, b), some (c, d), some (e, f) =>
    have h1 : minL (minL a c) e = minL a (minL c e) := by cases a <;> cases c <;> cases e <;> simp [minL] <;> omega
    have h2 : maxH (maxH b d) f = maxH b (maxH d f) := by cases b <;> cases d <;> cases f <;> simp [maxH] <;> omega
    simp only [join, h1, h2]
theorem holds_meet (s t : Sp) (x : Int) : holds (meet s t) x = (holds s x && holds t x) := by
  match s, t with
  | none, t => rfl
  | some (a, b), none => simp [meet, holds]
  | some (a, b), some (c, d) =>
    have h1 : loI (maxL a c) x = (loI a x && loI c x) := by cases a <;> cases c <;> simp [maxL, loI] <;> (rw [Bool.eq_iff_iff]; simp; omega)
    have h2 : hiI (minH b d) x = (hiI b x && hiI d x) := by cases b <;> cases d <;> simp [minH, hiI] <;> (rw [Bool.eq_iff_iff]; simp; omega)
    have h3 : holds (fromE (maxL a c) (minH b d)) x = (loI (maxL a c) x && hiI (minH b d) x) := by
      cases hl : maxL a c with
      | none => rfl
      | some l =>
        cases hh : minH b d with
        | none => rfl
        | some h =>
          simp only [fromE]
          by_cases hc : h < l
          · rw [if_pos hc]
            simp [holds, loI, hiI]
            omega
          · rw [if_neg hc]
            rfl
    show holds (fromE (maxL a c) (minH b d)) x = _
    rw [h3, h1, h2]
    simp only [holds]
    cases loI a x <;> cases loI c x <;> cases hiI b x <;> cases hiI d x <;> rfl
/-- what ends hold tells the stretch -/
theorem holds_join (s t : Sp) (x : Int) (h : (holds s x || holds t x) = true) : holds (join s t) x = true := by
  match s, t with
  | none, t => simpa [holds, join] using h
  | some (a, b), none => simpa [holds, join] using h
  | some (a, b), some (c, d) =>
    have h1 : loI (minL a c) x = (loI a x || loI c x) := by cases a <;> cases c <;> simp [minL, loI] <;> (rw [Bool.eq_iff_iff]; simp; omega)
    have h2 : hiI (maxH b d) x = (hiI b x || hiI d x) := by cases b <;> cases d <;> simp [maxH, hiI] <;> (rw [Bool.eq_iff_iff]; simp; omega)
    simp only [join, holds, h1, h2] at h ⊢
    revert h
    cases loI a x <;> cases loI c x <;> cases hiI b x <;> cases hiI d x <;> simp
theorem within_anti (s t : Sp) (hs : wS s) (ht : wS t) (h1 : within s t = true) (h2 : within t s = true) : s = t := by
  match s, t with
  | none, none => rfl
  | none, some (c, d) => simp [within] at h2
  | some (a, b), none => simp [within] at h1
  | some (a, b), some (c, d) =>
    cases a <;> cases b <;> cases c <;> cases d <;> simp [within, lowB, highB] at h1 h2 ⊢ <;> omega
theorem meet_assoc (s t u : Sp) (hs : wS s) (ht : wS t) (hu : wS u) : meet (meet s t) u = meet s (meet t u) := by
  have w1 := wS_meet (meet s t) u
  have w2 := wS_meet s (meet t u)
  have r1 : ∀ v, wS v → within v v = true := by
    intro v hv
    match v with
    | none => rfl
    | some (a, b) => cases a <;> cases b <;> simp [within, lowB, highB]
  have e : ∀ v, wS v → within v (meet (meet s t) u) = within v (meet s (meet t u)) := by
    intro v hv
    rw [within_meet _ _ _ hv, within_meet _ _ _ hv, within_meet _ _ _ hv, within_meet _ _ _ hv]
    cases within v s <;> cases within v t <;> cases within v u <;> rfl
  refine within_anti _ _ w1 w2 ?_ ?_
  · rw [← e _ w1]; exact r1 _ w1
  · rw [e _ w2]; exact r1 _ w2
/-! ### alike -/
mutual
def sm : Nat → DV → Bool
  | _, .non => true
  | _, .bl _ => true
  | _, .int _ => true
  | n + 1, .tup ds => smL n ds
  | _, _ => false
def smL : Nat → List DV → Bool
  | _, [] => true
  | n, d :: ds => sm n d && smL n ds
end
theorem smL_mem {n : Nat} : ∀ {ds : List DV}, smL n ds = true → ∀ d ∈ ds, sm n d = true
  | [], _, _, h => by cases h
  | x :: ds, h, d, hd => by
    have h' : (sm n x && smL n ds) = true := by simpa [smL] using h
    rcases List.mem_cons.mp hd with rfl | hd
    · exact (Bool.and_eq_true_iff.mp h').1
    · exact smL_mem (Bool.and_eq_true_iff.mp h').2 d hd
theorem zipD_self (ds : List DV) : zipD ds ds = ds.map fun d => DV.tup [d, d] := by
  unfold zipD
  induction ds with
  | nil => rfl
  | cons d ds ih => simp [ih]
mutual
/-- few elements everywhere -/
def fewD : DV → Bool
  | .tup ds => decide (ds.length ≤ 1000) && fewL ds
  | _ => true
def fewL : List DV → Bool
  | [] => true
  | d :: ds => fewD d && fewL ds
end
theorem fewL_mem : ∀ {ds : List DV}, fewL ds = true → ∀ d ∈ ds, fewD d = true
  | [], _, _, h => by cases h
  | x :: ds, h, d, hd => by
    have h' : (fewD x && fewL ds) = true := by simpa [fewL] using h
    rcases List.mem_cons.mp hd with rfl | hd
    · exact (Bool.and_eq_true_iff.mp h').1
    · exact fewL_mem (Bool.and_eq_true_iff.mp h').2 d hd
@[simp] theorem l_is_whole_i (i : Int) : V_l_is_whole [.int i] μ = some (.bl true, μ) := by
  unfold V_l_is_whole D_l_is_whole; walk_at "ex"
theorem l_same_ok : ∀ (n : Nat) (d : DV) (μ : List MO), sm n d = true → fewD d = true → V_l_same (n + 1) [d, d] μ = some (.bl true, μ) := by
  intro n
  induction n with
  | zero =>
    intro d μ h _
    unfold V_l_same D_l_same
    cases d <;> simp [sm] at h <;> walk_at "ex"
  | succ n ih =>
    intro d μ h hf
    cases d with
    | tup ds =>
      have h' : smL n ds = true := by simpa [sm] using h
      have hf' : (decide (ds.length ≤ 1000) && fewL ds) = true := by simpa [fewD] using hf
      have f1 : ds.length ≤ 1000 := of_decide_eq_true (Bool.and_eq_true_iff.mp hf').1
      have key : dLc (iZip (aCons (dVar 0) (aCons (dVar 1) aNil))) (bd2 2 3) dT (dCall (V_l_same (n + 1)) (aCons (dVar 2) (aCons (dVar 3) aNil))) [some (.tup ds), some (.tup ds), none, none] μ = some (.lst ((ds.map fun d => DV.tup [d, d]).map fun _ => DV.bl true), μ) := by
        refine dLc_map (by simp [Eg.iZip, aCons, aNil, dVar, zipD_self]) (by simp; omega) ?_ fun _ _ => rfl
        intro d hd
        obtain ⟨x, hx, rfl⟩ := List.mem_map.mp hd
        refine ⟨_, rfl, fun μ' => ?_⟩
        simp [dCall, aCons, aNil, dVar, ih x μ' (smL_mem h' x hx) (fewL_mem (Bool.and_eq_true_iff.mp hf').2 x hx)]
      have key2 : dLc (Eg.iZip (aCons (dVar 0) (aCons (dVar 1) aNil))) (bd2 2 3) dT (dCall (V_l_same (n + 1)) (aCons (dVar 2) (aCons (dVar 3) aNil))) [some (.tup ds), some (.tup ds), none, none] μ = some (.lst (ds.map fun _ => DV.bl true), μ) := by
        rw [key, List.map_map]
        rfl
      clear key
      unfold V_l_same D_l_same
      walk_at "ex"
    | _ => 
      unfold V_l_same D_l_same
      simp [sm] at h <;> walk_at "ex"
@[simp] theorem l_same8 (d : DV) (h : sm 7 d = true) (h2 : fewD d = true) : V_l_same 8 [d, d] μ = some (.bl true, μ) := l_same_ok 7 d μ h h2
@[simp] theorem sm_oi (n : Nat) (o : Option Int) : sm n (oi o) = true := by cases n <;> cases o <;> rfl
@[simp] theorem sm_eS (n : Nat) (s : Sp) : sm (n + 1) (eS s) = true := by
  match s with
  | none => rfl
  | some (l, h) => simp [eS, sm, smL]
@[simp] theorem few_oi (o : Option Int) : fewD (oi o) = true := by cases o <;> rfl
@[simp] theorem few_eS (s : Sp) : fewD (eS s) = true := by
  match s with
  | none => rfl
  | some (l, h) => simp [eS, fewD, fewL]
@[simp] theorem sm_bl (n : Nat) (b : Bool) : sm n (.bl b) = true := by cases n <;> rfl
@[simp] theorem sm_int (n : Nat) (b : Int) : sm n (.int b) = true := by cases n <;> rfl
@[simp] theorem sm_non (n : Nat) : sm n .non = true := by cases n <;> rfl
@[simp] theorem sm_tup (n : Nat) (ds : List DV) : sm (n + 1) (.tup ds) = smL n ds := rfl
@[simp] theorem smL_nil (n : Nat) : smL n [] = true := by cases n <;> rfl
@[simp] theorem smL_cons (n : Nat) (d : DV) (ds : List DV) : smL n (d :: ds) = (sm n d && smL n ds) := by cases n <;> rfl
@[simp] theorem few_bl (b : Bool) : fewD (.bl b) = true := rfl
@[simp] theorem few_int (b : Int) : fewD (.int b) = true := rfl
@[simp] theorem few_non : fewD .non = true := rfl
@[simp] theorem few_tup (ds : List DV) : fewD (.tup ds) = (decide (ds.length ≤ 1000) && fewL ds) := rfl
@[simp] theorem few_nil : fewL [] = true := rfl
@[simp] theorem few_cons (d : DV) (ds : List DV) : fewL (d :: ds) = (fewD d && fewL ds) := rfl
@[simp] theorem l_same8_bl (b : Bool) : V_l_same 8 [.bl b, .bl b] μ = some (.bl true, μ) := l_same8 _ (by simp) (by simp)
@[simp] theorem l_same8_int (b : Int) : V_l_same 8 [.int b, .int b] μ = some (.bl true, μ) := l_same8 _ (by simp) (by simp)
@[simp] theorem l_same8_eS (s : Sp) : V_l_same 8 [eS s, eS s] μ = some (.bl true, μ) := l_same8 _ (by simp) (by simp)

end Lw

namespace Lw
open PySem PySem.Spec L2 Eg
local macro_rules | `(tactic| walk_at "ex") => `(tactic| simp [eFn, startD, esCons, sRet, esIf, sNil, sSet, sAsg, sExp, sPar2, sPar3, dVar, dC, dOp2, dCall, dBlt, dTup, dLst, dLstM, eIf, eAnd, eOr, eNot, eNeg, dIsi, eChain, aCons, aNil, gTu, gAnd, gNm, gSb, gEnd, dSl, runP, sFor, forL_nil, forL_cons, iSeq, iRange1, iRange2, oDiv_ok, oMod_ok, oPow_ok, oSub, oLt, oLe, oGt, oGe, oEq, oNe, oIs, oIsnt, xIx_t, xIx_l, xIx_m, xIx_s, oLen, oInt, oAbs, oMM, oTuple, oDivmod, oInN, flatL, DV.flat, dCallW, permI, oAll, blsD, oMax1, oMin1, maxI, minI, intsD, inV1, inV2, eqV, DV.isN, eqvD, eqvL, shD, shL, xItems_t, xItems_l, xItems_m, xLen_t, xLen_l, xLen_m, xLen_s, atI, ixN, DV.ty, kitT, sl_eq, *])
variable {μ : List MO}
/-! ### rests -/
abbrev Rs := Option (Int × Int)
def eR : Rs → DV
  | none => .tup []
  | some (n, d) => .tup [.int n, .int d]
def wR : Rs → Prop
  | none => True
  | some (n, d) => d = 0 ∨ (0 < d ∧ d ∣ 20160 ∧ 0 ≤ n ∧ n < d)
def rholds : Rs → Int → Bool
  | none, _ => false
  | some (n, d), x => if d = 0 then decide (n = x) else decide (x % d = n)
def rwith : Rs → Rs → Bool
  | none, _ => true
  | some _, none => false
  | some (n, d), some (m, e) => if e = 0 then decide (n = m ∧ d = e) else decide (d % e = 0) && rholds (some (m, e)) n
theorem emod_n {n d : Int} (hd : 0 < d) (h0 : 0 ≤ n) (h1 : n < d) : n % d = n := Int.emod_eq_of_lt h0 h1
@[simp] theorem eqv_R0 (r : Rs) : eqvD (eR r) (.tup []) = r.isNone := by
  match r with
  | none => rfl
  | some (n, d) => rfl
@[simp] theorem sh_eR (n : Nat) (r : Rs) : shD (n + 1) (eR r) = true := by
  match r with
  | none => rfl
  | some (a, b) => cases n <;> simp [eR, shD, shL]
@[simp] theorem eqv_RR (n d m e : Int) : eqvD (.tup [.int n, .int d]) (.tup [.int m, .int e]) = decide (n = m ∧ d = e) := by
  simp [eqvD, eqvL]
@[simp] theorem sm_eR (n : Nat) (r : Rs) : sm (n + 1) (eR r) = true := by
  match r with
  | none => rfl
  | some (a, b) => simp [eR]
@[simp] theorem few_eR (r : Rs) : fewD (eR r) = true := by
  match r with
  | none => rfl
  | some (a, b) => simp [eR]
@[simp] theorem bel_eR (n : Nat) (r : Rs) : DV.bel n (eR r) = true := by
  match r with
  | none => rfl
  | some (a, b) => simp [eR, DV.bel, DV.belL]
@[simp] theorem is_residue_ok (r : Rs) (h : wR r) : V_is_residue [eR r] μ = some (.bl true, μ) := by
  have key : ∀ ns : List Int, ns.length ≤ 2 → dLc (iSeq (dVar 0)) (bd1 1) dT (dCall V_is_whole (aCons (dVar 1) aNil)) [some (.tup (ns.map DV.int)), none, none] μ = some (.lst ((ns.map DV.int).map fun _ => DV.bl true), μ) := by
    intro ns hl
    refine dLc_map (ds := ns.map DV.int) (by simp [iSeq, dVar]) (by simp; omega) ?_ fun _ _ => rfl
    intro d hd
    obtain ⟨x, _, rfl⟩ := List.mem_map.mp hd
    exact ⟨_, rfl, fun μ' => by walk_at "ex"⟩
  unfold V_is_residue D_is_residue
  match r, h with
  | none, _ =>
    have k := key [] (by simp)
    simp only [List.map] at k
    simp only [eR]
    walk_at "ex"
  | some (n, d), .inl e =>
    have k := key [n, d] (by simp)
    simp only [List.map] at k
    subst e
    simp only [eR]
    walk_at "ex"
  | some (n, d), .inr ⟨hd, hv, h0, h1⟩ =>
    have k := key [n, d] (by simp)
    simp only [List.map] at k
    have z : (20160 : Int) % d = 0 := Int.emod_eq_zero_of_dvd hv
    have nz : d ≠ 0 := by omega
    have om : ∀ μ : List MO, oMod (.int 20160) (.int d) μ = some (.int 0, μ) := fun μ => by rw [oMod_ok hd, z]
    simp only [eR]
    walk_at "ex"
@[simp] theorem refuse_rest_ok (r : Rs) (h : wR r) : V_refuse_wrong_rest [eR r] μ = some (.non, μ) := by
  unfold V_refuse_wrong_rest D_refuse_wrong_rest; walk_at "ex"
@[simp] theorem refuse_rests_ok (r t : Rs) (h : wR r) (h2 : wR t) : V_refuse_wrong_rests [eR r, eR t] μ = some (.non, μ) := by
  unfold V_refuse_wrong_rests D_refuse_wrong_rests; walk_at "ex"
theorem residue_of_ok (x d : Int) (h : d = 0 ∨ 0 < d) : V_residue_of [.int x, .int d] μ = some (.tup [.int (if d = 0 then x else x % d), .int d], μ) := by
  unfold V_residue_of D_residue_of
  rcases h with rfl | h
  · walk_at "ex"
  · have nz : d ≠ 0 := by omega
    walk_at "ex"
@[simp] theorem residue_holds_ok (r : Rs) (x : Int) (h : wR r) : V_residue_holds [eR r, .int x] μ = some (.bl (rholds r x), μ) := by
  unfold V_residue_holds D_residue_holds
  match r, h with
  | none, _ => simp only [eR]; walk_at "ex"; rfl
  | some (n, d), h =>
    have e := fun μ => residue_of_ok (μ := μ) x d (by rcases h with h | h <;> omega)
    simp only [eR]
    walk_at "ex"
    unfold rholds
    by_cases z : d = 0
    · simp only [if_pos z]
      exact decide_eq_decide.mpr ⟨Eq.symm, Eq.symm⟩
    · simp only [if_neg z]
@[simp] theorem rest_holds_ok (r : Rs) (x : Int) (h : wR r) : V_rest_holds [eR r, .int x] μ = some (.bl (rholds r x), μ) := by
  unfold V_rest_holds D_rest_holds; walk_at "ex"
@[simp] theorem residue_within_ok (r t : Rs) (h : wR r) (h2 : wR t) : V_residue_within [eR r, eR t] μ = some (.bl (rwith r t), μ) := by
  unfold V_residue_within D_residue_within
  match r, t, h, h2 with
  | none, none, _, _ => simp only [eR]; walk_at "ex"; rfl
  | none, some (m, e), _, _ => simp only [eR]; walk_at "ex"; rfl
  | some (n, d), none, _, _ => simp only [eR]; walk_at "ex"; rfl
  | some (n, d), some (m, e), h, h2 =>
    have rh := fun μ => residue_holds_ok (μ := μ) (some (m, e)) n h2
    by_cases z : e = 0
    · subst z
      simp only [eR] at rh ⊢
      walk_at "ex"
      simp [rwith]
    · have e0 : 0 < e := by rcases h2 with h2 | h2 <;> omega
      simp only [eR] at rh ⊢
      walk_at "ex"
      simp only [rwith, if_neg z]
@[simp] theorem rest_within_ok (r t : Rs) (h : wR r) (h2 : wR t) : V_rest_within [eR r, eR t] μ = some (.bl (rwith r t), μ) := by
  unfold V_rest_within D_rest_within; walk_at "ex"
@[simp] theorem l_rest_has_ok (r : Rs) (x : Int) (h : wR r) : V_l_rest_has [eR r, .int x] μ = some (.bl (rholds r x), μ) := by
  unfold V_l_rest_has D_l_rest_has
  match r, h with
  | none, _ => simp only [eR]; walk_at "ex"; rfl
  | some (n, d), h =>
    by_cases z : d = 0
    · subst z
      simp only [eR]
      walk_at "ex"
      simp [rholds]
    · have hd : 0 < d := by rcases h with h | h <;> omega
      simp only [eR]
      walk_at "ex"
      simp [rholds, z]
/-! ### the greatest common divisor -/
theorem common_ok (a b : Int) (hb : b.natAbs < 2 ^ 200) : V_l_common [.int a, .int b] μ = some (.int (Int.gcd a b : Nat), μ) := by
  have step : ∀ (n x y : Nat), 0 < y → whL (dOp2 oNe (dVar 1) (dC (.int 0))) (sCons (sPar2 0 1 (aCons (dVar 1) (aCons (dOp2 oMod (dBlt oInt (aCons (dVar 0) aNil)) (dVar 1)) aNil))) sNil) (n + 1) [some (.int (x : Int)), some (.int (y : Int))] μ = whL (dOp2 oNe (dVar 1) (dC (.int 0))) (sCons (sPar2 0 1 (aCons (dVar 1) (aCons (dOp2 oMod (dBlt oInt (aCons (dVar 0) aNil)) (dVar 1)) aNil))) sNil) n [some (.int (y : Int)), some (.int ((x % y : Nat) : Int))] μ := by
    intro n x y hy
    have om : ∀ μ : List MO, oMod (.int (x : Int)) (.int (y : Int)) μ = some (.int ((x % y : Nat) : Int), μ) := fun μ => by
      rw [oMod_ok (by omega)]
      rfl
    have z : ¬ y = 0 := by omega
    have z' : ¬ (y : Int) = 0 := by omega
    rw [whL_succ]
    generalize hW : whL _ _ n = W
    simp [dOp2, dVar, dC, oNe, shD, eqvD, z', z, esCons, sPar2, aCons, aNil, dBlt, oInt, om, sNil]
  have stop : ∀ (n x : Nat), whL (dOp2 oNe (dVar 1) (dC (.int 0))) (sCons (sPar2 0 1 (aCons (dVar 1) (aCons (dOp2 oMod (dBlt oInt (aCons (dVar 0) aNil)) (dVar 1)) aNil))) sNil) (n + 1) [some (.int (x : Int)), some (.int ((0 : Nat) : Int))] μ = some (.nx [some (.int (x : Int)), some (.int ((0 : Nat) : Int))] μ) := by
    intro n x
    rw [whL_succ]
    simp [dOp2, dVar, dC, oNe, shD, eqvD]
  have key : ∀ (f n x y : Nat), y < 2 ^ f → 2 * f < n → whL (dOp2 oNe (dVar 1) (dC (.int 0))) (sCons (sPar2 0 1 (aCons (dVar 1) (aCons (dOp2 oMod (dBlt oInt (aCons (dVar 0) aNil)) (dVar 1)) aNil))) sNil) n [some (.int (x : Int)), some (.int (y : Int))] μ = some (.nx [some (.int (Nat.gcd x y : Nat)), some (.int ((0 : Nat) : Int))] μ) := by
    intro f
    induction f with
    | zero =>
      intro n x y h1 h2
      have : y = 0 := by omega
      subst this
      obtain ⟨m, rfl⟩ : ∃ m, n = m + 1 := ⟨n - 1, by omega⟩
      rw [stop, Nat.gcd_zero_right]
    | succ f ih =>
      intro n x y h1 h2
      obtain ⟨m, rfl⟩ : ∃ m, n = m + 1 + 1 := ⟨n - 2, by omega⟩
      by_cases z : y = 0
      · subst z
        rw [stop, Nat.gcd_zero_right]
      · have hy : 0 < y := by omega
        rw [step _ _ _ hy]
        have g1 : Nat.gcd x y = Nat.gcd y (x % y) := by rw [Nat.gcd_comm x y, Nat.gcd_rec y x, Nat.gcd_comm]
        have lt : x % y < y := Nat.mod_lt _ hy
        rw [g1]
        generalize x % y = r at *
        by_cases zr : r = 0
        · subst zr
          rw [stop, Nat.gcd_zero_right]
        · have hr : 0 < r := by omega
          rw [step _ _ _ hr]
          have g2 : Nat.gcd y r = Nat.gcd r (y % r) := by rw [Nat.gcd_comm y r, Nat.gcd_rec r y, Nat.gcd_comm]
          rw [g2]
          refine ih m r (y % r) ?_ (by omega)
          have l2 : y % r < r := Nat.mod_lt _ hr
          have l3 : r * (y / r) + y % r = y := Nat.div_add_mod y r
          have l4 : 1 ≤ y / r := Nat.div_pos (by omega) hr
          have l5 : r * 1 ≤ r * (y / r) := Nat.mul_le_mul_left _ l4
          have l6 : 2 ^ (f + 1) = 2 * 2 ^ f := by rw [Nat.pow_succ]; omega
          omega
  have k := key 200 Wn a.natAbs b.natAbs hb (by show _ < 1099511627776; omega)
  have a1 : ∀ (x : Int) (μ : List MO), oAbs [.int x] μ = some (.int (x.natAbs : Int), μ) := fun x μ => by
    simp [oAbs]
    split <;> omega
  unfold V_l_common D_l_common
  simp only [eFn, startD]
  simp [esCons, sPar2, aCons, aNil, dBlt, dVar, a1]
  rw [k]
  simp [esCons, sRet, dVar, Int.gcd]
/-! ### the least rest of some numbers -/
theorem least_ok (x0 : Int) (ys : List Int) (hl : ys.length ≤ 1000) (hb : ∀ x ∈ x0 :: ys, (x - x0).natAbs < 2 ^ 200) : ∃ by_ : Nat, V_l_least [.lst ((x0 :: ys).map DV.int)] μ = some (eR (if by_ = 0 then some (x0, 0) else some (x0 % (Nat.gcd by_ 20160 : Nat), (Nat.gcd by_ 20160 : Nat))), μ) ∧
    (∀ x ∈ x0 :: ys, (by_ : Int) ∣ x - x0) ∧ ∀ D : Int, (∀ x ∈ x0 :: ys, D ∣ x - x0) → D ∣ by_ := by
  have i0 : ∀ μ : List MO, oIx (.lst ((x0 :: ys).map DV.int)) (.int 0) μ = some (.int x0, μ) := fun μ => by
    have hat : atI ((x0 :: ys).map DV.int) ((0 : Nat) : Int) = some (.int x0) := atI_nat rfl
    rw [xIx_l, show (0 : Int) = ((0 : Nat) : Int) from rfl, hat]
    rfl
  have hne : ∀ μ : List MO, oEq (.lst ((x0 :: ys).map DV.int)) (.lst []) μ = some (.bl false, μ) := fun μ => by
    unfold oEq
    rw [sh_intsD, eqv_ints]
    rfl
  have hseq : ∀ μ : List MO, iSeq (dVar 0) [some (.lst ((x0 :: ys).map DV.int)), some (.int 0), none] μ = some ((x0 :: ys).map DV.int, μ) := fun μ => by
    simp [iSeq, dVar]
  generalize hX : x0 :: ys = xs at *
  have hx0 : x0 ∈ xs := by rw [← hX]; simp
  generalize hF0 : (DV.lst (xs.map DV.int)) = LL at *
  unfold V_l_least D_l_least
  simp [eFn, startD, esCons, esIf, sNil, dOp2, dVar, dLst, aNil, hne, sSet, dC]
  unfold sFor
  have hseq' := hseq μ
  simp only [hseq', bnd_some]
  generalize hF : forL _ _ _ _ _ = o
  obtain ⟨ρ2, μ2, rfl, by_, c2, rfl, rfl, p1, p2⟩ := forL_at hF (fun i ρ' μ' => ∃ (by_ : Nat) (c2 : Option DV), ρ' = [some LL, some (.int by_), c2] ∧ μ' = μ ∧ (∀ (k : Nat) (x : Int), k < i → xs[k]? = some x → (by_ : Int) ∣ x - x0) ∧ ∀ D : Int, (∀ x ∈ xs, D ∣ x - x0) → D ∣ by_)
    ⟨0, none, rfl, rfl, fun k x h => absurd h (by omega), fun D _ => Int.dvd_zero D⟩ (by
      rintro i dd ρ' μ' hd ⟨by_, c2, rfl, rfl, p1, p2⟩
      rw [List.getElem?_map] at hd
      obtain ⟨x, hx, rfl⟩ := Option.map_eq_some_iff.mp hd
      have xm : x ∈ xs := List.mem_of_getElem? hx
      have co := fun μ => common_ok (μ := μ) (by_ : Int) (x - x0) (by have := hb x xm; omega)
      refine ⟨_, _, _, _, rfl, ?_, Int.gcd by_ (x - x0), some (.int x), rfl, rfl, ?_, ?_⟩
      · simp [esCons, sSet, dCall, aCons, aNil, dOp2, dVar, dC, i0, oSub, co, sNil]
      · intro k y hk hy
        by_cases e : k = i
        · subst e
          rw [hx] at hy
          cases hy
          exact Int.gcd_dvd_right ..
        · exact Int.dvd_trans (Int.gcd_dvd_left ..) (p1 k y (by omega) hy)
      · intro D hD
        exact Int.dvd_coe_gcd (p2 D hD) (hD x xm))
  refine ⟨by_, ?_, ?_, p2⟩
  · by_cases z : by_ = 0
    · subst z
      simp [esCons, esIf, dOp2, dVar, dC, oEq, shD, eqvD, sRet, dTup, aCons, aNil, i0, sNil, eR]
    · have zi : ¬ (by_ : Int) = 0 := by omega
      have co := fun μ => common_ok (μ := μ) (by_ : Int) 20160 (by decide)
      have gg : Int.gcd (by_ : Int) 20160 = Nat.gcd by_ 20160 := rfl
      have gp : 0 < Nat.gcd by_ 20160 := Nat.gcd_pos_of_pos_right _ (by decide)
      rw [gg] at co
      generalize Nat.gcd by_ 20160 = G at *
      have om : ∀ μ : List MO, oMod (.int x0) (.int (G : Int)) μ = some (.int (x0 % (G : Int)), μ) := fun μ => oMod_ok (by omega)
      simp [esCons, esIf, dOp2, dVar, dC, oEq, shD, eqvD, sRet, dTup, aCons, aNil, i0, sNil, eR, z, zi, sSet, dCall, co, dBlt, oInt, om]
  · intro x hx
    obtain ⟨k, hk, e⟩ := List.mem_iff_getElem.mp hx
    exact p1 k x (by rw [List.length_map]; exact hk) (by rw [List.getElem?_eq_getElem hk, e])
theorem pickT_ok {k : Nat} {μ0 : List MO} {n : Nat} (w : Sr k μ0 n μ) (hn : n < 1152921504606846976) {ds : List DV} (h0 : 0 < ds.length) (h1 : ds.length < 1073741824) :
    ∃ d μ', V_l_pick [.mu k, .tup ds] μ = some (d, μ') ∧ d ∈ ds ∧ Sr k μ0 (n + 1) μ' := by
  obtain ⟨r, μ1, e1, r0, r1, w1⟩ := take_ok w hn (m := ds.length) (by omega) (by omega)
  have hr : r.toNat < ds.length := by omega
  refine ⟨ds[r.toNat], μ1, ?_, List.getElem_mem hr, w1⟩
  have hl : μ1.length = μ.length := by rw [w1.len, w.len]
  unfold V_l_pick D_l_pick
  walk_at "ex"
  rw [cutd_len hl]
theorem part_ok {k : Nat} {μ0 : List MO} {n : Nat} (w : Sr k μ0 n μ) (hn : n < 1152921504606800000) : ∃ d μ', V_l_part [.mu k] μ = some (.int d, μ') ∧ 0 < d ∧ d ≤ 20160 ∧ d ∣ 20160 ∧ Sr k μ0 (n + 4) μ' := by
  obtain ⟨d1, μ1, e1, h1, w1⟩ := pickT_ok w (by omega) (ds := [.int 1, .int 1, .int 2, .int 2, .int 4, .int 4, .int 8, .int 16, .int 32, .int 64]) (by simp) (by simp)
  obtain ⟨d2, μ2, e2, h2, w2⟩ := pickT_ok w1 (by omega) (ds := [.int 1, .int 1, .int 3, .int 9]) (by simp) (by simp)
  obtain ⟨d3, μ3, e3, h3, w3⟩ := pickT_ok w2 (by omega) (ds := [.int 1, .int 1, .int 1, .int 5]) (by simp) (by simp)
  obtain ⟨d4, μ4, e4, h4, w4⟩ := pickT_ok w3 (by omega) (ds := [.int 1, .int 1, .int 1, .int 7]) (by simp) (by simp)
  obtain ⟨a, rfl, a0, a1⟩ : ∃ a : Int, d1 = .int a ∧ 0 < a ∧ a ∣ 64 := by
    simp at h1
    rcases h1 with rfl | rfl | rfl | rfl | rfl | rfl | rfl <;> exact ⟨_, rfl, by decide, by decide⟩
  obtain ⟨b, rfl, b0, b1⟩ : ∃ a : Int, d2 = .int a ∧ 0 < a ∧ a ∣ 9 := by
    simp at h2
    rcases h2 with rfl | rfl | rfl <;> exact ⟨_, rfl, by decide, by decide⟩
  obtain ⟨c, rfl, c0, c1⟩ : ∃ a : Int, d3 = .int a ∧ 0 < a ∧ a ∣ 5 := by
    simp at h3
    rcases h3 with rfl | rfl <;> exact ⟨_, rfl, by decide, by decide⟩
  obtain ⟨d, rfl, dd0, dd1⟩ : ∃ a : Int, d4 = .int a ∧ 0 < a ∧ a ∣ 7 := by
    simp at h4
    rcases h4 with rfl | rfl <;> exact ⟨_, rfl, by decide, by decide⟩
  have hv : a * b * c * d ∣ 20160 := Int.mul_dvd_mul (Int.mul_dvd_mul (Int.mul_dvd_mul a1 b1) c1) dd1
  have hp : 0 < a * b * c * d := Int.mul_pos (Int.mul_pos (Int.mul_pos a0 b0) c0) dd0
  have hv1 : a * b ∣ 576 := Int.mul_dvd_mul a1 b1
  have hv2 : a * b * c ∣ 2880 := Int.mul_dvd_mul hv1 c1
  have l0 := Int.le_of_dvd (by decide) a1
  have l1 := Int.le_of_dvd (by decide) b1
  have l2 := Int.le_of_dvd (by decide) c1
  have l3 := Int.le_of_dvd (by decide) dd1
  have l4 := Int.le_of_dvd (by decide) hv1
  have l5 := Int.le_of_dvd (by decide) hv2
  have l6 := Int.le_of_dvd (by decide) hv
  have p4 := Int.mul_pos a0 b0
  have p5 := Int.mul_pos p4 c0
  have o1 : ∀ μ : List MO, oMul (.int a) (.int b) μ = some (.int (a * b), μ) := fun μ => oMul_ok (by omega) (by omega) (by omega) (by omega)
  have o2 : ∀ μ : List MO, oMul (.int (a * b)) (.int c) μ = some (.int (a * b * c), μ) := fun μ => oMul_ok (by omega) (by omega) (by omega) (by omega)
  have o3 : ∀ μ : List MO, oMul (.int (a * b * c)) (.int d) μ = some (.int (a * b * c * d), μ) := fun μ => oMul_ok (by omega) (by omega) (by omega) (by omega)
  have hl : μ4.length = μ.length := by rw [w4.len, w.len]
  refine ⟨a * b * c * d, μ4, ?_, hp, l6, hv, w4⟩
  unfold V_l_part D_l_part
  simp [eFn, startD, esCons, sSet, dCall, aCons, aNil, dVar, dTup, dC, e1, e2, sRet, dOp2, o1, e3, o2, e4, o3, cutd_len hl]
theorem rest_ok {k : Nat} {μ0 : List MO} {n : Nat} (w : Sr k μ0 n μ) (hn : n < 1152921504606790000) : ∃ r μ', V_l_rest [.mu k] μ = some (eR r, μ') ∧ wR r ∧ Sr k μ0 (n + 9) μ' := by
  obtain ⟨b, μ1, e1, b0, b1, w1⟩ := take_ok w (by omega) (m := 9) (by omega) (by omega)
  have l1 : μ1.length = μ.length := by rw [w1.len, w.len]
  unfold V_l_rest D_l_rest
  by_cases h3 : b < 3
  · by_cases z : b = 0
    · refine ⟨none, μ1, ?_, trivial, w1.mono (by omega)⟩
      subst z
      walk_at "ex"
      rw [cutd_len l1]
      rfl
    · obtain ⟨x, μ2, e2, _, w2⟩ := number_ok w1 (by omega)
      have l2 : μ2.length = μ.length := by rw [w2.len, w.len]
      refine ⟨some (x, 0), μ2, ?_, .inl rfl, w2.mono (by omega)⟩
      walk_at "ex"
      rw [cutd_len l2]
      rfl
  · obtain ⟨d, μ2, e2, d0, d1, d2, w2⟩ := part_ok w1 (by omega)
    obtain ⟨x, μ3, e3, x0, x1, w3⟩ := take_ok w2 (by omega) (m := d) d0 (by omega)
    have l3 : μ3.length = μ.length := by rw [w3.len, w.len]
    refine ⟨some (x, d), μ3, ?_, .inr ⟨d0, d2, x0, x1⟩, w3.mono (by omega)⟩
    walk_at "ex"
    rw [cutd_len l3]
    rfl

end Lw

namespace Lw
open PySem PySem.Spec L2 Eg
local macro_rules | `(tactic| walk_at "ex") => `(tactic| simp [eFn, startD, esCons, sRet, esIf, sNil, sSet, sAsg, sExp, sPar2, sPar3, dVar, dC, dOp2, dCall, dBlt, dTup, dLst, dLstM, eIf, eAnd, eOr, eNot, eNeg, dIsi, eChain, aCons, aNil, gTu, gAnd, gNm, gSb, gEnd, dSl, runP, sFor, forL_nil, forL_cons, iSeq, iRange1, iRange2, oDiv_ok, oMod_ok, oPow_ok, oSub, oLt, oLe, oGt, oGe, oEq, oNe, oIs, oIsnt, xIx_t, xIx_l, xIx_m, xIx_s, oLen, oInt, oAbs, oMM, oTuple, oDivmod, oInN, flatL, DV.flat, dCallW, permI, oAll, blsD, oMax1, oMin1, maxI, minI, intsD, inV1, inV2, eqV, DV.isN, eqvD, eqvL, shD, shL, xItems_t, xItems_l, xItems_m, xLen_t, xLen_l, xLen_m, xLen_s, atI, ixN, DV.ty, kitT, sl_eq, *])
variable {μ : List MO}
/-! ### joined rests -/
def rjoin (r s : Rs) : Rs := match r, s with
  | none, s => s
  | r, none => r
  | some (n, d), some (m, e) => if n = m ∧ d = e then some (n, d) else some (n % (gcdL [d, e, n - m, 20160] : Nat), (gcdL [d, e, n - m, 20160] : Nat))
@[simp] theorem rjoin_l (s : Rs) : rjoin none s = s := by cases s <;> rfl
@[simp] theorem rjoin_r (r : Rs) : rjoin r none = r := by
  match r with
  | none => rfl
  | some (n, d) => rfl
theorem gcdL_dvd {d e f c : Int} : ((gcdL [d, e, f, c] : Nat) : Int) ∣ d ∧ ((gcdL [d, e, f, c] : Nat) : Int) ∣ e ∧ ((gcdL [d, e, f, c] : Nat) : Int) ∣ f ∧ ((gcdL [d, e, f, c] : Nat) : Int) ∣ c := by
  have h : gcdL [d, e, f, c] = (((Nat.gcd 0 d.natAbs).gcd e.natAbs).gcd f.natAbs).gcd c.natAbs := rfl
  rw [h, Nat.gcd_zero_left]
  have a1 := Nat.gcd_dvd_left ((d.natAbs.gcd e.natAbs).gcd f.natAbs) c.natAbs
  have a2 := Nat.gcd_dvd_left (d.natAbs.gcd e.natAbs) f.natAbs
  refine ⟨Int.ofNat_dvd_left.mpr (Nat.dvd_trans a1 (Nat.dvd_trans a2 (Nat.gcd_dvd_left _ _))), Int.ofNat_dvd_left.mpr (Nat.dvd_trans a1 (Nat.dvd_trans a2 (Nat.gcd_dvd_right _ _))), Int.ofNat_dvd_left.mpr (Nat.dvd_trans a1 (Nat.gcd_dvd_right _ _)), Int.ofNat_dvd_left.mpr (Nat.gcd_dvd_right _ _)⟩
theorem dvd_gcdL {d e f c : Int} {g : Nat} (h1 : (g : Int) ∣ d) (h2 : (g : Int) ∣ e) (h3 : (g : Int) ∣ f) (h4 : (g : Int) ∣ c) : g ∣ gcdL [d, e, f, c] := by
  have h : gcdL [d, e, f, c] = (((Nat.gcd 0 d.natAbs).gcd e.natAbs).gcd f.natAbs).gcd c.natAbs := rfl
  rw [h, Nat.gcd_zero_left]
  exact Nat.dvd_gcd (Nat.dvd_gcd (Nat.dvd_gcd (Int.ofNat_dvd_left.mp h1) (Int.ofNat_dvd_left.mp h2)) (Int.ofNat_dvd_left.mp h3)) (Int.ofNat_dvd_left.mp h4)
theorem gcdL_pos (d e f : Int) : 0 < gcdL [d, e, f, 20160] := by
  have h : gcdL [d, e, f, 20160] = (((Nat.gcd 0 d.natAbs).gcd e.natAbs).gcd f.natAbs).gcd 20160 := rfl
  rw [h]
  exact Nat.gcd_pos_of_pos_right _ (by decide)
theorem wR_rjoin (r s : Rs) (w1 : wR r) (w2 : wR s) : wR (rjoin r s) := by
  match r, s with
  | none, s => simpa using w2
  | some (n, d), none => exact w1
  | some (n, d), some (m, e) =>
    unfold rjoin
    dsimp only
    by_cases c : n = m ∧ d = e
    · rw [if_pos c]; exact w1
    · rw [if_neg c]
      have p := gcdL_pos d e (n - m)
      have v := (gcdL_dvd (d := d) (e := e) (f := n - m) (c := 20160)).2.2.2
      exact .inr ⟨by omega, v, Int.emod_nonneg _ (by omega), Int.emod_lt_of_pos _ (by omega)⟩
@[simp] theorem residue_joined_ok (r s : Rs) (w1 : wR r) (w2 : wR s) : V_residue_joined [eR r, eR s] μ = some (eR (rjoin r s), μ) := by
  unfold V_residue_joined D_residue_joined
  match r, s with
  | none, s => walk_at "ex"
  | some (n, d), none => walk_at "ex"
  | some (n, d), some (m, e) =>
    have q0 : ∀ μ : List MO, oIx (eR (some (n, d))) (.int 0) μ = some (.int n, μ) := fun _ => rfl
    have q1 : ∀ μ : List MO, oIx (eR (some (n, d))) (.int 1) μ = some (.int d, μ) := fun _ => rfl
    have q2 : ∀ μ : List MO, oIx (eR (some (m, e))) (.int 0) μ = some (.int m, μ) := fun _ => rfl
    have q3 : ∀ μ : List MO, oIx (eR (some (m, e))) (.int 1) μ = some (.int e, μ) := fun _ => rfl
    have eq1 : ∀ μ : List MO, oEq (eR (some (n, d))) (eR (some (m, e))) μ = some (.bl (decide (n = m ∧ d = e)), μ) := fun μ => by
      unfold oEq
      rw [show eqvD (eR (some (n, d))) (eR (some (m, e))) = decide (n = m ∧ d = e) from eqv_RR n d m e]
      simp
    have eq2 : ∀ μ : List MO, oEq (eR (some (n, d))) (.tup []) μ = some (.bl false, μ) := fun _ => rfl
    have eq3 : ∀ μ : List MO, oEq (eR (some (m, e))) (.tup []) μ = some (.bl false, μ) := fun _ => rfl
    have gc : ∀ μ : List MO, oGcd [.int d, .int e, .int (n - m), .int 20160] μ = some (.int (gcdL [d, e, n - m, 20160] : Nat), μ) := fun _ => rfl
    have p := gcdL_pos d e (n - m)
    have ro := fun μ => residue_of_ok (μ := μ) n ((gcdL [d, e, n - m, 20160] : Nat) : Int) (by omega)
    unfold rjoin
    dsimp only
    by_cases c : n = m ∧ d = e
    · rw [if_pos c]
      have c1 : decide (n = m ∧ d = e) = true := decide_eq_true c
      rw [c1] at eq1
      clear c c1
      simp [eFn, startD, esCons, esIf, dOp2, dVar, dTup, aNil, eq2, eq3, eOr, eq1, sRet, sNil]
    · rw [if_neg c]
      have nz : gcdL [d, e, n - m, 20160] ≠ 0 := by omega
      generalize gcdL [d, e, n - m, 20160] = G at *
      have c1 : decide (n = m ∧ d = e) = false := decide_eq_false c
      rw [c1] at eq1
      refine Eq.trans (b := some (.tup [.int (n % (G : Int)), .int (G : Int)], μ)) ?_ rfl
      simp [eFn, startD, esCons, esIf, dOp2, dVar, dTup, aNil, eq2, eq3, eOr, eq1, sRet, sNil, dCall, aCons, dC, q0, q1, q2, q3, oSub, dBlt, gc, ro, nz]
@[simp] theorem rest_joined_ok (r s : Rs) (w1 : wR r) (w2 : wR s) : V_rest_joined [eR r, eR s] μ = some (eR (rjoin r s), μ) := by
  unfold V_rest_joined D_rest_joined; walk_at "ex"
def twoOf : Rs → List Int
  | none => []
  | some (n, d) => [n, n + d]
@[simp] theorem two_of_ok (r : Rs) : V_l_two_of [eR r] μ = some (.lst ((twoOf r).map DV.int), μ) := by
  unfold V_l_two_of D_l_two_of
  match r with
  | none => simp only [eR]; walk_at "ex"; rfl
  | some (n, d) => simp only [eR]; walk_at "ex"; simp [twoOf]
@[simp] theorem least_nil : V_l_least [.lst []] μ = some (.tup [], μ) := by
  unfold V_l_least D_l_least
  walk_at "ex"
def bR (r : Rs) : Prop := match r with
  | none => True
  | some (n, d) => n.natAbs < 2 ^ 190 ∧ d.natAbs ≤ 20160
theorem least_join (r s : Rs) (w1 : wR r) (w2 : wR s) (b1 : bR r) (b2 : bR s) : V_l_least [.lst ((twoOf r ++ twoOf s).map DV.int)] μ = some (eR (rjoin r s), μ) := by
  have sole : ∀ n d : Int, wR (some (n, d)) → bR (some (n, d)) → V_l_least [.lst ([n, n + d].map DV.int)] μ = some (eR (some (n, d)), μ) := by
    intro n d w b
    obtain ⟨g, e1, e2, e3⟩ := least_ok (μ := μ) n [n + d] (by simp) (fun x hx => by
      simp at hx
      have := b.2
      rcases hx with rfl | rfl <;> omega)
    rw [e1]
    have v1 : (g : Int) ∣ d := by have := e2 (n + d) (by simp); rwa [show n + d - n = d by omega] at this
    have v2 : d ∣ g := e3 d fun x hx => by
      simp at hx
      rcases hx with rfl | rfl
      · simp
      · rw [show n + d - n = d by omega]; exact Int.dvd_refl d
    rcases w with rfl | ⟨hd, hv, h0, h1⟩
    · have : (g : Int) = 0 := Int.zero_dvd.mp v2
      have : g = 0 := by omega
      rw [if_pos this]
    · have ed : (g : Int) = d := Int.dvd_antisymm (by omega) (by omega) v1 v2
      have gg : Nat.gcd g 20160 = g := Nat.gcd_eq_left (by rw [← ed] at hv; exact Int.natCast_dvd_natCast.mp hv)
      rw [if_neg (by omega), gg, ed, emod_n hd h0 h1]
  match r, s with
  | none, none => exact least_nil
  | none, some (m, e) => exact sole m e w2 b2
  | some (n, d), none => exact sole n d w1 b1
  | some (n, d), some (m, e) =>
    obtain ⟨g, e1, e2, e3⟩ := least_ok (μ := μ) n [n + d, m, m + e] (by simp) (fun x hx => by
      have k1 := b1.1
      have k2 := b1.2
      have k3 := b2.1
      have k4 := b2.2
      simp at hx
      rcases hx with rfl | rfl | rfl | rfl <;> omega)
    show V_l_least [.lst ([n, n + d, m, m + e].map DV.int)] μ = _
    rw [e1]
    have v1 : (g : Int) ∣ d := by have := e2 (n + d) (by simp); rwa [show n + d - n = d by omega] at this
    have v2 : (g : Int) ∣ m - n := e2 m (by simp)
    have v3 : (g : Int) ∣ e := by
      have := Int.dvd_sub (e2 (m + e) (by simp)) v2
      rwa [show m + e - n - (m - n) = e by omega] at this
    have v4 : ∀ D : Int, D ∣ d → D ∣ m - n → D ∣ e → D ∣ g := fun D k1 k2 k3 => e3 D fun x hx => by
      simp at hx
      rcases hx with rfl | rfl | rfl | rfl
      · simp
      · rw [show n + d - n = d by omega]; exact k1
      · exact k2
      · rw [show m + e - n = m - n + e by omega]; exact Int.dvd_add k2 k3
    unfold rjoin
    dsimp only
    by_cases c : n = m ∧ d = e
    · rw [if_pos c]
      obtain ⟨rfl, rfl⟩ := c
      have v2' : d ∣ g := v4 d (Int.dvd_refl d) (by simp) (Int.dvd_refl d)
      rcases w1 with rfl | ⟨hd, hv, h0, h1⟩
      · have : (g : Int) = 0 := Int.zero_dvd.mp v2'
        have : g = 0 := by omega
        rw [if_pos this]
      · have ed : (g : Int) = d := Int.dvd_antisymm (by omega) (by omega) v1 v2'
        have gg : Nat.gcd g 20160 = g := Nat.gcd_eq_left (by rw [← ed] at hv; exact Int.natCast_dvd_natCast.mp hv)
        rw [if_neg (by omega), gg, ed, emod_n hd h0 h1]
    · rw [if_neg c]
      have nz : g ≠ 0 := by
        rintro rfl
        have z1 := Int.zero_dvd.mp v1
        have z2 := Int.zero_dvd.mp v2
        have z3 := Int.zero_dvd.mp v3
        exact c ⟨by omega, by omega⟩
      have eG : Nat.gcd g 20160 = gcdL [d, e, n - m, 20160] := by
        obtain ⟨k1, k2, k3, k4⟩ := gcdL_dvd (d := d) (e := e) (f := n - m) (c := 20160)
        apply Nat.dvd_antisymm
        · have l1 : ((Nat.gcd g 20160 : Nat) : Int) ∣ g := Int.natCast_dvd_natCast.mpr (Nat.gcd_dvd_left _ _)
          refine dvd_gcdL (Int.dvd_trans l1 v1) (Int.dvd_trans l1 v3) ?_ (Int.natCast_dvd_natCast.mpr (Nat.gcd_dvd_right _ _))
          have := Int.dvd_trans l1 v2
          rw [show n - m = -(m - n) by omega]
          exact Int.dvd_neg.mpr this
        · refine Nat.dvd_gcd (Int.natCast_dvd_natCast.mp (v4 _ k1 ?_ k2)) (Int.natCast_dvd_natCast.mp k4)
          rw [show m - n = -(n - m) by omega]
          exact Int.dvd_neg.mpr k3
      rw [if_neg nz, eG]
/-! ### within -/
theorem inside_ok (r s : Rs) (w1 : wR r) (w2 : wR s) : V_l_rest_inside [eR r, eR s] μ = some (.bl (rwith r s), μ) := by
  have key : ∀ (ρ : RO) (μ : List MO), ρ[0]? = some (some (eR r)) → ρ[1]? = some (some (eR s)) → ρ.length = 3 → dLc (iSeq (dCall V_l_two_of (aCons (dVar 0) aNil))) (bd1 2) dT (dCall V_l_rest_has (aCons (dVar 1) (aCons (dVar 2) aNil))) ρ μ = some (.lst ((twoOf r).map fun x => .bl (rholds s x)), μ) := by
    intro ρ μ h0 h1 h3
    have := dLc_map (fi := iSeq (dCall V_l_two_of (aCons (dVar 0) aNil))) (bd := bd1 2) (elt := dCall V_l_rest_has (aCons (dVar 1) (aCons (dVar 2) aNil))) (ds := (twoOf r).map DV.int) (g := fun d => match d with | .int x => .bl (rholds s x) | _ => .non) (ρ := ρ) (μ := μ) (by simp [iSeq, dCall, aCons, aNil, dVar, h0]) (by
        match r with
        | none => simp [twoOf]
        | some (n, d) => simp [twoOf]) (fun d hd => by
        obtain ⟨x, _, rfl⟩ := List.mem_map.mp hd
        refine ⟨_, rfl, fun μ' => ?_⟩
        have z1 : (ρ.set 2 (some (.int x)))[1]? = some (some (eR s)) := by rw [List.getElem?_set_ne (by decide)]; exact h1
        have z2 : (ρ.set 2 (some (.int x)))[2]? = some (some (.int x)) := List.getElem?_set_self (by omega)
        simp [dCall, aCons, aNil, dVar, z1, z2, w2]) (fun d hd => by
        obtain ⟨x, _, rfl⟩ := List.mem_map.mp hd
        rfl)
    rw [this, List.map_map]
    rfl
  have k := fun μ => key [some (eR r), some (eR s), none] μ rfl rfl rfl
  unfold V_l_rest_inside D_l_rest_inside
  match r, s, w1, w2 with
  | none, s, _, _ =>
    simp only [twoOf, List.map] at k
    have rt : rwith none s = true := by cases s <;> rfl
    rw [rt]
    simp [eFn, startD, esCons, sRet, dBlt, aCons, aNil, k, oAll, blsD]
  | some (n, d), none, _, _ =>
    simp only [twoOf, List.map] at k
    simp [eFn, startD, esCons, sRet, dBlt, aCons, aNil, k, oAll, blsD, rholds, rwith]
  | some (n, d), some (m, e), _, w2 =>
    simp only [twoOf, List.map] at k
    simp [eFn, startD, esCons, sRet, dBlt, aCons, aNil, k, oAll, blsD]
    rcases w2 with rfl | ⟨he, _, h0, h1⟩
    · simp only [rholds, rwith, if_pos]
      rw [Bool.eq_iff_iff]
      simp
      omega
    · have nz : e ≠ 0 := by omega
      simp only [rholds, rwith, if_neg nz]
      rw [Bool.eq_iff_iff]
      simp
      constructor
      · rintro ⟨a1, a2⟩
        refine ⟨?_, a1⟩
        have : (n + d - n) % e = 0 := by rw [Int.sub_emod, a2, a1]; simp
        rwa [show n + d - n = d by omega] at this
      · rintro ⟨a1, a2⟩
        refine ⟨a2, ?_⟩
        rw [Int.add_emod, a2, a1]
        simp
        exact emod_n he h0 h1

end Lw

namespace Lw
open PySem PySem.Spec L2 Eg
local macro_rules | `(tactic| walk_at "ex") => `(tactic| simp [eFn, startD, esCons, sRet, esIf, sNil, sSet, sAsg, sExp, sPar2, sPar3, dVar, dC, dOp2, dCall, dBlt, dTup, dLst, dLstM, eIf, eAnd, eOr, eNot, eNeg, dIsi, eChain, aCons, aNil, gTu, gAnd, gNm, gSb, gEnd, dSl, runP, sFor, forL_nil, forL_cons, iSeq, iRange1, iRange2, oDiv_ok, oMod_ok, oPow_ok, oSub, oLt, oLe, oGt, oGe, oEq, oNe, oIs, oIsnt, xIx_t, xIx_l, xIx_m, xIx_s, oLen, oInt, oAbs, oMM, oTuple, oDivmod, oInN, flatL, DV.flat, dCallW, permI, oAll, blsD, oMax1, oMin1, maxI, minI, intsD, inV1, inV2, eqV, DV.isN, eqvD, eqvL, shD, shL, xItems_t, xItems_l, xItems_m, xLen_t, xLen_l, xLen_m, xLen_s, atI, ixN, DV.ty, kitT, sl_eq, *])
variable {μ : List MO}
def bQ : Rs → Prop
  | none => True
  | some (n, d) => -2535301200456458802993406410752 < n ∧ n < 2535301200456458802993406410752 ∧ 0 ≤ d ∧ d ≤ 20160
theorem bQ.bR {r : Rs} (h : bQ r) : bR r := by
  match r, h with
  | none, _ => trivial
  | some (n, d), ⟨h1, h2, h3, h4⟩ => exact ⟨by show n.natAbs < 1569275433846670190958947355801916604025588861116008628224; omega, by omega⟩
theorem bR_of {n d : Int} (h1 : -1000000000000000000000000000000000000 < n) (h2 : n < 1000000000000000000000000000000000000) (h3 : 0 ≤ d) (h4 : d ≤ 20160) : bR (some (n, d)) :=
  ⟨by show n.natAbs < 1569275433846670190958947355801916604025588861116008628224; omega, by omega⟩
theorem restQ_ok {k : Nat} {μ0 : List MO} {n : Nat} (w : Sr k μ0 n μ) (hn : n < 1152921504606790000) : ∃ r μ', V_l_rest [.mu k] μ = some (eR r, μ') ∧ wR r ∧ bQ r ∧ Sr k μ0 (n + 9) μ' := by
  obtain ⟨b, μ1, e1, b0, b1, w1⟩ := take_ok w (by omega) (m := 9) (by omega) (by omega)
  have l1 : μ1.length = μ.length := by rw [w1.len, w.len]
  unfold V_l_rest D_l_rest
  by_cases h3 : b < 3
  · by_cases z : b = 0
    · refine ⟨none, μ1, ?_, trivial, trivial, w1.mono (by omega)⟩
      subst z
      walk_at "ex"
      rw [cutd_len l1]
      try rfl
    · obtain ⟨x, μ2, e2, ⟨q1, q2⟩, w2⟩ := number_ok w1 (by omega)
      have l2 : μ2.length = μ.length := by rw [w2.len, w.len]
      refine ⟨some (x, 0), μ2, ?_, .inl rfl, ⟨by omega, by omega, by omega, by omega⟩, w2.mono (by omega)⟩
      walk_at "ex"
      rw [cutd_len l2]
      try rfl
  · obtain ⟨d, μ2, e2, d0, d1, d2, w2⟩ := part_ok w1 (by omega)
    obtain ⟨x, μ3, e3, x0, x1, w3⟩ := take_ok w2 (by omega) (m := d) d0 (by omega)
    have l3 : μ3.length = μ.length := by rw [w3.len, w.len]
    refine ⟨some (x, d), μ3, ?_, .inr ⟨d0, d2, x0, x1⟩, ⟨by omega, by omega, by omega, by omega⟩, w3.mono (by omega)⟩
    walk_at "ex"
    rw [cutd_len l3]
    try rfl
def bT : Rs → Prop
  | none => True
  | some (n, d) => -1000000000000000000000000000000000000 < n ∧ n < 1000000000000000000000000000000000000 ∧ 0 ≤ d ∧ d ≤ 20160
theorem bT_of {n d : Int} (h1 : -1000000000000000000000000000000000000 < n) (h2 : n < 1000000000000000000000000000000000000) (h3 : 0 ≤ d) (h4 : d ≤ 20160) : bT (some (n, d)) := ⟨h1, h2, h3, h4⟩
theorem bQ.bT {r : Rs} (h : bQ r) : bT r := by
  match r, h with
  | none, _ => trivial
  | some (n, d), ⟨h1, h2, h3, h4⟩ => exact ⟨by omega, by omega, h3, h4⟩
theorem bT.bR {r : Rs} (h : bT r) : bR r := by
  match r, h with
  | none, _ => trivial
  | some (n, d), ⟨h1, h2, h3, h4⟩ => exact bR_of h1 h2 h3 h4
theorem rest_near_ok {k : Nat} {μ0 : List MO} {n : Nat} (w : Sr k μ0 n μ) (hn : n < 1152921504606700000) (r : Rs) (hw : wR r) (hb : bQ r) : ∃ s μ', V_l_rest_near [.mu k, eR r] μ = some (eR s, μ') ∧ wR s ∧ bT s ∧ Sr k μ0 (n + 20) μ' := by
  unfold V_l_rest_near D_l_rest_near
  match r, hb with
  | none, _ =>
    obtain ⟨r, μ1, e1, hr, hq, w1⟩ := restQ_ok w (by omega)
    have l1 : μ1.length = μ.length := by rw [w1.len, w.len]
    refine ⟨r, μ1, ?_, hr, hq.bT, w1.mono (by omega)⟩
    simp only [show eR none = DV.tup [] from rfl]
    walk_at "ex"
    rw [cutd_len l1]
  | some (a, d), ⟨p1, p2, p3, p4⟩ =>
    obtain ⟨b, μ1, e1, b0, b1, w1⟩ := take_ok w (by omega) (m := 4) (by omega) (by omega)
    by_cases z : b = 0
    · obtain ⟨r, μ2, e2, hr, hq, w2⟩ := restQ_ok w1 (by omega)
      have l2 : μ2.length = μ.length := by rw [w2.len, w.len]
      refine ⟨r, μ2, ?_, hr, hq.bT, w2.mono (by omega)⟩
      subst z
      simp only [eR]
      walk_at "ex"
      rw [cutd_len l2]
      try rfl
    · obtain ⟨t, μ2, e2, t0, t1, w2⟩ := take_ok w1 (by omega) (m := 7) (by omega) (by omega)
      obtain ⟨u, μ3, e3, hu, w3⟩ := pickT_ok w2 (by omega) (ds := [.int 0, .int 0, .int 0, .int 1, .int (d / 2)]) (by simp) (by simp)
      obtain ⟨y, rfl, y0, y1⟩ : ∃ y : Int, u = .int y ∧ 0 ≤ y ∧ y ≤ 20160 := by
        simp at hu
        rcases hu with rfl | rfl | rfl
        · exact ⟨_, rfl, by omega, by omega⟩
        · exact ⟨_, rfl, by omega, by omega⟩
        · exact ⟨_, rfl, by omega, by omega⟩
      obtain ⟨c, μ4, e4, c0, c1, w4⟩ := take_ok w3 (by omega) (m := 4) (by omega) (by omega)
      have l4 : μ4.length = μ.length := by rw [w4.len, w.len]
      have mu1 : ∀ μ : List MO, oMul (.int d) (.int (t - 3)) μ = some (.int (d * (t - 3)), μ) := fun μ => oMul_ok (by omega) (by omega) (by omega) (by omega)
      have bnd1 : -60480 ≤ d * (t - 3) ∧ d * (t - 3) ≤ 60480 := by
        have : t = 0 ∨ t = 1 ∨ t = 2 ∨ t = 3 ∨ t = 4 ∨ t = 5 ∨ t = 6 := by omega
        rcases this with rfl | rfl | rfl | rfl | rfl | rfl | rfl <;> omega
      generalize d * (t - 3) = P at *
      by_cases zc : c = 0
      · refine ⟨some (a + P + y, 0), μ4, ?_, .inl rfl, bT_of (by omega) (by omega) (by omega) (by omega), w4.mono (by omega)⟩
        subst zc
        simp only [eR]
        walk_at "ex"
        rw [cutd_len l4]
        try rfl
      · obtain ⟨e, μ5, e5, q0, q1, q2, w5⟩ := part_ok w4 (by omega)
        have l5 : μ5.length = μ.length := by rw [w5.len, w.len]
        have om : ∀ μ : List MO, oMod (.int (a + P + y)) (.int e) μ = some (.int ((a + P + y) % e), μ) := fun μ => oMod_ok q0
        have m0 := Int.emod_nonneg (a + P + y) (show e ≠ 0 by omega)
        have m1 := Int.emod_lt_of_pos (a + P + y) q0
        refine ⟨some ((a + P + y) % e, e), μ5, ?_, .inr ⟨q0, q2, m0, m1⟩, bT_of (by omega) (by omega) (by omega) (by omega), w5.mono (by omega)⟩
        simp only [eR]
        walk_at "ex"
        rw [cutd_len l5]
        try rfl
theorem join_in (r s : Rs) (w1 : wR r) (w2 : wR s) (h : rwith s r = true) : rjoin r s = r := by
  match r, s, w1, w2 with
  | none, none, _, _ => rfl
  | none, some (m, e), _, _ => simp [rwith] at h
  | some (n, d), none, _, _ => rfl
  | some (n, d), some (m, e), w1, w2 =>
    unfold rjoin
    dsimp only
    by_cases c : n = m ∧ d = e
    · rw [if_pos c]
    · rw [if_neg c]
      rcases w1 with rfl | ⟨hd, hv, h0, h1⟩
      · simp [rwith] at h
        exact absurd ⟨h.1.symm, h.2.symm⟩ c
      · have nz : d ≠ 0 := by omega
        simp only [rwith, if_neg nz, rholds, Bool.and_eq_true] at h
        obtain ⟨k1, k2⟩ := h
        have k1 : e % d = 0 := of_decide_eq_true k1
        have k2 : m % d = n := of_decide_eq_true k2
        obtain ⟨x, rfl⟩ : ∃ x : Nat, d = x := ⟨d.toNat, by omega⟩
        have v : (x : Int) ∣ n - m := Int.dvd_of_emod_eq_zero (by rw [Int.sub_emod, k2, emod_n hd h0 h1]; simp)
        have a := dvd_gcdL (g := x) (d := (x : Int)) (e := e) (f := n - m) (c := 20160) (Int.dvd_refl _) (Int.dvd_of_emod_eq_zero k1) v hv
        have b := Int.natCast_dvd_natCast.mp (gcdL_dvd (d := (x : Int)) (e := e) (f := n - m) (c := 20160)).1
        have g := Nat.dvd_antisymm b a
        rw [g, emod_n hd h0 h1]
theorem within_join1 (r s : Rs) (w1 : wR r) (w2 : wR s) : rwith r (rjoin r s) = true ∧ rwith s (rjoin r s) = true := by
  have self : ∀ r : Rs, wR r → rwith r r = true := by
    intro r w
    match r, w with
    | none, _ => rfl
    | some (n, d), .inl e => subst e; simp [rwith]
    | some (n, d), .inr ⟨hd, hv, h0, h1⟩ =>
      have nz : d ≠ 0 := by omega
      simp [rwith, nz, rholds, emod_n hd h0 h1]
  match r, s, w1, w2 with
  | none, s, _, w2 => rw [rjoin_l]; exact ⟨by cases s <;> rfl, self s w2⟩
  | some (n, d), none, w1, _ => exact ⟨self _ w1, rfl⟩
  | some (n, d), some (m, e), w1, w2 =>
    unfold rjoin
    dsimp only
    by_cases c : n = m ∧ d = e
    · rw [if_pos c]
      obtain ⟨rfl, rfl⟩ := c
      exact ⟨self _ w1, self _ w1⟩
    · rw [if_neg c]
      have gp := gcdL_pos d e (n - m)
      obtain ⟨g1, g2, g3, g4⟩ := gcdL_dvd (d := d) (e := e) (f := n - m) (c := 20160)
      generalize gcdL [d, e, n - m, 20160] = G at *
      have nz : (G : Int) ≠ 0 := by omega
      have k2 : m % (G : Int) = n % (G : Int) := by
        have := Int.emod_eq_zero_of_dvd g3
        have e1 : m = n - (n - m) := by omega
        rw [e1, Int.sub_emod, this]
        simp
      have nz0 : G ≠ 0 := by omega
      simp [rwith, nz, nz0, rholds, k2, Int.emod_eq_zero_of_dvd g1, Int.emod_eq_zero_of_dvd g2]
@[simp] theorem eqv_RRs (r s : Rs) : eqvD (eR r) (eR s) = decide (r = s) := by
  match r, s with
  | none, none => rfl
  | none, some (m, e) => rfl
  | some (n, d), none => rfl
  | some (n, d), some (m, e) => rw [show eqvD (eR (some (n, d))) (eR (some (m, e))) = decide (n = m ∧ d = e) from eqv_RR n d m e]; simp
theorem ne_R (r s : Rs) (μ : List MO) : oNe (eR r) (eR s) μ = some (.bl (!decide (r = s)), μ) := by
  unfold oNe
  rw [eqv_RRs]
  simp
theorem eq_R (r s : Rs) (μ : List MO) : oEq (eR r) (eR s) μ = some (.bl (decide (r = s)), μ) := by
  unfold oEq
  rw [eqv_RRs]
  simp

def bB (B : Int) : Rs → Prop
  | none => True
  | some (n, d) => -B < n ∧ n < B ∧ 0 ≤ d ∧ d ≤ 20160
theorem bQ.bB {r : Rs} (h : bQ r) {B : Int} (hB : 2535301200456458802993406410752 ≤ B) : bB B r := by
  match r, h with
  | none, _ => trivial
  | some (n, d), ⟨h1, h2, h3, h4⟩ => exact ⟨by omega, by omega, h3, h4⟩
theorem bB.mono {r : Rs} {B C : Int} (h : bB B r) (hB : B ≤ C) : bB C r := by
  match r, h with
  | none, _ => trivial
  | some (n, d), ⟨h1, h2, h3, h4⟩ => exact ⟨by omega, by omega, h3, h4⟩
theorem bB.bT {r : Rs} {B : Int} (h : bB B r) (hB : B ≤ 1000000000000000000000000000000000000) : bT r := by
  match r, h with
  | none, _ => trivial
  | some (n, d), ⟨h1, h2, h3, h4⟩ => exact ⟨by omega, by omega, h3, h4⟩
theorem rest_nearB_ok {k : Nat} {μ0 : List MO} {n : Nat} (w : Sr k μ0 n μ) (hn : n < 1152921504606700000) (r : Rs) (hw : wR r) {B : Int} (hB0 : 2535301200456458802993406410752 ≤ B) (hB1 : B ≤ 100000000000000000000000000000000000) (hb : bB B r) : ∃ s μ', V_l_rest_near [.mu k, eR r] μ = some (eR s, μ') ∧ wR s ∧ bB (B + 100000) s ∧ Sr k μ0 (n + 20) μ' := by
  unfold V_l_rest_near D_l_rest_near
  match r, hb with
  | none, _ =>
    obtain ⟨r, μ1, e1, hr, hq, w1⟩ := restQ_ok w (by omega)
    have l1 : μ1.length = μ.length := by rw [w1.len, w.len]
    refine ⟨r, μ1, ?_, hr, hq.bB (by omega), w1.mono (by omega)⟩
    simp only [show eR none = DV.tup [] from rfl]
    walk_at "ex"
    rw [cutd_len l1]
  | some (a, d), ⟨p1, p2, p3, p4⟩ =>
    obtain ⟨b, μ1, e1, b0, b1, w1⟩ := take_ok w (by omega) (m := 4) (by omega) (by omega)
    by_cases z : b = 0
    · obtain ⟨r, μ2, e2, hr, hq, w2⟩ := restQ_ok w1 (by omega)
      have l2 : μ2.length = μ.length := by rw [w2.len, w.len]
      refine ⟨r, μ2, ?_, hr, hq.bB (by omega), w2.mono (by omega)⟩
      subst z
      simp only [eR]
      walk_at "ex"
      rw [cutd_len l2]
      try rfl
    · obtain ⟨t, μ2, e2, t0, t1, w2⟩ := take_ok w1 (by omega) (m := 7) (by omega) (by omega)
      obtain ⟨u, μ3, e3, hu, w3⟩ := pickT_ok w2 (by omega) (ds := [.int 0, .int 0, .int 0, .int 1, .int (d / 2)]) (by simp) (by simp)
      obtain ⟨y, rfl, y0, y1⟩ : ∃ y : Int, u = .int y ∧ 0 ≤ y ∧ y ≤ 20160 := by
        simp at hu
        rcases hu with rfl | rfl | rfl
        · exact ⟨_, rfl, by omega, by omega⟩
        · exact ⟨_, rfl, by omega, by omega⟩
        · exact ⟨_, rfl, by omega, by omega⟩
      obtain ⟨c, μ4, e4, c0, c1, w4⟩ := take_ok w3 (by omega) (m := 4) (by omega) (by omega)
      have l4 : μ4.length = μ.length := by rw [w4.len, w.len]
      have mu1 : ∀ μ : List MO, oMul (.int d) (.int (t - 3)) μ = some (.int (d * (t - 3)), μ) := fun μ => oMul_ok (by omega) (by omega) (by omega) (by omega)
      have bnd1 : -60480 ≤ d * (t - 3) ∧ d * (t - 3) ≤ 60480 := by
        have : t = 0 ∨ t = 1 ∨ t = 2 ∨ t = 3 ∨ t = 4 ∨ t = 5 ∨ t = 6 := by omega
        rcases this with rfl | rfl | rfl | rfl | rfl | rfl | rfl <;> omega
      generalize d * (t - 3) = P at *
      by_cases zc : c = 0
      · refine ⟨some (a + P + y, 0), μ4, ?_, .inl rfl, ⟨by omega, by omega, by omega, by omega⟩, w4.mono (by omega)⟩
        subst zc
        simp only [eR]
        walk_at "ex"
        rw [cutd_len l4]
        try rfl
      · obtain ⟨e, μ5, e5, q0, q1, q2, w5⟩ := part_ok w4 (by omega)
        have l5 : μ5.length = μ.length := by rw [w5.len, w.len]
        have om : ∀ μ : List MO, oMod (.int (a + P + y)) (.int e) μ = some (.int ((a + P + y) % e), μ) := fun μ => oMod_ok q0
        have m0 := Int.emod_nonneg (a + P + y) (show e ≠ 0 by omega)
        have m1 := Int.emod_lt_of_pos (a + P + y) q0
        refine ⟨some ((a + P + y) % e, e), μ5, ?_, .inr ⟨q0, q2, m0, m1⟩, ⟨by omega, by omega, by omega, by omega⟩, w5.mono (by omega)⟩
        simp only [eR]
        walk_at "ex"
        rw [cutd_len l5]
        try rfl

end Lw

namespace Lw
open PySem PySem.Spec L2 Eg
local macro_rules | `(tactic| walk_at "ex") => `(tactic| simp [eFn, startD, esCons, sRet, esIf, sNil, sSet, sAsg, sExp, sPar2, sPar3, dVar, dC, dOp2, dCall, dBlt, dTup, dLst, dLstM, eIf, eAnd, eOr, eNot, eNeg, dIsi, eChain, aCons, aNil, gTu, gAnd, gNm, gSb, gEnd, dSl, runP, sFor, forL_nil, forL_cons, iSeq, iRange1, iRange2, oDiv_ok, oMod_ok, oPow_ok, oSub, oLt, oLe, oGt, oGe, oEq, oNe, oIs, oIsnt, xIx_t, xIx_l, xIx_m, xIx_s, oLen, oInt, oAbs, oMM, oTuple, oDivmod, oInN, flatL, DV.flat, dCallW, permI, oAll, blsD, oMax1, oMin1, maxI, minI, intsD, inV1, inV2, eqV, DV.isN, eqvD, eqvL, shD, shL, xItems_t, xItems_l, xItems_m, xLen_t, xLen_l, xLen_m, xLen_s, atI, ixN, DV.ty, kitT, sl_eq, *])
variable {μ : List MO}
/-! ### what rests hold -/
theorem rh0 (n x : Int) : rholds (some (n, 0)) x = decide (n = x) := by simp [rholds]
theorem rhp {n d : Int} (hd : 0 < d) (x : Int) : rholds (some (n, d)) x = decide (x % d = n) := by
  have : d ≠ 0 := by omega
  simp [rholds, this]
theorem rh_own {n d : Int} (w : wR (some (n, d))) : rholds (some (n, d)) n = true := by
  rcases w with rfl | ⟨hd, _, h0, h1⟩
  · rw [rh0]; simp
  · rw [rhp hd, emod_n hd h0 h1]; simp
theorem rh_next {n d : Int} (w : wR (some (n, d))) : rholds (some (n, d)) (n + d) = true := by
  rcases w with rfl | ⟨hd, _, h0, h1⟩
  · rw [rh0]; simp
  · rw [rhp hd, Int.add_emod_right, emod_n hd h0 h1]; simp
theorem rwith_some {n d m e : Int} (w2 : wR (some (m, e))) : rwith (some (n, d)) (some (m, e)) = true ↔ rholds (some (m, e)) n = true ∧ rholds (some (m, e)) (n + d) = true := by
  rcases w2 with rfl | ⟨he, _, h0, h1⟩
  · simp only [rwith, rh0, if_pos]
    simp
    omega
  · have nz : e ≠ 0 := by omega
    rw [rhp he, rhp he]
    simp only [rwith, if_neg nz, rhp he]
    simp
    constructor
    · rintro ⟨a1, a2⟩
      refine ⟨a2, ?_⟩
      rw [Int.add_emod, a2, a1]
      simp
      exact emod_n he h0 h1
    · rintro ⟨a1, a2⟩
      refine ⟨?_, a1⟩
      have : (n + d - n) % e = 0 := by rw [Int.sub_emod, a2, a1]; simp
      rwa [show n + d - n = d by omega] at this
theorem rwith_iff (r s : Rs) (w1 : wR r) (w2 : wR s) : rwith r s = true ↔ ∀ x, rholds r x = true → rholds s x = true := by
  match r, s, w1, w2 with
  | none, s, _, _ => simp [rwith, rholds]
  | some (n, d), none, w1, _ =>
    constructor
    · intro h; simp [rwith] at h
    · intro h; have := h n (rh_own w1); simp [rholds] at this
  | some (n, d), some (m, e), w1, w2 =>
    rw [rwith_some w2]
    constructor
    · rintro ⟨a1, a2⟩ x hx
      rcases w2 with rfl | ⟨he, _, h0, h1⟩
      · rw [rh0] at a1 a2 ⊢
        have a1 := of_decide_eq_true a1
        have a2 := of_decide_eq_true a2
        have : d = 0 := by omega
        subst this
        rw [rh0] at hx
        have hx := of_decide_eq_true hx
        exact decide_eq_true (by omega)
      · rw [rhp he] at a1 a2 ⊢
        have a1 := of_decide_eq_true a1
        have a2 := of_decide_eq_true a2
        have dv : e ∣ d := by
          have : (n + d - n) % e = 0 := by rw [Int.sub_emod, a2, a1]; simp
          rw [show n + d - n = d by omega] at this
          exact Int.dvd_of_emod_eq_zero this
        refine decide_eq_true ?_
        rcases w1 with rfl | ⟨hd, _, q0, q1⟩
        · rw [rh0] at hx
          have hx := of_decide_eq_true hx
          rw [← hx]; exact a1
        · rw [rhp hd] at hx
          have hx := of_decide_eq_true hx
          rw [← a1, ← hx, Int.emod_emod_of_dvd _ dv]
    · intro h
      exact ⟨h n (rh_own w1), h (n + d) (rh_next w1)⟩
theorem rwith_anti (r s : Rs) (w1 : wR r) (w2 : wR s) (h1 : rwith r s = true) (h2 : rwith s r = true) : r = s := by
  match r, s, w1, w2 with
  | none, none, _, _ => rfl
  | none, some (m, e), _, _ => simp [rwith] at h2
  | some (n, d), none, _, _ => simp [rwith] at h1
  | some (n, d), some (m, e), w1, w2 =>
    rcases w2 with rfl | ⟨he, _, q0, q1⟩
    · simp [rwith] at h1
      rw [h1.1, h1.2]
    · have nz : e ≠ 0 := by omega
      simp only [rwith, if_neg nz, rhp he, Bool.and_eq_true, decide_eq_true_eq] at h1
      rcases w1 with rfl | ⟨hd, _, p0, p1⟩
      · simp [rwith] at h2
        omega
      · have nz2 : d ≠ 0 := by omega
        simp only [rwith, if_neg nz2, rhp hd, Bool.and_eq_true, decide_eq_true_eq] at h2
        have ed : d = e := Int.dvd_antisymm (by omega) (by omega) (Int.dvd_of_emod_eq_zero h2.1) (Int.dvd_of_emod_eq_zero h1.1)
        subst ed
        rw [← h1.2, emod_n hd p0 p1]
theorem rext (r s : Rs) (w1 : wR r) (w2 : wR s) (h : ∀ x, rholds r x = rholds s x) : r = s :=
  rwith_anti r s w1 w2 ((rwith_iff r s w1 w2).mpr fun x hx => by rw [← h]; exact hx) ((rwith_iff s r w2 w1).mpr fun x hx => by rw [h]; exact hx)
theorem rwith_refl (r : Rs) (w : wR r) : rwith r r = true := (rwith_iff r r w w).mpr fun _ h => h
theorem rwith_trans (r s t : Rs) (w1 : wR r) (w2 : wR s) (w3 : wR t) (h1 : rwith r s = true) (h2 : rwith s t = true) : rwith r t = true :=
  (rwith_iff r t w1 w3).mpr fun x hx => (rwith_iff s t w2 w3).mp h2 x ((rwith_iff r s w1 w2).mp h1 x hx)
theorem rjoin_least (r s t : Rs) (w1 : wR r) (w2 : wR s) (w3 : wR t) (h1 : rwith r t = true) (h2 : rwith s t = true) : rwith (rjoin r s) t = true := by
  match r, s, w1, w2 with
  | none, s, _, _ => rw [rjoin_l]; exact h2
  | some (n, d), none, _, _ => exact h1
  | some (n, d), some (m, e), w1, w2 =>
    match t, w3 with
    | none, _ => simp [rwith] at h1
    | some (k, f), w3 =>
      rw [rwith_some w3] at h1 h2
      unfold rjoin
      dsimp only
      by_cases c : n = m ∧ d = e
      · rw [if_pos c, rwith_some w3]; exact h1
      · rw [if_neg c, rwith_some w3]
        rcases w3 with rfl | ⟨hf, hv, q0, q1⟩
        · exfalso
          simp only [rh0, decide_eq_true_eq] at h1 h2
          exact c ⟨by omega, by omega⟩
        · simp only [rhp hf, decide_eq_true_eq] at h1 h2 ⊢
          have dv1 : f ∣ d := by
            have : (n + d - n) % f = 0 := by rw [Int.sub_emod, h1.2, h1.1]; simp
            rw [show n + d - n = d by omega] at this
            exact Int.dvd_of_emod_eq_zero this
          have dv2 : f ∣ e := by
            have : (m + e - m) % f = 0 := by rw [Int.sub_emod, h2.2, h2.1]; simp
            rw [show m + e - m = e by omega] at this
            exact Int.dvd_of_emod_eq_zero this
          have dv3 : f ∣ n - m := Int.dvd_of_emod_eq_zero (by rw [Int.sub_emod, h1.1, h2.1]; simp)
          obtain ⟨F, rfl⟩ : ∃ F : Nat, f = F := ⟨f.toNat, by omega⟩
          have dvG := Int.natCast_dvd_natCast.mpr (dvd_gcdL dv1 dv2 dv3 hv)
          generalize gcdL [d, e, n - m, 20160] = G at *
          have e1 : n % (G : Int) % (F : Int) = k := by rw [Int.emod_emod_of_dvd _ dvG]; exact h1.1
          refine ⟨e1, ?_⟩
          rw [Int.add_emod, e1, Int.emod_eq_zero_of_dvd dvG]
          simp
          exact emod_n hf q0 q1
/-! ### the inverse -/
def invRun : Nat → Int → Int → Int → Int → Option Int
  | 0, _, _, _, _ => none
  | f + 1, b, l, g, gl => if l = 0 then some g else if 0 < l ∧ l.natAbs < 1152921504606846976 ∧ gl.natAbs < 1152921504606846976 ∧ (b / l).natAbs < 1152921504606846976 then invRun f l (b - b / l * l) gl (g - b / l * gl) else none
abbrev invBody : DenS := (sCons (sSet 6 (dOp2 oDiv (dVar 2) (dVar 4)))
  (sCons (sPar2 2 4 (aCons (dVar 4) (aCons (dOp2 oSub (dVar 2) (dOp2 oMul (dVar 6) (dVar 4))) aNil)))
  (sCons (sPar2 3 5 (aCons (dVar 5) (aCons (dOp2 oSub (dVar 3) (dOp2 oMul (dVar 6) (dVar 5))) aNil)))
  sNil)))
theorem inv_loop (A B : Option DV) : ∀ (f n : Nat) (b l g gl v : Int) (T : Option DV), invRun f b l g gl = some v → f ≤ n →
    ∃ (b' l' gl' : Int) (T' : Option DV), whL (dOp2 oNe (dVar 4) (dC (.int 0))) invBody n [A, B, some (.int b), some (.int g), some (.int l), some (.int gl), T] μ = some (.nx [A, B, some (.int b'), some (.int v), some (.int l'), some (.int gl'), T'] μ) := by
  intro f
  induction f with
  | zero => intro n b l g gl v T h; cases h
  | succ f ih =>
    intro n b l g gl v T h hn
    obtain ⟨m, rfl⟩ : ∃ m, n = m + 1 := ⟨n - 1, by omega⟩
    rw [whL_succ]
    simp only [invRun] at h
    by_cases z : l = 0
    · rw [if_pos z] at h
      cases h
      subst z
      exact ⟨b, 0, gl, T, by simp [dOp2, dVar, dC, oNe, shD, eqvD]⟩
    · rw [if_neg z] at h
      by_cases c : 0 < l ∧ l.natAbs < 1152921504606846976 ∧ gl.natAbs < 1152921504606846976 ∧ (b / l).natAbs < 1152921504606846976
      · rw [if_pos c] at h
        obtain ⟨c1, c2, c3, c4⟩ := c
        have od : ∀ μ : List MO, oDiv (.int b) (.int l) μ = some (.int (b / l), μ) := fun μ => oDiv_ok c1 (by omega)
        have m1 : ∀ μ : List MO, oMul (.int (b / l)) (.int l) μ = some (.int (b / l * l), μ) := fun μ => oMul_ok (by omega) (by omega) (by omega) (by omega)
        have m2 : ∀ μ : List MO, oMul (.int (b / l)) (.int gl) μ = some (.int (b / l * gl), μ) := fun μ => oMul_ok (by omega) (by omega) (by omega) (by omega)
        obtain ⟨b', l', gl', T', e⟩ := ih m l (b - b / l * l) gl (g - b / l * gl) v (some (.int (b / l))) h (by omega)
        refine ⟨b', l', gl', T', ?_⟩
        generalize hW : whL _ _ m = W at *
        simp [dOp2, dVar, dC, oNe, shD, eqvD, z, esCons, sSet, od, sPar2, aCons, aNil, oSub, m1, m2, sNil]
        exact e
      · rw [if_neg c] at h
        cases h
theorem inverse_ok {x y v : Int} (h : invRun 40 x y 1 0 = some v) : V_inverse [.int x, .int y] μ = some (.int v, μ) := by
  obtain ⟨b', l', gl', T', e⟩ := inv_loop (μ := μ) (some (.int x)) (some (.int y)) 40 Wn x y 1 0 v none h (by decide)
  unfold V_inverse D_inverse
  simp only [eFn, startD]
  generalize hW : whL _ _ Wn = W at *
  simp [esCons, sPar2, aCons, aNil, dVar, dC, e, sRet]
def divs : List Nat := [1, 2, 3, 4, 5, 6, 7, 8, 9, 10, 12, 14, 15, 16, 18, 20, 21, 24, 28, 30, 32, 35, 36, 40, 42, 45, 48, 56, 60, 63, 64, 70, 72, 80, 84, 90, 96, 105, 112, 120, 126, 140, 144, 160, 168, 180, 192, 210, 224, 240, 252, 280, 288, 315, 320, 336, 360, 420, 448, 480, 504, 560, 576, 630, 672, 720, 840, 960, 1008, 1120, 1260, 1344, 1440, 1680, 2016, 2240, 2520, 2880, 3360, 4032, 5040, 6720, 10080, 20160]
theorem divs_all : ((List.range 20161).all fun d => 20160 % d != 0 || divs.contains d) = true := by decide +kernel
theorem mem_divs {d : Nat} (h : d ∣ 20160) : d ∈ divs := by
  have le : d ≤ 20160 := Nat.le_of_dvd (by decide) h
  have a := List.all_eq_true.mp divs_all d (List.mem_range.mpr (by omega))
  rw [Nat.mod_eq_zero_of_dvd h] at a
  simpa using a
theorem divs_inv : (divs.all fun x => divs.all fun y => Nat.gcd x y != 1 || (match invRun 40 (x : Int) (y : Int) 1 0 with | some v => decide (((x : Int) * v - 1) % (y : Int) = 0 ∧ v.natAbs ≤ 20160) | none => false)) = true := by decide +kernel
theorem inv_of {x y : Nat} (hx : x ∣ 20160) (hy : y ∣ 20160) (h : Nat.gcd x y = 1) : ∃ v : Int, invRun 40 x y 1 0 = some v ∧ (y : Int) ∣ x * v - 1 ∧ v.natAbs ≤ 20160 := by
  have a := List.all_eq_true.mp (List.all_eq_true.mp divs_inv x (mem_divs hx)) y (mem_divs hy)
  rw [h] at a
  cases e : invRun 40 (x : Int) (y : Int) 1 0 with
  | none => rw [e] at a; simp at a
  | some v =>
    rw [e] at a
    simp at a
    exact ⟨v, rfl, Int.dvd_of_emod_eq_zero a.1, a.2⟩

end Lw

namespace Lw
open PySem PySem.Spec L2 Eg
local macro_rules | `(tactic| walk_at "ex") => `(tactic| simp [eFn, startD, esCons, sRet, esIf, sNil, sSet, sAsg, sExp, sPar2, sPar3, dVar, dC, dOp2, dCall, dBlt, dTup, dLst, dLstM, eIf, eAnd, eOr, eNot, eNeg, dIsi, eChain, aCons, aNil, gTu, gAnd, gNm, gSb, gEnd, dSl, runP, sFor, forL_nil, forL_cons, iSeq, iRange1, iRange2, oDiv_ok, oMod_ok, oPow_ok, oSub, oLt, oLe, oGt, oGe, oEq, oNe, oIs, oIsnt, xIx_t, xIx_l, xIx_m, xIx_s, oLen, oInt, oAbs, oMM, oTuple, oDivmod, oInN, flatL, DV.flat, dCallW, permI, oAll, blsD, oMax1, oMin1, maxI, minI, intsD, inV1, inV2, eqV, DV.isN, eqvD, eqvL, shD, shL, xItems_t, xItems_l, xItems_m, xLen_t, xLen_l, xLen_m, xLen_s, atI, ixN, DV.ty, kitT, sl_eq, *])
variable {μ : List MO}
/-! ### met rests -/
theorem gcdL2 (d e : Int) : gcdL [d, e] = Nat.gcd d.natAbs e.natAbs := by
  show (Nat.gcd 0 d.natAbs).gcd e.natAbs = _
  rw [Nat.gcd_zero_left]
theorem crt_ok {x y : Nat} (hx : x ∣ 20160) (hy : y ∣ 20160) (xp : 0 < x) (yp : 0 < y) {a b : Int} (h : ((Nat.gcd x y : Nat) : Int) ∣ b - a) :
    ∃ v : Int, invRun 40 ((x : Int) / (Nat.gcd x y : Nat)) ((y : Int) / (Nat.gcd x y : Nat)) 1 0 = some v ∧ v.natAbs ≤ 20160 ∧
      (y : Int) ∣ a + x * ((b - a) / (Nat.gcd x y : Nat) * v) - b := by
  have gp : 0 < Nat.gcd x y := Nat.gcd_pos_of_pos_left _ xp
  have cop := Nat.coprime_div_gcd_div_gcd gp
  obtain ⟨x', ex⟩ := Nat.gcd_dvd_left x y
  obtain ⟨y', ey⟩ := Nat.gcd_dvd_right x y
  obtain ⟨k, ek⟩ := h
  have dx : x / Nat.gcd x y = x' := by
    conv => lhs; lhs; rw [ex]
    exact Nat.mul_div_cancel_left _ gp
  have dy : y / Nat.gcd x y = y' := by
    conv => lhs; lhs; rw [ey]
    exact Nat.mul_div_cancel_left _ gp
  have ix : (x : Int) / (Nat.gcd x y : Nat) = (x' : Int) := by rw [← dx]; rfl
  have iy : (y : Int) / (Nat.gcd x y : Nat) = (y' : Int) := by rw [← dy]; rfl
  rw [dx, dy] at cop
  have vx : x' ∣ 20160 := Nat.dvd_trans ⟨Nat.gcd x y, by rw [Nat.mul_comm]; exact ex⟩ hx
  have vy : y' ∣ 20160 := Nat.dvd_trans ⟨Nat.gcd x y, by rw [Nat.mul_comm]; exact ey⟩ hy
  obtain ⟨v, e1, ⟨q, e2⟩, e3⟩ := inv_of vx vy cop
  have gz : ((Nat.gcd x y : Nat) : Int) ≠ 0 := by omega
  rw [ix, iy]
  refine ⟨v, e1, e3, ?_⟩
  have ex' : (x : Int) = (Nat.gcd x y : Nat) * (x' : Int) := by exact_mod_cast ex
  have ey' : (y : Int) = (Nat.gcd x y : Nat) * (y' : Int) := by exact_mod_cast ey
  rw [ek, Int.mul_ediv_cancel_left _ gz]
  refine ⟨k * q, ?_⟩
  have e4 : b = a + (Nat.gcd x y : Nat) * k := by omega
  have e5 : (x' : Int) * v = 1 + y' * q := by omega
  rw [e4]
  generalize ((Nat.gcd x y : Nat) : Int) = G at *
  rw [ex', ey']
  have : G * (x' : Int) * (k * v) = G * k * (x' * v) := by
    rw [Int.mul_assoc, Int.mul_assoc, Int.mul_left_comm (x' : Int) k v]
  rw [this, e5, Int.mul_add, Int.mul_one]
  have : G * k * ((y' : Int) * q) = G * (y' : Int) * (k * q) := by
    rw [Int.mul_assoc, Int.mul_assoc, Int.mul_left_comm (y' : Int) k q]
  rw [this]
  omega
noncomputable def rmet (r s : Rs) : Rs := match r, s with
  | some (a, d), some (b, e) =>
    if d = 0 then (if rholds (some (b, e)) a = true then some (a, d) else none)
    else if e = 0 then (if rholds (some (a, d)) b = true then some (b, e) else none)
    else if ((gcdL [d, e] : Nat) : Int) ∣ b - a then some ((a + d * ((b - a) / (gcdL [d, e] : Nat) * (invRun 40 (d / (gcdL [d, e] : Nat)) (e / (gcdL [d, e] : Nat)) 1 0).getD 0)) % (Nat.lcm d.natAbs e.natAbs : Nat), (Nat.lcm d.natAbs e.natAbs : Nat))
    else none
  | _, _ => none
theorem lcm_div {x y : Nat} (hx : x ∣ 20160) (hy : y ∣ 20160) (xp : 0 < x) (yp : 0 < y) : 0 < Nat.lcm x y ∧ Nat.lcm x y ∣ 20160 :=
  ⟨Nat.lcm_pos xp yp, Nat.lcm_dvd hx hy⟩
theorem emod_same {t b y : Int} (h : y ∣ t - b) : t % y = b % y := by
  have e : t = b + (t - b) := by omega
  rw [e, Int.add_emod, Int.emod_eq_zero_of_dvd h]
  simp
theorem dvd_of_same {t b y : Int} (h : t % y = b % y) : y ∣ t - b := Int.dvd_of_emod_eq_zero (by rw [Int.sub_emod, h]; simp)
theorem rmet_spec (r s : Rs) (w1 : wR r) (w2 : wR s) : wR (rmet r s) ∧ ∀ x, rholds (rmet r s) x = (rholds r x && rholds s x) := by
  match r, s, w1, w2 with
  | none, s, _, _ => exact ⟨trivial, fun x => by simp [rmet, rholds]⟩
  | some (a, d), none, _, _ => exact ⟨trivial, fun x => by simp [rmet, rholds]⟩
  | some (a, d), some (b, e), w1, w2 =>
    unfold rmet
    dsimp only
    by_cases z : d = 0
    · subst z
      rw [if_pos rfl]
      by_cases h : rholds (some (b, e)) a = true
      · rw [if_pos h]
        refine ⟨.inl rfl, fun x => ?_⟩
        rw [rh0]
        by_cases ex : a = x
        · subst ex; rw [h]; simp
        · simp [ex]
      · rw [if_neg h]
        refine ⟨trivial, fun x => ?_⟩
        rw [rh0]
        by_cases ex : a = x
        · subst ex; simp at h; rw [h]; simp [rholds]
        · simp [ex, rholds]
    · rw [if_neg z]
      by_cases ze : e = 0
      · subst ze
        rw [if_pos rfl]
        by_cases h : rholds (some (a, d)) b = true
        · rw [if_pos h]
          refine ⟨.inl rfl, fun x => ?_⟩
          rw [rh0]
          by_cases ex : b = x
          · subst ex; rw [h]; simp
          · simp [ex]
        · rw [if_neg h]
          refine ⟨trivial, fun x => ?_⟩
          rw [rh0]
          by_cases ex : b = x
          · subst ex; simp at h; rw [h]; simp [rholds]
          · simp [ex, rholds]
      · rw [if_neg ze]
        obtain ⟨hd, vd, a0, a1⟩ := w1.resolve_left z
        obtain ⟨he, ve, b0, b1⟩ := w2.resolve_left ze
        obtain ⟨x, rfl⟩ : ∃ x : Nat, d = x := ⟨d.toNat, by omega⟩
        obtain ⟨y, rfl⟩ : ∃ y : Nat, e = y := ⟨e.toNat, by omega⟩
        have vd' := Int.natCast_dvd_natCast.mp vd
        have ve' := Int.natCast_dvd_natCast.mp ve
        rw [gcdL2]
        simp only [Int.natAbs_natCast]
        have g1 : ((Nat.gcd x y : Nat) : Int) ∣ (x : Int) := Int.natCast_dvd_natCast.mpr (Nat.gcd_dvd_left _ _)
        have g2 : ((Nat.gcd x y : Nat) : Int) ∣ (y : Int) := Int.natCast_dvd_natCast.mpr (Nat.gcd_dvd_right _ _)
        by_cases h : ((Nat.gcd x y : Nat) : Int) ∣ b - a
        · rw [if_pos h]
          obtain ⟨v, e1, e2, e3⟩ := crt_ok vd' ve' (by omega) (by omega) h
          rw [e1]
          obtain ⟨lp, lv⟩ := lcm_div vd' ve' (by omega) (by omega)
          have l1 : (x : Int) ∣ (Nat.lcm x y : Nat) := Int.natCast_dvd_natCast.mpr (Nat.dvd_lcm_left _ _)
          have l2 : (y : Int) ∣ (Nat.lcm x y : Nat) := Int.natCast_dvd_natCast.mpr (Nat.dvd_lcm_right _ _)
          have l3 : ∀ z : Int, (x : Int) ∣ z → (y : Int) ∣ z → ((Nat.lcm x y : Nat) : Int) ∣ z := fun z h1 h2 =>
            Int.ofNat_dvd_left.mpr (Nat.lcm_dvd (Int.ofNat_dvd_left.mp h1) (Int.ofNat_dvd_left.mp h2))
          simp only [Option.getD_some]
          have d1 : (x : Int) ∣ a + x * ((b - a) / (Nat.gcd x y : Nat) * v) - a := ⟨(b - a) / (Nat.gcd x y : Nat) * v, by omega⟩
          generalize a + x * ((b - a) / (Nat.gcd x y : Nat) * v) = t at *
          generalize Nat.lcm x y = L at *
          refine ⟨.inr ⟨by omega, Int.natCast_dvd_natCast.mpr lv, Int.emod_nonneg _ (by omega), Int.emod_lt_of_pos _ (by omega)⟩, fun z => ?_⟩
          rw [rhp (by omega), rhp hd, rhp he]
          rw [Bool.eq_iff_iff]
          simp only [decide_eq_true_eq, Bool.and_eq_true]
          constructor
          · intro hz
            refine ⟨?_, ?_⟩
            · rw [← Int.emod_emod_of_dvd z l1, hz, Int.emod_emod_of_dvd _ l1, emod_same d1, emod_n hd a0 a1]
            · rw [← Int.emod_emod_of_dvd z l2, hz, Int.emod_emod_of_dvd _ l2, emod_same e3, emod_n he b0 b1]
          · rintro ⟨h1, h2⟩
            refine emod_same (l3 _ ?_ ?_)
            · refine dvd_of_same ?_
              rw [h1, emod_same d1, emod_n hd a0 a1]
            · refine dvd_of_same ?_
              rw [h2, emod_same e3, emod_n he b0 b1]
        · rw [if_neg h]
          refine ⟨trivial, fun z => ?_⟩
          rw [rhp hd, rhp he]
          rw [Bool.eq_iff_iff]
          simp only [rholds, decide_eq_true_eq, Bool.and_eq_true]
          constructor
          · intro q; cases q
          · rintro ⟨h1, h2⟩
            exfalso
            apply h
            have k1 := Int.dvd_trans g1 (dvd_of_same (t := z) (b := a) (y := x) (by rw [h1, emod_n hd a0 a1]))
            have k2 := Int.dvd_trans g2 (dvd_of_same (t := z) (b := b) (y := y) (by rw [h2, emod_n he b0 b1]))
            have := Int.dvd_sub k1 k2
            rwa [show z - a - (z - b) = b - a by omega] at this
theorem wR_rmet (r s : Rs) (w1 : wR r) (w2 : wR s) : wR (rmet r s) := (rmet_spec r s w1 w2).1
theorem rholds_rmet (r s : Rs) (w1 : wR r) (w2 : wR s) (x : Int) : rholds (rmet r s) x = (rholds r x && rholds s x) := (rmet_spec r s w1 w2).2 x
theorem rwith_rmet (r s t : Rs) (w1 : wR r) (w2 : wR s) (w3 : wR t) : rwith t (rmet r s) = (rwith t r && rwith t s) := by
  rw [Bool.eq_iff_iff, Bool.and_eq_true, rwith_iff _ _ w3 (wR_rmet r s w1 w2), rwith_iff _ _ w3 w1, rwith_iff _ _ w3 w2]
  constructor
  · intro h
    refine ⟨fun x hx => ?_, fun x hx => ?_⟩ <;> (have := h x hx; rw [rholds_rmet r s w1 w2, Bool.and_eq_true] at this)
    · exact this.1
    · exact this.2
  · rintro ⟨h1, h2⟩ x hx
    rw [rholds_rmet r s w1 w2, h1 x hx, h2 x hx]
    rfl
theorem bQ_lcm {x y : Nat} (hx : x ∣ 20160) (hy : y ∣ 20160) : Nat.lcm x y ≤ 20160 := Nat.le_of_dvd (by decide) (Nat.lcm_dvd hx hy)
theorem bQ_rmet (r s : Rs) (w1 : wR r) (w2 : wR s) (b1 : bQ r) (b2 : bQ s) : bQ (rmet r s) := by
  match r, s, w1, w2, b1, b2 with
  | none, s, _, _, _, _ => trivial
  | some (a, d), none, _, _, _, _ => trivial
  | some (a, d), some (b, e), w1, w2, b1, b2 =>
    unfold rmet
    dsimp only
    by_cases z : d = 0
    · rw [if_pos z]; split
      · exact b1
      · trivial
    · rw [if_neg z]
      by_cases ze : e = 0
      · rw [if_pos ze]; split
        · exact b2
        · trivial
      · rw [if_neg ze]
        split
        · obtain ⟨hd, vd, a0, a1⟩ := w1.resolve_left z
          obtain ⟨he, ve, b0, b1⟩ := w2.resolve_left ze
          have v1 : d.natAbs ∣ 20160 := Int.natCast_dvd_natCast.mp (Int.natAbs_dvd.mpr vd)
          have v2 : e.natAbs ∣ 20160 := Int.natCast_dvd_natCast.mp (Int.natAbs_dvd.mpr ve)
          have l := bQ_lcm v1 v2
          have lp := Nat.lcm_pos (m := d.natAbs) (n := e.natAbs) (by omega) (by omega)
          generalize Nat.lcm d.natAbs e.natAbs = L at *
          have m0 := Int.emod_nonneg (a + d * ((b - a) / (gcdL [d, e] : Nat) * (invRun 40 (d / (gcdL [d, e] : Nat)) (e / (gcdL [d, e] : Nat)) 1 0).getD 0)) (show (L : Int) ≠ 0 by omega)
          have m1 := Int.emod_lt_of_pos (a + d * ((b - a) / (gcdL [d, e] : Nat) * (invRun 40 (d / (gcdL [d, e] : Nat)) (e / (gcdL [d, e] : Nat)) 1 0).getD 0)) (show 0 < (L : Int) by omega)
          exact ⟨by omega, by omega, by omega, by omega⟩
        · trivial

end Lw

namespace Lw
open PySem PySem.Spec L2 Eg
local macro_rules | `(tactic| walk_at "ex") => `(tactic| simp [eFn, startD, esCons, sRet, esIf, sNil, sSet, sAsg, sExp, sPar2, sPar3, dVar, dC, dOp2, dCall, dBlt, dTup, dLst, dLstM, eIf, eAnd, eOr, eNot, eNeg, dIsi, eChain, aCons, aNil, gTu, gAnd, gNm, gSb, gEnd, dSl, runP, sFor, forL_nil, forL_cons, iSeq, iRange1, iRange2, oDiv_ok, oMod_ok, oPow_ok, oSub, oLt, oLe, oGt, oGe, oEq, oNe, oIs, oIsnt, xIx_t, xIx_l, xIx_m, xIx_s, oLen, oInt, oAbs, oMM, oTuple, oDivmod, oInN, flatL, DV.flat, dCallW, permI, oAll, blsD, oMax1, oMin1, maxI, minI, intsD, inV1, inV2, eqV, DV.isN, eqvD, eqvL, shD, shL, xItems_t, xItems_l, xItems_m, xLen_t, xLen_l, xLen_m, xLen_s, atI, ixN, DV.ty, kitT, sl_eq, *])
variable {μ : List MO}
theorem oEq_i (a b : Int) : oEq (.int a) (.int b) μ = some (.bl (decide (a = b)), μ) := by simp [oEq, shD, eqvD]
theorem oNe_i (a b : Int) : oNe (.int a) (.int b) μ = some (.bl (!decide (a = b)), μ) := by simp [oNe, shD, eqvD]
theorem ix_R0 (n d : Int) : oIx (eR (some (n, d))) (.int 0) μ = some (.int n, μ) := rfl
theorem ix_R1 (n d : Int) : oIx (eR (some (n, d))) (.int 1) μ = some (.int d, μ) := rfl
theorem eq_R0 (r : Rs) : oEq (eR r) (.tup []) μ = some (.bl r.isNone, μ) := by
  unfold oEq
  rw [eqv_R0]
  simp [shD, shL]
@[simp] theorem residue_met_ok (r s : Rs) (w1 : wR r) (w2 : wR s) (b1 : bR r) (b2 : bR s) : V_residue_met [eR r, eR s] μ = some (eR (rmet r s), μ) := by
  match r, s, w1, w2, b1, b2 with
  | none, s, _, _, _, _ =>
    unfold V_residue_met D_residue_met
    have e : eR none = .tup [] := rfl
    rw [e]; walk_at "ex"; rfl
  | some (a, d), none, _, _, _, _ =>
    unfold V_residue_met D_residue_met
    have e : eR none = .tup [] := rfl
    rw [e]; walk_at "ex"; rfl
  | some (a, d), some (b, e), w1, w2, b1, b2 =>
    have q1 := fun μ => ix_R0 (μ := μ) a d
    have q2 := fun μ => ix_R1 (μ := μ) a d
    have q3 := fun μ => ix_R0 (μ := μ) b e
    have q4 := fun μ => ix_R1 (μ := μ) b e
    have q5 := fun μ => eq_R0 (μ := μ) (some (a, d))
    have q6 := fun μ => eq_R0 (μ := μ) (some (b, e))
    have h1 := fun μ => residue_holds_ok (μ := μ) (some (b, e)) a w2
    have h2 := fun μ => residue_holds_ok (μ := μ) (some (a, d)) b w1
    unfold rmet V_residue_met D_residue_met
    dsimp only
    generalize ha : eR (some (a, d)) = A at *
    generalize hb : eR (some (b, e)) = B at *
    by_cases z : d = 0
    · rw [if_pos z]
      subst z
      simp only [Option.isNone_some] at q5 q6
      simp [eFn, startD, esCons, esIf, eOr, dOp2, dVar, dTup, aNil, aCons, q5, q6, sNil, q2, q4, dC, oEq_i, sAsg, eIf, gTu, gAnd, gNm, gEnd, sRet, dCall, q1, h1]
      cases rholds (some (b, e)) a
      · simp [eR]
      · simp [← ha]
    · rw [if_neg z]
      have zi : (DV.int d) = .int d := rfl
      by_cases ze : e = 0
      · rw [if_pos ze]
        subst ze
        simp only [Option.isNone_some] at q5 q6
        simp [eFn, startD, esCons, esIf, eOr, dOp2, dVar, dTup, aNil, aCons, q5, q6, sNil, q2, q4, dC, oEq_i, sAsg, eIf, gTu, gAnd, gNm, gEnd, sRet, dCall, q3, h2, z]
        cases rholds (some (a, d)) b
        · simp [eR]
        · simp [← hb]
      · rw [if_neg ze]
        obtain ⟨hd, vd, a0, a1⟩ := w1.resolve_left z
        obtain ⟨he, ve, b0, b1'⟩ := w2.resolve_left ze
        have d1 := Int.le_of_dvd (by decide) vd
        have e1 := Int.le_of_dvd (by decide) ve
        obtain ⟨x, rfl⟩ : ∃ x : Nat, d = x := ⟨d.toNat, by omega⟩
        obtain ⟨y, rfl⟩ : ∃ y : Nat, e = y := ⟨e.toNat, by omega⟩
        have vd' := Int.natCast_dvd_natCast.mp vd
        have ve' := Int.natCast_dvd_natCast.mp ve
        have gc : ∀ μ : List MO, oGcd [.int (x : Int), .int (y : Int)] μ = some (.int ((Nat.gcd x y : Nat) : Int), μ) := fun μ => by
          show some (DV.int ((gcdL [(x : Int), (y : Int)] : Nat) : Int), μ) = _
          rw [gcdL2]; rfl
        have lc : ∀ μ : List MO, oLcm [.int (x : Int), .int (y : Int)] μ = some (.int ((Nat.lcm x y : Nat) : Int), μ) := fun μ => by
          unfold oLcm
          dsimp only
          rw [if_pos (by omega)]
          rfl
        rw [gcdL2]
        simp only [Int.natAbs_natCast]
        have gp : 0 < Nat.gcd x y := Nat.gcd_pos_of_pos_left _ (by omega)
        have gl := Nat.le_of_dvd (show 0 < x by omega) (Nat.gcd_dvd_left x y)
        have om : ∀ μ : List MO, oMod (.int (b - a)) (.int ((Nat.gcd x y : Nat) : Int)) μ = some (.int ((b - a) % (Nat.gcd x y : Nat)), μ) := fun μ => oMod_ok (by omega)
        simp only [Option.isNone_some] at q5 q6
        by_cases h : ((Nat.gcd x y : Nat) : Int) ∣ b - a
        · rw [if_pos h]
          obtain ⟨v, i1, i2, i3⟩ := crt_ok vd' ve' (by omega) (by omega) h
          have iv := fun μ => inverse_ok (μ := μ) i1
          obtain ⟨lp, lv⟩ := lcm_div vd' ve' (by omega) (by omega)
          rw [Int.emod_eq_zero_of_dvd h] at om
          rw [i1]
          simp only [Option.getD_some]
          have od : ∀ (z : Int) (μ : List MO), oDiv (.int z) (.int ((Nat.gcd x y : Nat) : Int)) μ = some (.int (z / (Nat.gcd x y : Nat)), μ) := fun z μ => oDiv_ok (by omega) (by omega)
          have kb : -20160 * 20160 ≤ (b - a) / (Nat.gcd x y : Nat) * v ∧ (b - a) / (Nat.gcd x y : Nat) * v ≤ 20160 * 20160 ∧ -20160 ≤ (b - a) / (Nat.gcd x y : Nat) ∧ (b - a) / (Nat.gcd x y : Nat) ≤ 20160 := by
            have k1 : (b - a) / (Nat.gcd x y : Nat) ≤ 20160 := Int.le_trans (Int.ediv_le_ediv (by omega) (show b - a ≤ 20160 by omega)) (Int.le_trans (Int.ediv_le_self _ (by omega)) (by omega))
            have k2 : -20160 ≤ (b - a) / (Nat.gcd x y : Nat) := by
              refine Int.le_ediv_of_mul_le (by omega) ?_
              have : -20160 * ((Nat.gcd x y : Nat) : Int) ≤ -20160 * 1 := Int.mul_le_mul_of_nonpos_left (by omega) (by omega)
              omega
            generalize (b - a) / ((Nat.gcd x y : Nat) : Int) = k at *
            have k3 : (k * v).natAbs ≤ 20160 * 20160 := by
              rw [Int.natAbs_mul]
              exact Nat.mul_le_mul (by omega) i2
            refine ⟨by omega, by omega, k2, k1⟩
          have m1 : ∀ μ : List MO, oMul (.int ((b - a) / (Nat.gcd x y : Nat))) (.int v) μ = some (.int ((b - a) / (Nat.gcd x y : Nat) * v), μ) := fun μ => oMul_ok (by omega) (by omega) (by omega) (by omega)
          have m2 : ∀ μ : List MO, oMul (.int (x : Int)) (.int ((b - a) / (Nat.gcd x y : Nat) * v)) μ = some (.int (x * ((b - a) / (Nat.gcd x y : Nat) * v)), μ) := fun μ => oMul_ok (by omega) (by omega) (by omega) (by omega)
          have nz : Nat.lcm x y ≠ 0 := by omega
          generalize Nat.lcm x y = L at *
          have ro := fun (t : Int) μ => residue_of_ok (μ := μ) t (L : Int) (by omega)
          have zL : ¬ (L : Int) = 0 := by omega
          simp only [if_neg zL] at ro
          have nx : ¬ (x : Int) = 0 := z
          have ny : ¬ (y : Int) = 0 := ze
          have nx' : x ≠ 0 := by omega
          have ny' : y ≠ 0 := by omega
          generalize ((b - a) / ((Nat.gcd x y : Nat) : Int)) * v = M at *
          generalize hx : (x : Int) / ((Nat.gcd x y : Nat) : Int) = X at *
          generalize hy : (y : Int) / ((Nat.gcd x y : Nat) : Int) = Y at *
          generalize ((Nat.gcd x y : Nat) : Int) = G at *
          generalize (x : Int) = xx at *
          generalize (y : Int) = yy at *
          simp [eFn, startD, esCons, esIf, eOr, dOp2, dVar, dTup, aNil, aCons, q1, q2, q3, q4, q5, q6, sNil, dC, oEq_i, nx, ny, sSet, dBlt, gc, oSub, om, oNe_i, dCall, od, hx, hy, iv, m1, m2, lc, sRet, ro, eR]
        · rw [if_neg h]
          have zn : ¬ (b - a) % ((Nat.gcd x y : Nat) : Int) = 0 := fun q => h (Int.dvd_of_emod_eq_zero q)
          have nx : ¬ (x : Int) = 0 := z
          have ny : ¬ (y : Int) = 0 := ze
          generalize ((Nat.gcd x y : Nat) : Int) = G at *
          generalize (x : Int) = xx at *
          generalize (y : Int) = yy at *
          simp [eFn, startD, esCons, esIf, eOr, dOp2, dVar, dTup, aNil, aCons, q1, q2, q3, q4, q5, q6, sNil, dC, oEq_i, nx, ny, sSet, dBlt, gc, oSub, om, oNe_i, zn, sRet, eR]
@[simp] theorem rest_met_ok (r s : Rs) (w1 : wR r) (w2 : wR s) (b1 : bR r) (b2 : bR s) : V_rest_met [eR r, eR s] μ = some (eR (rmet r s), μ) := by
  unfold V_rest_met D_rest_met; walk_at "ex"
/-! ### the least rest of many numbers -/
theorem rleast (xs : List Int) (hl : xs.length ≤ 1000) (hb : ∀ x ∈ xs, ∀ y ∈ xs, (x - y).natAbs < 2 ^ 200) : ∃ u : Rs, (∀ μ : List MO, V_l_least [.lst (xs.map DV.int)] μ = some (eR u, μ)) ∧ wR u ∧ ∀ t, wR t → (rwith u t = true ↔ ∀ x ∈ xs, rholds t x = true) := by
  match xs with
  | [] => exact ⟨none, fun μ => least_nil, trivial, fun t _ => by simp [rwith]⟩
  | x0 :: ys =>
    have key := fun μ => least_ok (μ := μ) x0 ys (by simp at hl; omega) (fun x hx => hb x hx x0 (by simp))
    obtain ⟨by_, e1, p1, p2⟩ := key []
    have e2 : ∀ μ : List MO, V_l_least [.lst ((x0 :: ys).map DV.int)] μ = some (eR (if by_ = 0 then some (x0, 0) else some (x0 % (Nat.gcd by_ 20160 : Nat), (Nat.gcd by_ 20160 : Nat))), μ) := fun μ => by
      obtain ⟨by2, e3, p3, p4⟩ := key μ
      have : by2 = by_ := Nat.dvd_antisymm (Int.natCast_dvd_natCast.mp (p2 _ p3)) (Int.natCast_dvd_natCast.mp (p4 _ p1))
      rw [e3, this]
    refine ⟨_, e2, ?_, ?_⟩
    · by_cases z : by_ = 0
      · rw [if_pos z]; exact .inl rfl
      · rw [if_neg z]
        have gp : 0 < Nat.gcd by_ 20160 := Nat.gcd_pos_of_pos_right _ (by decide)
        have gv : ((Nat.gcd by_ 20160 : Nat) : Int) ∣ 20160 := Int.natCast_dvd_natCast.mpr (Nat.gcd_dvd_right _ _)
        exact .inr ⟨by omega, gv, Int.emod_nonneg _ (by omega), Int.emod_lt_of_pos _ (by omega)⟩
    · intro t wt
      match t, wt with
      | none, _ =>
        constructor
        · intro h; split at h <;> simp [rwith] at h
        · intro h; have := h x0 (by simp); simp [rholds] at this
      | some (m, e), wt =>
        rcases wt with rfl | ⟨he, hv, m0, m1⟩
        · constructor
          · intro h x hx
            rw [rh0]
            by_cases z : by_ = 0
            · rw [if_pos z] at h
              simp [rwith] at h
              have := p1 x hx
              rw [z] at this
              have := Int.zero_dvd.mp this
              exact decide_eq_true (by omega)
            · rw [if_neg z] at h
              simp [rwith] at h
          · intro h
            have h0 := h x0 (by simp)
            rw [rh0] at h0
            have h0 := of_decide_eq_true h0
            have z : by_ = 0 := by
              have := p2 0 fun x hx => by
                have := h x hx
                rw [rh0] at this
                have := of_decide_eq_true this
                rw [show x - x0 = 0 by omega]
                exact Int.dvd_refl 0
              have := Int.zero_dvd.mp this
              omega
            rw [if_pos z]
            simp [rwith, h0]
        · obtain ⟨E, rfl⟩ : ∃ E : Nat, e = E := ⟨e.toNat, by omega⟩
          have nz : (E : Int) ≠ 0 := by omega
          constructor
          · intro h x hx
            have dv : (E : Int) ∣ x - x0 ∧ x0 % (E : Int) = m := by
              by_cases z : by_ = 0
              · rw [if_pos z] at h
                simp only [rwith, if_neg nz, rhp he, Bool.and_eq_true, decide_eq_true_eq] at h
                have := p1 x hx
                rw [z] at this
                have := Int.zero_dvd.mp this
                rw [this]
                exact ⟨Int.dvd_zero _, h.2⟩
              · rw [if_neg z] at h
                simp only [rwith, if_neg nz, rhp he, Bool.and_eq_true, decide_eq_true_eq] at h
                have d1 := Int.dvd_of_emod_eq_zero h.1
                have d2 : ((Nat.gcd by_ 20160 : Nat) : Int) ∣ (by_ : Int) := Int.natCast_dvd_natCast.mpr (Nat.gcd_dvd_left _ _)
                refine ⟨Int.dvd_trans (Int.dvd_trans d1 d2) (p1 x hx), ?_⟩
                rw [← h.2, Int.emod_emod_of_dvd _ d1]
            rw [rhp he]
            exact decide_eq_true (by rw [emod_same dv.1, dv.2])
          · intro h
            have h0 := h x0 (by simp)
            rw [rhp he] at h0
            have h0 := of_decide_eq_true h0
            have dv : (E : Int) ∣ (by_ : Int) := p2 _ fun x hx => by
              have := h x hx
              rw [rhp he] at this
              have := of_decide_eq_true this
              exact dvd_of_same (by rw [this, h0])
            by_cases z : by_ = 0
            · rw [if_pos z]
              simp [rwith, rhp he, nz, h0]
              omega
            · rw [if_neg z]
              have dg : (E : Int) ∣ ((Nat.gcd by_ 20160 : Nat) : Int) := Int.natCast_dvd_natCast.mpr (Nat.dvd_gcd (Int.natCast_dvd_natCast.mp dv) (Int.natCast_dvd_natCast.mp hv))
              simp only [rwith, if_neg nz, rhp he, Bool.and_eq_true, decide_eq_true_eq]
              exact ⟨Int.emod_eq_zero_of_dvd dg, by rw [Int.emod_emod_of_dvd _ dg]; exact h0⟩
/-- what the least one is -/
theorem rleast_is {xs : List Int} (hl : xs.length ≤ 1000) (hb : ∀ x ∈ xs, ∀ y ∈ xs, (x - y).natAbs < 2 ^ 200) {u : Rs} (wu : wR u) (h : ∀ t, wR t → (rwith u t = true ↔ ∀ x ∈ xs, rholds t x = true)) (μ : List MO) : V_l_least [.lst (xs.map DV.int)] μ = some (eR u, μ) := by
  obtain ⟨v, e, wv, hv⟩ := rleast xs hl hb
  have : v = u := rwith_anti v u wv wu ((hv u wu).mpr ((h u wu).mp (rwith_refl u wu))) ((h v wv).mpr ((hv v wv).mp (rwith_refl v wv)))
  rw [e, this]

end Lw

namespace Lw
open PySem PySem.Spec L2 Eg
local macro_rules | `(tactic| walk_at "ex") => `(tactic| simp [eFn, startD, esCons, sRet, esIf, sNil, sSet, sAsg, sExp, sPar2, sPar3, dVar, dC, dOp2, dCall, dBlt, dTup, dLst, dLstM, eIf, eAnd, eOr, eNot, eNeg, dIsi, eChain, aCons, aNil, gTu, gAnd, gNm, gSb, gEnd, dSl, runP, sFor, forL_nil, forL_cons, iSeq, iRange1, iRange2, oDiv_ok, oMod_ok, oPow_ok, oSub, oLt, oLe, oGt, oGe, oEq, oNe, oIs, oIsnt, xIx_t, xIx_l, xIx_m, xIx_s, oLen, oInt, oAbs, oMM, oTuple, oDivmod, oInN, flatL, DV.flat, dCallW, permI, oAll, blsD, oMax1, oMin1, maxI, minI, intsD, inV1, inV2, eqV, DV.isN, eqvD, eqvL, shD, shL, xItems_t, xItems_l, xItems_m, xLen_t, xLen_l, xLen_m, xLen_s, atI, ixN, DV.ty, kitT, sl_eq, *])
variable {μ : List MO}
/-! ### rests by a number and what divides -/
theorem rh_pair {m f x y : Int} (w : wR (some (m, f))) (hx : rholds (some (m, f)) x = true) : rholds (some (m, f)) y = true ↔ f ∣ y - x := by
  rcases w with rfl | ⟨hf, _, m0, m1⟩
  · rw [rh0] at hx ⊢
    have hx := of_decide_eq_true hx
    rw [decide_eq_true_eq, Int.zero_dvd]
    omega
  · rw [rhp hf] at hx ⊢
    have hx := of_decide_eq_true hx
    rw [decide_eq_true_eq]
    constructor
    · intro h; exact dvd_of_same (by rw [h, hx])
    · intro h; rw [emod_same h, hx]
def rgen (x0 : Int) (g : Nat) : Rs := if g = 0 then some (x0, 0) else some (x0 % (Nat.gcd g 20160 : Nat), (Nat.gcd g 20160 : Nat))
theorem wR_rgen (x0 : Int) (g : Nat) : wR (rgen x0 g) := by
  unfold rgen
  by_cases z : g = 0
  · rw [if_pos z]; exact .inl rfl
  · rw [if_neg z]
    have gp : 0 < Nat.gcd g 20160 := Nat.gcd_pos_of_pos_right _ (by decide)
    exact .inr ⟨by omega, Int.natCast_dvd_natCast.mpr (Nat.gcd_dvd_right _ _), Int.emod_nonneg _ (by omega), Int.emod_lt_of_pos _ (by omega)⟩
theorem rgen_own (x0 : Int) (g : Nat) : rholds (rgen x0 g) x0 = true := by
  unfold rgen
  by_cases z : g = 0
  · rw [if_pos z, rh0]; simp
  · rw [if_neg z]
    have gp : 0 < Nat.gcd g 20160 := Nat.gcd_pos_of_pos_right _ (by decide)
    rw [rhp (by omega)]; simp
theorem rgen_holds {x0 y : Int} {g : Nat} (h : (g : Int) ∣ y - x0) : rholds (rgen x0 g) y = true := by
  have own := rgen_own x0 g
  have w := wR_rgen x0 g
  unfold rgen at *
  by_cases z : g = 0
  · rw [if_pos z] at *
    subst z
    exact (rh_pair w own).mpr h
  · rw [if_neg z] at *
    exact (rh_pair w own).mpr (Int.dvd_trans (Int.natCast_dvd_natCast.mpr (Nat.gcd_dvd_left _ _)) h)
/-- one that divides the grain is kept -/
theorem rgen_iff {x0 y : Int} {g : Nat} (hg : g ∣ 20160 ∨ g = 0) : rholds (rgen x0 g) y = decide ((g : Int) ∣ y - x0) := by
  rw [Bool.eq_iff_iff, decide_eq_true_eq]
  refine ⟨fun h => ?_, rgen_holds⟩
  have own := rgen_own x0 g
  have w := wR_rgen x0 g
  unfold rgen at *
  by_cases z : g = 0
  · rw [if_pos z] at *
    subst z
    exact (rh_pair w own).mp h
  · rw [if_neg z] at *
    rw [Nat.gcd_eq_left (hg.resolve_right z)] at *
    exact (rh_pair w own).mp h
theorem rgen_with {x0 m f : Int} {g : Nat} (w : wR (some (m, f))) : rwith (rgen x0 g) (some (m, f)) = true ↔ rholds (some (m, f)) x0 = true ∧ f ∣ (g : Int) := by
  rw [rwith_iff _ _ (wR_rgen x0 g) w]
  constructor
  · intro h
    have h0 := h x0 (rgen_own x0 g)
    refine ⟨h0, ?_⟩
    have := (rh_pair w h0).mp (h (x0 + g) (rgen_holds (by rw [show x0 + (g : Int) - x0 = g by omega]; exact Int.dvd_refl _)))
    rwa [show x0 + (g : Int) - x0 = g by omega] at this
  · rintro ⟨h0, h1⟩ x hx
    rw [rh_pair w h0]
    have w' := wR_rgen x0 g
    have own := rgen_own x0 g
    unfold rgen at *
    by_cases z : g = 0
    · rw [if_pos z] at *
      have := (rh_pair w' own).mp hx
      rw [Int.zero_dvd.mp this]
      exact Int.dvd_zero _
    · rw [if_neg z] at *
      have d1 := (rh_pair w' own).mp hx
      refine Int.dvd_trans ?_ d1
      rcases w with rfl | ⟨hf, hv, _, _⟩
      · have := Int.zero_dvd.mp h1
        omega
      · obtain ⟨F, rfl⟩ : ∃ F : Nat, f = F := ⟨f.toNat, by omega⟩
        exact Int.natCast_dvd_natCast.mpr (Nat.dvd_gcd (Int.natCast_dvd_natCast.mp h1) (Int.natCast_dvd_natCast.mp hv))
/-- what a list of numbers' least rest is: the first number and what divides all differences -/
theorem rleast_gen {x0 : Int} {ys : List Int} {g : Nat} (hl : ys.length ≤ 900) (hb : ∀ x ∈ x0 :: ys, ∀ y ∈ x0 :: ys, (x - y).natAbs < 2 ^ 200)
    (h : ∀ f : Int, f ∣ (g : Int) ↔ ∀ y ∈ ys, f ∣ y - x0) (μ : List MO) : V_l_least [.lst ((x0 :: ys).map DV.int)] μ = some (eR (rgen x0 g), μ) := by
  refine rleast_is (by simp; omega) hb (wR_rgen x0 g) (fun t wt => ?_) μ
  match t, wt with
  | none, _ =>
    constructor
    · intro q
      unfold rgen at q
      split at q <;> simp [rwith] at q
    · intro q
      have := q x0 (by simp)
      simp [rholds] at this
  | some (m, f), wt =>
    rw [rgen_with wt, h]
    constructor
    · rintro ⟨h0, h1⟩ x hx
      rcases List.mem_cons.mp hx with rfl | hx
      · exact h0
      · exact (rh_pair wt h0).mpr (h1 x hx)
    · intro q
      have h0 := q x0 (by simp)
      exact ⟨h0, fun y hy => (rh_pair wt h0).mp (q y (List.mem_cons_of_mem _ hy))⟩
theorem dvd_gcd2 {f d e : Int} : f ∣ ((gcdL [d, e] : Nat) : Int) ↔ f ∣ d ∧ f ∣ e := by
  rw [gcdL2]
  constructor
  · intro h
    exact ⟨Int.dvd_trans h (Int.ofNat_dvd_left.mpr (Nat.gcd_dvd_left _ _)), Int.dvd_trans h (Int.ofNat_dvd_left.mpr (Nat.gcd_dvd_right _ _))⟩
  · rintro ⟨h1, h2⟩
    rw [← Int.natAbs_dvd] at h1 h2 ⊢
    exact Int.natCast_dvd_natCast.mpr (Nat.dvd_gcd (Int.ofNat_dvd_left.mp h1) (Int.ofNat_dvd_left.mp h2))
theorem dvd_gcd3 {f d e c : Int} : f ∣ ((gcdL [d, e, c] : Nat) : Int) ↔ f ∣ d ∧ f ∣ e ∧ f ∣ c := by
  have e1 : gcdL [d, e, c] = gcdL [((gcdL [d, e] : Nat) : Int), c] := by
    rw [gcdL2, gcdL2]
    show ((Nat.gcd 0 d.natAbs).gcd e.natAbs).gcd c.natAbs = _
    rw [Nat.gcd_zero_left]
    rfl
  rw [e1, dvd_gcd2, dvd_gcd2, and_assoc]

end Lw

namespace Lw
open PySem PySem.Spec L2 Eg
local macro_rules | `(tactic| walk_at "ex") => `(tactic| simp [eFn, startD, esCons, sRet, esIf, sNil, sSet, sAsg, sExp, sPar2, sPar3, dVar, dC, dOp2, dCall, dBlt, dTup, dLst, dLstM, eIf, eAnd, eOr, eNot, eNeg, dIsi, eChain, aCons, aNil, gTu, gAnd, gNm, gSb, gEnd, dSl, runP, sFor, forL_nil, forL_cons, iSeq, iRange1, iRange2, oDiv_ok, oMod_ok, oPow_ok, oSub, oLt, oLe, oGt, oGe, oEq, oNe, oIs, oIsnt, xIx_t, xIx_l, xIx_m, xIx_s, oLen, oInt, oAbs, oMM, oTuple, oDivmod, oInN, flatL, DV.flat, dCallW, permI, oAll, blsD, oMax1, oMin1, maxI, minI, intsD, inV1, inV2, eqV, DV.isN, eqvD, eqvL, shD, shL, xItems_t, xItems_l, xItems_m, xLen_t, xLen_l, xLen_m, xLen_s, atI, ixN, DV.ty, kitT, sl_eq, *])
variable {μ : List MO}
theorem rwith_two (r t : Rs) (wt : wR t) : rwith r t = true ↔ ∀ x ∈ twoOf r, rholds t x = true := by
  match r, t, wt with
  | none, t, _ => simp [rwith, twoOf]
  | some (n, d), none, _ => exact ⟨fun h => by simp [rwith] at h, fun h => by have := h n (by simp [twoOf]); simp [rholds] at this⟩
  | some (n, d), some (m, e), wt =>
    rw [rwith_some wt]
    simp [twoOf]
theorem rwith_rjoin (r s t : Rs) (w1 : wR r) (w2 : wR s) (w3 : wR t) : rwith (rjoin r s) t = (rwith r t && rwith s t) := by
  have wj := wR_rjoin r s w1 w2
  obtain ⟨i1, i2⟩ := within_join1 r s w1 w2
  rw [Bool.eq_iff_iff, Bool.and_eq_true]
  exact ⟨fun h => ⟨rwith_trans _ _ _ w1 wj w3 i1 h, rwith_trans _ _ _ w2 wj w3 i2 h⟩, fun ⟨h1, h2⟩ => rjoin_least r s t w1 w2 w3 h1 h2⟩
theorem rmet_comm (r s : Rs) (w1 : wR r) (w2 : wR s) : rmet r s = rmet s r :=
  rext _ _ (wR_rmet r s w1 w2) (wR_rmet s r w2 w1) fun x => by rw [rholds_rmet r s w1 w2, rholds_rmet s r w2 w1, Bool.and_comm]
theorem rmet_assoc (r s t : Rs) (w1 : wR r) (w2 : wR s) (w3 : wR t) : rmet (rmet r s) t = rmet r (rmet s t) :=
  rext _ _ (wR_rmet _ _ (wR_rmet r s w1 w2) w3) (wR_rmet _ _ w1 (wR_rmet s t w2 w3)) fun x => by
    rw [rholds_rmet _ _ (wR_rmet r s w1 w2) w3, rholds_rmet _ _ w1 (wR_rmet s t w2 w3), rholds_rmet r s w1 w2, rholds_rmet s t w2 w3, Bool.and_assoc]
theorem rmet_join (r s : Rs) (w1 : wR r) (w2 : wR s) : rmet r (rjoin r s) = r := by
  have wj := wR_rjoin r s w1 w2
  refine rext _ _ (wR_rmet _ _ w1 wj) w1 fun x => ?_
  rw [rholds_rmet _ _ w1 wj]
  have h := (rwith_iff _ _ w1 wj).mp (within_join1 r s w1 w2).1 x
  cases e : rholds r x
  · rfl
  · rw [h e]; rfl
theorem rjoin_met (r s : Rs) (w1 : wR r) (w2 : wR s) : rjoin r (rmet r s) = r := by
  have wm := wR_rmet r s w1 w2
  refine join_in r _ w1 wm ((rwith_iff _ _ wm w1).mpr fun x hx => ?_)
  rw [rholds_rmet r s w1 w2, Bool.and_eq_true] at hx
  exact hx.1
theorem bT_rjoin (r s : Rs) (w1 : wR r) (w2 : wR s) (b1 : bT r) (b2 : bT s) : bT (rjoin r s) := by
  match r, s, b1, b2 with
  | none, s, _, b2 => rw [rjoin_l]; exact b2
  | some (n, d), none, b1, _ => exact b1
  | some (n, d), some (m, e), b1, _ =>
    unfold rjoin
    dsimp only
    by_cases c : n = m ∧ d = e
    · rw [if_pos c]; exact b1
    · rw [if_neg c]
      have p := gcdL_pos d e (n - m)
      have v := Int.le_of_dvd (by decide) (gcdL_dvd (d := d) (e := e) (f := n - m) (c := 20160)).2.2.2
      generalize gcdL [d, e, n - m, 20160] = G at *
      have m0 := Int.emod_nonneg n (show (G : Int) ≠ 0 by omega)
      have m1 := Int.emod_lt_of_pos n (show 0 < (G : Int) by omega)
      exact ⟨by omega, by omega, by omega, by omega⟩
theorem bT_of_wR {r : Rs} (w : wR r) (h : ∀ n, r = some (n, 0) → -1000000000000000000000000000000000000 < n ∧ n < 1000000000000000000000000000000000000) : bT r := by
  match r, w with
  | none, _ => trivial
  | some (n, d), .inl e => subst e; have := h n rfl; exact ⟨this.1, this.2, by omega, by omega⟩
  | some (n, d), .inr ⟨hd, hv, h0, h1⟩ => have := Int.le_of_dvd (by decide) hv; exact ⟨by omega, by omega, by omega, by omega⟩
theorem bT_rmet (r s : Rs) (w1 : wR r) (w2 : wR s) (b1 : bT r) (b2 : bT s) : bT (rmet r s) := by
  refine bT_of_wR (wR_rmet r s w1 w2) fun n hn => ?_
  match r, s, w1, w2, b1, b2 with
  | none, s, _, _, _, _ => simp [rmet] at hn
  | some (a, d), none, _, _, _, _ => simp [rmet] at hn
  | some (a, d), some (b, e), w1, w2, ⟨p1, p2, _, _⟩, ⟨q1, q2, _, _⟩ =>
    unfold rmet at hn
    dsimp only at hn
    by_cases z : d = 0
    · rw [if_pos z] at hn
      split at hn
      · simp at hn; omega
      · cases hn
    · rw [if_neg z] at hn
      by_cases ze : e = 0
      · rw [if_pos ze] at hn
        split at hn
        · simp at hn; omega
        · cases hn
      · rw [if_neg ze] at hn
        split at hn
        · have lp := Nat.lcm_pos (m := d.natAbs) (n := e.natAbs) (by omega) (by omega)
          simp at hn
          have := hn.2
          rcases this with h | h
          · exact absurd h z
          · exact absurd h ze
        · cases hn
theorem wR_d' {n d : Int} (w : wR (some (n, d))) : d = 0 ∨ 0 < d := by
  rcases w with h | ⟨h, _⟩
  · exact .inl h
  · exact .inr h
/-! ### the law's own meeting -/
noncomputable abbrev meetTail : DenS := (sCons (sIf (dOp2 oEq (dOp2 oIx (dVar 2) (dC (.int 1))) (dC (.int 0)))
  (sCons (sRet (dIf (dCall V_l_rest_has (aCons (dVar 3) (aCons (dOp2 oIx (dVar 2) (dC (.int 0))) aNil))) (dVar 2) (dTup aNil)))
  sNil)
  sNil)
  (sCons (sSet 4 (dOp2 oDiv (dOp2 oIx (dVar 2) (dC (.int 1))) (dCall V_l_common (aCons (dOp2 oIx (dVar 2) (dC (.int 1))) (aCons (dOp2 oIx (dVar 3) (dC (.int 1))) aNil)))))
  (sCons (sSet 5 (dLc (iRange3 (aCons (dOp2 oIx (dVar 3) (dC (.int 0))) (aCons (dOp2 oAdd (dOp2 oIx (dVar 3) (dC (.int 0))) (dOp2 oMul (dOp2 oIx (dVar 3) (dC (.int 1))) (dVar 4))) (aCons (dOp2 oIx (dVar 3) (dC (.int 1))) aNil)))) (bd1 6) (dCall V_l_rest_has (aCons (dVar 2) (aCons (dVar 6) aNil))) (dVar 6)))
  (sCons (sRet (dIf (dOp2 oNe (dVar 5) (dLst aNil)) (dTup (aCons (dOp2 oIx (dVar 5) (dC (.int 0))) (aCons (dOp2 oMul (dOp2 oIx (dVar 3) (dC (.int 1))) (dVar 4)) aNil))) (dTup aNil)))
  sNil))))
/-- the numbers of the one among the first ones of the other one -/
def meetL (a d b e : Int) (T : Nat) : List Int := ((List.range T).map fun i : Nat => b + (i : Int) * e).filter (rholds (some (a, d)))
theorem meet_pure {x y : Nat} {a b : Int} (w1 : wR (some (a, (x : Int)))) (w2 : wR (some (b, (y : Int)))) (xp : 0 < x) (yp : 0 < y) :
    rmet (some (a, (x : Int))) (some (b, (y : Int))) = match meetL a x b y (x / Nat.gcd x y) with
      | [] => none
      | u :: _ => some (u, (y : Int) * (x / Nat.gcd x y : Nat)) := by
  obtain ⟨hx, vx, a0, a1⟩ := w1.resolve_left (by omega)
  obtain ⟨hy, vy, b0, b1⟩ := w2.resolve_left (by omega)
  have gp : 0 < Nat.gcd x y := Nat.gcd_pos_of_pos_left _ xp
  obtain ⟨T, eT⟩ := Nat.gcd_dvd_left x y
  have dT : x / Nat.gcd x y = T := by
    conv => lhs; lhs; rw [eT]
    exact Nat.mul_div_cancel_left _ gp
  rw [dT]
  have lT : Nat.lcm x y = y * T := by
    have := Nat.gcd_mul_lcm x y
    have e2 : Nat.gcd x y * Nat.lcm x y = Nat.gcd x y * (y * T) := by
      rw [this]
      conv => lhs; lhs; rw [eT]
      rw [Nat.mul_assoc, Nat.mul_comm T y]
    exact Nat.eq_of_mul_eq_mul_left gp e2
  have Tp : 0 < T := by
    rcases Nat.eq_zero_or_pos T with h | h
    · subst h; omega
    · exact h
  have wm := wR_rmet _ _ w1 w2
  have hm := fun z => rholds_rmet _ _ w1 w2 z
  have inl : ∀ z ∈ meetL a x b y T, (rholds (some (a, (x : Int))) z && rholds (some (b, (y : Int))) z) = true ∧ 0 ≤ z ∧ z < (y : Int) * T := by
    intro z hz
    obtain ⟨h1, h2⟩ := List.mem_filter.mp hz
    obtain ⟨i, hi, rfl⟩ := List.mem_map.mp h1
    have hi := List.mem_range.mp hi
    have k1 : (0 : Int) ≤ (i : Int) * y := Int.mul_nonneg (by omega) (by omega)
    have k2 : (i : Int) * y ≤ ((T : Int) - 1) * y := Int.mul_le_mul_of_nonneg_right (by omega) (by omega)
    have k3 : ((T : Int) - 1) * y = y * T - y := by rw [Int.sub_mul, Int.mul_comm (T : Int) y]; omega
    refine ⟨?_, by omega, by omega⟩
    rw [h2, rhp hy, Int.add_mul_emod_self_right, emod_n hy b0 b1]
    simp
  have lv : ((Nat.lcm x y : Nat) : Int) ∣ 20160 := Int.natCast_dvd_natCast.mpr (Nat.lcm_dvd (Int.natCast_dvd_natCast.mp vx) (Int.natCast_dvd_natCast.mp vy))
  have lp : 0 < Nat.lcm x y := Nat.lcm_pos xp yp
  have eL : ((Nat.lcm x y : Nat) : Int) = (y : Int) * T := by rw [lT]; simp
  cases h : meetL a x b y T with
  | nil =>
    dsimp only
    cases hr : rmet (some (a, (x : Int))) (some (b, (y : Int))) with
    | none => rfl
    | some q =>
      exfalso
      obtain ⟨n, f⟩ := q
      rw [hr] at wm hm
      have own := hm n
      rw [rh_own wm] at own
      have own := own.symm
      rw [Bool.and_eq_true] at own
      -- n modulo the common one is among them
      have h1 := own.1
      have h2 := own.2
      rw [rhp hy] at h2
      have h2 := of_decide_eq_true h2
      obtain ⟨z, hz⟩ : ∃ z, z = n % ((Nat.lcm x y : Nat) : Int) := ⟨_, rfl⟩
      have z0 : 0 ≤ z := by rw [hz]; exact Int.emod_nonneg _ (by omega)
      have z1 : z < (y : Int) * T := by rw [hz, ← eL]; exact Int.emod_lt_of_pos _ (by omega)
      have zy : z % (y : Int) = b := by rw [hz, Int.emod_emod_of_dvd _ (Int.natCast_dvd_natCast.mpr (Nat.dvd_lcm_right x y)), h2]
      have zx : rholds (some (a, (x : Int))) z = true := by
        rw [rhp hx] at h1 ⊢
        rw [hz, Int.emod_emod_of_dvd _ (Int.natCast_dvd_natCast.mpr (Nat.dvd_lcm_left x y))]
        exact h1
      have e1 := Int.mul_ediv_add_emod z (y : Int)
      have q0 : 0 ≤ z / (y : Int) := Int.ediv_nonneg z0 (by omega)
      have q1 : z / (y : Int) < T := by
        refine Int.ediv_lt_of_lt_mul hy ?_
        rw [Int.mul_comm]; exact z1
      have zm : z ∈ meetL a x b y T := by
        refine List.mem_filter.mpr ⟨List.mem_map.mpr ⟨(z / (y : Int)).toNat, List.mem_range.mpr (by omega), ?_⟩, zx⟩
        rw [Int.toNat_of_nonneg q0, Int.mul_comm]
        omega
      rw [h] at zm
      cases zm
  | cons u us =>
    dsimp only
    obtain ⟨h1, h2, h3⟩ := inl u (by rw [h]; simp)
    rw [Bool.and_eq_true] at h1
    have wu : wR (some (u, (y : Int) * T)) := .inr ⟨by omega, by rw [← eL]; exact lv, h2, h3⟩
    refine rext _ _ wm wu fun z => ?_
    rw [hm]
    rw [Bool.eq_iff_iff, Bool.and_eq_true, rh_pair w1 h1.1, rh_pair w2 h1.2, rh_pair wu (rh_own wu), ← eL]
    constructor
    · rintro ⟨k1, k2⟩
      exact Int.ofNat_dvd_left.mpr (Nat.lcm_dvd (Int.ofNat_dvd_left.mp k1) (Int.ofNat_dvd_left.mp k2))
    · intro k
      exact ⟨Int.dvd_trans (Int.natCast_dvd_natCast.mpr (Nat.dvd_lcm_left x y)) k, Int.dvd_trans (Int.natCast_dvd_natCast.mpr (Nat.dvd_lcm_right x y)) k⟩
theorem meet_tail {a d b e : Int} (w1 : wR (some (a, d))) (w2 : wR (some (b, e))) (b1 : bT (some (a, d))) (b2 : bT (some (b, e))) (le : d ≤ e) (A B : DV) :
    meetTail [some A, some B, some (eR (some (a, d))), some (eR (some (b, e))), none, none, none] μ = some (.rt (eR (rmet (some (a, d)) (some (b, e)))) μ) := by
  have q1 := fun μ => ix_R0 (μ := μ) a d
  have q2 := fun μ => ix_R1 (μ := μ) a d
  have q3 := fun μ => ix_R0 (μ := μ) b e
  have q4 := fun μ => ix_R1 (μ := μ) b e
  by_cases z : d = 0
  · subst z
    have h := fun μ => l_rest_has_ok (μ := μ) (some (b, e)) a w2
    have er : rmet (some (a, 0)) (some (b, e)) = if rholds (some (b, e)) a = true then some (a, 0) else none := rfl
    rw [er]
    have eN : eR none = .tup [] := rfl
    cases hh : rholds (some (b, e)) a
    · rw [hh] at h
      simp only [Bool.false_eq_true, if_false, eN]
      generalize eR (some (a, 0)) = F at *
      generalize eR (some (b, e)) = M at *
      simp [esCons, esIf, dOp2, dVar, dC, q1, q2, q3, q4, oEq_i, sRet, eIf, dCall, aCons, aNil, h, dTup, sNil]
    · rw [hh] at h
      simp only [if_true]
      generalize eR (some (a, 0)) = F at *
      generalize eR (some (b, e)) = M at *
      simp [esCons, esIf, dOp2, dVar, dC, q1, q2, q3, q4, oEq_i, sRet, eIf, dCall, aCons, aNil, h, dTup, sNil]
  · have hd : 0 < d := by rcases wR_d' w1 with h | h <;> omega
    have he : 0 < e := by omega
    obtain ⟨x, rfl⟩ : ∃ x : Nat, d = x := ⟨d.toNat, by omega⟩
    obtain ⟨y, rfl⟩ : ∃ y : Nat, e = y := ⟨e.toNat, by omega⟩
    rw [meet_pure w1 w2 (by omega) (by omega)]
    have co : ∀ μ : List MO, V_l_common [.int (x : Int), .int (y : Int)] μ = some (.int ((Nat.gcd x y : Nat) : Int), μ) := fun μ => common_ok (x : Int) (y : Int) (by have := b2.2.2.2; omega)
    have gp : 0 < Nat.gcd x y := Nat.gcd_pos_of_pos_left _ (by omega)
    have gl := Nat.le_of_dvd (show 0 < x by omega) (Nat.gcd_dvd_left x y)
    have hT : x / Nat.gcd x y ≤ x := Nat.div_le_self _ _
    have hT0 : 0 < x / Nat.gcd x y := Nat.div_pos gl gp
    have od : ∀ μ : List MO, oDiv (.int (x : Int)) (.int ((Nat.gcd x y : Nat) : Int)) μ = some (.int ((x / Nat.gcd x y : Nat) : Int), μ) := fun μ => by
      have := b1.2.2.2
      rw [oDiv_ok (by omega) (by omega)]; rfl
    generalize x / Nat.gcd x y = T at *
    generalize ((Nat.gcd x y : Nat) : Int) = G at *
    have bx := b1.2.2.2
    have by' := b2.2.2.2
    obtain ⟨_, _, b0, bb1⟩ := w2.resolve_left (by omega)
    have yT0 : (0 : Int) < y * T := Int.mul_pos he (by omega)
    have yT1 : (y : Int) * T ≤ 20160 * 20160 := Int.mul_le_mul (by omega) (by omega) (by omega) (by omega)
    have mu1 : ∀ μ : List MO, oMul (.int (y : Int)) (.int (T : Int)) μ = some (.int (y * T), μ) := fun μ => oMul_ok (by omega) (by omega) (by omega) (by omega)
    have rs : Builtin.Range.rangeSize b (b + y * T) y = T := by
      unfold Builtin.Range.rangeSize
      rw [if_pos (by omega), if_pos (by omega)]
      have e1 : b + (y : Int) * T - b - 1 = (y - 1) + y * (T - 1) := by rw [Int.mul_sub]; omega
      rw [e1, Int.add_mul_ediv_left _ _ (by omega), Int.ediv_eq_zero_of_lt (by omega) (by omega)]
      omega
    have ok3 : rgOk b (b + y * T) y := rgOk_up (by omega) (by omega) (by omega) (by omega) (by omega) (by omega)
    have it : ∀ (A B F M : DV) (μ : List MO), (∀ μ, oIx M (.int 0) μ = some (.int b, μ)) → (∀ μ, oIx M (.int 1) μ = some (.int (y : Int), μ)) →
        iRange3 (aCons (dOp2 oIx (dVar 3) (dC (.int 0))) (aCons (dOp2 oAdd (dOp2 oIx (dVar 3) (dC (.int 0))) (dOp2 oMul (dOp2 oIx (dVar 3) (dC (.int 1))) (dVar 4))) (aCons (dOp2 oIx (dVar 3) (dC (.int 1))) aNil))) [some A, some B, some F, some M, some (.int (T : Int)), none, none] μ = some (stD b y T, μ) := by
      intro A B F M μ h1 h2
      simp only [iRange3, aCons, aNil, dOp2, dVar, dC, List.getElem?_cons_succ, List.getElem?_cons_zero, bnd_some, h1, h2, mu1, oAdd_i]
      rw [if_pos ok3, rs]
      rfl
    have lc := fun μ => dLc_pure (fi := iRange3 (aCons (dOp2 oIx (dVar 3) (dC (.int 0))) (aCons (dOp2 oAdd (dOp2 oIx (dVar 3) (dC (.int 0))) (dOp2 oMul (dOp2 oIx (dVar 3) (dC (.int 1))) (dVar 4))) (aCons (dOp2 oIx (dVar 3) (dC (.int 1))) aNil))))
      (bd := bd1 6) (c := dCall V_l_rest_has (aCons (dVar 2) (aCons (dVar 6) aNil))) (elt := dVar 6) (ds := stD b y T) (p := fun d => match d with | .int z => rholds (some (a, (x : Int))) z | _ => false) (g := id)
      (ρ := [some A, some B, some (eR (some (a, (x : Int)))), some (eR (some (b, (y : Int)))), some (.int (T : Int)), none, none]) (μ := μ) (it _ _ _ _ μ q3 q4) (by rw [stD_len]; omega) (by
        intro dd hd
        obtain ⟨i, hi, rfl⟩ := List.mem_map.mp hd
        refine ⟨_, rfl, fun μ' => ⟨?_, fun _ => rfl⟩⟩
        have h := l_rest_has_ok (μ := μ') (some (a, (x : Int))) (b + (i : Int) * y) w1
        generalize eR (some (a, (x : Int))) = F at *
        simp [dCall, aCons, aNil, dVar, h]) (by
        intro dd hd _
        obtain ⟨i, hi, rfl⟩ := List.mem_map.mp hd
        rfl)
    have eL : List.map id (List.filter (fun d => match d with | .int z => rholds (some (a, (x : Int))) z | _ => false) (stD b y T)) = (meetL a x b y T).map DV.int := by
      unfold meetL stD
      rw [List.map_id, List.filter_map, List.filter_map, List.map_map]
      rfl
    rw [eL] at lc
    generalize hLC : dLc _ _ _ _ = LC at lc
    have eN : eR none = .tup [] := rfl
    have lin : ∀ u us, meetL a x b y T = u :: us → True := fun _ _ _ => trivial
    have tt : meetTail = meetTail := rfl
    unfold meetTail
    rw [hLC]
    have zx : ¬ (x : Int) = 0 := z
    cases hm : meetL a x b y T with
    | nil =>
      rw [hm] at lc
      simp only [List.map_nil] at lc
      dsimp only
      rw [eN]
      have ne0 : ∀ μ : List MO, oNe (.lst []) (.lst []) μ = some (.bl false, μ) := fun μ => rfl
      generalize eR (some (a, (x : Int))) = F at *
      generalize eR (some (b, (y : Int))) = M at *
      generalize (x : Int) = xx at *
      generalize (y : Int) = yy at *
      generalize (T : Int) = TT at *
      simp [esCons, esIf, dOp2, dVar, dC, q1, q2, q3, q4, oEq_i, zx, sRet, eIf, dCall, aCons, aNil, dTup, sNil, sSet, co, od, lc, dLst, ne0]
    | cons u us =>
      rw [hm] at lc
      simp only [List.map_cons] at lc
      dsimp only
      have ne0 : ∀ μ : List MO, oNe (.lst (.int u :: us.map DV.int)) (.lst []) μ = some (.bl true, μ) := fun μ => by
        unfold oNe
        rw [if_pos]
        · rfl
        · have := sh_intsD (u :: us)
          simp only [List.map_cons] at this
          rw [this]; rfl
      have i0 : ∀ μ : List MO, oIx (.lst (.int u :: us.map DV.int)) (.int 0) μ = some (.int u, μ) := fun μ => by
        have hat : atI (DV.int u :: us.map DV.int) ((0 : Nat) : Int) = some (.int u) := atI_nat rfl
        rw [xIx_l, show (0 : Int) = ((0 : Nat) : Int) from rfl, hat]
        rfl
      have eU : eR (some (u, (y : Int) * (T : Nat))) = .tup [.int u, .int (y * T)] := rfl
      rw [eU]
      generalize eR (some (a, (x : Int))) = F at *
      generalize eR (some (b, (y : Int))) = M at *
      generalize (DV.int u :: us.map DV.int) = UL at *
      generalize (x : Int) = xx at *
      generalize (y : Int) * (T : Int) = yT at *
      generalize (y : Int) = yy at *
      generalize (T : Int) = TT at *
      simp [esCons, esIf, dOp2, dVar, dC, q1, q2, q3, q4, oEq_i, zx, sRet, eIf, dCall, aCons, aNil, dTup, sNil, sSet, co, od, lc, dLst, ne0, i0, mu1]
@[simp] theorem l_meet_rest_ok (r s : Rs) (w1 : wR r) (w2 : wR s) (b1 : bT r) (b2 : bT s) : V_l_rest_meet [eR r, eR s] μ = some (eR (rmet r s), μ) := by
  have e0 : eR none = .tup [] := rfl
  match r, s, w1, w2, b1, b2 with
  | none, s, _, _, _, _ => unfold V_l_rest_meet D_l_rest_meet; rw [e0]; walk_at "ex"; exact e0.symm
  | some (a, d), none, _, _, _, _ => unfold V_l_rest_meet D_l_rest_meet; rw [e0]; walk_at "ex"; exact e0.symm
  | some (a, d), some (b, e), w1, w2, b1, b2 =>
    have q2 := fun μ => ix_R1 (μ := μ) a d
    have q4 := fun μ => ix_R1 (μ := μ) b e
    have q5 := fun μ => eq_R0 (μ := μ) (some (a, d))
    have q6 := fun μ => eq_R0 (μ := μ) (some (b, e))
    have t1 := fun le => meet_tail (μ := μ) w1 w2 b1 b2 le (eR (some (a, d))) (eR (some (b, e)))
    have t2 := fun le => meet_tail (μ := μ) w2 w1 b2 b1 le (eR (some (a, d))) (eR (some (b, e)))
    rw [rmet_comm _ _ w2 w1] at t2
    simp only [Option.isNone_some] at q5 q6
    unfold V_l_rest_meet D_l_rest_meet
    generalize eR (rmet (some (a, d)) (some (b, e))) = R at *
    generalize eR (some (a, d)) = A at *
    generalize eR (some (b, e)) = B at *
    unfold meetTail at t1 t2
    by_cases le : d ≤ e
    · have t1 := t1 le
      generalize hMT : sCons (sIf (dOp2 oEq (dOp2 oIx (dVar 2) (dC (.int 1))) (dC (.int 0))) _ _) _ = MT at *
      simp [eFn, startD, esCons, esIf, eOr, dOp2, dVar, dTup, aNil, aCons, q2, q4, q5, q6, sNil, dC, sAsg, eIf, oLe, le, gTu, gAnd, gNm, gEnd, t1]
    · have t2 := t2 (by omega)
      generalize hMT : sCons (sIf (dOp2 oEq (dOp2 oIx (dVar 2) (dC (.int 1))) (dC (.int 0))) _ _) _ = MT at *
      simp [eFn, startD, esCons, esIf, eOr, dOp2, dVar, dTup, aNil, aCons, q2, q4, q5, q6, sNil, dC, sAsg, eIf, oLe, le, gTu, gAnd, gNm, gEnd, t2]

end Lw

namespace Lw
open PySem PySem.Spec L2 Eg
local macro_rules | `(tactic| walk_at "ex") => `(tactic| simp [eFn, startD, esCons, sRet, esIf, sNil, sSet, sAsg, sExp, sPar2, sPar3, dVar, dC, dOp2, dCall, dBlt, dTup, dLst, dLstM, eIf, eAnd, eOr, eNot, eNeg, dIsi, eChain, aCons, aNil, gTu, gAnd, gNm, gSb, gEnd, dSl, runP, sFor, forL_nil, forL_cons, iSeq, iRange1, iRange2, oDiv_ok, oMod_ok, oPow_ok, oSub, oLt, oLe, oGt, oGe, oEq, oNe, oIs, oIsnt, xIx_t, xIx_l, xIx_m, xIx_s, oLen, oInt, oAbs, oMM, oTuple, oDivmod, oInN, flatL, DV.flat, dCallW, permI, oAll, blsD, oMax1, oMin1, maxI, minI, intsD, inV1, inV2, eqV, DV.isN, eqvD, eqvL, shD, shL, xItems_t, xItems_l, xItems_m, xLen_t, xLen_l, xLen_m, xLen_s, atI, ixN, DV.ty, kitT, sl_eq, *])
variable {μ : List MO}
theorem gcd_dv {d e : Int} (h1 : d = 0 ∨ (0 < d ∧ d ∣ 20160)) (h2 : e = 0 ∨ (0 < e ∧ e ∣ 20160)) : gcdL [d, e] ∣ 20160 ∨ gcdL [d, e] = 0 := by
  rw [gcdL2]
  rcases h1 with rfl | ⟨h1, v1⟩
  · rcases h2 with rfl | ⟨h2, v2⟩
    · right; rfl
    · left
      rw [Int.natAbs_zero, Nat.gcd_zero_left]
      exact Int.natCast_dvd_natCast.mp (Int.natAbs_dvd.mpr v2)
  · left
    exact Nat.dvd_trans (Nat.gcd_dvd_left _ _) (Int.natCast_dvd_natCast.mp (Int.natAbs_dvd.mpr v1))
theorem wR_d {n d : Int} (w : wR (some (n, d))) : d = 0 ∨ (0 < d ∧ d ∣ 20160) := by
  rcases w with h | ⟨h, v, _⟩
  · exact .inl h
  · exact .inr ⟨h, v⟩
theorem eR_rgen {x : Int} {g : Nat} (h : g ∣ 20160 ∨ g = 0) : eR (rgen x g) = .tup [.int (if (g : Int) = 0 then x else x % (g : Int)), .int g] := by
  unfold rgen
  by_cases z : g = 0
  · subst z; simp [eR]
  · have zi : ¬ (g : Int) = 0 := by omega
    rw [if_neg z, if_neg zi, Nat.gcd_eq_left (h.resolve_right z)]
    rfl
def qDiv (r s : Rs) : Rs := match r, s with
  | some (a, d), some (b, e) => if b = 0 ∧ e = 0 then none else if e = 0 ∧ b ∣ d then rgen (a.fdiv b) (d.fdiv b).natAbs else if a = 0 ∧ d = 0 then some (0, 0) else some (0, 1)
  | _, _ => none
def qMod (r s : Rs) : Rs := match r, s with
  | some (a, d), some (b, e) => if b = 0 ∧ e = 0 then none else if e = 0 ∧ b ∣ d then some (a.fmod b, 0) else some (a % (gcdL [d, b, e] : Nat), (gcdL [d, b, e] : Nat))
  | _, _ => none
theorem fmod_dvd {d b : Int} (hb : b ≠ 0) : d.fmod b = 0 ↔ b ∣ d := by
  constructor
  · intro h
    exact ⟨d.fdiv b, by have := Int.mul_fdiv_add_fmod d b; omega⟩
  · rintro ⟨k, rfl⟩
    have h1 := Int.add_mul_fdiv_right 0 k hb
    rw [Int.zero_fdiv] at h1
    have h2 := Int.mul_fdiv_add_fmod (b * k) b
    rw [Int.mul_comm b k] at h2 ⊢
    rw [Int.zero_add] at h1
    rw [h1, Int.zero_add] at h2
    have : b * k = k * b := Int.mul_comm ..
    omega
theorem fdiv_of {d b : Int} (hb : b ≠ 0) (h : b ∣ d) : b * d.fdiv b = d := by
  have h1 := Int.mul_fdiv_add_fmod d b
  have h2 := (fmod_dvd hb).mpr h
  omega
theorem fdiv_add {a d b : Int} (hb : b ≠ 0) (h : b ∣ d) : (a + d).fdiv b = a.fdiv b + d.fdiv b := by
  have h1 := fdiv_of hb h
  conv => lhs; rw [← h1, Int.mul_comm]
  rw [Int.add_mul_fdiv_right a _ hb]
theorem fdiv_le {d b : Int} (hb : b ≠ 0) (h : b ∣ d) : (d.fdiv b).natAbs ≤ d.natAbs ∧ (d.fdiv b).natAbs ∣ d.natAbs := by
  have h1 := fdiv_of hb h
  have h2 : (d.fdiv b).natAbs ∣ d.natAbs := ⟨b.natAbs, by rw [← Int.natAbs_mul, Int.mul_comm, h1]⟩
  refine ⟨?_, h2⟩
  by_cases z : d.natAbs = 0
  · have : d = 0 := by omega
    subst this
    simp
  · exact Nat.le_of_dvd (by omega) h2
theorem fdiv_grain {n d b : Int} (w : wR (some (n, d))) (hb : b ≠ 0) (h : b ∣ d) : (d.fdiv b).natAbs ∣ 20160 ∨ (d.fdiv b).natAbs = 0 := by
  rcases w with rfl | ⟨hd, hv, _⟩
  · right
    simp
  · left
    exact Nat.dvd_trans (fdiv_le hb h).2 (Int.natCast_dvd_natCast.mp (Int.natAbs_dvd.mpr hv))
theorem gcd3_ok {n d m e : Int} (w1 : wR (some (n, d))) (w2 : wR (some (m, e))) (h : ¬ (m = 0 ∧ e = 0)) (h2 : ¬ (e = 0 ∧ m ∣ d)) : 0 < gcdL [d, m, e] ∧ ((gcdL [d, m, e] : Nat) : Int) ∣ 20160 := by
  obtain ⟨g1, g2, g3⟩ := dvd_gcd3.mp (Int.dvd_refl ((gcdL [d, m, e] : Nat) : Int))
  have nz : gcdL [d, m, e] ≠ 0 := by
    intro z
    rw [z] at g1 g2 g3
    exact h ⟨Int.zero_dvd.mp g2, Int.zero_dvd.mp g3⟩
  refine ⟨by omega, ?_⟩
  rcases w2 with rfl | ⟨he, hv, _⟩
  · rcases w1 with rfl | ⟨hd, hv, _⟩
    · exact absurd ⟨rfl, Int.dvd_zero m⟩ h2
    · exact Int.dvd_trans g1 hv
  · exact Int.dvd_trans g3 hv
theorem wR_qDiv (r s : Rs) : wR (qDiv r s) := by
  match r, s with
  | none, _ => trivial
  | some (_, _), none => trivial
  | some (a, d), some (b, e) =>
    unfold qDiv
    dsimp only
    split
    · trivial
    · split
      · exact wR_rgen _ _
      · split
        · exact .inl rfl
        · exact .inr ⟨by decide, by decide, by decide, by decide⟩
theorem wR_qMod (r s : Rs) (w1 : wR r) (w2 : wR s) : wR (qMod r s) := by
  match r, s, w1, w2 with
  | none, _, _, _ => trivial
  | some (_, _), none, _, _ => trivial
  | some (a, d), some (b, e), w1, w2 =>
    unfold qMod
    dsimp only
    split
    · trivial
    · rename_i h1
      split
      · exact .inl rfl
      · rename_i h2
        obtain ⟨g1, g2⟩ := gcd3_ok w1 w2 h1 h2
        exact .inr ⟨by omega, g2, Int.emod_nonneg _ (by omega), Int.emod_lt_of_pos _ (by omega)⟩
theorem eq_RR (n d m e : Int) (μ : List MO) : oEq (eR (some (n, d))) (.tup [.int m, .int e]) μ = some (.bl (decide (n = m ∧ d = e)), μ) := by
  unfold oEq
  rw [show eqvD (eR (some (n, d))) (.tup [.int m, .int e]) = decide (n = m ∧ d = e) from eqv_RR n d m e]
  simp [shD, shL]
theorem oAbs_i (x : Int) (μ : List MO) : oAbs [.int x] μ = some (.int (x.natAbs : Int), μ) := by
  simp [oAbs]
  split <;> omega
theorem residue_quotient_ok (r s : Rs) (w1 : wR r) (w2 : wR s) (b1 : bT r) (b2 : bT s) : V_residue_quotient [eR r, eR s] μ = some (eR (qDiv r s), μ) := by
  have e0 : eR none = .tup [] := rfl
  match r, s, w1, w2, b1, b2 with
  | none, s, _, _, _, _ => unfold V_residue_quotient D_residue_quotient; rw [e0]; walk_at "ex"; exact e0.symm
  | some (a, d), none, _, _, _, _ => unfold V_residue_quotient D_residue_quotient; rw [e0]; walk_at "ex"; exact e0.symm
  | some (a, d), some (b, e), w1, w2, b1, b2 =>
    have q1 := fun μ => ix_R0 (μ := μ) a d
    have q2 := fun μ => ix_R1 (μ := μ) a d
    have q3 := fun μ => ix_R0 (μ := μ) b e
    have q4 := fun μ => ix_R1 (μ := μ) b e
    have q5 := fun μ => eq_R0 (μ := μ) (some (a, d))
    have q6 := fun μ => eq_R0 (μ := μ) (some (b, e))
    have q7 := eq_RR b e 0 0
    have q8 := eq_RR a d 0 0
    simp only [Option.isNone_some] at q5 q6
    obtain ⟨p1, p2, p3, p4⟩ := b1
    obtain ⟨p5, p6, p7, p8⟩ := b2
    unfold qDiv V_residue_quotient D_residue_quotient
    dsimp only
    by_cases z : b = 0 ∧ e = 0
    · rw [if_pos z]
      rw [decide_eq_true z] at q7
      rw [e0]
      generalize eR (some (a, d)) = A at *
      generalize eR (some (b, e)) = B at *
      simp [eFn, startD, esCons, esIf, eOr, dOp2, dVar, dTup, aNil, aCons, dC, q5, q6, q7, sRet]
    · rw [if_neg z]
      rw [decide_eq_false z] at q7
      by_cases c : e = 0 ∧ b ∣ d
      · rw [if_pos c]
        obtain ⟨rfl, c2⟩ := c
        have hb : b ≠ 0 := fun h => z ⟨h, rfl⟩
        have om : ∀ μ : List MO, oMod (.int d) (.int b) μ = some (.int 0, μ) := fun μ => by rw [oMod_any hb, (fmod_dvd hb).mpr c2]
        have od1 : ∀ μ : List MO, oDiv (.int a) (.int b) μ = some (.int (a.fdiv b), μ) := fun μ => oDiv_big hb (by omega) (by omega)
        have od2 : ∀ μ : List MO, oDiv (.int d) (.int b) μ = some (.int (d.fdiv b), μ) := fun μ => oDiv_big hb (by omega) (by omega)
        have ro := fun μ => residue_of_ok (μ := μ) (a.fdiv b) ((d.fdiv b).natAbs : Int) (by omega)
        rw [eR_rgen (fdiv_grain w1 hb c2)]
        have ab := oAbs_i (d.fdiv b)
        generalize ((d.fdiv b).natAbs : Int) = K at *
        generalize eR (some (a, d)) = A at *
        generalize eR (some (b, 0)) = B at *
        simp [eFn, startD, esCons, esIf, eOr, eAnd, dOp2, dVar, dTup, aNil, aCons, dC, q1, q2, q3, q4, q5, q6, q7, oEq_i, om, sNil, sRet, dCall, dBlt, od1, od2, ab, ro]
      · rw [if_neg c]
        have cond : ∀ (X Y : DV) (μ : List MO), (∀ μ, oIx Y (.int 1) μ = some (.int e, μ)) → (∀ μ, oIx Y (.int 0) μ = some (.int b, μ)) → (∀ μ, oIx X (.int 1) μ = some (.int d, μ)) →
            dAnd (dOp2 oEq (dOp2 oIx (dVar 1) (dC (.int 1))) (dC (.int 0))) (dOp2 oEq (dOp2 oMod (dOp2 oIx (dVar 0) (dC (.int 1))) (dOp2 oIx (dVar 1) (dC (.int 0)))) (dC (.int 0))) [some X, some Y] μ = some (.bl false, μ) := by
          intro X Y μ h1 h2 h3
          by_cases ze : e = 0
          · have hb : b ≠ 0 := fun h => z ⟨h, ze⟩
            have nz : ¬ d.fmod b = 0 := fun h => c ⟨ze, (fmod_dvd hb).mp h⟩
            have om : ∀ μ : List MO, oMod (.int d) (.int b) μ = some (.int (d.fmod b), μ) := fun μ => oMod_any hb
            simp [eAnd, dOp2, dVar, dC, h1, h2, h3, oEq_i, ze, om, nz]
          · simp [eAnd, dOp2, dVar, dC, h1, oEq_i, ze]
        have cd := fun μ => cond _ _ μ q4 q3 q2
        generalize dAnd (dOp2 oEq (dOp2 oIx (dVar 1) (dC (.int 1))) (dC (.int 0))) (dOp2 oEq (dOp2 oMod (dOp2 oIx (dVar 0) (dC (.int 1))) (dOp2 oIx (dVar 1) (dC (.int 0)))) (dC (.int 0))) = CD at *
        clear cond
        by_cases zz : a = 0 ∧ d = 0
        · rw [if_pos zz]
          rw [decide_eq_true zz] at q8
          obtain ⟨rfl, rfl⟩ := zz
          generalize eR (some (0, 0)) = A at *
          generalize eR (some (b, e)) = B at *
          simp [eFn, startD, esCons, esIf, eIf, eOr, dOp2, dVar, dTup, aNil, aCons, dC, q5, q6, q7, q8, cd, sNil, sRet]
        · rw [if_neg zz]
          rw [decide_eq_false zz] at q8
          have e1 : eR (some (0, 1)) = .tup [.int 0, .int 1] := rfl
          rw [e1]
          generalize eR (some (a, d)) = A at *
          generalize eR (some (b, e)) = B at *
          simp [eFn, startD, esCons, esIf, eIf, eOr, dOp2, dVar, dTup, aNil, aCons, dC, q5, q6, q7, q8, cd, sNil, sRet]
theorem residue_modulo_ok (r s : Rs) (w1 : wR r) (w2 : wR s) : V_residue_modulo [eR r, eR s] μ = some (eR (qMod r s), μ) := by
  have e0 : eR none = .tup [] := rfl
  match r, s, w1, w2 with
  | none, s, _, _ => unfold V_residue_modulo D_residue_modulo; rw [e0]; walk_at "ex"; exact e0.symm
  | some (a, d), none, _, _ => unfold V_residue_modulo D_residue_modulo; rw [e0]; walk_at "ex"; exact e0.symm
  | some (a, d), some (b, e), w1, w2 =>
    have q1 := fun μ => ix_R0 (μ := μ) a d
    have q2 := fun μ => ix_R1 (μ := μ) a d
    have q3 := fun μ => ix_R0 (μ := μ) b e
    have q4 := fun μ => ix_R1 (μ := μ) b e
    have q5 := fun μ => eq_R0 (μ := μ) (some (a, d))
    have q6 := fun μ => eq_R0 (μ := μ) (some (b, e))
    have q7 := eq_RR b e 0 0
    simp only [Option.isNone_some] at q5 q6
    unfold qMod V_residue_modulo D_residue_modulo
    dsimp only
    by_cases z : b = 0 ∧ e = 0
    · rw [if_pos z]
      rw [decide_eq_true z] at q7
      rw [e0]
      generalize eR (some (a, d)) = A at *
      generalize eR (some (b, e)) = B at *
      simp [eFn, startD, esCons, esIf, eOr, dOp2, dVar, dTup, aNil, aCons, dC, q5, q6, q7, sRet]
    · rw [if_neg z]
      rw [decide_eq_false z] at q7
      by_cases c : e = 0 ∧ b ∣ d
      · rw [if_pos c]
        obtain ⟨rfl, c2⟩ := c
        have hb : b ≠ 0 := fun h => z ⟨h, rfl⟩
        have om : ∀ μ : List MO, oMod (.int d) (.int b) μ = some (.int 0, μ) := fun μ => by rw [oMod_any hb, (fmod_dvd hb).mpr c2]
        have om1 : ∀ μ : List MO, oMod (.int a) (.int b) μ = some (.int (a.fmod b), μ) := fun μ => oMod_any hb
        have ro := fun μ => residue_of_ok (μ := μ) (a.fmod b) 0 (.inl rfl)
        rw [if_pos rfl] at ro
        have e1 : eR (some (a.fmod b, 0)) = .tup [.int (a.fmod b), .int 0] := rfl
        rw [e1]
        generalize a.fmod b = K at *
        generalize eR (some (a, d)) = A at *
        generalize eR (some (b, 0)) = B at *
        simp [eFn, startD, esCons, esIf, eOr, eAnd, dOp2, dVar, dTup, aNil, aCons, dC, q1, q2, q3, q4, q5, q6, q7, oEq_i, om, om1, sNil, sRet, dCall, dBlt, ro]
      · rw [if_neg c]
        have cond : ∀ (X Y : DV) (μ : List MO), (∀ μ, oIx Y (.int 1) μ = some (.int e, μ)) → (∀ μ, oIx Y (.int 0) μ = some (.int b, μ)) → (∀ μ, oIx X (.int 1) μ = some (.int d, μ)) →
            dAnd (dOp2 oEq (dOp2 oIx (dVar 1) (dC (.int 1))) (dC (.int 0))) (dOp2 oEq (dOp2 oMod (dOp2 oIx (dVar 0) (dC (.int 1))) (dOp2 oIx (dVar 1) (dC (.int 0)))) (dC (.int 0))) [some X, some Y] μ = some (.bl false, μ) := by
          intro X Y μ h1 h2 h3
          by_cases ze : e = 0
          · have hb : b ≠ 0 := fun h => z ⟨h, ze⟩
            have nz : ¬ d.fmod b = 0 := fun h => c ⟨ze, (fmod_dvd hb).mp h⟩
            have om : ∀ μ : List MO, oMod (.int d) (.int b) μ = some (.int (d.fmod b), μ) := fun μ => oMod_any hb
            simp [eAnd, dOp2, dVar, dC, h1, h2, h3, oEq_i, ze, om, nz]
          · simp [eAnd, dOp2, dVar, dC, h1, oEq_i, ze]
        have cd := fun μ => cond _ _ μ q4 q3 q2
        generalize dAnd (dOp2 oEq (dOp2 oIx (dVar 1) (dC (.int 1))) (dC (.int 0))) (dOp2 oEq (dOp2 oMod (dOp2 oIx (dVar 0) (dC (.int 1))) (dOp2 oIx (dVar 1) (dC (.int 0)))) (dC (.int 0))) = CD at *
        clear cond
        obtain ⟨g1, g2⟩ := gcd3_ok w1 w2 z c
        have gc : ∀ μ : List MO, oGcd [.int d, .int b, .int e] μ = some (.int ((gcdL [d, b, e] : Nat) : Int), μ) := fun _ => rfl
        have zG : ¬ ((gcdL [d, b, e] : Nat) : Int) = 0 := by omega
        have ro := fun μ => residue_of_ok (μ := μ) a (gcdL [d, b, e] : Nat) (by omega)
        simp only [if_neg zG] at ro
        have e1 : eR (some (a % (gcdL [d, b, e] : Nat), (gcdL [d, b, e] : Nat))) = .tup [.int (a % (gcdL [d, b, e] : Nat)), .int (gcdL [d, b, e] : Nat)] := rfl
        rw [e1]
        generalize ((gcdL [d, b, e] : Nat) : Int) = G at *
        generalize eR (some (a, d)) = A at *
        generalize eR (some (b, e)) = B at *
        simp [eFn, startD, esCons, esIf, eIf, eOr, dOp2, dVar, dTup, aNil, aCons, dC, q1, q2, q3, q4, q5, q6, q7, cd, sNil, sRet, dCall, dBlt, gc, ro]

end Lw

namespace Lw
open PySem PySem.Spec L2 Eg
local macro_rules | `(tactic| walk_at "ex") => `(tactic| simp [eFn, startD, esCons, sRet, esIf, sNil, sSet, sAsg, sExp, sPar2, sPar3, dVar, dC, dOp2, dCall, dBlt, dTup, dLst, dLstM, eIf, eAnd, eOr, eNot, eNeg, dIsi, eChain, aCons, aNil, gTu, gAnd, gNm, gSb, gEnd, dSl, runP, sFor, forL_nil, forL_cons, iSeq, iRange1, iRange2, oDiv_ok, oMod_ok, oPow_ok, oSub, oLt, oLe, oGt, oGe, oEq, oNe, oIs, oIsnt, xIx_t, xIx_l, xIx_m, xIx_s, oLen, oInt, oAbs, oMM, oTuple, oDivmod, oInN, flatL, DV.flat, dCallW, permI, oAll, blsD, oMax1, oMin1, maxI, minI, intsD, inV1, inV2, eqV, DV.isN, eqvD, eqvL, shD, shL, xItems_t, xItems_l, xItems_m, xLen_t, xLen_l, xLen_m, xLen_s, atI, ixN, DV.ty, kitT, sl_eq, *])
variable {μ : List MO}
theorem l_over_ok (r s : Rs) (w1 : wR r) (w2 : wR s) (b1 : bT r) (b2 : bT s) : V_l_over [eR r, eR s] μ = some (eR (qDiv r s), μ) := by
  have e0 : eR none = .tup [] := rfl
  match r, s, w1, w2, b1, b2 with
  | none, s, _, _, _, _ => unfold V_l_over D_l_over; rw [e0]; walk_at "ex"; exact e0.symm
  | some (a, d), none, _, _, _, _ => unfold V_l_over D_l_over; rw [e0]; walk_at "ex"; exact e0.symm
  | some (a, d), some (b, e), w1, w2, b1, b2 =>
    have q1 := fun μ => ix_R0 (μ := μ) a d
    have q2 := fun μ => ix_R1 (μ := μ) a d
    have q3 := fun μ => ix_R0 (μ := μ) b e
    have q4 := fun μ => ix_R1 (μ := μ) b e
    have q5 := fun μ => eq_R0 (μ := μ) (some (a, d))
    have q6 := fun μ => eq_R0 (μ := μ) (some (b, e))
    have q7 := eq_RR b e 0 0
    have q8 := eq_RR a d 0 0
    simp only [Option.isNone_some] at q5 q6
    obtain ⟨p1, p2, p3, p4⟩ := b1
    obtain ⟨p5, p6, p7, p8⟩ := b2
    unfold qDiv V_l_over D_l_over
    dsimp only
    by_cases z : b = 0 ∧ e = 0
    · rw [if_pos z]
      rw [decide_eq_true z] at q7
      rw [e0]
      generalize eR (some (a, d)) = A at *
      generalize eR (some (b, e)) = B at *
      simp [eFn, startD, esCons, esIf, eOr, dOp2, dVar, dTup, aNil, aCons, dC, q5, q6, q7, sRet]
    · rw [if_neg z]
      rw [decide_eq_false z] at q7
      by_cases c : e = 0 ∧ b ∣ d
      · rw [if_pos c]
        obtain ⟨rfl, c2⟩ := c
        have hb : b ≠ 0 := fun h => z ⟨h, rfl⟩
        have om : ∀ μ : List MO, oMod (.int d) (.int b) μ = some (.int 0, μ) := fun μ => by rw [oMod_any hb, (fmod_dvd hb).mpr c2]
        have od1 : ∀ μ : List MO, oDiv (.int a) (.int b) μ = some (.int (a.fdiv b), μ) := fun μ => oDiv_big hb (by omega) (by omega)
        have od2 : ∀ μ : List MO, oDiv (.int (a + d)) (.int b) μ = some (.int ((a + d).fdiv b), μ) := fun μ => oDiv_big hb (by omega) (by omega)
        have le := fun μ => rleast_gen (x0 := a.fdiv b) (ys := [(a + d).fdiv b]) (g := (d.fdiv b).natAbs) (by simp) (by
          have k1 := fdiv_add (a := a) hb c2
          have k2 := (fdiv_le hb c2).1
          intro x hx y hy
          simp at hx hy
          rcases hx with rfl | rfl <;> rcases hy with rfl | rfl <;> omega) (fun f => by
          simp only [List.mem_cons, List.not_mem_nil, or_false, forall_eq]
          rw [fdiv_add hb c2, show a.fdiv b + d.fdiv b - a.fdiv b = d.fdiv b by omega, Int.dvd_natAbs]) μ
        simp only [List.map_cons, List.map_nil] at le
        generalize eR (rgen (a.fdiv b) (d.fdiv b).natAbs) = R at *
        generalize eR (some (a, d)) = A at *
        generalize eR (some (b, 0)) = B at *
        simp [eFn, startD, esCons, esIf, eOr, eAnd, dOp2, dVar, dTup, aNil, aCons, dC, q1, q2, q3, q4, q5, q6, q7, oEq_i, om, sNil, sRet, dCall, dBlt, oInt, od1, od2, dLst, le]
      · rw [if_neg c]
        have cond : ∀ (X Y : DV) (μ : List MO), (∀ μ, oIx Y (.int 1) μ = some (.int e, μ)) → (∀ μ, oIx Y (.int 0) μ = some (.int b, μ)) → (∀ μ, oIx X (.int 1) μ = some (.int d, μ)) →
            dAnd (dOp2 oEq (dOp2 oIx (dVar 1) (dC (.int 1))) (dC (.int 0))) (dOp2 oEq (dOp2 oMod (dBlt oInt (aCons (dOp2 oIx (dVar 0) (dC (.int 1))) aNil)) (dOp2 oIx (dVar 1) (dC (.int 0)))) (dC (.int 0))) [some X, some Y] μ = some (.bl false, μ) := by
          intro X Y μ h1 h2 h3
          by_cases ze : e = 0
          · have hb : b ≠ 0 := fun h => z ⟨h, ze⟩
            have nz : ¬ d.fmod b = 0 := fun h => c ⟨ze, (fmod_dvd hb).mp h⟩
            have om : ∀ μ : List MO, oMod (.int d) (.int b) μ = some (.int (d.fmod b), μ) := fun μ => oMod_any hb
            simp [eAnd, dOp2, dVar, dC, h1, h2, h3, oEq_i, ze, om, nz, dBlt, aCons, aNil, oInt]
          · simp [eAnd, dOp2, dVar, dC, h1, oEq_i, ze]
        have cd := fun μ => cond _ _ μ q4 q3 q2
        generalize dAnd (dOp2 oEq (dOp2 oIx (dVar 1) (dC (.int 1))) (dC (.int 0))) (dOp2 oEq (dOp2 oMod (dBlt oInt (aCons (dOp2 oIx (dVar 0) (dC (.int 1))) aNil)) (dOp2 oIx (dVar 1) (dC (.int 0)))) (dC (.int 0))) = CD at *
        clear cond
        by_cases zz : a = 0 ∧ d = 0
        · rw [if_pos zz]
          rw [decide_eq_true zz] at q8
          have e1 : eR (some (0, 0)) = .tup [.int 0, .int 0] := rfl
          rw [e1]
          generalize eR (some (a, d)) = A at *
          generalize eR (some (b, e)) = B at *
          simp [eFn, startD, esCons, esIf, eIf, eOr, dOp2, dVar, dTup, aNil, aCons, dC, q5, q6, q7, q8, cd, sNil, sRet]
        · rw [if_neg zz]
          rw [decide_eq_false zz] at q8
          have e1 : eR (some (0, 1)) = .tup [.int 0, .int 1] := rfl
          rw [e1]
          generalize eR (some (a, d)) = A at *
          generalize eR (some (b, e)) = B at *
          simp [eFn, startD, esCons, esIf, eIf, eOr, dOp2, dVar, dTup, aNil, aCons, dC, q5, q6, q7, q8, cd, sNil, sRet]
theorem l_left_ok (r s : Rs) (w1 : wR r) (w2 : wR s) (b2 : bT s) : V_l_left [eR r, eR s] μ = some (eR (qMod r s), μ) := by
  have e0 : eR none = .tup [] := rfl
  match r, s, w1, w2, b2 with
  | none, s, _, _, _ => unfold V_l_left D_l_left; rw [e0]; walk_at "ex"; exact e0.symm
  | some (a, d), none, _, _, _ => unfold V_l_left D_l_left; rw [e0]; walk_at "ex"; exact e0.symm
  | some (a, d), some (b, e), w1, w2, b2 =>
    have q1 := fun μ => ix_R0 (μ := μ) a d
    have q2 := fun μ => ix_R1 (μ := μ) a d
    have q3 := fun μ => ix_R0 (μ := μ) b e
    have q4 := fun μ => ix_R1 (μ := μ) b e
    have q5 := fun μ => eq_R0 (μ := μ) (some (a, d))
    have q6 := fun μ => eq_R0 (μ := μ) (some (b, e))
    have q7 := eq_RR b e 0 0
    simp only [Option.isNone_some] at q5 q6
    obtain ⟨p5, p6, p7, p8⟩ := b2
    unfold qMod V_l_left D_l_left
    dsimp only
    by_cases z : b = 0 ∧ e = 0
    · rw [if_pos z]
      rw [decide_eq_true z] at q7
      rw [e0]
      generalize eR (some (a, d)) = A at *
      generalize eR (some (b, e)) = B at *
      simp [eFn, startD, esCons, esIf, eOr, dOp2, dVar, dTup, aNil, aCons, dC, q5, q6, q7, sRet]
    · rw [if_neg z]
      rw [decide_eq_false z] at q7
      by_cases c : e = 0 ∧ b ∣ d
      · rw [if_pos c]
        obtain ⟨rfl, c2⟩ := c
        have hb : b ≠ 0 := fun h => z ⟨h, rfl⟩
        have om : ∀ μ : List MO, oMod (.int d) (.int b) μ = some (.int 0, μ) := fun μ => by rw [oMod_any hb, (fmod_dvd hb).mpr c2]
        have om1 : ∀ μ : List MO, oMod (.int a) (.int b) μ = some (.int (a.fmod b), μ) := fun μ => oMod_any hb
        have e1 : eR (some (a.fmod b, 0)) = .tup [.int (a.fmod b), .int 0] := rfl
        rw [e1]
        generalize a.fmod b = K at *
        generalize eR (some (a, d)) = A at *
        generalize eR (some (b, 0)) = B at *
        simp [eFn, startD, esCons, esIf, eOr, eAnd, dOp2, dVar, dTup, aNil, aCons, dC, q1, q2, q3, q4, q5, q6, q7, oEq_i, om, om1, sNil, sRet, dCall, dBlt, oInt]
      · rw [if_neg c]
        have cond : ∀ (X Y : DV) (μ : List MO), (∀ μ, oIx Y (.int 1) μ = some (.int e, μ)) → (∀ μ, oIx Y (.int 0) μ = some (.int b, μ)) → (∀ μ, oIx X (.int 1) μ = some (.int d, μ)) →
            dAnd (dOp2 oEq (dOp2 oIx (dVar 1) (dC (.int 1))) (dC (.int 0))) (dOp2 oEq (dOp2 oMod (dBlt oInt (aCons (dOp2 oIx (dVar 0) (dC (.int 1))) aNil)) (dOp2 oIx (dVar 1) (dC (.int 0)))) (dC (.int 0))) [some X, some Y, none] μ = some (.bl false, μ) := by
          intro X Y μ h1 h2 h3
          by_cases ze : e = 0
          · have hb : b ≠ 0 := fun h => z ⟨h, ze⟩
            have nz : ¬ d.fmod b = 0 := fun h => c ⟨ze, (fmod_dvd hb).mp h⟩
            have om : ∀ μ : List MO, oMod (.int d) (.int b) μ = some (.int (d.fmod b), μ) := fun μ => oMod_any hb
            simp [eAnd, dOp2, dVar, dC, h1, h2, h3, oEq_i, ze, om, nz, dBlt, aCons, aNil, oInt]
          · simp [eAnd, dOp2, dVar, dC, h1, oEq_i, ze]
        have cd := fun μ => cond _ _ μ q4 q3 q2
        generalize dAnd (dOp2 oEq (dOp2 oIx (dVar 1) (dC (.int 1))) (dC (.int 0))) (dOp2 oEq (dOp2 oMod (dBlt oInt (aCons (dOp2 oIx (dVar 0) (dC (.int 1))) aNil)) (dOp2 oIx (dVar 1) (dC (.int 0)))) (dC (.int 0))) = CD at *
        clear cond
        obtain ⟨g1, g2⟩ := gcd3_ok w1 w2 z c
        have c1 := fun μ => common_ok (μ := μ) d b (by omega)
        have c2 := fun μ => common_ok (μ := μ) (Int.gcd d b : Nat) e (by omega)
        have eg : ((Int.gcd ((Int.gcd d b : Nat) : Int) e : Nat) : Int) = (gcdL [d, b, e] : Nat) := by
          have : gcdL [d, b, e] = ((Nat.gcd 0 d.natAbs).gcd b.natAbs).gcd e.natAbs := rfl
          rw [this, Nat.gcd_zero_left]
          rfl
        rw [eg] at c2
        have om1 : ∀ μ : List MO, oMod (.int a) (.int ((gcdL [d, b, e] : Nat) : Int)) μ = some (.int (a % (gcdL [d, b, e] : Nat)), μ) := fun μ => oMod_ok (by omega)
        have e1 : eR (some (a % (gcdL [d, b, e] : Nat), (gcdL [d, b, e] : Nat))) = .tup [.int (a % (gcdL [d, b, e] : Nat)), .int (gcdL [d, b, e] : Nat)] := rfl
        rw [e1]
        generalize ((gcdL [d, b, e] : Nat) : Int) = G at *
        generalize ((Int.gcd d b : Nat) : Int) = G1 at *
        generalize eR (some (a, d)) = A at *
        generalize eR (some (b, e)) = B at *
        simp [eFn, startD, esCons, esIf, eIf, eOr, dOp2, dVar, dTup, aNil, aCons, dC, q1, q2, q3, q4, q5, q6, q7, cd, sNil, sRet, sSet, dCall, dBlt, oInt, c1, c2, om1]
theorem rest_quotient_ok (r s : Rs) (w1 : wR r) (w2 : wR s) (b1 : bT r) (b2 : bT s) : V_rest_quotient [eR r, eR s] μ = some (eR (qDiv r s), μ) := by
  have h := fun μ => residue_quotient_ok (μ := μ) r s w1 w2 b1 b2
  unfold V_rest_quotient D_rest_quotient; walk_at "ex"
theorem rest_modulo_ok (r s : Rs) (w1 : wR r) (w2 : wR s) : V_rest_modulo [eR r, eR s] μ = some (eR (qMod r s), μ) := by
  have h := fun μ => residue_modulo_ok (μ := μ) r s w1 w2
  unfold V_rest_modulo D_rest_modulo; walk_at "ex"
theorem two_right_ok (r s : Rs) (w1 : wR r) (w2 : wR s) (b1 : bT r) (b2 : bT s) : V_l_two_right [eR r, eR s] μ = some (.bl true, μ) := by
  have p1 := fun μ => l_over_ok (μ := μ) r s w1 w2 b1 b2
  have p2 := fun μ => l_left_ok (μ := μ) r s w1 w2 b2
  have s1 := fun μ => rest_quotient_ok (μ := μ) r s w1 w2 b1 b2
  have s2 := fun μ => rest_modulo_ok (μ := μ) r s w1 w2
  have sm1 : ∀ μ : List MO, V_l_same 8 [.tup [eR (qDiv r s), eR (qMod r s)], .tup [eR (qDiv r s), eR (qMod r s)]] μ = some (.bl true, μ) := fun μ => l_same8 _ (by simp) (by simp)
  unfold V_l_two_right D_l_two_right
  generalize eR (qDiv r s) = X at *
  generalize eR (qMod r s) = Y at *
  generalize eR r = A at *
  generalize eR s = B at *
  simp [eFn, startD, esCons, sSet, dTup, aCons, aNil, dCall, dVar, p1, p2, esIf, eNot, s1, s2, sm1, sNil, sRet, dCallW, permI]
/-! ### what numbers of both come to -/
theorem qDiv_holds {a d b e x y : Int} (w1 : wR (some (a, d))) (w2 : wR (some (b, e))) (hx : d ∣ x - a) (hy : e ∣ y - b) (ny : y ≠ 0) : rholds (qDiv (some (a, d)) (some (b, e))) (x.fdiv y) = true := by
  unfold qDiv
  dsimp only
  by_cases z : b = 0 ∧ e = 0
  · exfalso
    obtain ⟨rfl, rfl⟩ := z
    have := Int.zero_dvd.mp hy
    omega
  · rw [if_neg z]
    by_cases c : e = 0 ∧ b ∣ d
    · rw [if_pos c]
      obtain ⟨rfl, c2⟩ := c
      have eb : y = b := by have := Int.zero_dvd.mp hy; omega
      subst eb
      refine rgen_holds ?_
      rw [Int.natAbs_dvd]
      obtain ⟨m, hm⟩ := hx
      have e1 : x = a + d * m := by omega
      have dv : y ∣ d * m := Int.dvd_trans c2 (Int.dvd_mul_right _ _)
      rw [e1, fdiv_add ny dv, show a.fdiv y + (d * m).fdiv y - a.fdiv y = (d * m).fdiv y by omega]
      have k1 := fdiv_of ny c2
      have k2 := fdiv_of ny dv
      refine ⟨m, ?_⟩
      have : y * (d * m).fdiv y = y * (d.fdiv y * m) := by rw [k2, ← Int.mul_assoc, k1]
      exact Int.eq_of_mul_eq_mul_left ny this
    · rw [if_neg c]
      by_cases zz : a = 0 ∧ d = 0
      · rw [if_pos zz]
        obtain ⟨rfl, rfl⟩ := zz
        have : x = 0 := by have := Int.zero_dvd.mp hx; omega
        subst this
        rw [Int.zero_fdiv, rh0]; simp
      · rw [if_neg zz, rhp (by omega)]
        simp
theorem qMod_holds {a d b e x y : Int} (w1 : wR (some (a, d))) (w2 : wR (some (b, e))) (hx : d ∣ x - a) (hy : e ∣ y - b) (ny : y ≠ 0) : rholds (qMod (some (a, d)) (some (b, e))) (x.fmod y) = true := by
  unfold qMod
  dsimp only
  by_cases z : b = 0 ∧ e = 0
  · exfalso
    obtain ⟨rfl, rfl⟩ := z
    have := Int.zero_dvd.mp hy
    omega
  · rw [if_neg z]
    by_cases c : e = 0 ∧ b ∣ d
    · rw [if_pos c]
      obtain ⟨rfl, c2⟩ := c
      have eb : y = b := by have := Int.zero_dvd.mp hy; omega
      subst eb
      rw [rh0]
      refine decide_eq_true ?_
      obtain ⟨m, hm⟩ := hx
      have e1 : x = a + d * m := by omega
      have dv : y ∣ d * m := Int.dvd_trans c2 (Int.dvd_mul_right _ _)
      rw [Int.fmod_def, Int.fmod_def, e1, fdiv_add ny dv, Int.mul_add, fdiv_of ny dv]
      omega
    · rw [if_neg c]
      obtain ⟨g1, g2⟩ := gcd3_ok w1 w2 z c
      obtain ⟨h1, h2, h3⟩ := dvd_gcd3.mp (Int.dvd_refl ((gcdL [d, b, e] : Nat) : Int))
      generalize gcdL [d, b, e] = G at *
      rw [rhp (by omega)]
      refine decide_eq_true (emod_same ?_)
      have dy : (G : Int) ∣ y := by
        have := Int.dvd_add (Int.dvd_trans h3 hy) h2
        rwa [show y - b + b = y by omega] at this
      rw [Int.fmod_def]
      have k1 := Int.dvd_trans h1 hx
      have k2 : (G : Int) ∣ y * x.fdiv y := Int.dvd_trans dy (Int.dvd_mul_right _ _)
      have := Int.dvd_sub k1 k2
      rwa [show x - a - y * x.fdiv y = x - y * x.fdiv y - a by omega] at this
theorem held_right_ok {a d b e x y : Int} (w1 : wR (some (a, d))) (w2 : wR (some (b, e))) (b1 : bT (some (a, d))) (b2 : bT (some (b, e))) (hx : d ∣ x - a) (hy : e ∣ y - b)
    (y0 : -(2 ^ 150) < y) (y1 : y < 2 ^ 150) : V_l_held_right [eR (some (a, d)), eR (some (b, e)), .int x, .int y] μ = some (.bl true, μ) := by
  unfold V_l_held_right D_l_held_right
  by_cases ny : y = 0
  · generalize eR (some (a, d)) = A at *
    generalize eR (some (b, e)) = B at *
    simp [eFn, startD, esCons, esIf, dOp2, dVar, dC, oEq_i, ny, sRet]
  · have s1 := fun μ => rest_quotient_ok (μ := μ) _ _ w1 w2 b1 b2
    have s2 := fun μ => rest_modulo_ok (μ := μ) _ _ w1 w2
    have h1 : ∀ μ, V_rest_holds [eR (qDiv (some (a, d)) (some (b, e))), .int (x.fdiv y)] μ = some (.bl true, μ) := fun μ => by
      rw [rest_holds_ok _ _ (wR_qDiv _ _), qDiv_holds w1 w2 hx hy ny]
    have h2 : ∀ μ, V_rest_holds [eR (qMod (some (a, d)) (some (b, e))), .int (x.fmod y)] μ = some (.bl true, μ) := fun μ => by
      rw [rest_holds_ok _ _ (wR_qMod _ _ w1 w2), qMod_holds w1 w2 hx hy ny]
    have o1 : ∀ μ : List MO, oDiv (.int x) (.int y) μ = some (.int (x.fdiv y), μ) := fun μ => oDiv_big ny (by omega) (by omega)
    have o2 : ∀ μ : List MO, oMod (.int x) (.int y) μ = some (.int (x.fmod y), μ) := fun μ => oMod_any ny
    have sm1 : ∀ μ : List MO, V_l_same 8 [.tup [.bl true, .bl true], .tup [.bl true, .bl true]] μ = some (.bl true, μ) := fun μ => l_same8 _ (by simp) (by simp)
    generalize eR (qDiv (some (a, d)) (some (b, e))) = X at *
    generalize eR (qMod (some (a, d)) (some (b, e))) = Y at *
    generalize eR (some (a, d)) = A at *
    generalize eR (some (b, e)) = B at *
    simp [eFn, startD, esCons, esIf, dOp2, dVar, dC, oEq_i, ny, sRet, sNil, sSet, dTup, aCons, aNil, dCall, dBlt, oInt, s1, s2, o1, o2, h1, h2, sm1]
/-! ### guarded -/
inductive Gd where
  | lt | le | eq | ne
  deriving DecidableEq
def gW : Gd → DV
  | .lt => .str "<"
  | .le => .str "<="
  | .eq => .str "=="
  | .ne => .str "!="
theorem sok_lt : PyData.strOk (Str.ofString "<") = true := by decide +kernel
theorem sok_le : PyData.strOk (Str.ofString "<=") = true := by decide +kernel
theorem sok_eq : PyData.strOk (Str.ofString "==") = true := by decide +kernel
theorem sok_ne : PyData.strOk (Str.ofString "!=") = true := by decide +kernel
theorem gW_lt (g : Gd) : eqvD (gW g) (.str "<") = decide (g = .lt) := by cases g <;> decide +kernel
theorem gW_le (g : Gd) : eqvD (gW g) (.str "<=") = decide (g = .le) := by cases g <;> decide +kernel
theorem gW_eq (g : Gd) : eqvD (gW g) (.str "==") = decide (g = .eq) := by cases g <;> decide +kernel
theorem gW_ne (g : Gd) : eqvD (gW g) (.str "!=") = decide (g = .ne) := by cases g <;> decide +kernel
theorem gW_sh (g : Gd) (n : Nat) : shD n (gW g) = true := by cases g <;> cases n <;> simp [gW, shD, sok_lt, sok_le, sok_eq, sok_ne]
theorem gw_eq (g : Gd) (μ : List MO) : oEq (gW g) (.str "==") μ = some (.bl (decide (g = .eq)), μ) := by
  unfold oEq; rw [gW_eq, gW_sh]; simp [shD, sok_eq]
theorem gw_ne (g : Gd) (μ : List MO) : oEq (gW g) (.str "!=") μ = some (.bl (decide (g = .ne)), μ) := by
  unfold oEq; rw [gW_ne, gW_sh]; simp [shD, sok_ne]
theorem gw_lt (g : Gd) (μ : List MO) : oEq (gW g) (.str "<") μ = some (.bl (decide (g = .lt)), μ) := by
  unfold oEq; rw [gW_lt, gW_sh]; simp [shD, sok_lt]
theorem gw_le (g : Gd) (μ : List MO) : oEq (gW g) (.str "<=") μ = some (.bl (decide (g = .le)), μ) := by
  unfold oEq; rw [gW_le, gW_sh]; simp [shD, sok_le]
theorem refuse_guard_ok (g : Gd) : V_refuse_wrong_guard [gW g] μ = some (.non, μ) := by
  unfold V_refuse_wrong_guard D_refuse_wrong_guard
  have i1 : ∀ μ : List MO, oInN true (gW g) (.tup [.str "<", .str "<=", .str "==", .str "!="]) μ = some (.bl false, μ) := fun μ => by
    cases g <;> rfl
  have t1 : ∀ μ : List MO, dIsi "str" (dVar 0) [some (gW g)] μ = some (.bl true, μ) := fun μ => by cases g <;> rfl
  simp [eFn, startD, esCons, esIf, sNil, eOr, eNot, dVar, dC, dOp2, t1, i1]
/-- both are one number, and alike -/
def sole (r s : Rs) : Bool := match r, s with
  | some (a, d), some (b, e) => decide (d = 0 ∧ a = b ∧ d = e)
  | _, _ => false
noncomputable def rgd (g : Gd) (r s : Rs) : Rs × Rs := if r.isNone = true ∨ s.isNone = true then (none, none) else match g with
  | .eq => (rmet r s, rmet r s)
  | .ne => if sole r s = true then (none, none) else (r, s)
  | _ => (r, s)
theorem eq_two {a d b e : Int} (μ : List MO) : oEq (eR (some (a, d))) (eR (some (b, e))) μ = some (.bl (decide (a = b ∧ d = e)), μ) := by
  unfold oEq
  rw [show eqvD (eR (some (a, d))) (eR (some (b, e))) = decide (a = b ∧ d = e) from eqv_RR a d b e]
  simp
theorem residue_guarded_ok (g : Gd) (r s : Rs) (w1 : wR r) (w2 : wR s) (b1 : bT r) (b2 : bT s) : V_residue_guarded [gW g, eR r, eR s] μ = some (.tup [eR (rgd g r s).1, eR (rgd g r s).2], μ) := by
  have e0 : eR none = .tup [] := rfl
  have q5 := fun μ => eq_R0 (μ := μ) r
  have q6 := fun μ => eq_R0 (μ := μ) s
  unfold V_residue_guarded D_residue_guarded rgd
  by_cases hn : r.isNone = true ∨ s.isNone = true
  · rw [if_pos hn, e0]
    have fin : ∀ (A B : DV) (G M : Option DV) (μ : List MO), (∀ μ, oEq A (.tup []) μ = some (.bl r.isNone, μ)) → (∀ μ, oEq B (.tup []) μ = some (.bl s.isNone, μ)) → dOr (dOp2 oEq (dVar 1) (dTup aNil)) (dOp2 oEq (dVar 2) (dTup aNil)) [G, some A, some B, M] μ = some (.bl true, μ) := fun A B G M μ h1 h2 => by
      rcases hn with hn | hn
      · rw [hn] at h1
        simp [eOr, dOp2, dVar, dTup, aNil, h1]
      · rw [hn] at h2
        cases r.isNone <;> simp [eOr, dOp2, dVar, dTup, aNil, h1, h2]
    have f1 := fun G M μ => fin _ _ G M μ q5 q6
    clear fin
    generalize dOr (dOp2 oEq (dVar 1) (dTup aNil)) (dOp2 oEq (dVar 2) (dTup aNil)) = CD at *
    generalize eR r = A at *
    generalize eR s = B at *
    simp [eFn, startD, esCons, esIf, f1, sRet, dTup, aCons, aNil]
  · rw [if_neg hn]
    obtain ⟨a, d, rfl⟩ : ∃ a d, r = some (a, d) := by
      match r with
      | some (a, d) => exact ⟨a, d, rfl⟩
      | none => exact absurd (.inl rfl) hn
    obtain ⟨b, e, rfl⟩ : ∃ a d, s = some (a, d) := by
      match s with
      | some (a, d) => exact ⟨a, d, rfl⟩
      | none => exact absurd (.inr rfl) hn
    simp only [Option.isNone_some] at q5 q6
    have me := fun μ => residue_met_ok (μ := μ) _ _ w1 w2 b1.bR b2.bR
    have q2 := fun μ => ix_R1 (μ := μ) a d
    have q7 := fun μ => eq_two (a := a) (d := d) (b := b) (e := e) μ
    have g1 := gw_eq g
    have g2 := gw_ne g
    cases g
    · simp only [reduceCtorEq, decide_false, decide_true] at g1 g2 ⊢
      generalize gW .lt = G at *
      generalize eR (some (a, d)) = A at *
      generalize eR (some (b, e)) = B at *
      simp [eFn, startD, esCons, esIf, eOr, eAnd, dOp2, dVar, dC, q5, q6, sNil, g1, g2, sRet, dTup, aCons, aNil]
    · simp only [reduceCtorEq, decide_false, decide_true] at g1 g2 ⊢
      generalize gW .le = G at *
      generalize eR (some (a, d)) = A at *
      generalize eR (some (b, e)) = B at *
      simp [eFn, startD, esCons, esIf, eOr, eAnd, dOp2, dVar, dC, q5, q6, sNil, g1, g2, sRet, dTup, aCons, aNil]
    · simp only [reduceCtorEq, decide_false, decide_true] at g1 g2 ⊢
      generalize gW .eq = G at *
      generalize eR (rmet (some (a, d)) (some (b, e))) = M at *
      generalize eR (some (a, d)) = A at *
      generalize eR (some (b, e)) = B at *
      simp [eFn, startD, esCons, esIf, eOr, eAnd, dOp2, dVar, dC, q5, q6, sNil, g1, g2, sRet, dTup, aCons, aNil, sSet, dCall, me]
    · simp only [reduceCtorEq, decide_false, decide_true] at g1 g2 ⊢
      have es : sole (some (a, d)) (some (b, e)) = (decide (d = 0) && decide (a = b ∧ d = e)) := by
        unfold sole; dsimp only
        rw [Bool.eq_iff_iff]; simp
      rw [es]
      have fin : ∀ (A B : DV) (μ : List MO), (∀ μ, oIx A (.int 1) μ = some (.int d, μ)) → (∀ μ, oEq A B μ = some (.bl (decide (a = b ∧ d = e)), μ)) → dAnd (dOp2 oEq (dOp2 oIx (dVar 1) (dC (.int 1))) (dC (.int 0))) (dOp2 oEq (dVar 1) (dVar 2)) [some (gW .ne), some A, some B, none] μ = some (.bl (decide (d = 0) && decide (a = b ∧ d = e)), μ) := fun A B μ h1 h2 => by
        generalize gW .ne = G
        generalize decide (a = b ∧ d = e) = q at *
        by_cases z : d = 0
        · simp [eAnd, dOp2, dVar, dC, h1, h2, oEq_i, z]
        · simp [eAnd, dOp2, dVar, dC, h1, h2, oEq_i, z]
      have f1 := fun μ => fin _ _ μ q2 q7
      clear fin q7 es
      generalize hCD : dAnd (dOp2 oEq (dOp2 oIx (dVar 1) (dC (.int 1))) (dC (.int 0))) (dOp2 oEq (dVar 1) (dVar 2)) = CD at *
      generalize (decide (d = 0) && decide (a = b ∧ d = e)) = qq at *
      generalize gW .ne = G at *
      cases qq
      · simp only [Bool.false_eq_true, if_false]
        generalize eR (some (a, d)) = A at *
        generalize eR (some (b, e)) = B at *
        simp [eFn, startD, esCons, esIf, eOr, eAnd, dOp2, dVar, dC, q5, q6, sNil, g1, g2, f1, sRet, dTup, aCons, aNil]
      · simp only [if_true]
        rw [e0]
        generalize eR (some (a, d)) = A at *
        generalize eR (some (b, e)) = B at *
        simp [eFn, startD, esCons, esIf, eOr, eAnd, dOp2, dVar, dC, q5, q6, sNil, g1, g2, f1, sRet, dTup, aCons, aNil]
theorem rest_guarded_ok (g : Gd) (r s : Rs) (w1 : wR r) (w2 : wR s) (b1 : bT r) (b2 : bT s) : V_rest_guarded [gW g, eR r, eR s] μ = some (.tup [eR (rgd g r s).1, eR (rgd g r s).2], μ) := by
  have h := fun μ => residue_guarded_ok (μ := μ) g r s w1 w2 b1 b2
  have h2 := fun μ => refuse_guard_ok (μ := μ) g
  have h3 := fun μ => refuse_rests_ok (μ := μ) r s w1 w2
  unfold V_rest_guarded D_rest_guarded
  generalize eR (rgd g r s).1 = X at *
  generalize eR (rgd g r s).2 = Y at *
  generalize eR r = A at *
  generalize eR s = B at *
  generalize gW g = G at *
  simp [eFn, startD, esCons, sExp, dCall, aCons, aNil, dVar, h, h2, h3, sRet]
theorem l_guarded_ok (g : Gd) (r s : Rs) (w1 : wR r) (w2 : wR s) (b1 : bT r) (b2 : bT s) : V_l_guarded [gW g, eR r, eR s] μ = some (.tup [eR (rgd g r s).1, eR (rgd g r s).2], μ) := by
  have e0 : eR none = .tup [] := rfl
  have q5 := fun μ => eq_R0 (μ := μ) r
  have q6 := fun μ => eq_R0 (μ := μ) s
  unfold V_l_guarded D_l_guarded rgd
  by_cases hr : r.isNone = true
  · rw [if_pos (.inl hr), e0]
    rw [hr] at q5
    generalize eR r = A at *
    generalize eR s = B at *
    simp [eFn, startD, esCons, esIf, eOr, dOp2, dVar, dTup, aCons, aNil, q5, sRet]
  by_cases hs : s.isNone = true
  · rw [if_pos (.inr hs), e0]
    rw [hs] at q6
    have hr' : r.isNone = false := by
      cases h : r.isNone
      · rfl
      · exact absurd h hr
    rw [hr'] at q5
    generalize eR r = A at *
    generalize eR s = B at *
    simp [eFn, startD, esCons, esIf, eOr, dOp2, dVar, dTup, aCons, aNil, q5, q6, sRet]
  · rw [if_neg (by rintro (h | h); exact hr h; exact hs h)]
    obtain ⟨a, d, rfl⟩ : ∃ a d, r = some (a, d) := by
      match r with
      | some (a, d) => exact ⟨a, d, rfl⟩
      | none => exact absurd rfl hr
    obtain ⟨b, e, rfl⟩ : ∃ a d, s = some (a, d) := by
      match s with
      | some (a, d) => exact ⟨a, d, rfl⟩
      | none => exact absurd rfl hs
    simp only [Option.isNone_some] at q5 q6
    have me := fun μ => l_meet_rest_ok (μ := μ) _ _ w1 w2 b1 b2
    have q2 := fun μ => ix_R1 (μ := μ) a d
    have q7 := fun μ => eq_two (a := a) (d := d) (b := b) (e := e) μ
    have g1 := gw_eq g
    have g2 := gw_ne g
    have rp : ∀ (x : DV) (μ : List MO), oRep (.tup [x]) (.int 2) μ = some (.tup [x, x], μ) := fun _ _ => rfl
    have es : sole (some (a, d)) (some (b, e)) = (decide (a = b ∧ d = e) && decide (d = 0)) := by
      unfold sole; dsimp only
      rw [Bool.eq_iff_iff]; simp; omega
    have fin : ∀ (A B : DV) (μ : List MO), (∀ μ, oIx A (.int 1) μ = some (.int d, μ)) → (∀ μ, oEq A B μ = some (.bl (decide (a = b ∧ d = e)), μ)) → dAnd (dOp2 oEq (dVar 1) (dVar 2)) (dOp2 oEq (dOp2 oIx (dVar 1) (dC (.int 1))) (dC (.int 0))) [some (gW g), some A, some B] μ = some (.bl (decide (a = b ∧ d = e) && decide (d = 0)), μ) := fun A B μ h1 h2 => by
      generalize gW g = G
      generalize decide (a = b ∧ d = e) = q at *
      cases q <;> simp [eAnd, dOp2, dVar, dC, h1, h2, oEq_i]
    have f1 := fun μ => fin _ _ μ q2 q7
    rw [es]
    clear fin q7 es
    generalize hCD : dAnd (dOp2 oEq (dVar 1) (dVar 2)) (dOp2 oEq (dOp2 oIx (dVar 1) (dC (.int 1))) (dC (.int 0))) = CD at *
    generalize (decide (a = b ∧ d = e) && decide (d = 0)) = qq at *
    cases g
    · simp only [reduceCtorEq, decide_false, decide_true] at g1 g2 ⊢
      generalize gW .lt = G at *
      generalize eR (some (a, d)) = A at *
      generalize eR (some (b, e)) = B at *
      simp [eFn, startD, esCons, esIf, eOr, eAnd, dOp2, dVar, dC, q5, q6, sNil, g1, g2, sRet, dTup, aCons, aNil]
    · simp only [reduceCtorEq, decide_false, decide_true] at g1 g2 ⊢
      generalize gW .le = G at *
      generalize eR (some (a, d)) = A at *
      generalize eR (some (b, e)) = B at *
      simp [eFn, startD, esCons, esIf, eOr, eAnd, dOp2, dVar, dC, q5, q6, sNil, g1, g2, sRet, dTup, aCons, aNil]
    · simp only [reduceCtorEq, decide_false, decide_true] at g1 g2 ⊢
      generalize gW .eq = G at *
      generalize eR (rmet (some (a, d)) (some (b, e))) = M at *
      generalize eR (some (a, d)) = A at *
      generalize eR (some (b, e)) = B at *
      simp [eFn, startD, esCons, esIf, eOr, eAnd, dOp2, dVar, dC, q5, q6, sNil, g1, g2, sRet, dTup, aCons, aNil, dCall, me, rp]
    · simp only [reduceCtorEq, decide_false, decide_true] at g1 g2 ⊢
      generalize gW .ne = G at *
      cases qq
      · simp only [Bool.false_eq_true, if_false]
        generalize eR (some (a, d)) = A at *
        generalize eR (some (b, e)) = B at *
        simp [eFn, startD, esCons, esIf, eOr, eAnd, dOp2, dVar, dC, q5, q6, sNil, g1, g2, f1, sRet, dTup, aCons, aNil]
      · simp only [if_true]
        rw [e0]
        generalize eR (some (a, d)) = A at *
        generalize eR (some (b, e)) = B at *
        simp [eFn, startD, esCons, esIf, eOr, eAnd, dOp2, dVar, dC, q5, q6, sNil, g1, g2, f1, sRet, dTup, aCons, aNil]
def lets : Gd → Int → Int → Bool
  | .lt, x, y => decide (x < y)
  | .le, x, y => decide (x ≤ y)
  | .eq, x, y => decide (x = y)
  | .ne, x, y => !decide (x = y)
theorem l_lets_ok (g : Gd) (x y : Int) : V_l_lets [gW g, .int x, .int y] μ = some (.bl (lets g x y), μ) := by
  have g1 := gw_lt g
  have g2 := gw_le g
  have g3 := gw_eq g
  unfold V_l_lets D_l_lets
  cases g <;> (
    simp only [reduceCtorEq, decide_false, decide_true] at g1 g2 g3 ⊢
    generalize gW _ = G at *
    simp [eFn, startD, esCons, esIf, eIf, dOp2, dVar, dC, g1, g2, g3, sRet, sNil, oLt, oLe, oEq_i, oNe_i, lets])
/-- numbers of both that are let stay held -/
theorem guard_holds (g : Gd) {a d b e x y : Int} (w1 : wR (some (a, d))) (w2 : wR (some (b, e))) (hx : rholds (some (a, d)) x = true) (hy : rholds (some (b, e)) y = true) (h : lets g x y = true) :
    rholds (rgd g (some (a, d)) (some (b, e))).1 x = true ∧ rholds (rgd g (some (a, d)) (some (b, e))).2 y = true := by
  unfold rgd
  rw [if_neg (by simp)]
  cases g
  · exact ⟨hx, hy⟩
  · exact ⟨hx, hy⟩
  · have e1 : x = y := of_decide_eq_true h
    subst e1
    dsimp only
    rw [rholds_rmet _ _ w1 w2, hx, hy]
    exact ⟨rfl, rfl⟩
  · dsimp only
    cases hs : sole (some (a, d)) (some (b, e))
    · exact ⟨hx, hy⟩
    · exfalso
      unfold sole at hs
      dsimp only at hs
      obtain ⟨rfl, rfl, rfl⟩ := of_decide_eq_true hs
      rw [rh0] at hx hy
      have h1 := of_decide_eq_true hx
      have h2 := of_decide_eq_true hy
      simp [lets] at h
      omega
theorem wR_rgd (g : Gd) (r s : Rs) (w1 : wR r) (w2 : wR s) : wR (rgd g r s).1 ∧ wR (rgd g r s).2 := by
  unfold rgd
  split
  · exact ⟨trivial, trivial⟩
  · cases g
    · exact ⟨w1, w2⟩
    · exact ⟨w1, w2⟩
    · exact ⟨wR_rmet r s w1 w2, wR_rmet r s w1 w2⟩
    · dsimp only
      split
      · exact ⟨trivial, trivial⟩
      · exact ⟨w1, w2⟩

end Lw

namespace Lw
open PySem PySem.Spec L2 Eg
local macro_rules | `(tactic| walk_at "ex") => `(tactic| simp [eFn, startD, esCons, sRet, esIf, sNil, sSet, sAsg, sExp, sPar2, sPar3, dVar, dC, dOp2, dCall, dBlt, dTup, dLst, dLstM, eIf, eAnd, eOr, eNot, eNeg, dIsi, eChain, aCons, aNil, gTu, gAnd, gNm, gSb, gEnd, dSl, runP, sFor, forL_nil, forL_cons, iSeq, iRange1, iRange2, oDiv_ok, oMod_ok, oPow_ok, oSub, oLt, oLe, oGt, oGe, oEq, oNe, oIs, oIsnt, xIx_t, xIx_l, xIx_m, xIx_s, oLen, oInt, oAbs, oMM, oTuple, oDivmod, oInN, flatL, DV.flat, dCallW, permI, oAll, blsD, oMax1, oMin1, maxI, minI, intsD, inV1, inV2, eqV, DV.isN, eqvD, eqvL, shD, shL, xItems_t, xItems_l, xItems_m, xLen_t, xLen_l, xLen_m, xLen_s, atI, ixN, DV.ty, kitT, sl_eq, *])
variable {μ : List MO}
theorem sFor_at (fi : DenA) (g : DenG) (b : DenS) (ρ : RO) (μ : List MO) : sFor fi g b ρ μ = bnd (fi ρ μ) fun ds μ1 => forL g b ds ρ μ1 := rfl
theorem Sr.app {k : Nat} {μ0 : List MO} {n : Nat} {x : MO} (w : Sr k μ0 n μ) : Sr k (μ0 ++ [x]) n (μ ++ [x]) := by
  obtain ⟨hk, a, b, c, rfl, h⟩ := w
  exact ⟨by simp; omega, a, b, c, by rw [List.set_append_left _ _ hk], h⟩
theorem Sr.upd {k : Nat} {μ0 : List MO} {n : Nat} {x : MO} (y : MO) (hk : k < μ0.length) (w : Sr k (μ0 ++ [x]) n μ) : Sr k (μ0 ++ [y]) n (μ.set μ0.length y) := by
  obtain ⟨_, a, b, c, rfl, h⟩ := w
  refine ⟨by simp; omega, a, b, c, ?_, h⟩
  rw [List.set_append_left _ _ hk, List.set_append_left _ _ hk, List.set_append_right _ _ (by simp)]
  simp
theorem Sr.last {k : Nat} {μ0 : List MO} {n : Nat} {x : MO} (hk : k < μ0.length) (w : Sr k (μ0 ++ [x]) n μ) : μ[μ0.length]? = some x := by
  obtain ⟨_, a, b, c, rfl, h⟩ := w
  rw [List.getElem?_set_ne (by omega)]
  simp
theorem Sr.fin {k : Nat} {μ0 μ' : List MO} {n m : Nat} {x : MO} {b : Bool} (w : Sr k μ0 n μ) (w2 : Sr k (μ0 ++ [x]) m μ') : ∃ μ2, cutd μ (.bl b) μ' = some (.bl b, μ2) ∧ Sr k μ0 m μ2 := by
  obtain ⟨hk, a1, b1, c1, rfl, _⟩ := w
  obtain ⟨_, a2, b2, c2, rfl, h2⟩ := w2
  refine ⟨μ0.set k (.lst [.int a2, .int b2, .int c2]), ?_, hk, a2, b2, c2, rfl, h2⟩
  rw [List.set_append_left _ _ hk, cutd_beside rfl (by simp [MO.bel, DV.belL, DV.bel])]
def PL (ps : List (Int × Int)) : List DV := ps.map fun p => DV.tup [.int p.1, .int p.2]
/-- the pairs of numbers that both hold -/
def okP (r s : Rs) (ps : List (Int × Int)) : Prop := ∀ p ∈ ps, rholds r p.1 = true ∧ rholds s p.2 = true ∧ bC2 p.1 ∧ bC2 p.2
where bC2 (x : Int) : Prop := -(2 ^ 150) < x ∧ x < 2 ^ 150
noncomputable abbrev inB : DenS := (sCons (sSet 8 (dTup (aCons (dCall V_rest_holds (aCons (dOp2 oIx (dVar 5) (dC (.int 0))) (aCons (dVar 6) aNil))) (aCons (dCall V_rest_holds (aCons (dOp2 oIx (dVar 5) (dC (.int 1))) (aCons (dVar 7) aNil))) aNil))))
  (sCons (sIf (dAnd (dCall V_l_lets (aCons (dVar 3) (aCons (dVar 6) (aCons (dVar 7) aNil)))) (dNot (dCall (V_l_same 8) (aCons (dVar 8) (aCons (dTup (aCons (dC (.bl true)) (aCons (dC (.bl true)) aNil))) aNil)))))
  (sCons (sRet (dC (.bl false)))
  sNil)
  sNil)
  sNil))
theorem in_turn (g : Gd) (r s : Rs) (w1 : wR r) (w2 : wR s) {x y : Int} (hx : rholds r x = true) (hy : rholds s y = true) (A B C D : Option DV) (T8 : Option DV) (μ : List MO) :
    ∃ T8' : Option DV, inB [A, B, C, some (gW g), D, some (.tup [eR (rgd g r s).1, eR (rgd g r s).2]), some (.int x), some (.int y), T8] μ = some (.nx [A, B, C, some (gW g), D, some (.tup [eR (rgd g r s).1, eR (rgd g r s).2]), some (.int x), some (.int y), T8'] μ) := by
  obtain ⟨wg1, wg2⟩ := wR_rgd g r s w1 w2
  have h1 := fun μ => rest_holds_ok (μ := μ) (rgd g r s).1 x wg1
  have h2 := fun μ => rest_holds_ok (μ := μ) (rgd g r s).2 y wg2
  have i0 : ∀ (X Y : DV) (μ : List MO), oIx (.tup [X, Y]) (.int 0) μ = some (X, μ) := fun _ _ _ => rfl
  have i1 : ∀ (X Y : DV) (μ : List MO), oIx (.tup [X, Y]) (.int 1) μ = some (Y, μ) := fun _ _ _ => rfl
  have le := fun μ => l_lets_ok (μ := μ) g x y
  have sm1 : ∀ μ : List MO, V_l_same 8 [.tup [.bl true, .bl true], .tup [.bl true, .bl true]] μ = some (.bl true, μ) := fun μ => l_same8 _ (by simp) (by simp)
  refine ⟨some (.tup [.bl (rholds (rgd g r s).1 x), .bl (rholds (rgd g r s).2 y)]), ?_⟩
  have gh : lets g x y = true → rholds (rgd g r s).1 x = true ∧ rholds (rgd g r s).2 y = true := by
    match r, s, w1, w2, hx, hy with
    | none, _, _, _, hx, _ => simp [rholds] at hx
    | some (a, d), none, _, _, _, hy => simp [rholds] at hy
    | some (a, d), some (b, e), w1, w2, hx, hy => exact guard_holds g w1 w2 hx hy
  cases hl : lets g x y
  · rw [hl] at le
    generalize rholds (rgd g r s).1 x = p at *
    generalize rholds (rgd g r s).2 y = q at *
    generalize eR (rgd g r s).1 = X at *
    generalize eR (rgd g r s).2 = Y at *
    generalize gW g = G at *
    simp [esCons, sSet, dTup, aCons, aNil, dCall, dOp2, dVar, dC, i0, i1, h1, h2, esIf, eAnd, le, sNil]
  · obtain ⟨k1, k2⟩ := gh hl
    rw [hl] at le
    rw [k1] at h1
    rw [k2] at h2
    rw [k1, k2]
    generalize eR (rgd g r s).1 = X at *
    generalize eR (rgd g r s).2 = Y at *
    generalize gW g = G at *
    simp [esCons, sSet, dTup, aCons, aNil, dCall, dOp2, dVar, dC, i0, i1, h1, h2, esIf, eAnd, eNot, le, sm1, sNil]
theorem guards_right_ok (r s : Rs) (w1 : wR r) (w2 : wR s) (b1 : bT r) (b2 : bT s) (ps : List (Int × Int)) (h : okP r s ps) : V_l_guards_right [eR r, eR s, .lst (PL ps)] μ = some (.bl true, μ) := by
  unfold V_l_guards_right D_l_guards_right
  simp only [eFn, startD, List.length_cons, List.length_nil, if_true, List.map_cons, List.map_nil, List.cons_append, List.nil_append]
  show endO μ (sCons (sFor _ _ _) _ [some (eR r), some (eR s), some (.lst (PL ps)), none, none, none, none, none, none] μ) = _
  rw [esCons, sFor_at]
  have it : iSeq (dTup (aCons (dC (.str "<")) (aCons (dC (.str "<=")) (aCons (dC (.str "==")) (aCons (dC (.str "!=")) aNil))))) [some (eR r), some (eR s), some (.lst (PL ps)), none, none, none, none, none, none] μ = some ([Gd.lt, .le, .eq, .ne].map gW, μ) := by
    simp [iSeq, dTup, aCons, aNil, dC, gW]
  rw [it, bnd_some]
  generalize hF : forL _ _ _ _ _ = oo
  obtain ⟨ρ2, μ2, rfl, T3, T4, T5, T6, T7, T8, rfl, rfl⟩ := forL_at hF (fun i ρ' μ' => ∃ T3 T4 T5 T6 T7 T8 : Option DV, ρ' = [some (eR r), some (eR s), some (.lst (PL ps)), T3, T4, T5, T6, T7, T8] ∧ μ' = μ)
    ⟨none, none, none, none, none, none, rfl, rfl⟩ (by
      rintro i dd ρ' μ' hd ⟨T3, T4, T5, T6, T7, T8, rfl, rfl⟩
      rw [List.getElem?_map] at hd
      obtain ⟨g, _, rfl⟩ := Option.map_eq_some_iff.mp hd
      have k1 := fun μ => l_guarded_ok (μ := μ) g r s w1 w2 b1 b2
      have k2 := fun μ => rest_guarded_ok (μ := μ) g r s w1 w2 b1 b2
      have sm1 : ∀ μ : List MO, V_l_same 8 [.tup [.tup [eR (rgd g r s).1, eR (rgd g r s).2], .tup [eR (rgd g r s).1, eR (rgd g r s).2]], .tup [.tup [eR (rgd g r s).1, eR (rgd g r s).2], .tup [eR (rgd g r s).1, eR (rgd g r s).2]]] μ = some (.bl true, μ) := fun μ => l_same8 _ (by simp) (by simp)
      obtain ⟨U6, U7, U8, lp⟩ : ∃ U6 U7 U8 : Option DV, sFor (iSeq (dVar 2)) (gTu 2 (gAnd (gNm 6) (gAnd (gNm 7) gEnd))) inB [some (eR r), some (eR s), some (.lst (PL ps)), some (gW g), some (.tup [eR (rgd g r s).1, eR (rgd g r s).2]), some (.tup [eR (rgd g r s).1, eR (rgd g r s).2]), T6, T7, T8] μ' = some (.nx [some (eR r), some (eR s), some (.lst (PL ps)), some (gW g), some (.tup [eR (rgd g r s).1, eR (rgd g r s).2]), some (.tup [eR (rgd g r s).1, eR (rgd g r s).2]), U6, U7, U8] μ') := by
        rw [sFor_at]
        have it : iSeq (dVar 2) [some (eR r), some (eR s), some (.lst (PL ps)), some (gW g), some (.tup [eR (rgd g r s).1, eR (rgd g r s).2]), some (.tup [eR (rgd g r s).1, eR (rgd g r s).2]), T6, T7, T8] μ' = some (PL ps, μ') := by simp [iSeq, dVar]
        rw [it, bnd_some]
        generalize hF : forL _ _ _ _ _ = oo
        obtain ⟨ρ2, μ2, rfl, T6, T7, T8, rfl, rfl⟩ := forL_at hF (fun i ρ'' μ'' => ∃ T6 T7 T8 : Option DV, ρ'' = [some (eR r), some (eR s), some (.lst (PL ps)), some (gW g), some (.tup [eR (rgd g r s).1, eR (rgd g r s).2]), some (.tup [eR (rgd g r s).1, eR (rgd g r s).2]), T6, T7, T8] ∧ μ'' = μ')
          ⟨_, _, _, rfl, rfl⟩ (by
            rintro j dd ρ'' μ'' hd ⟨T6, T7, T8, rfl, rfl⟩
            unfold PL at hd
            rw [List.getElem?_map] at hd
            obtain ⟨p, hp, rfl⟩ := Option.map_eq_some_iff.mp hd
            obtain ⟨h1, h2, _, _⟩ := h p (List.mem_of_getElem? hp)
            obtain ⟨T8', e⟩ := in_turn g r s w1 w2 h1 h2 (some (eR r)) (some (eR s)) (some (.lst (PL ps))) (some (.tup [eR (rgd g r s).1, eR (rgd g r s).2])) T8 μ''
            exact ⟨_, _, _, _, rfl, e, some (.int p.1), some (.int p.2), T8', rfl, rfl⟩)
        exact ⟨T6, T7, T8, rfl⟩
      refine ⟨_, _, _, _, rfl, ?_, some (gW g), some (.tup [eR (rgd g r s).1, eR (rgd g r s).2]), some (.tup [eR (rgd g r s).1, eR (rgd g r s).2]), U6, U7, U8, rfl, rfl⟩
      unfold inB at lp
      generalize hLP : sFor (iSeq (dVar 2)) (gTu 2 (gAnd (gNm 6) (gAnd (gNm 7) gEnd))) _ = LP at *
      generalize eR (rgd g r s).1 = X at *
      generalize eR (rgd g r s).2 = Y at *
      generalize gW g = G at *
      generalize eR r = A at *
      generalize eR s = B at *
      simp [esCons, sSet, dCall, aCons, aNil, dVar, k1, k2, esIf, eNot, dTup, dCallW, permI, sm1, sNil, lp])
  simp [esCons, sRet, dC]
/-! ### wrapped -/
theorem width_ok (w : Nat) (h1 : 1 ≤ w) (h2 : w ≤ 16) : V_refuse_wrong_width [.int (w : Int)] μ = some (.non, μ) := by
  have c1 : (1 : Int) ≤ w := by omega
  have c2 : (w : Int) ≤ 16 := by omega
  unfold V_refuse_wrong_width D_refuse_wrong_width; walk_at "ex"
theorem pow_nz (w : Nat) (h : w ≤ 16) : (0 : Int) < 2 ^ w ∧ (2 : Int) ^ w ≤ 65536 := by
  have h1 : (0 : Nat) < 2 ^ w := Nat.pow_pos (by decide)
  have h2 : (2 : Nat) ^ w ≤ 2 ^ 16 := Nat.pow_le_pow_right (by decide) h
  have e : ((2 ^ w : Nat) : Int) = 2 ^ w := by simp
  rw [← e]
  constructor
  · omega
  · have : (2 : Nat) ^ 16 = 65536 := rfl
    omega
theorem rest_wrapped_ok (r : Rs) (w1 : wR r) (w : Nat) (h1 : 1 ≤ w) (h2 : w ≤ 16) : V_rest_wrapped [eR r, .int (w : Int)] μ = some (eR (qMod r (some (2 ^ w, 0))), μ) := by
  have k1 := fun μ => width_ok (μ := μ) w h1 h2
  have k2 := fun μ => refuse_rest_ok (μ := μ) r w1
  have k3 : ∀ μ, V_residue_modulo [eR r, .tup [.int (2 ^ w), .int 0]] μ = some (eR (qMod r (some (2 ^ w, 0))), μ) := fun μ => residue_modulo_ok r (some (2 ^ w, 0)) w1 (.inl rfl)
  have sh : ∀ μ : List MO, oShl (.int 1) (.int (w : Int)) μ = some (.int (2 ^ w), μ) := fun μ => by
    unfold oShl
    dsimp only
    rw [if_pos (by omega), Int.one_mul, Int.toNat_natCast]
  have k4 : ∀ μ, V_residue_wrapped [eR r, .int (w : Int)] μ = some (eR (qMod r (some (2 ^ w, 0))), μ) := fun μ => by
    unfold V_residue_wrapped D_residue_wrapped
    generalize eR (qMod r (some (2 ^ w, 0))) = X at *
    generalize eR r = A at *
    simp [eFn, startD, esCons, sRet, dCall, aCons, aNil, dVar, dTup, dOp2, dC, sh, k3]
  unfold V_rest_wrapped D_rest_wrapped
  generalize eR (qMod r (some (2 ^ w, 0))) = X at *
  generalize eR r = A at *
  simp [eFn, startD, esCons, sExp, sRet, dCall, aCons, aNil, dVar, k1, k2, k4]
theorem wrap_holds {r : Rs} (w1 : wR r) {c W : Int} (hW : 0 < W) (h : rholds r c = true) : rholds (qMod r (some (W, 0))) (c.fmod W) = true := by
  match r, w1, h with
  | none, _, h => simp [rholds] at h
  | some (a, d), w1, h => exact qMod_holds (b := W) (e := 0) (y := W) w1 (.inl rfl) ((rh_pair w1 (rh_own w1)).mp h) (by rw [Int.sub_self]; exact Int.dvd_refl 0) (by omega)
theorem range_small (ρ : RO) (i : Nat) (W : Int) (h : ρ[i]? = some (some (.int W))) (h0 : 0 ≤ W) (h1 : W ≤ 1000) (μ : List MO) : iRange1 (aCons (dVar i) aNil) ρ μ = some (rgD 0 W.toNat, μ) := by
  have c1 : -4000000000000000000 ≤ W ∧ W < 4000000000000000000 := by omega
  simp [iRange1, aCons, aNil, dVar, h, c1]
theorem pow_loop (A C : DV) (w : Nat) (h2 : w ≤ 16) (μ : List MO) : ∃ T4 : Option DV, sFor (iRange1 (aCons (dVar 1) aNil)) (gNm 4) (sCons (sSet 3 (dOp2 oMul (dVar 3) (dC (.int 2)))) sNil) [some A, some (.int (w : Int)), some C, some (.int 1), none, none, none, none] μ = some (.nx [some A, some (.int (w : Int)), some C, some (.int (2 ^ w)), T4, none, none, none] μ) := by
  rw [sFor_at]
  have it := range_small [some A, some (.int (w : Int)), some C, some (.int 1), none, none, none, none] 1 (w : Int) rfl (by omega) (by omega) μ
  rw [Int.toNat_natCast] at it
  rw [it, bnd_some]
  generalize hF : forL _ _ _ _ _ = oo
  obtain ⟨ρ2, μ2, rfl, T4, rfl, rfl⟩ := forL_at hF (fun i ρ' μ' => ∃ T4 : Option DV, ρ' = [some A, some (.int (w : Int)), some C, some (.int (2 ^ i)), T4, none, none, none] ∧ μ' = μ)
    ⟨none, by rw [Int.pow_zero], rfl⟩ (by
      rintro i dd ρ' μ' hd ⟨T4, rfl, rfl⟩
      have hi := (List.getElem?_eq_some_iff.mp hd).1
      rw [rgD_len] at hi
      obtain ⟨q0, q1⟩ := pow_nz i (by omega)
      have m1 : ∀ μ : List MO, oMul (.int (2 ^ i)) (.int 2) μ = some (.int (2 ^ (i + 1)), μ) := fun μ => by
        rw [oMul_ok (by omega) (by omega) (by omega) (by omega), Int.pow_succ]
      refine ⟨_, _, _, _, rfl, ?_, some dd, rfl, rfl⟩
      generalize (2 : Int) ^ (i + 1) = W1 at *
      generalize (2 : Int) ^ i = W0 at *
      simp [esCons, sSet, dOp2, dVar, dC, m1, sNil])
  rw [rgD_len]
  exact ⟨T4, rfl⟩
theorem wrapped_right_ok (r : Rs) (w1 : wR r) (b1 : bT r) (w : Nat) (h1 : 1 ≤ w) (h2 : w ≤ 16) (cs : List Int) (hc : ∀ c ∈ cs, rholds r c = true) (hl : cs.length ≤ 1000) : V_l_wrapped_right [eR r, .int (w : Int), .lst (cs.map DV.int)] μ = some (.bl true, μ) := by
  obtain ⟨p0, p1⟩ := pow_nz w h2
  have k1 := fun μ => rest_wrapped_ok (μ := μ) r w1 w h1 h2
  obtain ⟨T4, lp⟩ := pow_loop (eR r) (.lst (cs.map DV.int)) w h2 μ
  generalize (2 : Int) ^ w = W at *
  have k2 : ∀ μ, V_l_left [eR r, .tup [.int (W), .int 0]] μ = some (eR (qMod r (some (W, 0))), μ) := fun μ => l_left_ok r (some (W, 0)) w1 (.inl rfl) ⟨by omega, by omega, by omega, by omega⟩
  have k3 : ∀ μ, V_rest_modulo [eR r, .tup [.int (W), .int 0]] μ = some (eR (qMod r (some (W, 0))), μ) := fun μ => rest_modulo_ok r (some (W, 0)) w1 (.inl rfl)
  have wq := wR_qMod r (some (W, 0)) w1 (.inl rfl)
  have sm1 : ∀ μ : List MO, V_l_same 8 [.tup [eR (qMod r (some (W, 0))), eR (qMod r (some (W, 0))), eR (qMod r (some (W, 0)))], .tup [eR (qMod r (some (W, 0))), eR (qMod r (some (W, 0))), eR (qMod r (some (W, 0)))]] μ = some (.bl true, μ) := fun μ => l_same8 _ (by simp) (by simp)
  have rp : ∀ (x : DV) (μ : List MO), oRep (.tup [x]) (.int 3) μ = some (.tup [x, x, x], μ) := fun _ _ => rfl
  have lc : ∀ (X Y : Option DV) (μ : List MO), dLc (iSeq (dVar 2)) (bd1 7) dT (dCall (V_l_same 8) (aCons (dCall V_rest_holds (aCons (dVar 5) (aCons (dOp2 oMod (dBlt oInt (aCons (dVar 7) aNil)) (dVar 3)) aNil))) (aCons (dC (.bl true)) aNil))) [some (eR r), some (.int (w : Int)), some (.lst (cs.map DV.int)), some (.int (W)), X, some (eR (qMod r (some (W, 0)))), Y, none] μ = some (.lst ((cs.map DV.int).map fun _ => .bl true), μ) := by
    intro X Y μ
    refine dLc_map (ds := cs.map DV.int) (g := fun _ => .bl true) (by simp [iSeq, dVar]) (by simp; omega) (fun d hd => ?_) fun _ _ => rfl
    obtain ⟨c, hcm, rfl⟩ := List.mem_map.mp hd
    refine ⟨_, rfl, fun μ' => ?_⟩
    have hh : ∀ μ, V_rest_holds [eR (qMod r (some (W, 0))), .int (c.fmod (W))] μ = some (.bl true, μ) := fun μ => by
      rw [rest_holds_ok _ _ wq, wrap_holds w1 p0 (hc c hcm)]
    have om : ∀ μ : List MO, oMod (.int c) (.int (W)) μ = some (.int (c.fmod (W)), μ) := fun μ => oMod_any (Int.ne_of_gt p0)
    generalize eR (qMod r (some (W, 0))) = Q at *
    generalize eR r = A at *
    simp [dCall, aCons, aNil, dVar, dC, dOp2, dBlt, oInt, om, hh]
  have all1 : ∀ μ : List MO, oAll [.lst ((cs.map DV.int).map fun _ => DV.bl true)] μ = some (.bl true, μ) := fun μ => by
    unfold oAll
    simp only [itemsD]
    rw [all_true_map]
    simp
  generalize (cs.map DV.int).map (fun _ => DV.bl true) = TT at *
  generalize eR (qMod r (some (W, 0))) = Q at *
  generalize eR r = A at *
  generalize cs.map DV.int = CS at *
  generalize (w : Int) = wi at *
  unfold V_l_wrapped_right D_l_wrapped_right
  generalize hLC : dLc (iSeq (dVar 2)) (bd1 7) dT _ = LC at *
  generalize hLP : sFor (iRange1 (aCons (dVar 1) aNil)) (gNm 4) _ = LP at *
  simp only [eFn, startD, esCons, sSet, dC, bnd_some]
  rw [sqO_nx]
  simp [esCons, dC, lp, sAsg, gTu, gAnd, gNm, gEnd, dTup, aCons, aNil, dCall, dVar, k1, k2, k3, esIf, eNot, dCallW, permI, dOp2, rp, sm1, sNil, sRet, dBlt, lc, all1]

end Lw

namespace Lw
open PySem PySem.Spec L2 Eg
local macro_rules | `(tactic| walk_at "ex") => `(tactic| simp [eFn, startD, esCons, sRet, esIf, sNil, sSet, sAsg, sExp, sPar2, sPar3, dVar, dC, dOp2, dCall, dBlt, dTup, dLst, dLstM, eIf, eAnd, eOr, eNot, eNeg, dIsi, eChain, aCons, aNil, gTu, gAnd, gNm, gSb, gEnd, dSl, runP, sFor, forL_nil, forL_cons, iSeq, iRange1, iRange2, oDiv_ok, oMod_ok, oPow_ok, oSub, oLt, oLe, oGt, oGe, oEq, oNe, oIs, oIsnt, xIx_t, xIx_l, xIx_m, xIx_s, oLen, oInt, oAbs, oMM, oTuple, oDivmod, oInN, flatL, DV.flat, dCallW, permI, oAll, blsD, oMax1, oMin1, maxI, minI, intsD, inV1, inV2, eqV, DV.isN, eqvD, eqvL, shD, shL, xItems_t, xItems_l, xItems_m, xLen_t, xLen_l, xLen_m, xLen_s, atI, ixN, DV.ty, kitT, sl_eq, *])
variable {μ : List MO}
theorem rest_some_ok {k : Nat} {μ0 : List MO} {n : Nat} (w : Sr k μ0 n μ) (hn : n < 1152921504606830000) {a d : Int} (hb : bT (some (a, d))) :
    ∃ x μ', V_l_rest_some [.mu k, eR (some (a, d))] μ = some (.int x, μ') ∧ d ∣ x - a ∧ -(2 ^ 150) < x ∧ x < 2 ^ 150 ∧ Sr k μ0 (n + 7) μ' := by
  obtain ⟨p1, p2, p3, p4⟩ := hb
  obtain ⟨m, μ1, e1, ⟨q1, q2⟩, w1⟩ := number_ok w (by omega)
  have l1 : μ1.length = μ.length := by rw [w1.len, w.len]
  have mu1 : ∀ μ : List MO, oMul (.int d) (.int m) μ = some (.int (d * m), μ) := fun μ => oMul_ok (by omega) (by omega) (by omega) (by omega)
  have b1 : (d * m).natAbs ≤ 20160 * 1267650600228229401496703205376 := by
    rw [Int.natAbs_mul]
    exact Nat.mul_le_mul (by omega) (by omega)
  have i0 := fun μ => ix_R0 (μ := μ) a d
  have i1 := fun μ => ix_R1 (μ := μ) a d
  refine ⟨a + d * m, μ1, ?_, ⟨m, by omega⟩, by omega, by omega, w1⟩
  unfold V_l_rest_some D_l_rest_some
  generalize eR (some (a, d)) = A at *
  simp [eFn, startD, esCons, sRet, dOp2, dVar, dC, i0, i1, dCall, aCons, aNil, e1, mu1, cutd_len l1]
theorem dApp_at {fo fa : Den} {ρ : RO} {μ μ2 : List MO} {m : Nat} {d : DV} {xs ys : List DV} (ho : fo ρ μ = some (.mu m, μ)) (h1 : μ[m]? = some (.lst xs)) (ha : fa ρ μ = some (d, μ2)) (h2 : μ2[m]? = some (.lst ys)) (hl : ys.length < 16777216) :
    dApp fo fa ρ μ = some (.non, μ2.set m (.lst (ys ++ [d]))) := by
  unfold dApp
  rw [ho, bnd_some]
  dsimp only
  rw [h1]
  dsimp only
  rw [ha, bnd_some, h2]
  dsimp only
  rw [if_pos hl]
theorem beside_ok {k : Nat} {μ0 : List MO} {n : Nat} (w : Sr k μ0 n μ) (hn : n < 1152921504606600000) (r : Rs) (hw : wR r) (hb : bQ r) : ∃ s μ', V_l_beside [.mu k, eR r] μ = some (eR s, μ') ∧ wR s ∧ bT s ∧ Sr k μ0 (n + 30) μ' := by
  have bb := hb.bB (B := 2535301200456458802993406410752) (by omega)
  have q5 := fun μ => eq_R0 (μ := μ) r
  unfold V_l_beside D_l_beside
  match r, hw, hb, bb with
  | none, hw, hb, bb =>
    obtain ⟨s, μ1, e1, s1, s2, w1⟩ := rest_nearB_ok w (by omega) none hw (by omega) (by omega) bb
    have l1 : μ1.length = μ.length := by rw [w1.len, w.len]
    refine ⟨s, μ1, ?_, s1, s2.bT (by omega), w1.mono (by omega)⟩
    simp only [Option.isNone_none] at q5
    generalize eR none = A at *
    simp [eFn, startD, esCons, esIf, eOr, dOp2, dVar, dTup, aNil, q5, sRet, dCall, aCons, e1, cutd_len l1]
  | some (a, d), hw, hb, bb =>
    simp only [Option.isNone_some] at q5
    have i1 := fun μ => ix_R1 (μ := μ) a d
    obtain ⟨t, μ1, e1, t0, t1, w1⟩ := take_ok w (by omega) (m := 2) (by omega) (by omega)
    by_cases z : t = 0
    · obtain ⟨s, μ2, e2, s1, s2, w2⟩ := rest_nearB_ok w1 (by omega) (some (a, d)) hw (by omega) (by omega) bb
      have l2 : μ2.length = μ.length := by rw [w2.len, w.len]
      refine ⟨s, μ2, ?_, s1, s2.bT (by omega), w2.mono (by omega)⟩
      subst z
      generalize eR (some (a, d)) = A at *
      simp [eFn, startD, esCons, esIf, eOr, dOp2, dVar, dTup, aNil, q5, sRet, dCall, aCons, dC, e1, oEq_i, e2, cutd_len l2]
    · obtain ⟨p, μ2, e2, p0, p1, p2, w2⟩ := part_ok w1 (by omega)
      obtain ⟨u, μ3, e3, u0, u1, w3⟩ := take_ok w2 (by omega) (m := 2) (by omega) (by omega)
      have l3 : μ3.length = μ.length := by rw [w3.len, w.len]
      have co := fun μ => common_ok (μ := μ) d p (by omega)
      have g1 : Int.gcd d p ≤ 20160 := by
        have := Nat.le_of_dvd (show 0 < p.natAbs by omega) (Nat.gcd_dvd_right d.natAbs p.natAbs)
        have e : Int.gcd d p = Nat.gcd d.natAbs p.natAbs := rfl
        omega
      refine ⟨some (if u = 0 then ((Int.gcd d p : Nat) : Int) else 0 - ((Int.gcd d p : Nat) : Int), 0), μ3, ?_, .inl rfl, ⟨by split <;> omega, by split <;> omega, by omega, by omega⟩, w3.mono (by omega)⟩
      show _ = some (DV.tup [.int (if u = 0 then ((Int.gcd d p : Nat) : Int) else 0 - ((Int.gcd d p : Nat) : Int)), .int 0], μ3)
      generalize ((Int.gcd d p : Nat) : Int) = G at *
      generalize eR (some (a, d)) = A at *
      by_cases zu : u = 0
      · subst zu
        simp [eFn, startD, esCons, esIf, eIf, eOr, dOp2, dVar, dTup, aNil, q5, sNil, sSet, sRet, dCall, aCons, dC, e1, oEq_i, z, i1, e2, co, e3, cutd_len l3]
      · simp [eFn, startD, esCons, esIf, eIf, eOr, dOp2, dVar, dTup, aNil, q5, sNil, sSet, sRet, dCall, aCons, dC, e1, oEq_i, z, i1, e2, co, e3, zu, oSub, cutd_len l3]
noncomputable abbrev fillF : DenS := (sFor (iRange1 (aCons (dC (.int 4)) aNil)) (gNm 5)
  (sCons (sExp (dApp (dVar 3) (dTup (aCons (dCall V_l_rest_some (aCons (dVar 0) (aCons (dVar 1) aNil))) (aCons (dCall V_l_rest_some (aCons (dVar 0) (aCons (dVar 4) aNil))) aNil)))))
  sNil))
noncomputable abbrev app2 : Den := (dApp (dVar 3) (dTup (aCons (dOp2 oIx (dVar 1) (dC (.int 0))) (aCons (dOp2 oIx (dVar 4) (dC (.int 0))) aNil))))
noncomputable abbrev app3 : Den := (dApp (dVar 3) (dIf (dCall V_l_rest_has (aCons (dVar 4) (aCons (dOp2 oIx (dVar 1) (dC (.int 0))) aNil))) (dTup (aCons (dOp2 oIx (dVar 1) (dC (.int 0))) (aCons (dOp2 oIx (dVar 1) (dC (.int 0))) aNil))) (dTup (aCons (dOp2 oSub (dOp2 oIx (dVar 1) (dC (.int 0))) (dOp2 oIx (dVar 1) (dC (.int 1)))) (aCons (dOp2 oAdd (dOp2 oIx (dVar 4) (dC (.int 0))) (dOp2 oIx (dVar 4) (dC (.int 1)))) aNil)))))
theorem PL_app (ps : List (Int × Int)) (x y : Int) : PL ps ++ [DV.tup [.int x, .int y]] = PL (ps ++ [(x, y)]) := by simp [PL]
theorem PL_len (ps : List (Int × Int)) : (PL ps).length = ps.length := by simp [PL]
theorem okP_app {r s : Rs} {ps : List (Int × Int)} {x y : Int} (h : okP r s ps) (hx : rholds r x = true) (hy : rholds s y = true) (x0 : -(2 ^ 150) < x) (x1 : x < 2 ^ 150) (y0 : -(2 ^ 150) < y) (y1 : y < 2 ^ 150) : okP r s (ps ++ [(x, y)]) := by
  intro p hp
  rcases List.mem_append.mp hp with hp | hp
  · exact h p hp
  · simp at hp
    subst hp
    exact ⟨hx, hy, ⟨x0, x1⟩, ⟨y0, y1⟩⟩
theorem fill_ok {k : Nat} {μ0 : List MO} {n : Nat} {a d b e : Int} (hk : k < μ0.length) (w1 : wR (some (a, d))) (w2 : wR (some (b, e))) (b1 : bT (some (a, d))) (b2 : bT (some (b, e))) (W : DV) (w : Sr k (μ0 ++ [.lst (PL [])]) n μ) (hn : n < 1000000) :
    ∃ (T : Option DV) (μ' : List MO) (ps : List (Int × Int)), sCons fillF (sCons (sExp app2) (sCons (sExp app3) sNil)) [some (.mu k), some (eR (some (a, d))), some W, some (.mu μ0.length), some (eR (some (b, e))), none, none, none] μ
      = some (.nx [some (.mu k), some (eR (some (a, d))), some W, some (.mu μ0.length), some (eR (some (b, e))), T, none, none] μ') ∧ Sr k (μ0 ++ [.lst (PL ps)]) (n + 60) μ' ∧ okP (some (a, d)) (some (b, e)) ps ∧ ps.length ≤ 6 := by
  obtain ⟨μ1, T, ps1, e1, wa, h1, n1⟩ : ∃ (μ' : List MO) (T : Option DV) (ps : List (Int × Int)), fillF [some (.mu k), some (eR (some (a, d))), some W, some (.mu μ0.length), some (eR (some (b, e))), none, none, none] μ = some (.nx [some (.mu k), some (eR (some (a, d))), some W, some (.mu μ0.length), some (eR (some (b, e))), T, none, none] μ') ∧ Sr k (μ0 ++ [.lst (PL ps)]) (n + 56) μ' ∧ okP (some (a, d)) (some (b, e)) ps ∧ ps.length = 4 := by
    unfold fillF
    rw [sFor_at]
    have it : iRange1 (aCons (dC (.int 4)) aNil) [some (.mu k), some (eR (some (a, d))), some W, some (.mu μ0.length), some (eR (some (b, e))), none, none, none] μ = some (rgD 0 4, μ) := by simp [iRange1, aCons, aNil, dC]
    rw [it, bnd_some]
    generalize hF : forL _ _ _ _ _ = oo
    obtain ⟨ρ2, μ2, rfl, T, ps, rfl, w6, h6, n6⟩ := forL_at hF (fun i ρ' μ' => ∃ (T : Option DV) (ps : List (Int × Int)), ρ' = [some (.mu k), some (eR (some (a, d))), some W, some (.mu μ0.length), some (eR (some (b, e))), T, none, none] ∧ Sr k (μ0 ++ [.lst (PL ps)]) (n + 14 * i) μ' ∧ okP (some (a, d)) (some (b, e)) ps ∧ ps.length = i)
      ⟨none, [], rfl, w, fun p hp => (by cases hp), rfl⟩ (by
        rintro i dd ρ' μ' hd ⟨T, ps, rfl, w6, h6, n6⟩
        have hi := (List.getElem?_eq_some_iff.mp hd).1
        rw [rgD_len] at hi
        obtain ⟨x, μ7, e7, x1, x2, x3, w7⟩ := rest_some_ok w6 (by omega) b1
        obtain ⟨y, μ8, e8, y1, y2, y3, w8⟩ := rest_some_ok w7 (by omega) b2
        have ap := dApp_at (fo := dVar 3) (fa := dTup (aCons (dCall V_l_rest_some (aCons (dVar 0) (aCons (dVar 1) aNil))) (aCons (dCall V_l_rest_some (aCons (dVar 0) (aCons (dVar 4) aNil))) aNil))) (ρ := [some (.mu k), some (eR (some (a, d))), some W, some (.mu μ0.length), some (eR (some (b, e))), some dd, none, none]) (μ := μ') (μ2 := μ8) (m := μ0.length) (d := .tup [.int x, .int y]) (xs := PL ps) (ys := PL ps) rfl (w6.last hk) (by
          generalize eR (some (a, d)) = A at *
          generalize eR (some (b, e)) = B at *
          simp [dTup, aCons, aNil, dCall, dVar, e7, e8]) (w8.last hk) (by rw [PL_len]; omega)
        rw [PL_app] at ap
        refine ⟨_, _, _, _, rfl, ?_, some dd, ps ++ [(x, y)], rfl, (w8.upd (.lst (PL (ps ++ [(x, y)]))) hk).mono (by omega), okP_app h6 ((rh_pair w1 (rh_own w1)).mpr x1) ((rh_pair w2 (rh_own w2)).mpr y1) x2 x3 y2 y3, by simp [n6]⟩
        rw [esCons]
        unfold sExp
        simp only [List.set_cons_succ, List.set_cons_zero]
        rw [ap]
        rfl)
    rw [rgD_len] at w6 n6
    exact ⟨μ2, T, ps, rfl, w6, h6, n6⟩
  have q1 := fun μ => ix_R0 (μ := μ) a d
  have q2 := fun μ => ix_R1 (μ := μ) a d
  have q3 := fun μ => ix_R0 (μ := μ) b e
  have q4 := fun μ => ix_R1 (μ := μ) b e
  have rh := fun μ => l_rest_has_ok (μ := μ) (some (b, e)) a w2
  have o1 := rh_own w1
  have o2 := rh_own w2
  have o3 : rholds (some (a, d)) (a - d) = true := (rh_pair w1 o1).mpr (by rw [show a - d - a = -d by omega]; exact Int.dvd_neg.mpr (Int.dvd_refl d))
  have o4 := rh_next w2
  obtain ⟨p1, p2, p3, p4⟩ := b1
  obtain ⟨p5, p6, p7, p8⟩ := b2
  generalize eR (some (a, d)) = A at *
  generalize eR (some (b, e)) = B at *
  have ap2 : app2 [some (.mu k), some A, some W, some (.mu μ0.length), some B, T, none, none] μ1 = some (.non, μ1.set μ0.length (.lst (PL ps1 ++ [.tup [.int a, .int b]]))) :=
    dApp_at rfl (wa.last hk) (by simp [dTup, aCons, aNil, dOp2, dVar, dC, q1, q3]) (wa.last hk) (by rw [PL_len]; omega)
  rw [PL_app] at ap2
  have wb := wa.upd (.lst (PL (ps1 ++ [(a, b)]))) hk
  have h2 := okP_app (x := a) (y := b) h1 o1 o2 (by omega) (by omega) (by omega) (by omega)
  generalize μ1.set μ0.length (.lst (PL (ps1 ++ [(a, b)]))) = μ3 at *
  obtain ⟨x, y, ap3, hx, hy, x0, x1, y0, y1⟩ : ∃ x y : Int, app3 [some (.mu k), some A, some W, some (.mu μ0.length), some B, T, none, none] μ3 = some (.non, μ3.set μ0.length (.lst (PL (ps1 ++ [(a, b)]) ++ [.tup [.int x, .int y]]))) ∧ rholds (some (a, d)) x = true ∧ rholds (some (b, e)) y = true ∧ -(2 ^ 150) < x ∧ x < 2 ^ 150 ∧ -(2 ^ 150) < y ∧ y < 2 ^ 150 := by
    cases hh : rholds (some (b, e)) a
    · rw [hh] at rh
      exact ⟨a - d, b + e, dApp_at rfl (wb.last hk) (by simp [dIf, eIf, dCall, dTup, aCons, aNil, dOp2, dVar, dC, q1, q2, q3, q4, rh, oSub]) (wb.last hk) (by rw [PL_len]; simp; omega), o3, o4, by omega, by omega, by omega, by omega⟩
    · rw [hh] at rh
      exact ⟨a, a, dApp_at rfl (wb.last hk) (by simp [dIf, eIf, dCall, dTup, aCons, aNil, dOp2, dVar, dC, q1, q2, q3, q4, rh]) (wb.last hk) (by rw [PL_len]; simp; omega), o1, hh, by omega, by omega, by omega, by omega⟩
  rw [PL_app] at ap3
  refine ⟨T, _, ps1 ++ [(a, b)] ++ [(x, y)], ?_, (wb.upd _ hk).mono (by omega), okP_app h2 hx hy x0 x1 y0 y1, by simp; omega⟩
  rw [esCons, e1, sqO_nx, esCons]
  unfold sExp
  rw [ap2, bnd_some, sqO_nx, esCons, ap3]
  rfl

theorem lc_held (A B S W : DV) (ps : List (Int × Int)) (i j p q : Nat) (T5 : Option DV) (μ : List MO) (hl : ps.length ≤ 1000)
    (h : ∀ x ∈ ps, ∀ μ, V_l_held_right [(if i = 1 then A else B), (if j = 1 then A else B), .int (if p = 6 then x.1 else x.2), .int (if q = 6 then x.1 else x.2)] μ = some (.bl true, μ))
    (hi : (i = 1 ∧ j = 4 ∧ p = 6 ∧ q = 7) ∨ (i = 4 ∧ j = 1 ∧ p = 7 ∧ q = 6)) :
    dLc (iSeq (dVar 3)) (bd2 6 7) dT (dCall V_l_held_right (aCons (dVar i) (aCons (dVar j) (aCons (dVar p) (aCons (dVar q) aNil))))) [some S, some A, some W, some (.lst (PL ps)), some B, T5, none, none] μ = some (.lst ((PL ps).map fun _ => .bl true), μ) := by
  refine dLc_map (ds := PL ps) (g := fun _ => .bl true) (by simp [iSeq, dVar]) (by rw [PL_len]; omega) (fun d hd => ?_) fun _ _ => rfl
  obtain ⟨x, hx, rfl⟩ := List.mem_map.mp hd
  refine ⟨_, rfl, fun μ' => ?_⟩
  have hh := h x hx μ'
  rcases hi with ⟨rfl, rfl, rfl, rfl⟩ | ⟨rfl, rfl, rfl, rfl⟩
  · simp at hh
    simp [dCall, aCons, aNil, dVar, hh]
  · simp at hh
    simp [dCall, aCons, aNil, dVar, hh]
theorem lc_first (A B S W : DV) (ps : List (Int × Int)) (T5 : Option DV) (μ : List MO) (hl : ps.length ≤ 1000) :
    dLc (iSeq (dVar 3)) (bd2 6 7) dT (dVar 6) [some S, some A, some W, some (.lst (PL ps)), some B, T5, none, none] μ = some (.lst ((ps.map (·.1)).map DV.int), μ) := by
  have := dLc_map (fi := iSeq (dVar 3)) (bd := bd2 6 7) (elt := dVar 6) (ds := PL ps) (g := fun d => match d with | .tup (x :: _) => x | _ => .non) (ρ := [some S, some A, some W, some (.lst (PL ps)), some B, T5, none, none]) (μ := μ) (by simp [iSeq, dVar]) (by rw [PL_len]; omega) (fun d hd => by
    obtain ⟨x, hx, rfl⟩ := List.mem_map.mp hd
    exact ⟨_, rfl, fun μ' => by simp [dVar]⟩) (fun d hd => by
    obtain ⟨x, hx, rfl⟩ := List.mem_map.mp hd
    rfl)
  rw [this]
  simp [PL]
theorem all_true (xs : List DV) (μ : List MO) : oAll [.lst (xs.map fun _ => DV.bl true)] μ = some (.bl true, μ) := by
  unfold oAll
  dsimp only
  rw [all_true_map]
  simp
noncomputable abbrev endD : DenS := (sCons (sIf (dOr (dNot (dCall V_l_two_right (aCons (dVar 1) (aCons (dVar 4) aNil)))) (dOr (dNot (dCall V_l_two_right (aCons (dVar 4) (aCons (dVar 1) aNil)))) (dNot (dCall V_l_guards_right (aCons (dVar 1) (aCons (dVar 4) (aCons (dVar 3) aNil)))))))
  (sCons (sRet (dC (.bl false)))
  sNil)
  sNil)
  (sCons (sIf (dNot (dBlt oAll (aCons (dLc (iSeq (dVar 3)) (bd2 6 7) dT (dCall V_l_held_right (aCons (dVar 1) (aCons (dVar 4) (aCons (dVar 6) (aCons (dVar 7) aNil)))))) aNil)))
  (sCons (sRet (dC (.bl false)))
  sNil)
  sNil)
  (sCons (sIf (dNot (dBlt oAll (aCons (dLc (iSeq (dVar 3)) (bd2 6 7) dT (dCall V_l_held_right (aCons (dVar 4) (aCons (dVar 1) (aCons (dVar 7) (aCons (dVar 6) aNil)))))) aNil)))
  (sCons (sRet (dC (.bl false)))
  sNil)
  sNil)
  (sCons (sRet (dCall V_l_wrapped_right (aCons (dVar 1) (aCons (dVar 2) (aCons (dLc (iSeq (dVar 3)) (bd2 6 7) dT (dVar 6)) aNil)))))
  sNil))))
theorem ne_R0' (r : Rs) (μ : List MO) : oNe (eR r) (.tup []) μ = some (.bl (!r.isNone), μ) := by
  unfold oNe
  rw [eqv_R0]
  simp [shD, shL]
theorem end_ok (r s : Rs) (w1 : wR r) (w2 : wR s) (b1 : bT r) (b2 : bT s) (S : DV) (ps : List (Int × Int)) (hp : okP r s ps) (hl : ps.length ≤ 6) (w : Nat) (h1 : 1 ≤ w) (h2 : w ≤ 16) (wi : Int) (hw : (w : Int) = wi) (T5 : Option DV) (μ : List MO) :
    endD [some S, some (eR r), some (.int wi), some (.lst (PL ps)), some (eR s), T5, none, none] μ = some (.rt (.bl true) μ) := by
  have c1 := fun μ => two_right_ok (μ := μ) r s w1 w2 b1 b2
  have c2 := fun μ => two_right_ok (μ := μ) s r w2 w1 b2 b1
  have c3 := fun μ => guards_right_ok (μ := μ) r s w1 w2 b1 b2 ps hp
  have hh : ∀ x ∈ ps, (∀ μ, V_l_held_right [eR r, eR s, .int x.1, .int x.2] μ = some (.bl true, μ)) ∧ ∀ μ, V_l_held_right [eR s, eR r, .int x.2, .int x.1] μ = some (.bl true, μ) := by
    intro x hx
    obtain ⟨k1, k2, k3, k4⟩ := hp x hx
    match r, s, w1, w2, b1, b2, k1, k2 with
    | none, _, _, _, _, _, k1, _ => simp [rholds] at k1
    | some (a, d), none, _, _, _, _, _, k2 => simp [rholds] at k2
    | some (a, d), some (b, e), w1, w2, b1, b2, k1, k2 =>
      have d1 := (rh_pair w1 (rh_own w1)).mp k1
      have d2 := (rh_pair w2 (rh_own w2)).mp k2
      exact ⟨fun μ => held_right_ok w1 w2 b1 b2 d1 d2 k4.1 k4.2, fun μ => held_right_ok w2 w1 b2 b1 d2 d1 k3.1 k3.2⟩
  have l1 := fun μ => lc_held (eR r) (eR s) S (.int wi) ps 1 4 6 7 T5 μ (by omega) (fun x hx μ => by simpa using (hh x hx).1 μ) (.inl ⟨rfl, rfl, rfl, rfl⟩)
  have l2 := fun μ => lc_held (eR r) (eR s) S (.int wi) ps 4 1 7 6 T5 μ (by omega) (fun x hx μ => by simpa using (hh x hx).2 μ) (.inr ⟨rfl, rfl, rfl, rfl⟩)
  have l3 := fun μ => lc_first (eR r) (eR s) S (.int wi) ps T5 μ (by omega)
  have al := all_true (PL ps)
  have wr := fun μ => wrapped_right_ok (μ := μ) r w1 b1 w h1 h2 (ps.map (·.1)) (fun c hc => by
    obtain ⟨x, hx, rfl⟩ := List.mem_map.mp hc
    exact (hp x hx).1) (by rw [List.length_map]; omega)
  rw [hw] at wr
  generalize (ps.map (·.1)).map DV.int = CS at *
  generalize (PL ps).map (fun _ => DV.bl true) = TT at *
  generalize PL ps = P at *
  generalize eR r = A at *
  generalize eR s = B at *
  unfold endD
  generalize dLc (iSeq (dVar 3)) (bd2 6 7) dT (dCall V_l_held_right (aCons (dVar 1) (aCons (dVar 4) (aCons (dVar 6) (aCons (dVar 7) aNil))))) = L1 at *
  generalize dLc (iSeq (dVar 3)) (bd2 6 7) dT (dCall V_l_held_right (aCons (dVar 4) (aCons (dVar 1) (aCons (dVar 7) (aCons (dVar 6) aNil))))) = L2 at *
  generalize dLc (iSeq (dVar 3)) (bd2 6 7) dT (dVar 6) = L3 at *
  simp [esCons, esIf, eOr, eNot, dCall, aCons, aNil, dVar, c1, c2, c3, sNil, dBlt, l1, l2, l3, al, sRet, wr]
theorem right_ok {k : Nat} {μ0 : List MO} (w : Sr k μ0 0 μ) : ∃ n μ', V_l_right [.mu k] μ = some (.bl true, μ') ∧ Sr k μ0 n μ' := by
  have hk : k < μ0.length := w.1
  obtain ⟨r, μ1, e1, r1, r2, w1⟩ := restQ_ok w (by omega)
  obtain ⟨t, μ2, e2, t0, t1, w2⟩ := take_ok w1 (by omega) (m := 16) (by omega) (by omega)
  obtain ⟨W, hW⟩ : ∃ W : Nat, (W : Int) = 1 + t := ⟨(1 + t).toNat, by omega⟩
  have wa : Sr k (μ0 ++ [.lst (PL [])]) _ (μ2 ++ [.lst (PL [])]) := w2.app
  obtain ⟨s, μ3, e3, s1, s2, w3⟩ := beside_ok wa (by omega) r r1 r2
  have br := r2.bT
  have l2 : μ2.length = μ0.length := w2.len
  obtain ⟨T5, μ4, ps, n4, e4, w4, h4, l4⟩ : ∃ (T5 : Option DV) (μ4 : List MO) (ps : List (Int × Int)) (n4 : Nat), sIf (dAnd (dOp2 oNe (dVar 1) (dTup aNil)) (dOp2 oNe (dVar 4) (dTup aNil))) (sCons fillF (sCons (sExp app2) (sCons (sExp app3) sNil))) sNil
      [some (.mu k), some (eR r), some (.int (1 + t)), some (.mu μ0.length), some (eR s), none, none, none] μ3 = some (.nx [some (.mu k), some (eR r), some (.int (1 + t)), some (.mu μ0.length), some (eR s), T5, none, none] μ4) ∧ Sr k (μ0 ++ [.lst (PL ps)]) n4 μ4 ∧ okP r s ps ∧ ps.length ≤ 6 := by
    have ne1 := fun μ => ne_R0' r μ
    have ne2 := fun μ => ne_R0' s μ
    match r, s, r1, s1, br, s2 with
    | none, s, _, _, _, _ =>
      refine ⟨none, μ3, [], _, ?_, w3, fun p hp => (by cases hp), by simp⟩
      simp only [Option.isNone_none] at ne1
      generalize eR none = A at *
      generalize eR s = B at *
      simp [esIf, eAnd, dOp2, dVar, dTup, aNil, ne1, sNil]
    | some (a, d), none, _, _, _, _ =>
      refine ⟨none, μ3, [], _, ?_, w3, fun p hp => (by cases hp), by simp⟩
      simp only [Option.isNone_none, Option.isNone_some] at ne1 ne2
      generalize eR none = A at *
      generalize eR (some (a, d)) = B at *
      simp [esIf, eAnd, dOp2, dVar, dTup, aNil, ne1, ne2, sNil]
    | some (a, d), some (b, e), r1, s1, br, s2 =>
      obtain ⟨T, μ', ps, ee, w5, h5, n5⟩ := fill_ok hk r1 s1 br s2 (.int (1 + t)) w3 (by omega)
      refine ⟨T, μ', ps, _, ?_, w5, h5, n5⟩
      simp only [Option.isNone_some] at ne1 ne2
      rw [esIf]
      have cd : dAnd (dOp2 oNe (dVar 1) (dTup aNil)) (dOp2 oNe (dVar 4) (dTup aNil)) [some (.mu k), some (eR (some (a, d))), some (.int (1 + t)), some (.mu μ0.length), some (eR (some (b, e))), none, none, none] μ3 = some (.bl true, μ3) := by
        generalize eR (some (b, e)) = A at *
        generalize eR (some (a, d)) = B at *
        simp [eAnd, dOp2, dVar, dTup, aNil, ne1, ne2]
      rw [cd, bnd_some, ifB_bl, if_pos rfl]
      exact ee
  have la := w4.last hk
  have w5 := w4.upd .dead hk
  have en := end_ok r s r1 s1 br s2 (.mu k) ps h4 l4 W (by omega) (by omega) (1 + t) hW T5 (μ4.set μ0.length .dead)
  obtain ⟨μ6, e6, w6⟩ := Sr.fin (b := true) w w5
  refine ⟨_, μ6, ?_, w6⟩
  rw [← e6]
  unfold V_l_right D_l_right
  generalize hIF : sIf (dAnd (dOp2 oNe (dVar 1) (dTup aNil)) (dOp2 oNe (dVar 4) (dTup aNil))) _ _ = IFD at *
  unfold endD at en
  generalize hEN : sCons (sIf (dOr (dNot (dCall V_l_two_right _)) _) _ _) _ = END at *
  have em : DV.mu μ2.length = DV.mu μ0.length := by rw [l2]
  have lz : ([] : List DV).length ≤ 1000 := by simp
  generalize eR r = A at *
  generalize eR s = B at *
  have st : sAsg (gTu 3 (gAnd (gNm 1) (gAnd (gNm 2) (gAnd (gNm 3) gEnd)))) (dTup (aCons (dCall V_l_rest (aCons (dVar 0) aNil)) (aCons (dOp2 oAdd (dC (.int 1)) (dCall V_l_take (aCons (dVar 0) (aCons (dC (.int 16)) aNil)))) (aCons (dLstM aNil) aNil)))) [some (.mu k), none, none, none, none, none, none, none] μ
      = some (.nx [some (.mu k), some A, some (.int (1 + t)), some (.mu μ0.length), none, none, none, none] (μ2 ++ [.lst (PL [])])) := by
    simp [sAsg, gTu, gAnd, gNm, gEnd, dTup, aCons, aNil, dCall, dVar, dC, dOp2, e1, e2, dLstM, l2, PL]
  have fz : sFrz 3 END [some (.mu k), some A, some (.int (1 + t)), some (.mu μ0.length), some B, T5, none, none] μ4 = some (.rt (.bl true) (μ4.set μ0.length .dead)) := by
    unfold sFrz
    simp only [List.getElem?_cons_succ, List.getElem?_cons_zero, la, List.set_cons_succ, List.set_cons_zero]
    exact en
  simp only [eFn, startD, List.length_cons, List.length_nil, if_true, List.map_cons, List.map_nil, List.cons_append, List.nil_append]
  show endO μ (sCons _ _ [some (.mu k), none, none, none, none, none, none, none] μ) = _
  rw [esCons, st, sqO_nx, esCons]
  have bs : sSet 4 (dCall V_l_beside (aCons (dVar 0) (aCons (dVar 1) aNil))) [some (.mu k), some A, some (.int (1 + t)), some (.mu μ0.length), none, none, none, none] (μ2 ++ [.lst (PL [])]) = some (.nx [some (.mu k), some A, some (.int (1 + t)), some (.mu μ0.length), some B, none, none, none] μ3) := by
    simp [sSet, dCall, aCons, aNil, dVar, e3]
  rw [bs, sqO_nx, esCons, e4, sqO_nx, fz, endO_rt]
theorem cut_ints (ns : List Int) (l u : Option Int) : ∀ d ∈ cutD (ns.map DV.int) l u, ∃ x : Int, d = .int x := by
  intro d hd
  unfold cutD at hd
  obtain ⟨x, _, rfl⟩ := List.mem_map.mp (List.mem_of_mem_drop (List.mem_of_mem_take hd))
  exact ⟨x, rfl⟩
theorem at_int (ns : List Int) (t : Int) (h0 : 0 ≤ t) (h1 : t < ns.length) : atI (ns.map DV.int) t = some (.int (ns[t.toNat]?.getD 0)) := by
  have hl : t.toNat < ns.length := by omega
  refine atI_of h0 ?_
  rw [List.getElem?_map, List.getElem?_eq_getElem hl]
  rfl
theorem source_ok (ns : List Int) (t : Int) (ht : 0 ≤ t) (ht2 : t ≤ 4) (μ : List MO) :
    ∃ a b, V_l_source [scD ns, .int t] μ = some (.mu μ.length, μ ++ [.lst [.int a, .int b, .int 0]]) ∧ 0 ≤ a ∧ 0 ≤ b ∧ b < 2147483629 := by
  have p1 : ∀ μ : List MO, oMul (.int 9176) (.int t) μ = some (.int (9176 * t), μ) := fun μ => oMul_ok (by omega) (by omega) (by omega) (by omega)
  have p2 : ∀ (x : Int) (μ : List MO), oMul (.int (x % 1000000007)) (.int 15013) μ = some (.int (x % 1000000007 * 15013), μ) := fun x μ => oMul_ok (by omega) (by omega) (by omega) (by omega)
  unfold V_l_source D_l_source scD
  walk_at "ex"
  generalize hF : forL _ _ _ _ _ = o
  obtain ⟨ρ2, μ2, rfl, m, c, rfl, rfl, m0, m1⟩ := forL_at hF (fun _ ρ' μ' => ∃ (m : Int) (c : Option DV), ρ' = [some (.lst (ns.map DV.int)), some (.int t), some (.int m), c, none] ∧ μ' = μ ∧ 0 ≤ m ∧ m < 2147483629)
    ⟨_, _, rfl, rfl, by omega, by omega⟩ (by
      rintro i d ρ' μ' hd ⟨m, c, rfl, rfl, m0, m1⟩
      obtain ⟨x, rfl⟩ := cut_ints ns _ _ d (List.mem_of_getElem? hd)
      have p3 : ∀ μ : List MO, oMul (.int m) (.int 30011) μ = some (.int (m * 30011), μ) := fun μ => oMul_ok (by omega) (by omega) (by omega) (by omega)
      refine ⟨_, _, _, _, rfl, by walk_at "ex"; exact ⟨rfl, rfl⟩, _, _, rfl, rfl, Int.emod_nonneg _ (by omega), Int.emod_lt_of_pos _ (by omega)⟩)
  have p4 : ∀ μ : List MO, oMul (.int m) (.int 59) μ = some (.int (m * 59), μ) := fun μ => oMul_ok (by omega) (by omega) (by omega) (by omega)
  have p5 : ∀ μ : List MO, oMul (.int 0) (.int 15013) μ = some (.int 0, μ) := fun μ => oMul_ok (by omega) (by omega) (by omega) (by omega)
  have p6 : (10 : Int) ^ (15 : Int).toNat = 1000000000000000 := rfl
  by_cases hlen : t < ns.length
  · have hl : t.toNat < ns.length := by omega
    refine ⟨if ns[t.toNat] < 0 ∨ 1000000000000000 ≤ ns[t.toNat] then (if ns[t.toNat] < 0 then -ns[t.toNat] else ns[t.toNat]) else 0, (m * 59 + ns[t.toNat] % 1000000007 * 15013 + 11) % 2147483629, ?_, ?_, Int.emod_nonneg _ (by omega), Int.emod_lt_of_pos _ (by omega)⟩
    · walk_at "ex"
      split <;> simp
    · split <;> (try split) <;> omega
  · refine ⟨0, (m * 59 + 11) % 2147483629, ?_, by omega, Int.emod_nonneg _ (by omega), Int.emod_lt_of_pos _ (by omega)⟩
    walk_at "ex"
theorem law_ok (ns : List Int) : V_l_law [scD ns] [] = some (.bl true, []) := by
  have key : ∀ (n : Int) (fi : DenA), 2 ≤ n → n ≤ 5 → fi [some (scD ns), none] [] = some (rgD 0 n.toNat, []) → dLc fi (bd1 1) dT (dCut (dCall V_l_right (aCons (dCall V_l_source (aCons (dVar 0) (aCons (dVar 1) aNil))) aNil))) [some (scD ns), none] [] = some (.lst ((rgD 0 n.toNat).map fun _ => .bl true), []) := by
    intro n fi h2 h5 hfi
    refine dLc_map (ds := rgD 0 n.toNat) (g := fun _ => .bl true) hfi (by rw [rgD_len]; omega) ?_ fun _ _ => rfl
    intro d hd
    obtain ⟨i, hi, rfl⟩ := List.mem_map.mp hd
    have hi' : i < n.toNat := List.mem_range.mp hi
    refine ⟨_, rfl, fun μ' => ?_⟩
    obtain ⟨a, b, e1, ha, hb, hb2⟩ := source_ok ns (0 + (i : Int)) (by omega) (by omega) μ'
    obtain ⟨m, μ2, e2, w2⟩ := right_ok (k := μ'.length) (μ0 := μ' ++ [.lst [.int a, .int b, .int 0]]) (μ := μ' ++ [.lst [.int a, .int b, .int 0]]) ⟨by simp, a, b, 0, by simp, ha, hb, hb2, by omega, by omega⟩
    obtain ⟨_, a', b', c', rfl, _⟩ := w2
    simp [dCut, dCall, aCons, aNil, dVar] at e1 e2 ⊢
    rw [e1, bnd_some, bnd_some, e2, bnd_some, cutd_cut rfl (by simp)]
  obtain ⟨n, n2, n5, hn⟩ : ∃ n : Int, 2 ≤ n ∧ n ≤ 5 ∧ n = max 2 (min (ns.length : Int) 5) := ⟨_, by omega, by omega, rfl⟩
  have hfi : iRange1 (aCons (dBlt oMax2 (aCons (dC (.int 2)) (aCons (dBlt oMin2 (aCons (dBlt oLen (aCons (dVar 0) aNil)) (aCons (dC (.int 5)) aNil))) aNil))) aNil) [some (scD ns), none] [] = some (rgD 0 n.toNat, []) := by
    have c1 : -4000000000000000000 ≤ n ∧ n < 4000000000000000000 := by omega
    have q : (fun i j : Int => if j > i then j else i) 2 ((fun i j : Int => if j < i then j else i) (ns.length : Int) 5) = n := by
      rw [hn]; dsimp only; omega
    have q2 : dBlt oMax2 (aCons (dC (.int 2)) (aCons (dBlt oMin2 (aCons (dBlt oLen (aCons (dVar 0) aNil)) (aCons (dC (.int 5)) aNil))) aNil)) [some (scD ns), none] [] = some (.int n, []) := by
      simp [dBlt, aCons, aNil, dC, dVar, scD, oLen, lenD, itemsD, oMM]
      omega
    simp [iRange1, aCons, aNil, q2, c1]
  have k1 := key n _ n2 n5 hfi
  unfold V_l_law D_l_law
  walk_at "ex"

end Lw

namespace Lw
open PySem PySem.Spec L2 Eg
theorem facts {P : Program} {w : World} {K : PySem.W.Frag} {h : Heap} {mg : Str → Option Value} {f : Addr} (X : K.In h) (G : h.Ns mainGlobals mg) (hfa : mg ("law" : Str) = some (.ref f)) (c : He.SaysX faL fnL [] [] exB w h K) :
    ∃ fd : FuncData, (∀ (s : Shared) (v : Value), BindsTo s fd ⟨[v], []⟩ [("_law_script", v)]) ∧ ∀ base : Heap, K.In base → base.Ns mainGlobals mg → (∃ mm, base.Ns sysModules mm) → FnG P w K mg base 17 f fd ["_law_script"] (SpD K (CtrOf V_l_law)) := by
  have T := fx_of X G c
  obtain ⟨fd, F⟩ := T.d_l_law
  have e := hfa.symm.trans T.g_l_law
  cases e
  have b := FunD.bindsA (ps := ["_law_script"]) F fun _ _ _ _ _ _ us hl => match us, hl with | [_], _ => rfl
  exact ⟨fd, fun s v => b s [v] rfl, fun base _ _ _ => okG_l_law T F⟩
end Lw
open PySem PySem.W PySem.Calls PyProof.Rows
theorem PySem.Challenge.cw_soundlooks_k32_whole_quotients_modulo_gu_holds : PySem.Challenge.rw_soundlooks_k32_whole_quotients_modulo_gu.Holds := by
  w_on; o_law
  refine HandSHeadRun.head_imp (r := Lw.R) (q := view Lw.R.prog [0, Lw.lawAt]) (H := Lw.hk) (ob := Lw.ob) (M := 60000) (loose := Lw.looseL) (d := HandSHeadRun.topDef Lw.R.prog Lw.lawAt) (kwd := []) Lw.ob_eq
    Lw.run (by kernel_rfl) (by kernel_rfl) (by kernel_rfl) (by rfl) (by first | assumption | decide +kernel) (by decide +kernel) ⟨rfl, rfl, rfl, rfl, rfl, by decide +kernel⟩ ?hw ?hc
  case hw => w_witness2
  case hc =>
    refine Eg.walk_S (l := PySem.Challenge.rw_soundlooks_k32_whole_quotients_modulo_gu) (n := 63) (k := 17) (C := Eg.CtrOf Lw.V_l_law) rfl (by decide) (by kernel_rfl) (by decide +kernel) ⟨rfl, by decide, by decide⟩ ?hC ?F
    case hC =>
      intro ns hl hb
      show Eg.okE (Lw.V_l_law [Eg.scD ns] []) _
      rw [Lw.law_ok ns]
      rfl
    case F =>
      intro w mg fa h Y G hmg0
      obtain ⟨K, KX, c⟩ := Y
      have hmg : mg ("law" : PySem.Str) = some (.ref fa) := by
        have e : (HandSHeadRun.topDef Lw.R.prog Lw.lawAt).name = ("law" : PySem.Str) := by kernel_rfl
        rw [← e]
        exact hmg0
      obtain ⟨fd, hb, hF⟩ := Lw.facts (P := (PySem.Challenge.rw_soundlooks_k32_whole_quotients_modulo_gu).prog) (w := w) KX G hmg c
      exact ⟨K, fd, "_law_script", KX, hb, hF⟩
