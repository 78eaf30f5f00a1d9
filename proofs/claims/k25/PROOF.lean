import PyProof.Rows.All
import Wide.All
import OpenK.AllK
import Wide.FinOn
import Lean
import KE.KLam
import PyProof.StationsW
import OpenK.KOwn
import PyProof.ExcClass2
import KE.KIsAll
import OpenK.KMake
import PyProof.ExcArgs
import PyProof.ExcAttrAll.ValueError
import KE.KTryMore
import PyProof.NsDelKeeps
import PyProof.RulesAs
import PyProof.ReprReads
import PyProof.StrCalls6
import PyProof.ListMulRoad
import PyProof.ExcBaseAll.ValueError
import PyProof.Rows.Tup
import PyProof.AutoSeq1
import PyProof.ToksMono
import PyProof.StrOps
import PyProof.MeetsStr
import PyProof.StrOps2
import PyProof.Rows.StrOrd
import PyProof.Rows.StrRev
import PySem.Challenge.RW_healfloor_k25_forms_of_rules
set_option bootstrap.genMatcherCode false
set_option genSizeOf false
set_option compiler.extract_closed false
local macro_rules|`(tactic|nofun)=>`(tactic|first|assumption|lia)
local macro_rules|`(tactic|trivial)=>`(tactic|first|exact Or.inl rfl|exact Or.inr rfl)
abbrev xa:=@PySem.wpAny_bind
abbrev xb:=@if_pos
abbrev xc:=@if_neg
abbrev xf:=@PySem.wpAny_pure
abbrev xg:=@Nat.le_refl
abbrev xh:=@List.mem_cons
abbrev xi:=@Bool.and_eq_true
abbrev xj:=@decide_eq_false
abbrev xk:=@decide_eq_true
abbrev xl:=@PySem.Heap.lt_size
abbrev xm:=@Nat.le_trans
abbrev xn:=@List.length_map
abbrev xo:=@List.length_cons
abbrev xp:=@PySem.Heap.get?_push_of_some
abbrev xq:=@List.size_toArray
abbrev xr:=@Nat.ne_of_lt
abbrev xt:=@List.map_cons
abbrev xu:=@List.getElem?_eq_getElem
abbrev xv:=@Nat.lt_of_lt_of_le
abbrev xw:=@List.mem_map
abbrev xx:=@PyProof.Rows.wpS_bind
abbrev xy:=@PySem.Heap.get?_push_size
abbrev xA:=@Option.some.inj
abbrev xB:=@if_true
abbrev xC:=@Nat.zero_le
abbrev xD:=@Ne.symm
abbrev xE:=@List.length_append
abbrev xF:=@PyProof.Rows.wpS_pure
abbrev xG:=@List.getElem?_eq_some_iff
abbrev xH:=@List.lookup_cons
abbrev xI:=@PySem.wpAny_holding
abbrev xJ:=@Prod.ext
abbrev xK:=@List.mem_cons_self
abbrev xM:=@if_false
abbrev xN:=@List.mem_cons_of_mem
abbrev xO:=@PySem.F.called_set
abbrev xP:=@Bool.false_ne_true
abbrev xQ:=@Bool.false_eq_true
abbrev xR:=@Nat.lt_irrefl
abbrev xS:=@List.getElem?_append_right
abbrev xT:=@List.getElem?_append_left
abbrev xU:=@Array.getElem?_eq_some_iff
abbrev xV:=@PySem.wpAny_mono
abbrev xW:=@List.mem_append_right
abbrev xX:=@List.map_nil
abbrev xY:=@Array.getElem?_eq_getElem
abbrev xZ:=@List.mem_singleton
abbrev x3:=@decide_eq_decide
abbrev x4:=@Nat.le_of_lt
abbrev x5:=@beq_iff_eq
abbrev x6:=@Nat.lt_trans
abbrev x8:=@Nat.lt_or_ge
abbrev vc:=@Nat.mod_lt
abbrev vd:=@Array.getD_eq_getD_getElem?
abbrev ve:=@List.getElem?_set_ne
abbrev vf:=@PySem.sizeLine_eq
abbrev vg:=@PySem.W.kia_one
abbrev vh:=@List.nodup_cons
abbrev vi:=@List.all_eq_true
abbrev vj:=@List.all_cons
abbrev vk:=@List.getElem?_eq_none
abbrev vm:=@List.mem_append
abbrev vn:=@PySem.Heap.size_push
abbrev vo:=@List.length_take
abbrev vp:=@List.getElem?_map
abbrev vq:=@PySem.wpAny_call_entry
abbrev vt:=@Nat.zero_add
abbrev vv:=@List.length_range
abbrev vw:=@List.map_append
abbrev vx:=@Array.length_toList
abbrev vy:=@PySem.wpAny_newObj_type
abbrev vz:=@PySem.wpAny_rule
abbrev vA:=@List.append_nil
abbrev vB:=@Bool.eq_false_iff
abbrev vC:=@List.pairwise_cons
abbrev vD:=@List.map_map
abbrev vE:=@PySem.codeAny_builtin
abbrev vF:=@List.mem_range
abbrev vG:=@List.getElem?_set_self
abbrev vH:=@PySem.codeAny_mono
abbrev vI:=@List.getElem?_take_of_lt
abbrev vJ:=@List.length_nil
abbrev vK:=@PySem.wpAny_typeOf
abbrev vL:=@Nat.lt_of_le_of_lt
abbrev vM:=@Int.emod_lt_of_pos
abbrev vN:=@Int.emod_nonneg
abbrev vO:=@PySem.wpAny_setState_of
abbrev vP:=@List.filterMap_cons
abbrev vQ:=@PySem.wpAny_truthy_bool
abbrev vR:=@Bool.eq_iff_iff
abbrev vS:=@List.mem_of_getElem?
abbrev vT:=@PyProof.Rows.slot_tuple_getitem
abbrev vU:=@Nat.lt_succ_of_lt
abbrev vV:=@List.mem_iff_getElem
abbrev vW:=@List.zip_cons_cons
abbrev vX:=@PySem.wpAny_forIn_list
abbrev vY:=@Bool.not_true
abbrev vZ:=@List.filter_cons_of_pos
abbrev v3:=@PySem.Paired.length
abbrev v5:=@List.mem_filterMap
abbrev v7:=@PySem.wpAny_Call_Name_kw
abbrev v8:=@PySem.mem_of_lookup
abbrev v9:=@List.find?_cons
abbrev ua:=@List.nodup_nil
abbrev ub:=@List.length_singleton
abbrev uc:=@beq_self_eq_true
abbrev ud:=@PySem.wpAny_specialOf
abbrev ue:=@Option.map_some
abbrev uf:=@decide_eq_true_eq
abbrev ug:=@beq_eq_false_iff_ne
abbrev uh:=@PySem.wpAny_passesOwn
abbrev ui:=@PySem.wpAny_callSpecial?_slot
abbrev uj:=@PySem.Heap.get?_update_self
abbrev uk:=@PySem.Heap.get?_update_other
abbrev um:=@Bool.not_eq_true
abbrev uo:=@List.mem_iff_getElem?
abbrev uq:=@List.perm_middle
abbrev ur:=@of_decide_eq_true
abbrev uu:=@List.getElem?_cons_zero
abbrev uv:=@List.nil_append
abbrev uw:=@List.not_mem_nil
abbrev uy:=@PySem.Around.under_plainId
abbrev uz:=@PySem.wpAny_askSetting
abbrev uA:=@PySem.Heap.SameBut.update
abbrev uB:=@PySem.wpAny_isInstance
abbrev uC:=@Nat.pow_le_pow_right
abbrev uD:=@PySem.F.slot_tuple_hash
abbrev uE:=@PySem.wpAny_tupleItemsOf
abbrev uF:=@List.filter_cons_of_neg
abbrev uG:=@List.take_length
abbrev uH:=@Bool.not_eq_true'
abbrev uI:=@List.mem_append_left
abbrev uJ:=@Array.mem_toList_iff
abbrev uK:=@List.getElem_toArray
abbrev uL:=@Array.getElem?_toList
abbrev uM:=@PyProof.Rows.F.plain_set_update_loop
abbrev uN:=@Nat.sub_le_of_le_add
abbrev uO:=@PyProof.Rows.callWith_type1
set_option linter.all false
set_option maxRecDepth 100000
set_option Elab.async false
set_option maxHeartbeats 8000000
set_option autoImplicit true
set_option relaxedAutoImplicit true
noncomputable section
set_option hygiene false
set_option hygiene true
namespace L2
open PySem PySem.Spec PyProof.Rows
noncomputable def zBg (s:Stmt):Arguments:=match s with
 | .FunctionDef _ a _ _ _ _ _ _ _ _=>a
 | _=>{ posonlyargs:=[],args:=[],vararg:=none,kwonlyargs:=[],kw_defaults:=[],kwarg:=none,defaults:=[] }
end L2
namespace L2
open PySem PySem.Spec PyProof.Rows
noncomputable def zAw (s:Stmt):List Stmt:=match s with
 | .FunctionDef _ _ b _ _ _ _ _ _ _=>b
 | _=>[]
end L2
namespace L2
open PySem PySem.Spec PyProof.Rows
noncomputable def zA7 (s:Stmt):Scope:=match s with
 | .FunctionDef _ _ _ _ _ _ sc _ _ _=>sc
 | _=>{ kind:=.function,names:=[],isGenerator:=false,isCoroutine:=false }
end L2
namespace L2
open PySem PySem.Spec PyProof.Rows
noncomputable abbrev fO (x:Str) (tq:Stmt) (pm:Value) (cd:Addr):Obj:=⟨.type "function",none,.func (PySem.W.fnOf x x (zBg tq) (zAw tq) (zA7 tq) .none .none .none pm none (.ref cd) .none),#[]⟩
end L2
namespace L2
open PySem PySem.Spec PyProof.Rows
noncomputable abbrev mO (m q:Str) (tq:Stmt) (pm:Value) (cd:Addr):Obj:=⟨.type "function",none,.func (PySem.W.fnOf m q (zBg tq) (zAw tq) (zA7 tq) .none .none .none pm none (.ref cd) .none),#[]⟩
end L2
namespace L2
open PySem PySem.Spec PyProof.Rows
noncomputable def tabK (tb:List (Addr × Addr)):PySem.W.Frag:=tb.map λe=>(e.2,PySem.W.tabObj #[])
end L2
namespace Law
open PySem PySem.Spec PyProof.Rows L2
noncomputable abbrev n_0:List Str:=["_law_feed_here","_law_a","_law_b","_law_c","_law_d"]
noncomputable abbrev n_1:List Str:=["_law_feed_here","_law_places","_law_found"]
noncomputable abbrev n_2:List Str:=["_law_feed_here","_law_rule_here","_law_place_here","_law_table_here","_law_by","_law_more","_law_near","_law_island_here","_law_found","_law_here","_law_away","_law_there","_law_turned","_law_both","_law_moved","_law_more_broken"]
noncomputable abbrev n_3:List Str:=["_law_feed_here","_law_rules","_law_place_here","_law_places","_law_rule_here","_law_island_here","_law_many","_law_least","_law_cells","_law_second","_law_reached","_law_cell_here","_law_broken"]
noncomputable abbrev n_4:List Str:=["_law_island_here","_law_rules","_law_place_here"]
noncomputable abbrev n_5:List Str:=["_law_cell_here","_law_island_here","_law_rules","_law_place_here"]
noncomputable abbrev n_6:List Str:=["_law_rule_here","_law_island_here","_law_place_here"]
noncomputable abbrev n_7:List Str:=["_law_script","_law_k","_law_feed_here","_law_place_here","_law_turn","_law_rules"]
noncomputable abbrev n_8:List Str:=["_law_script","_law_k","_law_cell_here","_law_own"]
noncomputable abbrev n_9:List Str:=["_law_feed_here","_law_many","_law_digit","_law_one"]
noncomputable abbrev n_10:List Str:=["_law_feed_here","_law_room","_law_deep","_law_thens","_law_names"]
noncomputable abbrev n_11:List Str:=["_law_feed_here","_law_room","_law_deep","_law_thens","_law_names","_law_many","_law_found","_law_left","_law_k","_law_size"]
noncomputable abbrev n_12:List Str:=["_law_feed_here","_law_room","_law_deep","_law_thens","_law_names","_law_form","_law_by","_law_size","_law_one","_law_parts_here"]
noncomputable abbrev n_13:List Str:=["_law_outer","_law_inner","_law_a","_law_b"]
noncomputable abbrev n_14:List Str:=["_law_rule_here","_law_place_here","_law_table_here"]
noncomputable abbrev n_15:List Str:=["_law_rule_here","_law_place_here","_law_table_here","_law_found","_law_spot","_law_part"]
noncomputable abbrev n_16:List Str:=["self","rule","table","floor"]
noncomputable abbrev n_17:List Str:=["outer","inner","first","second"]
noncomputable abbrev n_18:List Str:=["least","parts","table","floor","cell"]
noncomputable abbrev n_19:List Str:=["least","parts","table","floor","cell","lacking","spare","part"]
noncomputable abbrev n_20:List Str:=["rule","table","floor","cell"]
noncomputable abbrev n_21:List Str:=["rule","table","floor","cell","form"]
noncomputable abbrev n_22:List Str:=["rule","island","cell"]
noncomputable abbrev n_23:List Str:=["_law_feed_here","_law_rule_here","_law_place_here"]
noncomputable abbrev n_24:List Str:=["_law_feed_here","_law_rules","_law_place_here"]
noncomputable def top (i:Nat):Stmt:=PySem.Challenge.pw_healfloor_k25_forms_of_rules.main.body.getD i (.Pass ⟨0,0,0,0⟩)
noncomputable def topc (i j:Nat):Stmt:=match top i with
 | .ClassDef _ _ _ b _ _ _ _ _ _ _=>b.getD j (.Pass ⟨0,0,0,0⟩)
 | _=>.Pass ⟨0,0,0,0⟩
noncomputable abbrev kD (P:Params) (l:List (Str × Tok × Value)):Array DictEntry:=(l.map λx=>⟨PyData.keyHash P x.1,.str x.1 x.2.1,x.2.2⟩).toArray
noncomputable abbrev mA_:Value:=(.str "healfloor.cells" 187)
noncomputable abbrev mB_:Value:=(.str "healfloor.rules" 219)
noncomputable abbrev mC_:Value:=(.str "law_healfloor_k25_forms_of_rules" 364)
noncomputable abbrev cO (x f:Str) (t:Tok) (l n c:Int) (a:Addr) (g:Int) (v:List Value) (k:Int) (u:Tok):Obj:=⟨.type "code",none,.fields (([.str x t,.str x (t+1),.str f (t+2),.int l 0,.int n 0,.int 0 0,.int 0 0,.int c 0,.ref a,.bool true,.int g 0]:List Value)++v++([.int k 0,.int l 0,.str f u]:List Value)).toArray,#[]⟩
noncomputable def KF (P:Params):PySem.W.Frag:=[
 (3,⟨(.type "dict"),none,(.dict (kD P (List.append [("__name__",165,(.str "law_healfloor_k25_forms_of_rules" 364)),("__doc__",166,.none),("__package__",167,.none),("__loader__",168,(.builtin "__main__.__loader__#opaque")),("__spec__",169,.none),("__annotations__",170,(.ref 6)),("__builtins__",171,(.ref 4)),("__file__",173,(.str "/claim/cut.py" 172)),("__cached__",174,.none),("worth",196,(.ref 21)),("led",204,(.ref 28)),("carried",212,(.ref 35)),("lookup_of",218,(.ref 40)),("AS_IT_IS",225,(.ref 41)),("IslandFloor",262,(.ref 65)),("LaterFloor",304,(.ref 93)),("breaks",313,(.ref 104)),("breaks_on",324,(.ref 111)),("parts_break",338,(.ref 118)),("least_of",345,(.ref 125)),("within",355,(.ref 132))] [("parts_of",363,(.ref 139)),("_law_feed",375,(.ref 146)),("_law_take",385,(.ref 153)),("_law_cell",393,(.ref 160)),("_law_table",399,(.ref 165)),("_law_parts",415,(.ref 172)),("_law_rule",431,(.ref 179)),("_law_led",439,(.ref 186)),("_law_carried",447,(.ref 193)),("_law_within",457,(.ref 200)),("_law_leaves",469,(.ref 207)),("_law_island",475,(.ref 212)),("_law_is",483,(.ref 219)),("_law_place",491,(.ref 226)),("_law_one_form",497,(.ref 231)),("_law_together",503,(.ref 236)),("law",509,(.ref 241))])) 38),#[]⟩),
 (20,cO "worth" "/claim/cut.py" 189 2 2 3 15 181 [.ref 16,.none,.ref 17,.ref 18,.ref 19] 194 195),
 (21,fO "worth" (top 1) mA_ 20),
 (27,cO "led" "/claim/cut.py" 197 4 2 3 22 181 [.ref 23,.none,.ref 24,.ref 25,.ref 26] 202 203),
 (28,fO "led" (top 2) mA_ 27),
 (34,cO "carried" "/claim/cut.py" 205 6 2 3 29 181 [.ref 30,.none,.ref 31,.ref 32,.ref 33] 210 211),
 (35,fO "carried" (top 3) mA_ 34),
 (39,cO "lookup_of" "/claim/cut.py" 213 8 1 3 36 181 [.ref 37,.none,.none,.none,.ref 38] 216 217),
 (40,fO "lookup_of" (top 4) mA_ 39),
 (54,⟨(.type "code"),none,(.fields #[(.str "__init__" 238),(.str "IslandFloor.__init__" 239),(.str "/claim/cut.py" 240),(.int (14) 0),(.int (2) 0),(.int (0) 0),(.int (0) 0),(.int (3) 0),(.ref 49),(.bool true),(.int (181) 0),(.ref 50),.none,(.ref 51),(.ref 52),(.ref 53),(.int (243) 0),(.int (14) 0),(.str "/claim/cut.py" 244)]),#[]⟩),
 (55,mO "__init__" "IslandFloor.__init__" (topc 7 0) mB_ 54),
 (61,⟨(.type "code"),none,(.fields #[(.str "is_broken" 246),(.str "IslandFloor.is_broken" 247),(.str "/claim/cut.py" 248),(.int (17) 0),(.int (2) 0),(.int (0) 0),(.int (0) 0),(.int (3) 0),(.ref 56),(.bool true),(.int (181) 0),(.ref 57),.none,(.ref 58),(.ref 59),(.ref 60),(.int (251) 0),(.int (17) 0),(.str "/claim/cut.py" 252)]),#[]⟩),
 (62,mO "is_broken" "IslandFloor.is_broken" (topc 7 1) mB_ 61),
 (82,⟨(.type "code"),none,(.fields #[(.str "__init__" 275),(.str "LaterFloor.__init__" 276),(.str "/claim/cut.py" 277),(.int (21) 0),(.int (4) 0),(.int (0) 0),(.int (0) 0),(.int (3) 0),(.ref 77),(.bool true),(.int (181) 0),(.ref 78),.none,(.ref 79),(.ref 80),(.ref 81),(.int (282) 0),(.int (21) 0),(.str "/claim/cut.py" 283)]),#[]⟩),
 (83,mO "__init__" "LaterFloor.__init__" (topc 8 0) mB_ 82),
 (89,⟨(.type "code"),none,(.fields #[(.str "is_broken" 285),(.str "LaterFloor.is_broken" 286),(.str "/claim/cut.py" 287),(.int (27) 0),(.int (2) 0),(.int (0) 0),(.int (0) 0),(.int (3) 0),(.ref 84),(.bool true),(.int (181) 0),(.ref 85),.none,(.ref 86),(.ref 87),(.ref 88),(.int (290) 0),(.int (27) 0),(.str "/claim/cut.py" 291)]),#[]⟩),
 (90,mO "is_broken" "LaterFloor.is_broken" (topc 8 1) mB_ 89),
 (103,cO "breaks" "/claim/cut.py" 305 31 3 3 98 181 [.ref 99,.none,.ref 100,.ref 101,.ref 102] 311 312),
 (104,fO "breaks" (top 9) mB_ 103),
 (110,cO "breaks_on" "/claim/cut.py" 314 33 4 3 105 181 [.ref 106,.none,.ref 107,.ref 108,.ref 109] 322 323),
 (111,fO "breaks_on" (top 10) mB_ 110),
 (117,cO "parts_break" "/claim/cut.py" 325 44 5 3 112 181 [.ref 113,.none,.ref 114,.ref 115,.ref 116] 336 337),
 (118,fO "parts_break" (top 11) mB_ 117),
 (124,cO "least_of" "/claim/cut.py" 339 55 1 3 119 181 [.ref 120,.none,.ref 121,.ref 122,.ref 123] 343 344),
 (125,fO "least_of" (top 12) mB_ 124),
 (131,cO "within" "/claim/cut.py" 346 59 2 3 126 181 [.ref 127,.none,.ref 128,.ref 129,.ref 130] 353 354),
 (132,fO "within" (top 13) mB_ 131),
 (138,cO "parts_of" "/claim/cut.py" 356 63 1 3 133 181 [.ref 134,.none,.ref 135,.ref 136,.ref 137] 361 362),
 (139,fO "parts_of" (top 14) mB_ 138),
 (145,cO "_law_feed" "/claim/cut.py" 366 71 2 3 140 181 [.ref 141,.none,.ref 142,.ref 143,.ref 144] 373 374),
 (146,fO "_law_feed" (top 16) mC_ 145),
 (152,cO "_law_take" "/claim/cut.py" 376 81 2 3 147 181 [.ref 148,.none,.ref 149,.ref 150,.ref 151] 383 384),
 (153,fO "_law_take" (top 17) mC_ 152),
 (159,cO "_law_cell" "/claim/cut.py" 386 89 1 3 154 181 [.ref 155,.none,.ref 156,.ref 157,.ref 158] 391 392),
 (160,fO "_law_cell" (top 18) mC_ 159),
 (164,cO "_law_table" "/claim/cut.py" 394 92 1 3 161 181 [.ref 162,.none,.none,.none,.ref 163] 397 398),
 (165,fO "_law_table" (top 19) mC_ 164),
 (171,cO "_law_parts" "/claim/cut.py" 400 97 5 3 166 181 [.ref 167,.none,.ref 168,.ref 169,.ref 170] 413 414),
 (172,fO "_law_parts" (top 20) mC_ 171),
 (178,cO "_law_rule" "/claim/cut.py" 416 106 5 3 173 181 [.ref 174,.none,.ref 175,.ref 176,.ref 177] 429 430),
 (179,fO "_law_rule" (top 21) mC_ 178),
 (185,cO "_law_led" "/claim/cut.py" 432 125 2 3 180 181 [.ref 181,.none,.ref 182,.ref 183,.ref 184] 437 438),
 (186,fO "_law_led" (top 22) mC_ 185),
 (192,cO "_law_carried" "/claim/cut.py" 440 127 2 3 187 181 [.ref 188,.none,.ref 189,.ref 190,.ref 191] 445 446),
 (193,fO "_law_carried" (top 23) mC_ 192),
 (199,cO "_law_within" "/claim/cut.py" 448 129 2 3 194 181 [.ref 195,.none,.ref 196,.ref 197,.ref 198] 455 456),
 (200,fO "_law_within" (top 24) mC_ 199),
 (206,cO "_law_leaves" "/claim/cut.py" 458 132 3 3 201 181 [.ref 202,.none,.ref 203,.ref 204,.ref 205] 467 468),
 (207,fO "_law_leaves" (top 25) mC_ 206),
 (211,cO "_law_island" "/claim/cut.py" 470 147 2 3 208 181 [.ref 209,.none,.none,.none,.ref 210] 473 474),
 (212,fO "_law_island" (top 26) mC_ 211),
 (218,cO "_law_is" "/claim/cut.py" 476 151 2 3 213 181 [.ref 214,.none,.ref 215,.ref 216,.ref 217] 481 482),
 (219,fO "_law_is" (top 27) mC_ 218),
 (225,cO "_law_place" "/claim/cut.py" 484 153 1 3 220 181 [.ref 221,.none,.ref 222,.ref 223,.ref 224] 489 490),
 (226,fO "_law_place" (top 28) mC_ 225),
 (230,cO "_law_one_form" "/claim/cut.py" 492 156 3 3 227 181 [.ref 228,.none,.none,.none,.ref 229] 495 496),
 (231,fO "_law_one_form" (top 29) mC_ 230),
 (235,cO "_law_together" "/claim/cut.py" 498 180 3 3 232 181 [.ref 233,.none,.none,.none,.ref 234] 501 502),
 (236,fO "_law_together" (top 30) mC_ 235),
 (240,cO "law" "/claim/cut.py" 504 201 1 3 237 181 [.ref 238,.none,.none,.none,.ref 239] 507 508),
 (241,fO "law" (top 31) mC_ 240),
 (4,⟨(.type "module"),(some 0),.plain,#[]⟩),
 (65,⟨(.type "type"),none,(.cls { name:="IslandFloor",bases:=[(.type "object")],mro:=[(.ref 65),(.type "object")],ns:=64,qualname:="IslandFloor",hasDict:=true,slotNames:=[],subclasses:=[],abstract:=false }),#[none,none,some (.str "IslandFloor" 226),some (.str "IslandFloor" 234),some (.builtin "object.__new__"),some (.bool true)]⟩),
 (64,⟨(.type "dict"),none,(.dict (kD P [("__module__",233,(.str "healfloor.rules" 219)),("__firstlineno__",237,(.int (12) 236)),("__init__",245,(.ref 55)),("is_broken",253,(.ref 62)),("__static_attributes__",255,(.ref 63)),("__dict__",257,(.ref 66)),("__weakref__",259,(.ref 67)),("__doc__",260,.none)]) 4),#[]⟩),
 (93,⟨(.type "type"),none,(.cls { name:="LaterFloor",bases:=[(.type "object")],mro:=[(.ref 93),(.type "object")],ns:=92,qualname:="LaterFloor",hasDict:=true,slotNames:=[],subclasses:=[],abstract:=false }),#[none,none,some (.str "LaterFloor" 263),some (.str "LaterFloor" 271),some (.builtin "object.__new__"),some (.bool true)]⟩),
 (92,⟨(.type "dict"),none,(.dict (kD P [("__module__",270,(.str "healfloor.rules" 219)),("__firstlineno__",274,(.int (19) 273)),("__init__",284,(.ref 83)),("is_broken",292,(.ref 90)),("__static_attributes__",297,(.ref 91)),("__dict__",299,(.ref 94)),("__weakref__",301,(.ref 95)),("__doc__",302,.none)]) 4),#[]⟩),
 (41,⟨(.type "tuple"),none,(.seq #[(.int (1) 221),(.int (0) 222),(.int (0) 223),(.int (1) 224)] 0),#[]⟩)]
noncomputable abbrev tb:List (Addr × Addr):=[]
noncomputable def KT (P:Params):PySem.W.Frag:=KF P++tabK tb
noncomputable def view:Program:={ PySem.Challenge.pw_healfloor_k25_forms_of_rules with main:={ PySem.Challenge.pw_healfloor_k25_forms_of_rules.main with body:=[1,2,3,4,6,7,8,9,10,11,12,13,14,16,17,18,19,20,21,22,23,24,25,26,27,28,29,30,31].map top } }
noncomputable abbrev hk:PySem.W.Hook:=PySem.W.kHook KT [3,20,21,27,28,34,35,39,40,54,55,61,62,82,83,89,90,103,104,110,111,117,118,124,125,131,132,138,139,145,146,152,153,159,160,164,165,171,172,178,179,185,186,192,193,199,200,206,207,211,212,218,219,225,226,230,231,235,236,240,241,4,65,64,93,92,41] (λ_=>by kernel_rfl)
theorem left:PySem.W.LeftO PySem.Challenge.pw_healfloor_k25_forms_of_rules view [] (λs=>PySem.W.xlAt view [] s && PySem.W.recOk [] s) (PySem.W.Hook.obs hk) (PySem.W.Hook.val hk) 2820:=λw=>by kernel_rfl
end Law
namespace L2
open PySem PySem.Spec PyProof.Rows
noncomputable abbrev Key:=Sum Int Str
noncomputable def zLb:Key->Value->Bool
 | .inl k,v=>Value.isInt k v
 | .inr x,v=>Value.isStrOf x v
noncomputable def keyH (w:World):Key->Int
 | .inl k=>hashInt k
 | .inr x=>hashStr w x
theorem zAu:∀{k:Key}{v:Value},zLb k v=true->(∃i t,k=Sum.inl i/\v=Value.int i t)\/(∃x t,k=Sum.inr x/\v=Value.str x t)
 | .inl i,v,h=>by
  obtain⟨t,e⟩:=Value.isInt_shape (k:=i) (v:=v) h;exact .inl ⟨i,t,rfl,e⟩
 | .inr x,v,h=>by
  obtain⟨t,e⟩:=Value.isStrOf_shape (x:=x) (v:=v) h;exact .inr ⟨x,t,rfl,e⟩
theorem zNt(i:Int)(t:Tok):zLb (.inl i) (.int i t)=true:=by simp[zLb,Value.isInt]
theorem zNs(x:Str)(t:Tok):zLb (.inr x) (.str x t)=true:=by simp[zLb,Value.isStrOf]
theorem zYt(a b:Int):decide ((Sum.inl a:Key)=Sum.inl b)=(a == b):=by
 by_cases e:a=b
 ·subst e;simp
 ·have h:¬ (Sum.inl a:Key)=Sum.inl b:=λq=>e (Sum.inl.inj q)
  rw[xj h];exact(ug.mpr e).symm
theorem zYq(a b:Str):decide ((Sum.inr a:Key)=Sum.inr b)=decide (a=b):=by
 by_cases e:a=b
 ·subst e;simp
 ·have h:¬ (Sum.inr a:Key)=Sum.inr b:=λq=>e (Sum.inr.inj q)
  rw[xj h,xj e]
theorem zYs(a:Int)(b:Str):decide ((Sum.inl a:Key)=Sum.inr b)=false:=xj (λq=>nomatch q)
theorem zYr(a:Str)(b:Int):decide ((Sum.inr a:Key)=Sum.inl b)=false:=xj (λq=>nomatch q)
noncomputable def zB1 (prog:Program) (w:World):PySem.KeyKind prog w Key where
 is:=zLb
 hash:=keyH w
 inj:=λv a b ha hb=>by
  rcases zAu ha with⟨i,t,rfl,rfl⟩|⟨x,t,rfl,rfl⟩
  ·rcases zAu hb with⟨j,u,rfl,e⟩|⟨y,u,rfl,e⟩
   ·injection e with e1 _;rw[e1]
   ·exact nomatch e
  ·rcases zAu hb with⟨j,u,rfl,e⟩|⟨y,u,rfl,e⟩
   ·exact nomatch e
   ·injection e with e1 _;rw[e1]
 byValue:=λk v h=>by
  rcases zAu h with⟨i,t,rfl,rfl⟩|⟨x,t,rfl,rfl⟩ <;> rfl
 pyHash:=λhv h=>by
  rcases zAu hv with⟨i,t,rfl,rfl⟩|⟨x,t,rfl,rfl⟩
  ·exact wpAny_pyHash_int h
  ·exact wpAny_pyHash_str h
 eqBool:=λhu hv h=>by
  rcases zAu hu with⟨i,t,rfl,rfl⟩|⟨x,t,rfl,rfl⟩
  ·rcases zAu hv with⟨j,u,rfl,rfl⟩|⟨y,u,rfl,rfl⟩
   ·rw[zYt]at h;exact wpAny_eqBool_int h
   ·rw[zYs]at h;exact SeqAt.EqAt.int_str i t y u _ _ _ _ h
  ·rcases zAu hv with⟨j,u,rfl,rfl⟩|⟨y,u,rfl,rfl⟩
   ·rw[zYr]at h;exact SeqAt.EqAt.str_int x t j u _ _ _ _ h
   ·rw[zYq]at h;exact wpAny_eqBool_str h
 «strs»:=λk x t v h=>by
  rcases zAu h with⟨i,u,rfl,e⟩|⟨y,u,rfl,e⟩
  ·exact nomatch e
  ·injection e with e1 _
   subst e1;cases v <;> rfl
theorem zIn(prog:Program)(w:World)(i:Int)(t:Tok):(zB1 prog w).is (.inl i) (.int i t)=true:=zNt i t
theorem zIm(prog:Program)(w:World)(x:Str)(t:Tok):(zB1 prog w).is (.inr x) (.str x t)=true:=zNs x t
inductive V where
 | non|bl (b:Bool)|int (i:Int)|str (x:Str)|byt (b:Array UInt8)|flt (b:UInt64)|ref (a:Addr)|ty (n:String)
 deriving DecidableEq
def RelV:V->Value->Prop
 | .non,u=>u=Value.none
 | .bl b,u=>u=Value.bool b
 | .int i,u=>∃t,u=Value.int i t
 | .str x,u=>∃t,u=Value.str x t
 | .byt b,u=>∃t,u=Value.bytes b t
 | .flt b,u=>∃t,u=Value.float b t
 | .ref a,u=>u=Value.ref a
 | .ty n,u=>u=Value.type n
abbrev Vals:List V->List Value->Prop:=Paired RelV
theorem Vals.length{xs:List V}{us:List Value}(r:Vals xs us):xs.length=us.length:=v3 r
theorem Vals.get:∀{xs:List V}{us:List Value}{i:Nat}{x:V},Vals xs us->xs[i]?=some x->∃u,us[i]?=some u/\RelV x u
 | _,_,_,_,.nil,e=>by simp at e
 | _,_,0,_,.cons r _,e=>by simp at e;subst e;exact⟨_,rfl,r⟩
 | _,_,i+1,x,.cons _ t,e=>by
  obtain⟨u,h1,h2⟩:=Vals.get (i:=i) (x:=x) t (by simpa using e);exact⟨u,by simpa using h1,h2⟩
theorem Vals.set(r:RelV x u):∀{xs:List V}{us:List Value}(i:Nat),Vals xs us->Vals (xs.set i x) (us.set i u)
 | _,_,_,.nil=>.nil
 | _,_,0,.cons _ t=>.cons r t
 | _,_,i+1,.cons q t=>.cons q (Vals.set r i t)
theorem Vals.append:∀{xs ys:List V}{us ws:List Value},Vals xs us->Vals ys ws->Vals (xs++ys) (us++ws)
 | _,_,_,_,.nil,s=>s
 | _,_,_,_,.cons r t,s=>.cons r (Vals.append t s)
theorem Vals.take:∀{xs:List V}{us:List Value}(n:Nat),Vals xs us->Vals (xs.take n) (us.take n)
 | _,_,0,_=>.nil
 | _,_,_+1,.nil=>.nil
 | _,_,n+1,.cons r t=>.cons r (Vals.take n t)
theorem Vals.drop:∀{xs:List V}{us:List Value}(n:Nat),Vals xs us->Vals (xs.drop n) (us.drop n)
 | _,_,0,r=>r
 | _,_,_+1,.nil=>.nil
 | _,_,n+1,.cons _ t=>Vals.drop n t
def RelO:Option V->Option Value->Prop
 | some v,some u=>RelV v u
 | none,none=>True
 | _,_=>False
def KV{κ:Type}:List (κ × V)->List (κ × Value)->Prop:=Paired fun(p:κ × V) (q:κ × Value)=>p.1=q.1/\RelV p.2 q.2
noncomputable def kV:Key->V
 | .inl i=>.int i
 | .inr x=>.str x
inductive HO where
 /-- a list -/
 | lst (xs:List V)
 /-- a tuple (never changes) -/
 | tup (xs:List V)
 /-- a dict whose keys are ints and texts;one whose keys are tuples of ints and texts (the empty one is both) -/
 | dK (kvs:List (Key × V))|dT (kvs:List (List Key × V))
 /-- a set of ints: its members,its size -/
 | set (S:Int->Bool) (n:Nat)
 /-- an instance of the class at C,its dict at dx,its attributes -/
 | ins (C dx:Addr) (fs:List (Str × V))
 /-- the dict of the instance at x -/
 | own (x:Addr)
 /-- the dict of an exception -/
 | xd (fs:List (Str × V))
 /-- a bound method,f of x -/
 | met (f x:Addr)
 /-- a range object lo,lo+1,.. below hi -/
 | rng (lo hi:Int)
 /-- a thing that is known to the object (the script;a dict while a loop walks it): read,never written while it is so -/
 | frz (o:Obj) (u:HO)
 /-- a code object's table -/
 | tbl (ps:Array Value)
 /-- any other thing,by what is true of its one object (a def of one's own: SetO a S n:=HO.ext λh=>..) -/
 | ext (φ:Heap->Prop)
noncomputable abbrev Hp:=Addr->Option HO
noncomputable def upd (H:Hp) (a:Addr) (o:HO):Hp:=λb=>if b=a then some o else H b
theorem zAm :upd H a o a=some o:=by unfold upd;rw[xb rfl]
theorem zAf{H:Hp}(h:b≠a):upd H a o b=H b:=by unfold upd;rw[xc h]
theorem yB1{H:Hp}(h:H a=some o)(h':H b=some u)(d:o≠u):a≠b:=by intro e;subst e;rw[h]at h';exact d (xA h')
theorem zAq{H:Hp}(h:H a=some o)(h':H b=none):a≠b:=by intro e;subst e;rw[h]at h';cases h'
section
variable (P:Program) (w:World)
def ObjOk(H:Hp)(h:Heap)(a:Addr):HO->Prop
 | .lst xs=>xs.length<=sizeLine/\∃(its:List Value) (n:Nat),Vals xs its/\h.get? a=some { cls:=.type "list",data:=.seq its.toArray n }
 | .tup xs=>xs.length<=sizeLine/\∃its:List Value,Vals xs its/\IsTup h a its.toArray
 | .dK kvs=>kvs.length<=sizeLine/\(a == sysModules)=false/\∃vs,KV kvs vs/\h.DictOf (zB1 P w) a vs
 | .dT kvs=>kvs.length<=sizeLine/\(a == sysModules)=false/\∃xs:List (List Key × Addr × Value),
   Paired (fun(p:List Key × V) (q:List Key × Addr × Value)=>p.1=q.1/\H q.2.1=some (.tup (p.1.map kV))/\RelV p.2 q.2.2) kvs xs /\
   ∃o es ep,h.get? a=some o/\o.ExactDict/\o.data=.dict es ep/\es.toList=xs.map (entryOfKey (tupleKind (zB1 P w)))/\(xs.map (·.1)).Nodup
 | .set S n=>h.SetOf (intKind P w) a S n
 | .ins C dx fs=>H dx=some (.own a)/\fs.length<=1000/\dx≠a/\h.get? a=some (PySem.W.instObj C dx) /\
   ∃mA,h.Ns1 dx mA/\(∀f,RelO (fs.lookup f) (mA f))/\PySem.Within mA (fs.map (·.1))
 | .own _=>∃o,h.get? a=some o
 | .xd fs=>∃mA,h.Ns1 a mA/\∀f,RelO (fs.lookup f) (mA f)
 | .rng lo hi=>∃t u v,h.get? a=some { cls:=.type "range",data:=.fields #[.int lo t,.int hi u,.int 1 v] }
 | .frz o u=>h.get? a=some o/\ObjOk H h a u
 | .tbl ps=>h.get? a=some { cls:=.none,data:=.fields ps }
 | .met f x=>h.get? a=some (PySem.W.methodObj (.ref f) (.ref x))
 | .ext φ=>φ h/\(∃o,h.get? a=some o)/\∀h1 h2:Heap,φ h1->(∀o,h1.get? a=some o->h2.get? a=some o)->φ h2
def HOk(H:Hp)(h:Heap):Prop:=∀a o,H a=some o->ObjOk P w H h a o
end
section
variable {P:Program}{w:World}{H H':Hp}{h h':Heap}{a:Addr}{o:HO}
theorem ObjOk.lt(x:ObjOk P w H h a o):a<h.objs.size:=by
 cases o with
 | lst xs=>obtain⟨_,_,_,_,e⟩:=x;exact xl e
 | tup xs=>obtain⟨_,_,_,p⟩:=x;exact p.lt
 | dK kvs=>obtain⟨_,_,_,_,o,_,_,e,_⟩:=x;exact xl e
 | dT kvs=>obtain⟨_,_,_,_,o,_,_,e,_⟩:=x;exact xl e
 | set S n=>obtain⟨o,_,_,_,e,_⟩:=x;exact xl e
 | ins C dx fs=>obtain⟨_,_,_,e,_⟩:=x;exact xl e
 | own y=>obtain⟨_,e⟩:=x;exact xl e
 | xd fs=>obtain⟨_,⟨_,_,_,e,_⟩,_⟩:=x;exact xl e
 | rng lo hi=>obtain⟨_,_,_,e⟩:=x;exact xl e
 | frz ob u=>obtain⟨e,_⟩:=x;exact xl e
 | tbl ps=>exact xl (show h.get? a=some _ from x)
 | met f y=>exact xl (show h.get? a=some _ from x)
 | ext φ=>obtain⟨_,⟨_,e⟩,_⟩:=x;exact xl e
theorem Paired.mapP{α β:Type}{F G:α->β->Prop}:∀{l₁:List α}{l₂:List β},Paired F l₁ l₂->(∀a b,F a b->G a b)->Paired G l₁ l₂
 | _,_,.nil,_=>.nil
 | _,_,.cons r t,f=>.cons (f _ _ r) (Paired.mapP t f)
theorem ObjOk.stay(x:ObjOk P w H h a o)(k:∀b u,(b=a\/H b=some (.own a))->h.get? b=some u->h'.get? b=some u)
  (ho:∀b,H b=some (.own a)->H' b=some (.own a)) (ht:∀b xs,H b=some (.tup xs)->H' b=some (.tup xs)):ObjOk P w H' h' a o:=by
 induction o with
 | lst xs=>obtain⟨z,its,n,r,e⟩:=x;exact⟨z,its,n,r,k _ _ (.inl rfl) e⟩
 | tup xs=>obtain⟨z,its,r,ob,e,c⟩:=x;exact⟨z,its,r,ob,k _ _ (.inl rfl) e,c⟩
 | dK kvs=>obtain⟨z,y,vs,r,ob,es,ep,e,c⟩:=x;exact⟨z,y,vs,r,ob,es,ep,k _ _ (.inl rfl) e,c⟩
 | dT kvs=>
  obtain⟨z,y,xs,r,ob,es,ep,e,c⟩:=x;exact⟨z,y,xs,Paired.mapP r λp q z=>⟨z.1,ht _ _ z.2.1,z.2.2⟩,ob,es,ep,k _ _ (.inl rfl) e,c⟩
 | set S n=>obtain⟨ob,es,ep,t,e,c⟩:=x;exact⟨ob,es,ep,t,k _ _ (.inl rfl) e,c⟩
 | ins C dx fs=>
  obtain⟨d,z,ne,e,mA,⟨od,es,ep,e2,c⟩,r⟩:=x;exact⟨ho _ d,z,ne,k _ _ (.inl rfl) e,mA,⟨od,es,ep,k _ _ (.inr d) e2,c⟩,r⟩
 | own y=>obtain⟨ob,e⟩:=x;exact⟨ob,k _ _ (.inl rfl) e⟩
 | xd fs=>obtain⟨mA,⟨od,es,ep,e,c⟩,r⟩:=x;exact⟨mA,⟨od,es,ep,k _ _ (.inl rfl) e,c⟩,r⟩
 | rng lo hi=>obtain⟨t,u,v,e⟩:=x;exact⟨t,u,v,k _ _ (.inl rfl) e⟩
 | frz ob u ih=>obtain⟨e,q⟩:=x;exact⟨k _ _ (.inl rfl) e,ih q⟩
 | tbl ps=>
  have e:h.get? a=some { cls:=.none,data:=.fields ps }:=x;show h'.get? a=some { cls:=.none,data:=.fields ps };exact k a _ (.inl rfl) e
 | met f y=>
  have e:h.get? a=some (PySem.W.methodObj (.ref f) (.ref y)):=x;show h'.get? a=some (PySem.W.methodObj (.ref f) (.ref y));exact k a _ (.inl rfl) e
 | ext φ=>obtain⟨p,⟨o,e⟩,st⟩:=x;exact⟨st _ _ p λo q=>k _ _ (.inl rfl) q,⟨o,k _ _ (.inl rfl) e⟩,st⟩
theorem HOk.lt(x:HOk P w H h)(e:H a=some o):a<h.objs.size:=(x a o e).lt
theorem HOk.fresh(x:HOk P w H h)(e:h.objs.size<=a):H a=none:=by
 cases q:H a with
 | none=>rfl
 | some u=>exact absurd (xv (x.lt q) e) (xR _)
theorem HOk.kept(x:HOk P w H h)(k:∀b u,h.get? b=some u->h'.get? b=some u):HOk P w H h':=λa o e=>
 (x a o e).stay (λb u _ q=>k b u q) (λ_ q=>q) λ_ _ q=>q
theorem HOk.laid(x:HOk P w H h)(k:∀b u,h.get? b=some u->h'.get? b=some u)(hp:h.objs.size<=a)(new:ObjOk P w (upd H a o) h' a o):HOk P w (upd H a o) h':=λb u e=>by
 have hn:=x.fresh hp;by_cases hb:b=a
 ·subst hb;rw[zAm]at e;cases e;exact new
 ·rw[zAf hb]at e;exact(x b u e).stay (λc v _ q=>k c v q) (λc q=>by rw[zAf (zAq q hn)];exact q) λc xs q=>by rw[zAf (zAq q hn)];exact q
end
def Rd(H:Hp)(a:Addr)(u:HO):Prop:=H a=some u\/∃o,H a=some (.frz o u)
theorem Rd.ok(r:Rd H a u)(x:HOk P w H h):ObjOk P w H h a u:=by
 rcases r with r|⟨o,r⟩
 ·exact x a u r
 ·obtain⟨_,q⟩:=x a _ r;exact q
def Mut:Option HO->Prop
 | some (.lst _)=>True
 | some (.dK _)=>True
 | some (.dT _)=>True
 | some (.set _ _)=>True
 | some (.ins _ _ _)=>True
 | some (.ext _)=>True
 | _=>False
section
variable {P:Program}{w:World}{H:Hp}{h h':Heap}{x e:Addr}{o':HO}
theorem HOk.write(ok:HOk P w H h)(mu:Mut (H x))(he:e=x\/H e=some (.own x))(k:∀b u,b≠e->h.get? b=some u->h'.get? b=some u)(heo:∃u,h'.get? e=some u)
  (new:ObjOk P w (upd H x o') h' x o'):HOk P w (upd H x o') h':=λb u q=>by
 have nown:∀c y,H c=some (.own y)->c≠x:=λc y r z=>by subst z;rw[r]at mu;exact mu
 have ntup:∀c xs,H c=some (.tup xs)->c≠x:=λc xs r z=>by subst z;rw[r]at mu;exact mu
 by_cases hb:b=x
 ·subst hb;rw[zAm]at q;cases q;exact new
 ·rw[zAf hb]at q;by_cases hbe:b=e
  ·have q':H b=some (.own x):=by
    rcases he with z|z
    ·exact absurd (hbe.trans z) hb
    ·rw[hbe];exact z
   rw[q]at q';cases q';obtain⟨v,hv⟩:=heo;exact⟨v,by rw[hbe];exact hv⟩
  ·refine(ok b u q).stay (λc v hc r=>k c v ?_ r) (λc r=>by rw[zAf (nown c b r)];exact r) λc xs r=>by rw[zAf (ntup c xs r)];exact r
   rcases hc with rfl|hc
   ·exact hbe
   ·rintro rfl;rcases he with z|z
    ·exact nown c b hc z
    ·rw[hc]at z;cases z;exact hb rfl
end
structure Un (fs ex:List Addr) (H H':Hp) (h h':Heap):Prop where
 keep:∀b o,h.get? b=some o->H b=none->b ∉ fs->b ∉ ex->h'.get? b=some o
 slot:∀b o,h.get? b=some o->H b=none->b∈fs->b ∉ ex->∃sl,h'.get? b=some { o with slots:=sl }
 free:∀b o,h.get? b=some o->H b=none->b ∉ ex->H' b=none
 there:∀b o,h.get? b=some o->b ∉ ex->∃o',h'.get? b=some o'
 tups:∀b xs,H b=some (.tup xs)->H' b=some (.tup xs)
 frzs:∀b o u,H b=some (.frz o u)->H' b=some (.frz o u)
 tbls:∀b ps,H b=some (.tbl ps)->∃more,H' b=some (.tbl (ps++more))
section
variable {fs fs' ex ex':List Addr}{H H1 H2:Hp}{h h1 h2 h':Heap}{a x e:Addr}{o:HO}
theorem Un.any(u:Un fs ex H H1 h h1){ob:Obj}(q:h.get? b=some ob)(n:H b=none)(hx:b ∉ ex):∃sl,h1.get? b=some { ob with slots:=sl }:=by
 by_cases hb:b∈fs
 ·exact u.slot b ob q n hb hx
 ·exact⟨ob.slots,u.keep b ob q n hb hx⟩
theorem Un.kept(k:∀b u,h.get? b=some u->h'.get? b=some u):Un fs ex H H h h':=
 ⟨λb ob q _ _ _=>k b ob q,λb ob q _ _ _=>⟨ob.slots,k b ob q⟩,λ_ _ _ n _=>n,λb ob q _=>⟨ob,k b ob q⟩,λ_ _ q=>q,λ_ _ _ q=>q,λ_ ps q=>⟨#[],by rw[q];simp⟩⟩
theorem Un.refl:Un fs ex H H h h:=Un.kept λ_ _ q=>q
theorem Un.laid(k:∀b u,h.get? b=some u->h'.get? b=some u)(hp:h.objs.size<=a)(hn:H a=none):Un fs ex H (upd H a o) h h' where
 keep:=λb u q _ _ _=>k b u q
 slot:=λb u q _ _ _=>⟨u.slots,k b u q⟩
 free:=λb u q n _=>by rw[zAf (xr (xv (xl q) hp))];exact n
 there:=λb u q _=>⟨u,k b u q⟩
 tups:=λb xs q=>by rw[zAf (zAq q hn)];exact q
 frzs:=λb u xs q=>by rw[zAf (zAq q hn)];exact q
 tbls:=λb ps q=>⟨#[],by rw[zAf (zAq q hn),q];simp⟩
theorem Un.write(mu:Mut (H x))(he:e=x\/H e=some (.own x))(k:∀b u,b≠e->h.get? b=some u->h'.get? b=some u)(heo:∃u,h'.get? e=some u):Un fs ex H (upd H x o) h h':=by
 have hx:∀b,H b=none->b≠x:=λb n z=>by subst z;rw[n]at mu;exact mu
 have hb:∀b,H b=none->b≠e:=λb n z=>by
  subst z;rcases he with r|r
  ·exact hx b n r
  ·rw[n]at r;cases r
 have hm:∀b u,H b=some u->¬ Mut (some u)->b≠x:=λb u q nm z=>by subst z;rw[q]at mu;exact nm mu
 refine⟨λb u q n _ _=>k b u (hb b n) q,λb u q n _ _=>⟨u.slots,k b u (hb b n) q⟩,λb u q n _=>by rw[zAf (hx b n)];exact n,λb u q _=>?_,
  λb xs q=>by rw[zAf (hm b _ q λz=>z)];exact q,λb u xs q=>by rw[zAf (hm b _ q λz=>z)];exact q,λb ps q=>⟨#[],by rw[zAf (hm b _ q λz=>z),q];simp⟩⟩
 by_cases hbe:b=e
 ·subst hbe;exact heo
 ·exact⟨u,k b u hbe q⟩
end
noncomputable def trk (h:Heap) (H:Hp):List Addr:=(List.range h.objs.size).filter λa=>(H a).isSome
noncomputable def hidT (h:Heap) (H:Hp):Heap:=PySem.W.hideAll h (trk h H)
theorem zO2(h:Heap)(H:Hp):(hidT h H).objs.size=h.objs.size:=PySem.W.hideAll_size _ _
theorem zRd{h:Heap}{H:Hp}(e:h.get? b=some o)(n:H b=none):(hidT h H).get? b=some o:=
 PySem.W.hideAll_get _ e λhm=>by
  have q:(H b).isSome=true:=(List.mem_filter.mp hm).2;rw[n]at q;simp at q
theorem zV2{h:Heap}{H:Hp}(e:(hidT h H).get? b=some o):h.get? b=some o/\H b=none:=by
 have e':h.get? b=some o:=PySem.W.of_hideAll (trk h H) e;refine⟨e',?_⟩;cases q:H b with
 | none=>rfl
 | some x=>
  have hm:b∈trk h H:=List.mem_filter.mpr ⟨vF.mpr (xl e'),by simp[q]⟩;have z:(hidT h H).get? b=none:=PySem.W.hideAll_none (trk h H) hm;rw[z]at e;cases e
noncomputable def zWr (g h:Heap) (L:Addr):List (Addr × Obj):=(List.range h.objs.size).filterMap λa=>if a=L\/(g.get? a).isSome=true then none else(h.get? a).map λo=>(a,o)
noncomputable def rest (g h:Heap) (L d:Addr):List (Addr × Obj):=(zWr g h L).filter λp=>decide (p.1≠d)
structure Mod (K:PySem.W.Frag) (mg:Str->Option Value) (base:Heap):Prop where
 kin:K.In base
 glob:base.Ns mainGlobals mg
 blt:∃mb,base.Ns builtinsNs mb/\∀x:Str,x≠"__name__"->mb x=bootBuiltins x
 nolimit:base.NoLimit
/-- the context: a def's body (or a comprehension's block) running. base: fixed through the whole law;s₀,H₀: the entry;outer: the frames whose slots others may change (a def's callers);stack: all frames that run;
   ex: iterators that were made ahead of the entry and are walked here (a comprehension's);fn: the names whose cells were made at the entry (a def: all;a comprehension's block: its own);calm: not within an except suite;pn: pins that every state bears;xe: what is wanted of an exception that leaves the code -/
structure Cx where
  prog:Program
  w:World
  K:PySem.W.Frag
  mg:Str->Option Value
  base:Heap
  A:Around
  N:List Str
  s₀:Shared
  H₀:Hp
  env:Env
  outer:List Env
  stack:List Env
  ex:List Addr
  fn:Str->Bool
  calm:Bool
  pn:List (Addr × Obj)
  xe:Value->Shared->Prop
noncomputable def frs (l:List Env):List Addr:=l.filterMap (·.frame)
noncomputable abbrev Cx.fs (X:Cx):List Addr:=frs X.outer
def Vis(sc:Scope)(x:Str):Prop:=sc.names.lookup x=some .local\/sc.names.lookup x=some .cell\/sc.names.lookup x=some .free
def Loc(sc:Scope)(x:Str):Prop:=sc.names.lookup x=some .local\/sc.names.lookup x=some .cell
def Look(env:Env)(h:Heap)(m:Str->Option Value)(x:Str)(u:Value):Prop:=
 (env.kindOf x=some .local/\m x=some u)\/((env.kindOf x=some .cell\/env.kindOf x=some .free)/\∃c,env.cells.lookup x=some c/\h.IsCell c (some u))
structure Cx.Ok (X:Cx):Prop where
 mod:Mod X.K X.mg X.base
 kind:X.env.scope.kind=.function
 glob:X.env.globals=mainGlobals
 blt:X.env.builtins=builtinsNs
 above:X.s₀.heap.objs.size<=X.env.locals
 inj:∀x y c,X.env.cells.lookup x=some c->X.env.cells.lookup y=some c->x=y
 has:∀x,(X.env.kindOf x=some .cell\/X.env.kindOf x=some .free)->∃c,X.env.cells.lookup x=some c
 cab:∀x c,X.fn x=true->X.env.cells.lookup x=some c->X.s₀.heap.objs.size<=c
 hd:X.calm=true->X.A.handled=none
 frames:X.A.frames=some X.stack
 stk:X.stack=X.outer\/(X.stack=X.env::X.outer/\X.env.frame=some X.env.locals)
 exf:∀b∈X.ex,b≠X.env.locals/\∀x c,X.env.cells.lookup x=some c->c≠b
 bs:∀b o,X.base.get? b=some o->X.s₀.heap.get? b=some o/\X.H₀ b=none
 bsz:X.base.objs.size<=X.s₀.heap.objs.size
 noex:∀b o,X.base.get? b=some o->b ∉ X.ex
 exfs:∀b∈X.ex,b ∉ X.fs
 funs:X.s₀.heap.FunFrames X.base X.outer
 frf:∀b∈X.fs,X.H₀ b=none
 gds:X.A.guards=some []
structure Inv (X:Cx) (pins:List (Addr × Obj)) (σ:List (Option V)) (H:Hp) (s:Shared):Prop where
 ok:X.Ok
 os:s.os=X.s₀.os
 bare:AllBare s.gens
 base:Un X.fs X.ex X.H₀ H X.s₀.heap s.heap
 loc:∃m,s.heap.Ns X.env.locals m/\∀(i:Nat) (x:Str) (v:V),X.N[i]?=some x->σ[i]?=some (some v)->Vis X.env.scope x->∃u,RelV v u/\Look X.env s.heap m x u
 cell:∀x c,X.env.cells.lookup x=some c->∃v,s.heap.IsCell c v
 free:H X.env.locals=none
 freeC:∀x c,X.env.cells.lookup x=some c->H c=none
 pin:∀p∈X.pn++pins,s.heap.get? p.1=some p.2/\H p.1=none/\p.1≠X.env.locals/\p.1 ∉ X.fs/\∀v,p.2.data≠.cell v
 hok:HOk X.prog X.w H s.heap
 len:σ.length=X.N.length
section
variable {X:Cx}{pins:List (Addr × Obj)}{σ:List (Option V)}{H H':Hp}{s:Shared}{h':Heap}
theorem Cx.Ok.nofr(ok:X.Ok)(e:X.base.get? b=some o):b ∉ X.fs:=λhb=>by
 have:=(ok.funs.mem hb).1;rw[e]at this;cases this
theorem Inv.bs(I:Inv X pins σ H s):∀b o,X.base.get? b=some o->s.heap.get? b=some o/\H b=none:=λb o e=>
 ⟨I.base.keep b o (I.ok.bs b o e).1 (I.ok.bs b o e).2 (I.ok.nofr e) (I.ok.noex b o e),I.base.free b o (I.ok.bs b o e).1 (I.ok.bs b o e).2 (I.ok.noex b o e)⟩
theorem Inv.bk(I:Inv X pins σ H s):∀b o,X.base.get? b=some o->s.heap.get? b=some o:=λb o e=>(I.bs b o e).1
theorem Inv.mod(I:Inv X pins σ H s):Mod X.K X.mg X.base:=I.ok.mod
theorem Inv.kIn(I:Inv X pins σ H s):X.K.In s.heap:=I.ok.mod.kin.keeps I.bk
theorem Inv.lt(I:Inv X pins σ H s):X.env.locals<s.heap.objs.size:=let ⟨_,hn,_⟩:=I.loc;hn.lt
theorem Inv.sz(I:Inv X pins σ H s):X.s₀.heap.objs.size<=s.heap.objs.size:=xm I.ok.above (x4 I.lt)
theorem Inv.nofs(I:Inv X pins σ H s)(h:s.heap.objs.size<=a):a ∉ X.fs:=λhb=>by
 obtain⟨_,o,ho,_⟩:=I.ok.funs.mem hb
 exact absurd (xv (xl ho) (xm I.sz h)) (xR _)
theorem Inv.cne(I:Inv X pins σ H s):∀x c,X.env.cells.lookup x=some c->c≠X.env.locals:=λx c e z=>by
 obtain⟨v,o,ho,hd⟩:=I.cell x c e;obtain⟨m,⟨o',es,ep,ho',hd',_⟩,_⟩:=I.loc;rw[z,ho']at ho;cases ho;rw[hd']at hd;cases hd
theorem Inv.funs(I:Inv X pins σ H s):s.heap.FunFrames X.base X.outer:=by
 have all:∀(l:List Env),(∀b∈frs l,b∈X.fs)->X.s₀.heap.FunFrames X.base l->s.heap.FunFrames X.base l:=by
  intro l;induction l with
  | nil=>intro _ _;trivial
  | cons env r ih=>
   intro hs hl;obtain⟨hk,⟨L,o,hf,hn,ho,hd⟩,hr⟩:=hl;have hL:L∈X.fs:=hs L (by unfold frs;rw[vP,hf];exact xK);obtain⟨sl,e⟩:=I.base.slot L o ho (I.ok.frf L hL) hL λz=>I.ok.exfs L z hL
   exact⟨hk,⟨L,_,hf,hn,e,hd⟩,ih (λb hb=>hs b (by unfold frs;rw[vP,hf];exact xN _ hb)) hr⟩
 exact all X.outer (λ_ hb=>hb) I.ok.funs
theorem Inv.stack(I:Inv X pins σ H s):s.heap.FunFrames X.base X.stack:=by
 rcases I.ok.stk with e|⟨e,hf⟩
 ·rw[e];exact I.funs
 ·rw[e];obtain⟨m,hn,_⟩:=I.loc;refine .cons (by rw[I.ok.kind];decide) hf hn ?_ I.funs
  exact Heap.get?_none_of_le (xm I.ok.bsz I.ok.above)
theorem Inv.stkSub(I:Inv X pins σ H s):∀b∈frs X.stack,b∈X.env.locals::X.fs:=λb hb=>by
 rcases I.ok.stk with e|⟨e,hf⟩
 ·rw[e]at hb;exact xN _ hb
 ·rw[e]at hb;unfold frs at hb;rw[vP,hf]at hb;exact hb
theorem Inv.stkFree(I:Inv X pins σ H s):∀b∈frs X.stack,H b=none:=λb hb=>by
 rcases xh.mp (I.stkSub b hb)with e|hb
 ·rw[e];exact I.free
 ·obtain⟨_,o,ho,_⟩:=I.ok.funs.mem hb
  exact I.base.free b o ho (I.ok.frf b hb) λz=>I.ok.exfs b z hb
theorem Inv.step{g':Array GenState}{t':Nat}{d':Drawn}{ch:List Addr}(I:Inv X pins σ H s)
  (hch:∀b∈ch,(b∈X.ex\/X.s₀.heap.objs.size<=b)/\b≠X.env.locals/\(∀x c,X.env.cells.lookup x=some c->c≠b)/\∀p∈X.pn++pins,p.1≠b)
  (keep:∀b o,b≠X.env.locals->b ∉ X.fs->b ∉ ch->s.heap.get? b=some o->H b=none->h'.get? b=some o)
  (slot:∀b o,b≠X.env.locals->b∈X.fs->b ∉ ch->s.heap.get? b=some o->H b=none->∃sl,h'.get? b=some { o with slots:=sl }) (free:∀b o,b ∉ ch->s.heap.get? b=some o->H b=none->H' b=none)
  (there:∀b o,b ∉ ch->s.heap.get? b=some o->∃o',h'.get? b=some o')
  (tups:∀b xs,H b=some (.tup xs)->H' b=some (.tup xs)) (frzs:∀b o u,H b=some (.frz o u)->H' b=some (.frz o u)) (tbls:∀b ps,H b=some (.tbl ps)->∃more,H' b=some (.tbl (ps++more)))
  (ns:∀m,s.heap.Ns X.env.locals m->h'.Ns X.env.locals m) (hok:HOk X.prog X.w H' h') (hg:AllBare g'):
  Inv X pins σ H' { s with heap:=h',gens:=g',drawn:=d',toks:=t' }:=by
 have neL:∀b o,X.s₀.heap.get? b=some o->b≠X.env.locals:=λb o e=>xr (xv (xl e) I.ok.above)
 have neC:∀b o,X.s₀.heap.get? b=some o->b ∉ X.ex->b ∉ ch:=λb o e hx hb=>by
  rcases(hch b hb).1 with z|z
  ·exact hx z
  ·exact absurd (xv (xl e) z) (xR _)
 have cellK:∀x c,X.env.cells.lookup x=some c->∀v,s.heap.IsCell c v->h'.IsCell c v:=λx c e v hq1=>by
  obtain⟨o,ho,hd⟩:=hq1;have nch:c ∉ ch:=λz=>(hch c z).2.2.1 x c e rfl
  by_cases hc:c∈X.fs
  ·obtain⟨sl,q⟩:=slot c o (I.cne x c e) hc nch ho (I.freeC x c e);exact⟨_,q,hd⟩
  ·exact⟨o,keep c o (I.cne x c e) hc nch ho (I.freeC x c e),hd⟩
 refine⟨I.ok,I.os,hg,⟨λb o e n hb hx=>?_,λb o e n hb hx=>?_,λb o e n hx=>?_,λb o e hx=>?_,λb xs e=>tups b xs (I.base.tups b xs e),λb o xs e=>frzs b o xs (I.base.frzs b o xs e),λb ps e=>?_⟩,?_,λx c e=>?_,?_,λx c e=>?_,λp hp=>?_,hok,I.len⟩
 ·exact keep b o (neL b o e) hb (neC b o e hx) (I.base.keep b o e n hb hx) (I.base.free b o e n hx)
 ·obtain⟨sl,e1⟩:=I.base.slot b o e n hb hx;obtain⟨sl',e2⟩:=slot b _ (neL b o e) hb (neC b o e hx) e1 (I.base.free b o e n hx);exact⟨sl',e2⟩
 ·obtain⟨o',e1⟩:=I.base.there b o e hx;exact free b o' (neC b o e hx) e1 (I.base.free b o e n hx)
 ·obtain⟨o',e1⟩:=I.base.there b o e hx;exact there b o' (neC b o e hx) e1
 ·obtain⟨m1,e1⟩:=I.base.tbls b ps e;obtain⟨m2,e2⟩:=tbls b _ e1;exact⟨m1++m2,by rw[e2,Array.append_assoc]⟩
 ·obtain⟨m,hn,hl⟩:=I.loc;refine⟨m,ns m hn,λi x v e1 e2 e3=>?_⟩;obtain⟨u,r,l⟩:=hl i x v e1 e2 e3;refine⟨u,r,?_⟩;rcases l with l|⟨k,c,e,z⟩
  ·exact .inl l
  ·exact .inr ⟨k,c,e,cellK x c e _ z⟩
 ·obtain⟨v,z⟩:=I.cell x c e;exact⟨v,cellK x c e v z⟩
 ·obtain⟨m,⟨o,_,_,ho,_⟩,_⟩:=I.loc;exact free _ o (λz=>(hch _ z).2.1 rfl) ho I.free
 ·obtain⟨v,o,ho,hd⟩:=I.cell x c e;exact free c o (λz=>(hch c z).2.2.1 x c e rfl) ho (I.freeC x c e)
 ·obtain⟨e,n,ne,nf,d⟩:=I.pin p hp;have nch:p.1 ∉ ch:=λz=>(hch p.1 z).2.2.2 p hp rfl
  exact⟨keep p.1 p.2 ne nf nch e n,free p.1 p.2 nch e n,ne,nf,d⟩
theorem Inv.un{t':Nat}(I:Inv X pins σ H s)(u:Un X.fs [] H H' s.heap h')(hok:HOk X.prog X.w H' h'):Inv X pins σ H' { s with heap:=h',toks:=t' }:=by
 obtain⟨m,⟨o,es,ep,ho,r⟩,_⟩:=id I.loc;obtain⟨sl,hL⟩:=u.any ho I.free (by simp);exact I.step (g':=s.gens) (d':=s.drawn) (ch:=[]) (λ_ z=>nomatch z) (λb o _ hb _ e n=>u.keep b o e n hb (by simp)) (λb o _ hb _ e n=>u.slot b o e n hb (by simp)) (λb o _ e n=>u.free b o e n (by simp)) (λb o _ e=>u.there b o e (by simp)) u.tups u.frzs u.tbls (λm' hm=>by
  obtain⟨o',es',ep',ho',r'⟩:=hm;rw[ho]at ho';cases ho';exact⟨_,es',ep',hL,r'⟩) hok I.bare
theorem Inv.call{t':Nat}{d':Drawn}(I:Inv X pins σ H s)(u:Un (frs X.stack) ch H H' s.heap h')(hok:HOk X.prog X.w H' h')(hg:AllBare g')
  (hch:∀b∈ch,(b∈X.ex\/X.s₀.heap.objs.size<=b)/\b≠X.env.locals/\(∀x c,X.env.cells.lookup x=some c->c≠b)/\∀p∈X.pn++pins,p.1≠b):
  Inv X pins σ H' { s with heap:=h',gens:=g',drawn:=d',toks:=t' }:=by
 obtain⟨m,⟨o,es,ep,ho,r⟩,_⟩:=id I.loc;obtain⟨sl,hL⟩:=u.any ho I.free λz=>(hch _ z).2.1 rfl
 exact I.step (ch:=ch) hch (λb o hL hb hc e n=>u.keep b o e n (λz=>(xh.mp (I.stkSub b z)).elim hL hb) hc) (λb o _ _ hc e n=>u.any e n hc) (λb o hc e n=>u.free b o e n hc) (λb o hc e=>u.there b o e hc) u.tups u.frzs u.tbls (λm' hm=>by
  obtain⟨o',es',ep',ho',r'⟩:=hm;rw[ho]at ho';cases ho';exact⟨_,es',ep',hL,r'⟩) hok hg
theorem Inv.turned{t':Nat}(I:Inv X pins σ H s)(k:∀b o,b≠it->s.heap.get? b=some o->h'.get? b=some o)(hn:H it=none)(hL:it≠X.env.locals)
  (h1:it∈X.ex\/X.s₀.heap.objs.size<=it) (h2:∀x c,X.env.cells.lookup x=some c->c≠it) (h3:∀p∈X.pn++pins,p.1≠it):Inv X pins σ H { s with heap:=h',toks:=t' }:=by
 have nit:∀b u,H b=some u->b≠it:=λb u e z=>by rw[z,hn]at e;cases e
 refine I.step (g':=s.gens) (d':=s.drawn) (ch:=[it]) (λb hb=>?_) (λb o _ _ hc e _=>k b o (λz=>hc (by simp[z])) e) (λb o _ _ hc e _=>⟨o.slots,k b o (λz=>hc (by simp[z])) e⟩) (λ_ _ _ _ n=>n)
  (λb o hc e=>⟨o,k b o (λz=>hc (by simp[z])) e⟩) (λ_ _ e=>e) (λ_ _ _ e=>e) (λb ps e=>⟨#[],by rw[e];simp⟩) (λm hm=>?_) (λb u e=>?_) I.bare
 ·have e:b=it:=by simpa using hb
  subst e;exact⟨h1,hL,h2,h3⟩
 ·obtain⟨o,es,ep,ho,r⟩:=hm;exact⟨o,es,ep,k _ o (xD hL) ho,r⟩
 ·refine(I.hok b u e).stay (λc v hc q=>k c v ?_ q) (λ_ q=>q) λ_ _ q=>q
  rcases hc with z|z
  ·rw[z];exact nit b u e
  ·exact nit c _ z
theorem Inv.tok(I:Inv X pins σ H s)(t:Nat):Inv X pins σ H { s with toks:=t }:=I.un (h':=s.heap) (t':=t) Un.refl I.hok
theorem Inv.kept{t':Nat}(I:Inv X pins σ H s)(k:∀b u,s.heap.get? b=some u->h'.get? b=some u):Inv X pins σ H { s with heap:=h',toks:=t' }:=I.un (Un.kept k) (I.hok.kept k)
theorem Inv.laid{t':Nat}(I:Inv X pins σ H s)(k:∀b u,s.heap.get? b=some u->h'.get? b=some u)(hp:s.heap.objs.size<=a)(new:ObjOk X.prog X.w (upd H a o) h' a o):
  Inv X pins σ (upd H a o) { s with heap:=h',toks:=t' }:=I.un (Un.laid k hp (I.hok.fresh hp)) (I.hok.laid k hp new)
theorem Inv.write{o:HO}{t':Nat}(I:Inv X pins σ H s)(mu:Mut (H x))(he:e=x\/H e=some (.own x))(k:∀b u,b≠e->s.heap.get? b=some u->h'.get? b=some u)(heo:∃u,h'.get? e=some u)
  (new:ObjOk X.prog X.w (upd H x o) h' x o):Inv X pins σ (upd H x o) { s with heap:=h',toks:=t' }:=I.un (Un.write mu he k heo) (I.hok.write mu he k heo new)
theorem Inv.pins_of(I:Inv X pins σ H s)(h:∀p∈pins',s.heap.get? p.1=some p.2/\H p.1=none/\p.1≠X.env.locals/\p.1 ∉ X.fs/\∀v,p.2.data≠.cell v):Inv X pins' σ H s:=
 ⟨I.ok,I.os,I.bare,I.base,I.loc,I.cell,I.free,I.freeC,λp hp=>(vm.mp hp).elim (λz=>I.pin p (uI _ z)) (h p),I.hok,I.len⟩
theorem zJz{N:List Str}(hN:N.Nodup){i j:Nat}(a:N[i]?=some x)(b:N[j]?=some x):i=j:=by obtain⟨h1,e1⟩:=xG.mp a;obtain⟨h2,e2⟩:=xG.mp b;exact(List.getElem_inj hN).mp (e1.trans e2.symm)
theorem zHd{M:Model}{A:Around}{E:Value->Shared->Prop}{i:Nat}{Q:Unit->Shared->Prop}(I:Inv X pins σ H s)(hN:X.N.Nodup)(hi:X.N[i]?=some x)(hx:Loc X.env.scope x)(r:RelV v u)
  (h:∀s',Inv X pins (σ.set i (some v)) H s'->(∃a,Heap.SameBut a s.heap s'.heap/\(a=X.env.locals\/X.env.cells.lookup x=some a))->Q () s') (hf:X.fn x=true\/X.env.scope.names.lookup x=some .local:=by first|exact .inl rfl|exact .inr rfl|assumption):wpAny M A (storeName X.env x u) Q E s:=by
 obtain⟨m,hn,hl⟩:=id I.loc;have hcls:(X.env.scope.kind == .class || (X.env.scope.kind == .module && X.env.locals != X.env.globals))=false:=by rw[I.ok.kind];rfl
 have hiσ:i<σ.length:=by rw[I.len];exact(xG.mp hi).1
 have cne:=I.cne;have tracked:∀{a:Addr}{h':Heap},(∃o,s.heap.get? a=some o/\H a=none)->Heap.SameBut a s.heap h'->HOk X.prog X.w H h':=λ{a h'} ha hs b ob e=>by
  obtain⟨_,_,hfree⟩:=ha;refine(I.hok b ob e).stay (λc w' hc q=>(hs.2 c ?_).trans q) (λ_ q=>q) λ_ _ q=>q
  rintro rfl;rcases hc with rfl|hc
  ·rw[hfree]at e;cases e
  ·rw[hfree]at hc;cases hc
 rcases hx with hk|hk
 ·refine wpAny_storeName_local hk hn (λh' hn' hs=>?_) hcls;obtain⟨oL,_,_,hoL,_⟩:=id hn;refine h _ ⟨I.ok,I.os,I.bare,⟨λb o e n hb hx=>?_,λb o e n hb hx=>?_,I.base.free,λb o e hx=>?_,I.base.tups,I.base.frzs,I.base.tbls⟩,⟨_,hn',λj y v' e1 e2 e3=>?_⟩,λy c e=>?_,I.free,I.freeC,λp hp=>?_,tracked ⟨oL,hoL,I.free⟩ hs,by simpa using I.len⟩ ⟨_,hs,.inl rfl⟩
  ·exact(hs.2 b (xr (xv (xl e) I.ok.above))).trans (I.base.keep b o e n hb hx)
  ·obtain⟨sl,e1⟩:=I.base.slot b o e n hb hx;exact⟨sl,(hs.2 b (xr (xv (xl e) I.ok.above))).trans e1⟩
  ·obtain⟨o',e1⟩:=I.base.there b o e hx;exact⟨o',(hs.2 b (xr (xv (xl e) I.ok.above))).trans e1⟩
  ·by_cases hj:j=i
   ·subst hj;rw[hi]at e1;cases e1;rw[vG hiσ]at e2;cases e2;exact⟨u,r,.inl ⟨hk,by simp⟩⟩
   ·rw[ve (xD hj)]at e2;obtain⟨u',r',q⟩:=hl j y v' e1 e2 e3;refine⟨u',r',?_⟩;rcases q with⟨k,e⟩|⟨k,c,e,z⟩
    ·refine .inl ⟨k,?_⟩;have:y≠x:=λe=>hj (zJz hN e1 (e ▸ hi))
     simp[this,e]
    ·exact .inr ⟨k,c,e,z.sameBut hs (cne y c e)⟩
  ·obtain⟨w',z⟩:=I.cell y c e;exact⟨w',z.sameBut hs (cne y c e)⟩
  ·obtain⟨e,n,ne,nf,d⟩:=I.pin p hp;exact⟨(hs.2 p.1 ne).trans e,n,ne,nf,d⟩
 ·have hfn:X.fn x=true:=by
   rcases hf with z|z
   ·exact z
   ·rw[z]at hk;cases hk
  obtain⟨c,hc⟩:=I.ok.has x (.inl hk);obtain⟨w',z⟩:=I.cell x c hc;refine wpAny_storeName_cell I.ok.kind hk hc z (λh' hc' hs=>?_);obtain⟨oc,hoc,hocd⟩:=id z;refine h { s with heap:=h' } ⟨I.ok,I.os,I.bare,⟨λb o e n hb hx=>?_,λb o e n hb hx=>?_,I.base.free,λb o e hx=>?_,I.base.tups,I.base.frzs,I.base.tbls⟩,⟨m,hn.sameBut hs (xD (cne x c hc)),λj y v' e1 e2 e3=>?_⟩,λy c' e=>?_,I.free,I.freeC,λp hp=>?_,tracked ⟨oc,hoc,I.freeC x c hc⟩ hs,by simpa using I.len⟩ ⟨c,hs,.inr hc⟩
  ·exact(hs.2 b (xr (xv (xl e) (I.ok.cab x c hfn hc)))).trans (I.base.keep b o e n hb hx)
  ·obtain⟨sl,e1⟩:=I.base.slot b o e n hb hx;exact⟨sl,(hs.2 b (xr (xv (xl e) (I.ok.cab x c hfn hc)))).trans e1⟩
  ·obtain⟨o',e1⟩:=I.base.there b o e hx;exact⟨o',(hs.2 b (xr (xv (xl e) (I.ok.cab x c hfn hc)))).trans e1⟩
  ·by_cases hj:j=i
   ·subst hj;rw[hi]at e1;cases e1;rw[vG hiσ]at e2;cases e2;exact⟨u,r,.inr ⟨.inl hk,c,hc,hc'⟩⟩
   ·rw[ve (xD hj)]at e2;obtain⟨u',r',q⟩:=hl j y v' e1 e2 e3;refine⟨u',r',?_⟩;rcases q with q|⟨k,c',e,z'⟩
    ·exact .inl q
    ·refine .inr ⟨k,c',e,z'.sameBut hs ?_⟩;rintro rfl;exact hj (zJz hN e1 (I.ok.inj _ _ _ e hc ▸ hi))
  ·by_cases hcc:c'=c
   ·subst hcc;exact⟨_,hc'⟩
   ·obtain⟨w2,z2⟩:=I.cell y c' e;exact⟨w2,z2.sameBut hs hcc⟩
  ·obtain⟨e,n,ne,nf,d⟩:=I.pin p hp;refine⟨(hs.2 p.1 ?_).trans e,n,ne,nf,d⟩;intro q;rw[q,hoc]at e;have q':oc=p.2:=xA e;exact d w' (by rw[<- q'];exact hocd)
theorem zEh{M:Model}{A:Around}{E:Value->Shared->Prop}{i:Nat}{Q:Unit->Shared->Prop}(I:Inv X pins σ H s)(hN:X.N.Nodup)(hi:X.N[i]?=some x)(hx:Loc X.env.scope x)(r:RelV v u)
  (h:∀s',Inv X pins (σ.set i (some v)) H s'->Q () s') (hf:X.fn x=true\/X.env.scope.names.lookup x=some .local:=by first|exact .inl rfl|exact .inr rfl|assumption):wpAny M A (storeName X.env x u) Q E s:=
 zHd I hN hi hx r (λs' I' _=>h s' I') hf
theorem Inv.call'{s':Shared}(I:Inv X pins σ H s)(ho:s'.os=s.os)(u:Un (frs X.stack) ch H H' s.heap s'.heap)(hok:HOk X.prog X.w H' s'.heap)(hg:AllBare s'.gens)
  (hch:∀b∈ch,(b∈X.ex\/X.s₀.heap.objs.size<=b)/\b≠X.env.locals/\(∀x c,X.env.cells.lookup x=some c->c≠b)/\∀p∈X.pn++pins,p.1≠b):Inv X pins σ H' s':=by
 obtain⟨h',g',d',t',o'⟩:=s';have e:o'=s.os:=ho;subst e;exact I.call (g':=g') (t':=t') (d':=d') u hok hg hch
end
abbrev XK:=Value->Option Addr->Hp->Prop
noncomputable abbrev St:=List (Option V)
abbrev VK:=V->Hp->Prop
abbrev TE:=St->Hp->VK->Prop
abbrev TT:=St->Hp->(Bool->Hp->Prop)->Prop
abbrev TA:=St->Hp->(List V->Hp->Prop)->Prop
structure Ends where
 nx:St->Hp->Prop
 rt:VK
 bk:St->Hp->Prop:=λ_ _=>False
 ct:St->Hp->Prop:=λ_ _=>False
abbrev TS:=Ends->St->Hp->Prop
def EP(X:Cx)(pins:List (Addr × Obj))(σ:St)(Q:VK)(u:Value)(s':Shared):Prop:=∃v H',Inv X pins σ H' s'/\RelV v u/\Q v H'
def TP(X:Cx)(pins:List (Addr × Obj))(σ:St)(Q:Bool->Hp->Prop)(b:Bool)(s':Shared):Prop:=∃H',Inv X pins σ H' s'/\Q b H'
def AP(X:Cx)(pins:List (Addr × Obj))(σ:St)(Q:List V->Hp->Prop)(us:List Value)(s':Shared):Prop:=∃vs H',Inv X pins σ H' s'/\Vals vs us/\Q vs H'
def SP(X:Cx)(pins:List (Addr × Obj))(D:Ends)(f:Flow)(s':Shared):Prop:=
 match f with
 | .next=>∃σ' H',Inv X pins σ' H' s'/\D.nx σ' H'
 | .brk=>∃σ' H',Inv X pins σ' H' s'/\D.bk σ' H'
 | .cont=>∃σ' H',Inv X pins σ' H' s'/\D.ct σ' H'
 | .ret u=>∃v σ' H',Inv X pins σ' H' s'/\RelV v u/\D.rt v H'
def PE(X:Cx)(e:Expr)(t:TE):Prop:=
 ∀(pins:List (Addr × Obj)) (s:Shared) (σ:St) (H:Hp) (Q:VK),Inv X pins σ H s->t σ H Q->wpAny (model X.prog X.w) X.A (eval e X.env) (EP X pins σ Q) X.xe s
def PT(X:Cx)(e:Expr)(t:TT):Prop:=
 ∀(pins:List (Addr × Obj)) (s:Shared) (σ:St) (H:Hp) (Q:Bool->Hp->Prop),Inv X pins σ H s->t σ H Q->wpAny (model X.prog X.w) X.A (isTrue e X.env (eval e X.env)) (TP X pins σ Q) X.xe s
def PW(X:Cx)(e:Expr)(t:TT):Prop:=
 ∀(whole:Sem Value) (pins:List (Addr × Obj)) (s:Shared) (σ:St) (H:Hp) (Q:Bool->Hp->Prop),Inv X pins σ H s->t σ H Q->wpAny (model X.prog X.w) X.A (isTrue e X.env whole) (TP X pins σ Q) X.xe s
theorem PW.pt(h:PW X e t):PT X e t:=h _
def PA(X:Cx)(es:List Expr)(t:TA):Prop:=
 ∀(pos:Pos) (pins:List (Addr × Obj)) (s:Shared) (σ:St) (H:Hp) (Q:List V->Hp->Prop),Inv X pins σ H s->t σ H Q->wpAny (model X.prog X.w) X.A (spliced (backTo pos (starEach es X.env))) (AP X pins σ Q) X.xe s
def PS(X:Cx)(st:Stmt)(t:TS):Prop:=
 ∀(pins:List (Addr × Obj)) (s:Shared) (σ:St) (H:Hp) (D:Ends),Inv X pins σ H s->t D σ H->wpAny (model X.prog X.w) X.A (exec st X.env) (SP X pins D) X.xe s
def PSs(X:Cx)(st:List Stmt)(t:TS):Prop:=
 ∀(pins:List (Addr × Obj)) (s:Shared) (σ:St) (H:Hp) (D:Ends),Inv X pins σ H s->t D σ H->wpAny (model X.prog X.w) X.A (execs st X.env) (SP X pins D) X.xe s
theorem thn{α:Type}{t:Sem α}{Q Q':α->Shared->Prop}{E:Value->Shared->Prop}(h:wpAny M A t Q E s)(hQ:∀a s,Q a s->Q' a s):wpAny M A t Q' E s:=xV h hQ λ_ _ x=>x
section
variable {X:Cx}
noncomputable def tVar (i:Nat):TE:=λσ H Q=>∃v,σ[i]?=some (some v)/\Q v H
noncomputable def tC (v:V):TE:=λ_ H Q=>Q v H
theorem zXu(hN:X.N[i]?=some x)(hv:Vis X.env.scope x)(hd:(x == ("__debug__":Str))=false:=by decide)(hcd:(x == ("__classdict__":Str))=false:=by decide):PE X (.Name x pos) (tVar i):=by
 intro pins s σ H Q I h;obtain⟨v,e,h⟩:=h;obtain⟨m,hn,hl⟩:=I.loc;obtain⟨u,r,l⟩:=hl i x v hN e hv;have fin:EP X pins σ Q u s:=⟨v,H,I,r,h⟩;rcases l with⟨hk,hm⟩|⟨hk,c,hc,hcell⟩
 ·exact wpAny_Name (wpAny_loadName_local I.ok.kind hk hn hm fin) hd
 ·rcases hk with hk|hk
  ·exact wpAny_Name (wpAny_loadName_cell I.ok.kind hk hc hcell fin) hd
  ·exact wpAny_Name (wpAny_loadName_free I.ok.kind hk hc hcell fin hcd) hd
theorem zY1{i j pos}:PE X (.Constant (.int i) j pos) (tC (.int i)):=λ_ _ _ H _ I h=>wpAny_Constant_int ⟨.int i,H,I.tok _,⟨_,rfl⟩,h⟩
theorem yAx{b j pos}:PE X (.Constant (.bool b) j pos) (tC (.bl b)):=λ_ _ _ H _ I h=>Constant_bool ⟨.bl b,H,I,rfl,h⟩
theorem zXx{x j pos}:PE X (.Constant (.str x) j pos) (tC (.str x)):=λ_ _ _ H _ I h=>Calls.Constant_str ⟨.str x,H,I.tok _,⟨_,rfl⟩,h⟩
def Gl(X:Cx)(x:Str):Prop:=X.env.kindOf x=some .globalImplicit
theorem zIs{E:Value->Shared->Prop}{pos:Pos}{Q:Value->Shared->Prop}(I:Inv X pins σ H s)(hg:Gl X x)(hm:X.mg x=some u)(h:Q u s)
  (hd:(x == ("__debug__":Str))=false:=by decide):wpAny (model X.prog X.w) X.A (eval (.Name x pos) X.env) Q E s:=
 Calls.Name_function_global I.ok.kind hg (Calls.loadGlobal_global (by rw[I.ok.glob];exact I.mod.glob.keeps I.bk) hm h) hd
theorem zFz{E:Value->Shared->Prop}{pos:Pos}{Q:Value->Shared->Prop}(I:Inv X pins σ H s)(hg:Gl X x)(hm:X.mg x=none)(hv:bootBuiltins x=some u)(h:Q u s)
  (hn:x≠"__name__":=by decide) (hd:(x == ("__debug__":Str))=false:=by decide):wpAny (model X.prog X.w) X.A (eval (.Name x pos) X.env) Q E s:=by
 obtain⟨mb,h1,h2⟩:=I.mod.blt;exact Calls.Name_function_global I.ok.kind hg (Calls.loadGlobal_builtin (by rw[I.ok.glob];exact I.mod.glob.keeps I.bk) hm (by rw[I.ok.blt];exact h1.keeps I.bk) ((h2 x hn).trans hv) h) hd
theorem zUi(hg:Gl X x)(hm:X.mg x=some u)(r:RelV v u)(hd:(x == ("__debug__":Str))=false:=by decide):PE X (.Name x pos) (tC v):=
 λ_ _ _ H _ I h=>zIs I hg hm ⟨v,H,I,r,h⟩ hd
theorem zUl(hg:Gl X x)(hm:X.mg x=none)(hv:bootBuiltins x=some u)(r:RelV v u)(hn:x≠"__name__":=by decide)(hd:(x == ("__debug__":Str))=false:=by decide):PE X (.Name x pos) (tC v):=
 λ_ _ _ H _ I h=>zFz I hg hm hv ⟨v,H,I,r,h⟩ hn hd
variable {a b:Expr}{ta tb:TE}{pos:Pos}
variable {tA tB':TT}{rest:List Expr}
noncomputable def tAnd (t u:TT):TT:=λσ H Q=>t σ H λc H1=>if c=true then u σ H1 Q else Q false H1
noncomputable def tOr (t u:TT):TT:=λσ H Q=>t σ H λc H1=>if c=true then Q true H1 else u σ H1 Q
noncomputable def tNot (t:TT):TT:=λσ H Q=>t σ H λc H1=>Q (!c) H1
theorem zTx(ha:PT X a tA):PW X (.BoolOp .And [a] pos) tA:=by
 intro wh pins s σ H Q I h;refine isTrue_and (thn (ha pins s σ H Q I h) λc s1 e=>?_);cases c with
 | true=>exact isTrue_and_nil e
 | false=>exact e
theorem zXg(ha:PT X a tA):PW X (.BoolOp .Or [a] pos) tA:=by
 intro wh pins s σ H Q I h;refine isTrue_or (thn (ha pins s σ H Q I h) λc s1 e=>?_);cases c with
 | false=>exact isTrue_or_nil e
 | true=>exact e
theorem zXi(ha:PT X a tA)(hb:PW X (.BoolOp .And (b::rest) pos) tB'):PW X (.BoolOp .And (a::b::rest) pos) (tAnd tA tB'):=by
 intro wh pins s σ H Q I h;refine isTrue_and (thn (ha pins s σ H _ I h) λc s1 hq1=>?_);obtain⟨H1,I1,q1⟩:=hq1;cases c with
 | true=>exact hb wh pins s1 σ H1 Q I1 q1
 | false=>exact⟨H1,I1,q1⟩
theorem yAr(ha:PT X a tA)(hb:PW X (.BoolOp .Or (b::rest) pos) tB'):PW X (.BoolOp .Or (a::b::rest) pos) (tOr tA tB'):=by
 intro wh pins s σ H Q I h;refine isTrue_or (thn (ha pins s σ H _ I h) λc s1 hq1=>?_);obtain⟨H1,I1,q1⟩:=hq1;cases c with
 | true=>exact⟨H1,I1,q1⟩
 | false=>exact hb wh pins s1 σ H1 Q I1 q1
theorem zXj(ha:PT X a tA):PT X (.UnaryOp .Not a pos) (tNot tA):=by intro pins s σ H Q I h;exact isTrue_not (ha pins s σ H (λc H1=>Q (!c) H1) I h)
noncomputable def zX8 (ta tb:TE):TE:=λσ H Q=>ta σ H λx H1=>∃c,x=.bl c/\if c=true then tb σ H1 Q else Q (.bl false) H1
theorem zXz{op}(h:PE X a t):PE X (.BoolOp op [a] pos) t:=λpins s σ H Q I hw=>BoolOp_one (h pins s σ H Q I hw)
theorem zY6(ha:PE X a ta)(hb:PE X (.BoolOp .And (b::rest) pos) tb):PE X (.BoolOp .And (a::b::rest) pos) (zX8 ta tb):=by
 intro pins s σ H Q I h;refine BoolOp_and (thn (ha pins s σ H _ I h) λv s1 hq1=>?_);obtain⟨x,H1,I1,r1,q1⟩:=hq1;obtain⟨c,rfl,q1⟩:=q1;cases r1;refine vQ ?_;cases c with
 | true=>exact hb pins s1 σ H1 Q I1 q1
 | false=>exact⟨.bl false,H1,I1,rfl,q1⟩
noncomputable def tIf (t:TT) (ta tb:TE):TE:=λσ H Q=>t σ H λc H1=>if c=true then ta σ H1 Q else tb σ H1 Q
theorem zQm(hc:PT X c tA)(ha:PE X a ta)(hb:PE X b tb):PE X (.IfExp c a b pos) (tIf tA ta tb):=by
 intro pins s σ H Q I h;refine wpAny_IfExp (thn (hc pins s σ H _ I h) λd s1 hq1=>?_);obtain⟨H1,I1,q1⟩:=hq1;cases d with
 | true=>exact ha pins s1 σ H1 Q I1 q1
 | false=>exact hb pins s1 σ H1 Q I1 q1
end
def SqL(K:PySem.W.Frag)(H:Hp)(a:Addr)(xs:List V):Prop:=
 Rd H a (.lst xs) \/
  ∃(o:Obj) (its:Array Value) (n:Nat),K.lookup a=some o/\o.cls=.type "list"/\o.dict=none/\o.data=.seq its n/\its.size<=sizeLine/\Vals xs its.toList
def SqT(K:PySem.W.Frag)(H:Hp)(a:Addr)(xs:List V):Prop:=
 Rd H a (.tup xs) \/
  ∃(o:Obj) (its:Array Value) (n:Nat),K.lookup a=some o/\o.cls=.type "tuple"/\o.data=.seq its n/\its.size<=sizeLine/\Vals xs its.toList
noncomputable def absV:Value->Option V
 | .none=>some .non
 | .bool b=>some (.bl b)
 | .int i _=>some (.int i)
 | .str x _=>some (.str x)
 | .bytes b _=>some (.byt b)
 | .float b _=>some (.flt b)
 | .ref a=>some (.ref a)
 | .type n=>some (.ty n)
 | _=>none
theorem RelV.abs(r:RelV x u):absV u=some x:=by
 cases x with
 | non=>cases r;rfl
 | bl _=>cases r;rfl
 | int _=>obtain⟨t,rfl⟩:=r;rfl
 | str _=>obtain⟨t,rfl⟩:=r;rfl
 | byt _=>obtain⟨t,rfl⟩:=r;rfl
 | flt _=>obtain⟨t,rfl⟩:=r;rfl
 | ref _=>cases r;rfl
 | ty _=>cases r;rfl
theorem RelV.inj(r:RelV x u)(q:RelV y u):x=y:=xA (r.abs.symm.trans q.abs)
theorem Vals.inj:∀{xs ys:List V}{us:List Value},Vals xs us->Vals ys us->xs=ys
 | _,_,_,.nil,.nil=>rfl
 | _,_,_,.cons r t,.cons r' t'=>by rw[r.inj r',Vals.inj t t']
section
variable {X:Cx}{pins:List (Addr × Obj)}{σ:St}{H:Hp}{s:Shared}{a:Addr}{xs ys:List V}
theorem Inv.list(I:Inv X pins σ H s)(h:SqL X.K H a xs):∃its:List Value,Vals xs its/\PlainL s.heap a its.toArray/\xs.length<=sizeLine:=by
 rcases h with h|⟨o,its,n,hk,hc,hd,hs,hz,r⟩
 ·obtain⟨z,its,n,r,e⟩:=h.ok I.hok;exact⟨its,r,⟨_,n,e,rfl,rfl,rfl⟩,z⟩
 ·refine⟨its.toList,r,⟨o,n,I.kIn a o hk,hc,hd,by simpa using hs⟩,?_⟩;have e:=r.length;simp only[vx]at e;lia
theorem Inv.tuple(I:Inv X pins σ H s)(h:SqT X.K H a xs):∃its:List Value,Vals xs its/\IsTup s.heap a its.toArray/\xs.length<=sizeLine:=by
 rcases h with h|⟨o,its,n,hk,hc,hs,hz,r⟩
 ·obtain⟨z,its,r,p⟩:=h.ok I.hok;exact⟨its,r,p,z⟩
 ·refine⟨its.toList,r,⟨o,I.kIn a o hk,hc,n,by simpa using hs⟩,?_⟩;have e:=r.length;simp only[vx]at e;lia
theorem Inv.list_inj(I:Inv X pins σ H s)(h:SqL X.K H a xs)(h':SqL X.K H a ys):xs=ys:=by
 obtain⟨its,r,⟨o,n,e,_,_,d⟩,_⟩:=I.list h;obtain⟨its',r',⟨o',n',e',_,_,d'⟩,_⟩:=I.list h';rw[e]at e';cases e';rw[d]at d';injection d' with d1 _
 have:its=its':=by simpa using congrArg Array.toList d1
 subst this;exact r.inj r'
theorem Inv.tuple_inj(I:Inv X pins σ H s)(h:SqT X.K H a xs)(h':SqT X.K H a ys):xs=ys:=by
 obtain⟨its,r,⟨o,e,_,n,d⟩,_⟩:=I.tuple h;obtain⟨its',r',⟨o',e',_,n',d'⟩,_⟩:=I.tuple h';rw[e]at e';cases e';rw[d]at d';injection d' with d1 _
 have:its=its':=by simpa using congrArg Array.toList d1
 subst this;exact r.inj r'
end
noncomputable abbrev Cx.wish (X:Cx) (E:Value->Shared->Prop):Cx:={ X with xe:=E }
noncomputable abbrev Cx.nox (X:Cx):Cx:=X.wish λ_ _=>False
theorem Cx.Ok.wish{X:Cx}(ok:X.Ok)(E:Value->Shared->Prop):(X.wish E).Ok:=
 ⟨ok.mod,ok.kind,ok.glob,ok.blt,ok.above,ok.inj,ok.has,ok.cab,ok.hd,ok.frames,ok.stk,ok.exf,ok.bs,ok.bsz,ok.noex,ok.exfs,ok.funs,ok.frf,ok.gds⟩
theorem Cx.Ok.unwish{X:Cx}{E:Value->Shared->Prop}(ok:(X.wish E).Ok):X.Ok:=
 ⟨ok.mod,ok.kind,ok.glob,ok.blt,ok.above,ok.inj,ok.has,ok.cab,ok.hd,ok.frames,ok.stk,ok.exf,ok.bs,ok.bsz,ok.noex,ok.exfs,ok.funs,ok.frf,ok.gds⟩
section
variable {X:Cx}{pins:List (Addr × Obj)}{σ:St}{H:Hp}{s:Shared}{E:Value->Shared->Prop}
theorem Inv.wish(I:Inv X pins σ H s)(E:Value->Shared->Prop):Inv (X.wish E) pins σ H s:=⟨I.ok.wish E,I.os,I.bare,I.base,I.loc,I.cell,I.free,I.freeC,I.pin,I.hok,I.len⟩
theorem Inv.unwish(I:Inv (X.wish E) pins σ H s):Inv X pins σ H s:=⟨I.ok.unwish,I.os,I.bare,I.base,I.loc,I.cell,I.free,I.freeC,I.pin,I.hok,I.len⟩
theorem SP.unwish(h:SP (X.wish E) pins D f s'):SP X pins D f s':=by
 cases f with
 | next=>obtain⟨σ',H',I,q⟩:=h;exact⟨σ',H',I.unwish,q⟩
 | brk=>obtain⟨σ',H',I,q⟩:=h;exact⟨σ',H',I.unwish,q⟩
 | cont=>obtain⟨σ',H',I,q⟩:=h;exact⟨σ',H',I.unwish,q⟩
 | ret u=>obtain⟨v,σ',H',I,r,q⟩:=h;exact⟨v,σ',H',I.unwish,r,q⟩
theorem PSs.nox{st:List Stmt}{t:TS}(h:PSs X.nox st t):PSs X st t:=λpins s σ H D I hw=>
 xV (h pins s σ H D (I.wish _) hw) (λ_ _ q=>q.unwish) λ_ _ z=>False.elim z
end
section
variable {X:Cx}{st:Stmt}{rest:List Stmt}{t u:TS}{e:Expr}{te:TE}{pos:Pos}
noncomputable def zX7:TS:=λD σ H=>D.nx σ H
noncomputable def tSeq (t u:TS):TS:=λD σ H=>t { D with nx:=u D } σ H
theorem zU3:PSs X [] zX7:=λ_ _ σ H _ I h=>wpAny_execs_nil ⟨σ,H,I,h⟩
theorem zQa(h1:PS X st t)(h2:PSs X rest u):PSs X (st::rest) (tSeq t u):=by
 intro pins s σ H D I h;refine wpAny_execs_cons (thn (h1 pins s σ H { D with nx:=u D } I h) λf s1 q=>?_);cases f with
 | next=>
  obtain⟨σ',H',I',q⟩:=q;exact h2 pins s1 σ' H' D I' q
 | ret v=>exact q
 | brk=>exact q
 | cont=>exact q
theorem zU2(h1:PS X st t):PSs X [st] t:=by
 intro pins s σ H D I h;refine wpAny_execs_cons (thn (h1 pins s σ H D I h) λf s1 q=>?_);cases f with
 | next=>exact wpAny_execs_nil q
 | ret v=>exact q
 | brk=>exact q
 | cont=>exact q
noncomputable def zS8:TS:=λD σ H=>D.bk σ H
theorem zQb:PS X (.Break pos) zS8:=λ_ _ σ H _ I h=>wpAny_Break ⟨σ,H,I,h⟩
theorem Inv.quiet(I:Inv X pins σ H s):interactive X.env=false:=by simp[interactive,I.ok.kind]
noncomputable def zTj (te:TE):TS:=λD σ H=>te σ H λ_ H1=>D.nx σ H1
theorem zU6(he:PE X e te)(hs:swapsWith e none pos.line X.env=pure false:=by rfl):PS X (.Expr e pos) (zTj te):=by intro pins s σ H D I h;exact wpAny_Expr_any (thn (he pins s σ H _ I h) λv s1 hz1=>by obtain⟨x,H1,I1,r1,q1⟩:=hz1;exact ⟨σ,H1,I1,q1⟩) I.quiet hs
noncomputable def tRet (te:TE):TS:=λD σ H=>te σ H D.rt
theorem zXl(he:PE X e te):PS X (.Return (some e) pos) (tRet te):=by intro pins s σ H D I h;exact wpAny_Return_some (thn (he pins s σ H _ I h) λv s1 hz2=>by obtain⟨x,H1,I1,r1,q1⟩:=hz2;exact ⟨x,σ,H1,I1,r1,q1⟩)
noncomputable def tIfS (c:TT) (t u:TS):TS:=λD σ H=>c σ H λb H1=>if b=true then t D σ H1 else u D σ H1
theorem yAs(hc:PT X c tc)(ha:PSs X a t)(hb:PSs X b u):PS X (.If c a b pos) (tIfS tc t u):=by
 intro pins s σ H D I h;refine wpAny_If (thn (hc pins s σ H _ I h) λd s1 hq1=>?_);obtain⟨H1,I1,q1⟩:=hq1;cases d with
 | true=>exact ha pins s1 σ H1 D I1 q1
 | false=>exact hb pins s1 σ H1 D I1 q1
end
abbrev TG:=V->St->Hp->(St->Hp->Prop)->Prop
abbrev TGs:=List V->St->Hp->(St->Hp->Prop)->Prop
def PG(X:Cx)(target:Expr)(t:TG):Prop:=
 ∀(pins:List (Addr × Obj)) (s:Shared) (σ:St) (H:Hp) (v:V) (u:Value) (Q:St->Hp->Prop),Inv X pins σ H s->RelV v u->t v σ H Q->
  wpAny (model X.prog X.w) X.A (assign target X.env u) (λ_ s'=>∃σ' H',Inv X pins σ' H' s'/\Q σ' H') X.xe s
def PGs(X:Cx)(ts:List Expr)(t:TGs):Prop:=
 ∀(pins:List (Addr × Obj)) (s:Shared) (σ:St) (H:Hp) (vs:List V) (us:List Value) (Q:St->Hp->Prop),Inv X pins σ H s->Vals vs us->t vs σ H Q->
  wpAny (model X.prog X.w) X.A (assignInOrder ((assignEach ts X.env).map (·.2)) us) (λ_ s'=>∃σ' H',Inv X pins σ' H' s'/\Q σ' H') X.xe s
abbrev TSet:=V->V->V->Hp->(Hp->Prop)->Prop
def PSet(X:Cx)(t:TSet):Prop:=
 ∀(pins:List (Addr × Obj)) (s:Shared) (σ:St) (H:Hp) (o i v:V) (ov iv u:Value) (Q:Hp->Prop),Inv X pins σ H s->RelV o ov->RelV i iv->RelV v u->t o i v H Q->
  wpAny (model X.prog X.w) X.A (setItem ov iv u) (λ_ s'=>∃H',Inv X pins σ H' s'/\Q H') X.xe s
section
variable {X:Cx}{pos:Pos}
noncomputable def gName (i:Nat):TG:=λv σ H Q=>Q (σ.set i (some v)) H
theorem zUb(hN:X.N.Nodup)(hi:X.N[i]?=some x)(hx:Loc X.env.scope x)(hf:X.fn x=true\/X.env.scope.names.lookup x=some .local:=by first|exact .inl rfl|exact .inr rfl|assumption):PG X (.Name x pos) (gName i):=by intro pins s σ H v u Q I r h;exact wpAny_assign_Name (zEh I hN hi hx r (λs' I'=>⟨_,H,I',h⟩) hf)
noncomputable def gNil:TGs:=λvs σ H Q=>vs=[]/\Q σ H
noncomputable def zVs (t:TG) (u:TGs):TGs:=λvs σ H Q=>∃v r,vs=v::r/\t v σ H λσ' H'=>u r σ' H' Q
theorem zU9:PGs X [] gNil:=by intro pins s σ H vs us Q I r h;obtain⟨e,h⟩:=h;subst e;cases r;exact assignInOrder_nil ⟨σ,H,I,h⟩
theorem zQi(h1:PG X e t)(h2:PGs X es u)
  (hs:(assignEach (e::es) X.env).map (·.2)=assign e X.env::(assignEach es X.env).map (·.2):=by rfl):PGs X (e::es) (zVs t u):=by
 intro pins s σ H vs us Q I r h;obtain⟨v,vr,e1,h⟩:=h;subst e1;cases r with
 | cons r rr=>
  rw[hs];refine assignInOrder_cons (thn (h1 pins s σ H _ _ _ I r h) λ_ s1 hq1=>?_);obtain⟨σ1,H1,I1,q1⟩:=hq1;exact h2 pins s1 σ1 H1 _ _ Q I1 rr q1
noncomputable def gTup (K:PySem.W.Frag) (n:Nat) (t:TGs):TG:=λv σ H Q=>∃a xs,v=.ref a/\SqT K H a xs/\xs.length=n/\t xs σ H Q
theorem zXs{k:Nat}{n:Nat}(hc:X.calm=true)(h:PGs X es t)
  (hn:(assignEach es X.env).length=n:=by rfl) (hst:(assignEach es X.env).findIdx? (·.1)=none:=by rfl):PG X (.Tuple es k pos) (gTup X.K n t):=by
 intro pins s σ H v u Q I r hw;obtain⟨a,xs,e1,hq,hl,hw⟩:=hw;subst e1;cases r;obtain⟨its,rv,ht,hz⟩:=I.tuple hq;refine assign_Tuple_tuple (I.ok.hd hc) ht (by simp[hn,<- hl,rv.length]) hst λh' hx=>?_
 have I1:Inv X pins σ H { s with heap:=h' }:=I.kept (t':=s.toks) λb o e=>hx b o (xr (xl e)) e
 exact h pins _ σ H xs _ Q I1 (by simpa using rv) hw
noncomputable def gSub (to ti:TE) (t:TSet):TG:=λv σ H Q=>to σ H λo H1=>ti σ H1 λi H2=>t o i v H2 λH3=>Q σ H3
theorem zXt(ho:PE X o to)(hi:PE X i ti)(hs:PSet X t)
  (ha:∀v,assign (.Subscript o i pos) X.env v=(do
   let ov <- holding [v] (eval o X.env)
   let iv <- holding [v,ov] (eval i X.env)
   standAt pos
   holding [v,ov,iv] (setItem ov iv v)
   release [v,ov,iv] []):=by intro _;rfl):PG X (.Subscript o i pos) (gSub to ti t):=by
 intro pins s σ H v u Q I r h;rw[ha];refine xa (xI (thn (ho pins s σ H _ I h) λov s1 hq1=>?_));obtain⟨x,H1,I1,r1,q1⟩:=hq1;refine xa (xI (thn (hi pins s1 σ H1 _ I1 q1) λiv s2 hq1=>?_));obtain⟨y,H2,I2,r2,q2⟩:=hq1;refine xa (wpAny_standAt (xa (xI (thn (hs pins s2 σ H2 x y v ov iv u _ I2 r1 r2 r q2) λ_ s3 hq1=>?_))));obtain⟨H3,I3,q3⟩:=hq1;exact wpAny_release ⟨σ,H3,I3,q3⟩
noncomputable def tAsg (te:TE) (g:TG):TS:=λD σ H=>te σ H λx H1=>g x σ H1 D.nx
theorem zMv(he:PE X e te)(hg:PG X tg g)(hs:swapsWithSole [tg] e pos.line X.env=pure false:=by rfl)(hw:swappedStores [tg] e X.env=pure none:=by rfl)
  (h1:(assignEach [tg] X.env).map (·.2)=[assign tg X.env]:=by rfl):PS X (.Assign [tg] e pos) (tAsg te g):=by
 intro pins s σ H D I h;refine wpAny_Assign_stores (thn (he pins s σ H _ I h) λv s1 hq1=>?_) hs hw;obtain⟨x,H1,I1,r1,q1⟩:=hq1;rw[h1];exact thn (hg pins s1 σ H1 x v _ I1 r1 q1) λ_ s2 q=>q
theorem zXk{i:Nat}(hN:X.N.Nodup)(hi:X.N[i]?=some x)(hx:Loc X.env.scope x)(he:PE X e te)(hs:swapsWith e (some (.Name x pos')) pos.line X.env=pure false:=by rfl)(hf:X.fn x=true\/X.env.scope.names.lookup x=some .local:=by first|exact .inl rfl|exact .inr rfl|assumption):
  PS X (.Assign [.Name x pos'] e pos) (tAsg te (gName i)):=by
 intro pins s σ H D I h;refine wpAny_Assign_Name (thn (he pins s σ H _ I h) λv s1 hq1=>?_) hs;obtain⟨y,H1,I1,r1,q1⟩:=hq1;exact zEh I1 hN hi hx r1 (λs2 I2=>⟨_,H1,I2,q1⟩) hf
noncomputable def tPar (i j:Nat) (ta:TA):TS:=λD σ H=>ta σ H λvs H1=>∃v w,vs=[v,w]/\D.nx ((σ.set i (some v)).set j (some w)) H1
theorem zXm{i j:Nat}{a b:Expr}{ta:TA}{px py pt:Pos}{kt k2 pt2}(hc:X.calm=true)(hN:X.N.Nodup)(hi:X.N[i]?=some x)(hj:X.N[j]?=some y)(hij:i≠j)
  (hx:X.env.scope.names.lookup x=some .local) (hy:X.env.scope.names.lookup y=some .local) (ha:PA X [a,b] ta)
  (hw:swappedStores [.Tuple [.Name x px,.Name y py] kt pt] (.Tuple [a,b] k2 pt2) X.env=pure (some [x,y]))
  (hs:swapsWithSole [.Tuple [.Name x px,.Name y py] kt pt] (.Tuple [a,b] k2 pt2) pos.line X.env=pure false:=by rfl):
  PS X (.Assign [.Tuple [.Name x px,.Name y py] kt pt] (.Tuple [a,b] k2 pt2) pos) (tPar i j ta):=by
 intro pins s σ H D I h;rw[exec_Assign_arm];refine xa (wpAny_standAt ?_);rw[hs];refine xa (xf ?_);rw[xc (by decide)];refine xa (Tuple_ (thn (ha _ pins s σ H _ I h) λus s1 hq1=>?_));obtain⟨vs,H1,I1,r1,q1⟩:=hq1;obtain⟨v,w,e1,q1⟩:=q1;subst e1;obtain⟨u1,u2,rfl,rv,rw'⟩:∃u1 u2,us=[u1,u2]/\RelV v u1/\RelV w u2:=by
  cases r1 with
  | cons p q=>
   cases q with
   | cons p' q'=>
    cases q';exact⟨_,_,rfl,p,p'⟩
 refine vy ?_ (by show 2<=sizeLine;decide);have I2:Inv X pins σ H1 { s1 with heap:=s1.heap.push { cls:=.type "tuple",data:=.seq [u1,u2].toArray } }:=I1.kept (t':=s1.toks) λb o e=>xp _ e
 rw[hw];refine xa (xf ?_);show wpAny (model X.prog X.w) X.A (do rule "assign.swapped-stores";let items <- unpackItems (.ref s1.heap.objs.size) 2 none;assignInOrder [λv=>bindName X.env y v,λv=>bindName X.env x v] items.reverse;pure Flow.next) _ _ _;refine xa (vz (xa (unpackItems_tuple (items:=#[u1,u2]) (I.ok.hd hc) (IsTup.new s1.heap _) λh' hx'=>?_)));have I3:=I2.kept (h':=h') (t':=s1.toks) λb o e=>hx' b o (xr (xl e)) e
 show wpAny _ _ (assignInOrder [λv=>bindName X.env y v,λv=>bindName X.env x v] [u2,u1] >>= λ_=>pure Flow.next) _ _ _;refine xa (assignInOrder_cons (wpAny_bindName (zEh I3 hN hj (.inl hy) rw' (λs2 I4=>?_) (.inr hy))));refine assignInOrder_cons (wpAny_bindName (zEh I4 hN hi (.inl hx) rv (λs3 I5=>assignInOrder_nil (xf ?_)) (.inr hx)));rw[List.set_comm _ _ (xD hij)]at I5;exact⟨_,H1,I5,q1⟩
end
structure It where
 go:Nat->Hp->Prop
 yld:Nat->Hp->V->Hp->Prop
 stop:Nat->Hp->Prop
def FpOk(X:Cx)(pins:List (Addr × Obj))(H:Hp)(b:Addr):Prop:=
 H b=none/\b≠X.env.locals/\b ∉ X.fs/\(b∈X.ex\/X.s₀.heap.objs.size<=b)/\(∀x c,X.env.cells.lookup x=some c->c≠b)/\∀p∈X.pn++pins,p.1≠b
theorem Inv.fpOk{H':Hp}{s:Shared}(I:Inv X pins σ H s)(hb:s.heap.objs.size<=b)(hn:H' b=none):FpOk X pins H' b:=by
 refine⟨hn,Nat.ne_of_gt (xv I.lt hb),I.nofs hb,.inr (xm I.sz hb),λx c e z=>?_,λp hp z=>?_⟩
 ·obtain⟨v,q⟩:=I.cell x c e;exact absurd (xv q.lt (by rw[z];exact hb)) (xR _)
 ·exact absurd (xv (xl (I.pin p hp).1) (by rw[z];exact hb)) (xR _)
structure Turn (P:Program) (w:World) (K:PySem.W.Frag) (tg:Expr) (J:It) (fp:List Addr) (it:Addr) (tn:Nat->Heap->Prop):Prop where
 mem:it∈fp
 obj:∀i h,tn i h->∀b∈fp,∃o,h.get? b=some o/\∀v,o.data≠.cell v
 keep:∀i h h',tn i h->(∀b∈fp,∀o,h.get? b=some o->h'.get? b=some o)->tn i h'
 item:∀(X:Cx),X.prog=P->X.w=w->X.K=K->X.calm=true->∀(i:Nat) (pins:List (Addr × Obj)) (s:Shared) (σ:St) (H:Hp) (E:Value->Shared->Prop),Inv X pins σ H s->(∀b∈fp,FpOk X pins H b)->tn i s.heap->J.go i H->
  wpAny (model P w) X.A (pyNext (.ref it)) (λr s1=>∃u,r=some u /\
   wpAny (model P w) X.A (letOwnedTupleGo tg (.ref it) u) (λ_ s2=>∃x H',Inv X pins σ H' s2/\RelV x u/\J.yld i H x H'/\tn (i+1) s2.heap/\∀b∈fp,H' b=none) E s1) E s
 done:∀(X:Cx),X.prog=P->X.w=w->X.K=K->X.calm=true->∀(i:Nat) (pins:List (Addr × Obj)) (s:Shared) (σ:St) (H:Hp) (E:Value->Shared->Prop),Inv X pins σ H s->(∀b∈fp,FpOk X pins H b)->tn i s.heap->J.stop i H->
  wpAny (model P w) X.A (pyNext (.ref it)) (λr s1=>r=none/\Inv X pins σ H s1) E s
 self:∀(A:Around) (i:Nat) (s:Shared) (Q:Value->Shared->Prop) (E:Value->Shared->Prop),tn i s.heap->Q (.ref it) s->wpAny (model P w) A (pyIter (.ref it)) Q E s
abbrev TI:=St->Hp->(It->Hp->Prop)->Prop
def PIE(X:Cx)(pins:List (Addr × Obj))(σ:St)(tg:Expr)(R:It->Hp->Prop)(y:Value)(s2:Shared):Prop:=
 ∃(it:Addr) (fp:List Addr) (tn:Nat->Heap->Prop) (J:It) (H':Hp),y=.ref it/\Inv X pins σ H' s2/\Turn X.prog X.w X.K tg J fp it tn/\tn 0 s2.heap/\(∀b∈fp,FpOk X pins H' b)/\R J H'
def PI(X:Cx)(tg iter:Expr)(wi:TI):Prop:=
 ∀(pins:List (Addr × Obj)) (s:Shared) (σ:St) (H:Hp) (R:It->Hp->Prop),Inv X pins σ H s->wi σ H R->
  wpAny (model X.prog X.w) X.A (eval iter X.env) (λv s1=>wpAny (model X.prog X.w) X.A (pyIter v) (PIE X pins σ tg R) X.xe s1) X.xe s
theorem zRe{M:Model}{A:Around}{E:Value->Shared->Prop}{s:Shared}{tg:Expr}{u:Value}{o:Obj}{Q:Unit->Shared->Prop}(ho:s.heap.get? it=some o)(hc:o.cls=.type n)(hd:o.data=.fields vs)
    (hn:["enumerate","zip","dict_itemiterator","dict_reverseitemiterator","odict_iterator","itertools.zip_longest","itertools.pairwise"].contains n=false) (hQ:Q () s):wpAny M A (letOwnedTupleGo tg (.ref it) u) Q E s:=by
  unfold letOwnedTupleGo;cases tg <;> first
    | exact xf hQ
    | (cases u <;> first
        | exact xf hQ
        | (refine xa (wpAny_load ho ?_)
           rw[hc,hd];show wpAny M A (if(["enumerate","zip","dict_itemiterator","dict_reverseitemiterator","odict_iterator","itertools.zip_longest","itertools.pairwise"].contains n && vs[0]? == some (rawInt _))=true then _ else _) Q E s;rw[xc (by intro h;rw[hn,Bool.false_and]at h;cases h)];exact xf hQ))
noncomputable def Itl (K:PySem.W.Frag) (a:Addr):It:=
 ⟨λi H=>∃xs x,SqL K H a xs/\xs[i]?=some x,λi H x H'=>H'=H/\∀xs,SqL K H a xs->xs[i]?=some x,λi H=>∃xs,SqL K H a xs/\xs.length<=i⟩
noncomputable def Itt (K:PySem.W.Frag) (a:Addr):It:=
 ⟨λi H=>∃xs x,SqT K H a xs/\xs[i]?=some x,λi H x H'=>H'=H/\∀xs,SqT K H a xs->xs[i]?=some x,λi H=>∃xs,SqT K H a xs/\xs.length<=i⟩
noncomputable def Itr (lo:Int) (n:Nat):It:=⟨λi _=>i<n,λi H x H'=>H'=H/\x=.int (lo+i),λi _=>n<=i⟩
theorem zM1{P:Program}{w:World}{K:PySem.W.Frag}{tg:Expr}(a it:Addr):Turn P w K tg (Itl K a) [it] it (λi h=>h.IsListIter it a i) where
 mem:=by simp
 obj:=λi h st b hb=>by
  have e:b=it:=by simpa using hb
  subst e;obtain⟨o,e,c,d⟩:=st;exact⟨o,e,λv z=>by rw[d]at z;cases z⟩
 keep:=λi h h' st k=>st.at λo e=>k it (by simp) o e
 item:=by
  intro X hP hw hK hc i pins s σ H E I hf st hg;subst hP hw hK;obtain⟨xs,x,hq,hx⟩:=hg;obtain⟨its,rv,p,hz⟩:=I.list hq;obtain⟨u,hu,ru⟩:=rv.get hx;obtain⟨f0,f1,f2,f3,f4,f5⟩:=hf it (by simp);refine wpAny_pyNext_list_item st p.isList (x:=u) (by simpa using hu) λh' st' sb=>?_
  have I1:Inv X pins σ H { s with heap:=h' }:=I.turned (t':=s.toks) (λb o hb e=>(sb.2 b hb).trans e) f0 f1 f3 f4 f5;obtain⟨o,e,c,d⟩:=id st';exact⟨u,rfl,zRe (s:={ s with heap:=h' }) e c d (by decide) ⟨x,H,I1,ru,⟨rfl,λys hy=>by rw[I.list_inj hy hq];exact hx⟩,st',λb hb=>(hf b hb).1⟩⟩
 done:=by intro X hP hw hK hc i pins s σ H E I hf st hg;subst hP hw hK;obtain⟨xs,hq,hx⟩:=hg;obtain⟨its,rv,p,hz⟩:=I.list hq;obtain⟨f0,f1,f2,f3,f4,f5⟩:=hf it (by simp);have hl:=rv.length;exact wpAny_pyNext_list_end (I.ok.hd hc) st p.isList (by simp;lia) λh' eb=>⟨rfl,I.turned (t':=s.toks) (λb o hb e=>eb b o hb e) f0 f1 f3 f4 f5⟩
 self:=λ_ _ _ _ _ st h=>wpAny_pyIter_listiter st h
theorem zKr{P:Program}{w:World}{K:PySem.W.Frag}{tg:Expr}(a it:Addr):Turn P w K tg (Itt K a) [it] it (λi h=>h.IsTupleIter it a i) where
 mem:=by simp
 obj:=λi h st b hb=>by
  have e:b=it:=by simpa using hb
  subst e;obtain⟨o,e,c,d⟩:=st;exact⟨o,e,λv z=>by rw[d]at z;cases z⟩
 keep:=λi h h' st k=>st.at λo e=>k it (by simp) o e
 item:=by
  intro X hP hw hK hc i pins s σ H E I hf st hg;subst hP hw hK;obtain⟨xs,x,hq,hx⟩:=hg;obtain⟨its,rv,p,hz⟩:=I.tuple hq;obtain⟨u,hu,ru⟩:=rv.get hx;obtain⟨f0,f1,f2,f3,f4,f5⟩:=hf it (by simp);refine wpAny_pyNext_tuple_item st (show s.heap.IsTuple a its.toArray from p) (x:=u) (by simpa using hu) λh' st' sb=>?_
  have I1:Inv X pins σ H { s with heap:=h' }:=I.turned (t':=s.toks) (λb o hb e=>(sb.2 b hb).trans e) f0 f1 f3 f4 f5;obtain⟨o,e,c,d⟩:=id st';exact⟨u,rfl,zRe (s:={ s with heap:=h' }) e c d (by decide) ⟨x,H,I1,ru,⟨rfl,λys hy=>by rw[I.tuple_inj hy hq];exact hx⟩,st',λb hb=>(hf b hb).1⟩⟩
 done:=by intro X hP hw hK hc i pins s σ H E I hf st hg;subst hP hw hK;obtain⟨xs,hq,hx⟩:=hg;obtain⟨its,rv,p,hz⟩:=I.tuple hq;obtain⟨f0,f1,f2,f3,f4,f5⟩:=hf it (by simp);have hl:=rv.length;exact wpAny_pyNext_tuple_end (I.ok.hd hc) st (show s.heap.IsTuple a its.toArray from p) (by simp;lia) λh' eb=>⟨rfl,I.turned (t':=s.toks) (λb o hb e=>eb b o hb e) f0 f1 f3 f4 f5⟩
 self:=λ_ _ _ _ _ st h=>wpAny_pyIter_tupleiter st h
theorem zKs{P:Program}{w:World}{K:PySem.W.Frag}{tg:Expr}(it:Addr)(lo:Int)(n:Nat):Turn P w K tg (Itr lo n) [it] it (λi h=>IsRangeIter h it (lo+(i:Nat)*1) ((n:Int)-(i:Nat)) 1) where
 mem:=by simp
 obj:=λi h st b hb=>by
  have e:b=it:=by simpa using hb
  subst e;exact⟨_,st,λv z=>by
   have z':Data.fields _=Data.cell v:=z;cases z'⟩
 keep:=λi h h' st k=>k it (by simp) _ st
 item:=by
  intro X hP hw hK hc i pins s σ H E I hf st hg;subst hP hw hK;obtain⟨f0,f1,f2,f3,f4,f5⟩:=hf it (by simp);have W:=Walks.range (prog:=X.prog) (w:=X.w) (I.ok.hd hc) it lo 1 n;refine W.item i s _ _ hg st λv h' tk hv st' kk=>?_
  obtain⟨t,rfl⟩:=hv;have I1:Inv X pins σ H { s with heap:=h',toks:=tk }:=I.turned (λb o hb e=>kk b o (by simpa using hb) e) f0 f1 f3 f4 f5;refine⟨_,rfl,zRe (s:={ s with heap:=h',toks:=tk }) (n:="range_iterator") st' rfl rfl (by decide) ⟨.int (lo+i),H,I1,⟨t,?_⟩,⟨rfl,rfl⟩,st',λb hb=>(hf b hb).1⟩⟩;rw[Int.mul_one]
 done:=by intro X hP hw hK hc i pins s σ H E I hf st hg;subst hP hw hK;obtain⟨f0,f1,f2,f3,f4,f5⟩:=hf it (by simp);exact wpAny_pyNext_range_end (I.ok.hd hc) st (by have:n<=i:=hg;lia) λh' eb=>⟨rfl,I.turned (t':=s.toks) (λb o hb e=>eb b o hb e) f0 f1 f3 f4 f5⟩
 self:=λ_ _ _ _ _ st h=>wpAny_pyIter_rangeiter st h
section
variable {X:Cx}{tg:Expr}
theorem zQ5{R:It->Hp->Prop}{E:Value->Shared->Prop}{lo hi:Int}{t u v:Tok}{tk:Nat}(I:Inv X pins σ H s)(h1:-(2 ^ 62)<=lo)(h2:lo<2 ^ 62)(h3:-(2 ^ 62)<=hi)(h4:hi<2 ^ 62)
  (q:R (Itr lo (hi-lo).toNat) H):wpAny (model X.prog X.w) X.A (pyIter (.ref s.heap.objs.size)) (PIE X pins σ tg R) E { s with heap:=s.heap.push { cls:=.type "range",data:=.fields #[.int lo t,.int hi u,.int 1 v] },toks:=tk }:=by
 refine wpAny_pyIter_range (IsRange.new ..) (small_one h1 h2 h3 h4) ?_;have I1:Inv X pins σ H { s with heap:=s.heap.push { cls:=.type "range",data:=.fields #[.int lo t,.int hi u,.int 1 v] },toks:=tk }:=I.kept λb o e=>xp _ e
 refine⟨(s.heap.push { cls:=.type "range",data:=.fields #[.int lo t,.int hi u,.int 1 v] }).objs.size,[(s.heap.push { cls:=.type "range",data:=.fields #[.int lo t,.int hi u,.int 1 v] }).objs.size],_,_,H,rfl,
  I1.kept (t':=tk) λb o e=>xp _ e,zKs _ lo (hi-lo).toNat,?_,λb hb=>?_,q⟩
 ·have e1:lo+((0:Nat):Int)*1=lo:=by simp
  have e2:(((hi-lo).toNat:Nat):Int)-((0:Nat):Int)=Builtin.Range.rangeSize lo hi 1:=by rw[rangeSize_one];split <;> lia
  show IsRangeIter _ _ (lo+((0:Nat):Int)*1) ((((hi-lo).toNat:Nat):Int)-((0:Nat):Int)) 1;rw[e1,e2];exact xy _ rfl
 ·have e:b=(s.heap.push { cls:=.type "range",data:=.fields #[.int lo t,.int hi u,.int 1 v] }).objs.size:=by simpa using hb
  subst e;exact I1.fpOk (xg _) (I1.hok.fresh (xg _))
noncomputable def zVo (ta:TA):TI:=λσ H R=>ta σ H λvs H1=>∃j:Int,vs=[.int j]/\-(2 ^ 62)<=j/\j<2 ^ 62/\R (Itr 0 j.toNat) H1
theorem zN0(hg:Gl X "range")(hm:X.mg "range"=none)(ha:PA X [a] ta)(hs:starEach [a] X.env=[(false,eval a X.env)]:=by rfl):PI X tg (.Call (.Name "range" p) [a] [] pos) (zVo ta):=by
 intro pins s σ H R I h;refine Call_ (zFz I hg hm boot_range (uO (thn (ha pos pins s σ H _ I h) λus s1 hq1=>?_) hs rfl));obtain⟨vs,H1,I1,r1,q1⟩:=hq1;obtain⟨j,e,q1,q2,q⟩:=q1;subst e;cases r1 with
 | cons r rr=>
  cases rr;obtain⟨t,rfl⟩:=r;exact call_range_1 (zQ5 I1 (by nofun) (by nofun) q1 q2 (by simpa using q))
noncomputable def tFor (wi:TI) (g:TG) (tb:TS):TS:=λD σ H=>wi σ H λJ H1=>∃W:Nat->Nat->St->Hp->Prop,(∃m,W 0 m σ H1)/\∀i m σ H,W i m σ H->
 (J.stop i H/\D.nx σ H)\/(J.go i H/\∃N:St->Hp->Prop,(∀σ' H',N σ' H'->∃m',m'<m/\W (i+1) m' σ' H')/\∀x H',J.yld i H x H'->g x σ H' λσ2 H2=>tb { D with nx:=N,ct:=N,bk:=D.nx } σ2 H2)
noncomputable def zHi (fp:List Addr) (h:Heap):List (Addr × Obj):=fp.filterMap λb=>(h.get? b).map λo=>(b,o)
theorem zD2{h:Heap}(hb:b∈fp)(e:h.get? b=some o):(b,o)∈zHi fp h:=v5.mpr ⟨b,hb,by rw[e];rfl⟩
theorem zNc{h:Heap}{p:Addr × Obj}(hp:p∈zHi fp h):p.1∈fp/\h.get? p.1=some p.2:=by
 obtain⟨b,hb,e⟩:=v5.mp hp;cases q:h.get? b with
 | none=>rw[q]at e;cases e
 | some o=>
  rw[q]at e;have e':(b,o)=p:=xA e;subst e';exact⟨hb,q⟩
theorem Inv.pinned{s:Shared}(I:Inv X pins σ H s)(hf:∀b∈fp,FpOk X pins H b)(ho:∀b∈fp,∃o,s.heap.get? b=some o/\∀v,o.data≠.cell v):Inv X (pins++zHi fp s.heap) σ H s:=
 I.pins_of λp hp=>(vm.mp hp).elim (λz=>I.pin p (xW _ z)) λz=>by
  obtain⟨hb,e⟩:=zNc z;obtain⟨f0,f1,f2,_⟩:=hf p.1 hb;obtain⟨o,e',d⟩:=ho p.1 hb;rw[e]at e';cases e';exact⟨e,f0,f1,f2,d⟩
theorem Inv.unpinned(I:Inv X (pins++pl) σ H s):Inv X pins σ H s:=I.pins_of λp hp=>I.pin p (xW _ (uI _ hp))
theorem zXo{pos:Pos}(hp:PassesOwn (model X.prog X.w) X.A X.env X.xe)(hc:X.calm=true)(hi:PI X tg iter wi)(hg:PG X tg g)(hb:PSs X body tb)
  (hs:∀x,foldedSetIterable iter X.env x=pure x:=by intro _;rfl):PS X (.For tg iter body [] pos) (tFor wi g tb):=by
 intro pins s σ H D I h;refine wpAny_For (thn (hi pins s σ H _ I h) λv s1 h1=>thn h1 λy s2 h2=>?_) hs;obtain⟨it,fp,tn,J,H2,e,I2,T,st2,f2,W,⟨m0,w0⟩,turn⟩:=h2;subst e
 -- what stays true of the iterator's objects through the loop
 have stat:∀{H':Hp},(∀b∈fp,H' b=none)->∀b∈fp,FpOk X pins H' b:=λhn b hb=>⟨hn b hb,(f2 b hb).2⟩
 refine codeAny_forLoop_any (λn s'=>∃i σ' H',Inv X pins σ' H' s'/\tn i s'.heap/\(∀b∈fp,H' b=none)/\W i n σ' H') ?_ m0 ⟨0,σ,H2,I2,st2,λb hb=>(f2 b hb).1,w0⟩;rintro n s3 ⟨i,σ3,H3,I3,st3,fr3,w3⟩;rcases turn i n σ3 H3 w3 with⟨stop,qn⟩|⟨go,N,hN,step⟩
 ·refine uh hp (thn (T.done X rfl rfl rfl hc i pins s3 σ3 H3 X.xe I3 (stat fr3) st3 stop) λr s4 hq1=>?_);obtain⟨hr,I4⟩:=hq1;subst hr;exact wpAny_execs_nil ⟨σ3,H3,I4,qn⟩
 ·refine uh hp (thn (T.item X rfl rfl rfl hc i pins s3 σ3 H3 X.xe I3 (stat fr3) st3 go) λr s4 hq1=>?_);obtain⟨u,hr,h4⟩:=hq1;subst hr;refine uh hp (thn h4 λ_ s5 hq1=>?_);obtain⟨x,H5,I5,r5,y5,st5,fr5⟩:=hq1;have I5':=I5.pinned (stat fr5) (T.obj _ _ st5);refine uh hp (thn (hg _ s5 σ3 H5 x u _ I5' r5 (step x H5 y5)) λ_ s6 hq1=>?_);obtain⟨σ6,H6,I6,q6⟩:=hq1;refine uh hp (thn (hb _ s6 σ6 H6 _ I6 q6) λf s7 q7=>?_);have again:∀{σ7:St}{H7:Hp},Inv X (pins++zHi fp s5.heap) σ7 H7 s7->N σ7 H7->∃m,m<n/\∃i σ' H',Inv X pins σ' H' s7/\tn i s7.heap/\(∀b∈fp,H' b=none)/\W i m σ' H':=λ{σ7 H7} I7 n7=>by
   obtain⟨m',hm,w7⟩:=hN σ7 H7 n7;refine⟨m',hm,i+1,σ7,H7,I7.unpinned,T.keep _ _ _ st5 λb hb o e=>(I7.pin (b,o) (xW _ (xW _ (zD2 hb e)))).1,λb hb=>?_,w7⟩;obtain⟨o,e,d⟩:=T.obj _ _ st5 b hb;exact(I7.pin (b,o) (xW _ (xW _ (zD2 hb e)))).2.1
  cases f with
  | next=>obtain⟨σ7,H7,I7,n7⟩:=q7;exact again I7 n7
  | cont=>obtain⟨σ7,H7,I7,n7⟩:=q7;exact again I7 n7
  | brk=>obtain⟨σ7,H7,I7,q7⟩:=q7;exact⟨σ7,H7,I7.unpinned,q7⟩
  | ret v=>obtain⟨x7,σ7,H7,I7,r7,q7⟩:=q7;exact⟨x7,σ7,H7,I7.unpinned,r7,q7⟩
end
abbrev R2:=V->V->Hp->VK->Prop
def OpR(X:Cx)(f:Value->Value->Sem Value)(r:R2):Prop:=
 ∀(pins:List (Addr × Obj)) (s:Shared) (σ:St) (H:Hp) (x y:V) (v u:Value) (Q:VK),Inv X pins σ H s->RelV x v->RelV y u->r x y H Q->
  wpAny (model X.prog X.w) X.A (f v u) (EP X pins σ Q) X.xe s
def UnR(X:Cx)(f:Value->Sem Value)(r:V->Hp->VK->Prop):Prop:=
 ∀(pins:List (Addr × Obj)) (s:Shared) (σ:St) (H:Hp) (x:V) (v:Value) (Q:VK),Inv X pins σ H s->RelV x v->r x H Q->
  wpAny (model X.prog X.w) X.A (f v) (EP X pins σ Q) X.xe s
def zBa(X:Cx)(f:Value)(r:List V->Hp->VK->Prop):Prop:=
 ∀(pins:List (Addr × Obj)) (s:Shared) (σ:St) (H:Hp) (xs:List V) (us:List Value) (Q:VK),Inv X pins σ H s->Vals xs us->r xs H Q->
  wpAny (model X.prog X.w) X.A (call f us) (EP X pins σ Q) X.xe s
def TruR(X:Cx)(r:V->Hp->(Bool->Hp->Prop)->Prop):Prop:=
 ∀(pins:List (Addr × Obj)) (s:Shared) (σ:St) (H:Hp) (x:V) (v:Value) (Q:Bool->Hp->Prop),Inv X pins σ H s->RelV x v->r x H Q->
  wpAny (model X.prog X.w) X.A (truthy v) (TP X pins σ Q) X.xe s
noncomputable def tOp (r:R2) (ta tb:TE):TE:=λσ H Q=>ta σ H λx H1=>tb σ H1 λy H2=>r x y H2 Q
noncomputable def tUn (r:V->Hp->VK->Prop) (ta:TE):TE:=λσ H Q=>ta σ H λx H1=>r x H1 Q
noncomputable def rI (C:Int->Int->Prop) (g:Int->Int->V):R2:=λx y H Q=>∃i j,x=.int i/\y=.int j/\C i j/\Q (g i j) H
noncomputable def rI0 (g:Int->Int->V):R2:=λx y H Q=>∃i j,x=.int i/\y=.int j/\Q (g i j) H
def rU(g:Int->V):V->Hp->VK->Prop:=λx H Q=>∃i,x=.int i/\Q (g i) H
section
variable {X:Cx}{a b c:Expr}{ta tb tc:TE}{pos:Pos}
theorem binT(ha:PE X a ta)(hb:PE X b tb){R:V->V->Hp->Prop}(I:Inv X pins σ H s)
  (h:ta σ H λx H1=>tb σ H1 λy H2=>R x y H2) {Q:Value->Shared->Prop}{f:Value->Value->Sem Value}
  (hf:∀v u s2 x y H2,Inv X pins σ H2 s2->RelV x v->RelV y u->R x y H2->wpAny (model X.prog X.w) X.A (f v u) Q X.xe s2):
  wpAny (model X.prog X.w) X.A (eval a X.env) (λv s₁=>wpAny (model X.prog X.w) X.A (eval b X.env) (λu s₂=>wpAny (model X.prog X.w) X.A (f v u) Q X.xe s₂) X.xe s₁) X.xe s:=by
 refine thn (ha pins s σ H _ I h) λv s1 hq1=>?_
 obtain⟨x,H1,I1,r1,q1⟩:=hq1;refine thn (hb pins s1 σ H1 _ I1 q1) λu s2 hq1=>?_
 obtain⟨y,H2,I2,r2,q2⟩:=hq1;exact hf v u s2 x y H2 I2 r1 r2 q2
theorem yAu(ho:OpR X (binaryOp op) r)(ha:PE X a ta)(hb:PE X b tb):PE X (.BinOp a op b pos) (tOp r ta tb):=by intro pins s σ H Q I h;exact wpAny_BinOp (binT ha hb I h λv u s2 x y H2 I2 rx ry q=>ho pins s2 σ H2 x y v u Q I2 rx ry q)
theorem yAt{r:V->Hp->VK->Prop}(ho:UnR X (unaryOp op) r)(ha:PE X a ta):PE X (.UnaryOp op a pos) (tUn r ta):=by intro pins s σ H Q I h;exact UnaryOp_ (thn (ha pins s σ H _ I h) λv s1 hz3=>by obtain⟨x,H1,I1,r1,q1⟩:=hz3;exact ho pins s1 σ H1 x v Q I1 r1 q1)
theorem opI{f:Value->Value->Sem Value}{C:Int->Int->Prop}{g:Int->Int->Int}
  (rule:∀(i j:Int) (t u:Tok) (s:Shared) (Q:Value->Shared->Prop) (E:Value->Shared->Prop),C i j->Q (.int (g i j) s.toks) { s with toks:=s.toks+1 }->wpAny (model X.prog X.w) X.A (f (.int i t) (.int j u)) Q E s):
  OpR X f (rI C λi j=>.int (g i j)):=by
 intro pins s σ H x y v u Q I rx ry h;obtain⟨i,j,rfl,rfl,hc,q⟩:=h;obtain⟨t,rfl⟩:=rx;obtain⟨t',rfl⟩:=ry;exact rule i j t t' s _ _ hc ⟨.int (g i j),H,I.tok _,⟨_,rfl⟩,q⟩
theorem opI0{f:Value->Value->Sem Value}{g:Int->Int->Int}
  (rule:∀(i j:Int) (t u:Tok) (s:Shared) (Q:Value->Shared->Prop) (E:Value->Shared->Prop),Q (.int (g i j) s.toks) { s with toks:=s.toks+1 }->wpAny (model X.prog X.w) X.A (f (.int i t) (.int j u)) Q E s):
  OpR X f (rI0 λi j=>.int (g i j)):=by
 intro pins s σ H x y v u Q I rx ry h;obtain⟨i,j,rfl,rfl,q⟩:=h;obtain⟨t,rfl⟩:=rx;obtain⟨t',rfl⟩:=ry;exact rule i j t t' s _ _ ⟨.int (g i j),H,I.tok _,⟨_,rfl⟩,q⟩
theorem opB0{f:Value->Value->Sem Value}{g:Int->Int->Bool}
  (rule:∀(i j:Int) (t u:Tok) (s:Shared) (Q:Value->Shared->Prop) (E:Value->Shared->Prop),Q (.bool (g i j)) s->wpAny (model X.prog X.w) X.A (f (.int i t) (.int j u)) Q E s):
  OpR X f (rI0 λi j=>.bl (g i j)):=by
 intro pins s σ H x y v u Q I rx ry h;obtain⟨i,j,rfl,rfl,q⟩:=h;obtain⟨t,rfl⟩:=rx;obtain⟨t',rfl⟩:=ry;exact rule i j t t' s _ _ ⟨.bl (g i j),H,I,rfl,q⟩
def CPow(i j:Int):Prop:=0<=j/\j<=1000000/\i.natAbs<2 ^ 64
theorem zYd:OpR X (binaryOp .Add) (rI0 λi j=>.int (i+j)):=opI0 λ_ _ _ _ _ _ _ q=>add_int q
theorem zY8:OpR X (binaryOp .Sub) (rI0 λi j=>.int (i-j)):=opI0 λ_ _ _ _ _ _ _ q=>sub_int q
theorem zYb:OpR X (binaryOp .Mod) (rI (λ_ j=>0<j) λi j=>.int (i % j)):=opI λi j _ _ _ _ _ hc q=>by
 have h1:(0:Int)<j:=hc;exact mod_int' (by nofun) (by rw[Int.fmod_eq_emod_of_nonneg i (by nofun)];exact q)
theorem zY9:OpR X (binaryOp .Pow) (rI CPow λi j=>.int (i ^ j.toNat)):=opI λ_ _ _ _ _ _ _ hc q=>pow_int_small hc.1 hc.2.1 hc.2.2 q
theorem unI{f:Value->Sem Value}{g:Int->Int}
  (rule:∀(i:Int) (t:Tok) (s:Shared) (Q:Value->Shared->Prop) (E:Value->Shared->Prop),Q (.int (g i) s.toks) { s with toks:=s.toks+1 }->wpAny (model X.prog X.w) X.A (f (.int i t)) Q E s):
  UnR X f (rU λi=>.int (g i)):=by
 intro pins s σ H x v Q I rx h;obtain⟨i,rfl,q⟩:=h;obtain⟨t,rfl⟩:=rx;exact rule i t s _ _ ⟨.int (g i),H,I.tok _,⟨_,rfl⟩,q⟩
theorem zX1:UnR X (unaryOp .USub) (rU λi=>.int (-i)):=unI λ_ _ _ _ _ q=>neg_int q
end
noncomputable def scal:V->V->Bool
 | .non,.non=>true|.non,.int _=>true|.int _,.non=>true|.non,.bl _=>true|.bl _,.non=>true|.non,.str _=>true|.str _,.non=>true
 | .int _,.int _=>true|.bl _,.bl _=>true|.str _,.str _=>true|.byt _,.byt _=>true
 | .int _,.str _=>true|.str _,.int _=>true|.bl _,.str _=>true|.str _,.bl _=>true
 | _,_=>false
noncomputable def rEq:R2:=λx y H Q=>scal x y=true/\Q (.bl (decide (x=y))) H
noncomputable def rNe:R2:=λx y H Q=>scal x y=true/\Q (.bl (!decide (x=y))) H
theorem zOp{i j:Int}:decide (V.int i=V.int j)=(i == j):=by rw[vR];simp
theorem zT2 :decide (V.bl i=V.bl j)=(i == j):=by rw[vR];simp
theorem zOo :decide (V.str i=V.str j)=(i == j):=by rw[vR];simp
theorem zOq{i j:Array UInt8}:decide (V.byt i=V.byt j)=(i.toList == j.toList):=by rw[vR];cases i;cases j;simp
section
variable {X:Cx}{a b c:Expr}{ta tb tc:TE}{pos:Pos}
theorem zAi{Q:VK}(I:Inv X pins σ H s)(q:Q (.bl k) H)(e:k=k'):EP X pins σ Q (.bool k') s:=by subst e;exact⟨.bl k,H,I,rfl,q⟩
theorem zUy:OpR X (compareOp .Eq) rEq:=by
 intro pins s σ H x y v u Q I rx ry h;obtain⟨hs,q⟩:=h;cases x with
 | non=>
  cases rx;cases y with
  | non=>cases ry;exact PySem.EqNone.eq_none_none (zAi I q (by simp))
  | bl j=>cases ry;exact PySem.EqNone.eq_none_bool (zAi I q (by simp))
  | int j=>obtain⟨t',rfl⟩:=ry;exact PySem.EqNone.eq_none_int (zAi I q (by simp))
  | str j=>obtain⟨t',rfl⟩:=ry;exact PySem.EqNone.eq_none_str (zAi I q (by simp))
  | _=>exact absurd (show false=true from hs) xP
 | bl i=>
  cases rx;cases y with
  | non=>cases ry;exact PySem.EqNone.eq_bool_none (zAi I q (by simp))
  | bl j=>cases ry;exact eq_bool (zAi I q zT2)
  | str j=>obtain⟨t',rfl⟩:=ry;exact PySem.EqMixed.eq_bool_str (zAi I q (by simp))
  | _=>exact absurd (show false=true from hs) xP
 | int i=>
  obtain⟨t,rfl⟩:=rx;cases y with
  | non=>cases ry;exact PySem.EqNone.eq_int_none (zAi I q (by simp))
  | int j=>obtain⟨t',rfl⟩:=ry;exact eq_int (zAi I q zOp)
  | str j=>obtain⟨t',rfl⟩:=ry;exact PySem.EqMixed.eq_int_str (zAi I q (by simp))
  | _=>exact absurd (show false=true from hs) xP
 | str i=>
  obtain⟨t,rfl⟩:=rx;cases y with
  | non=>cases ry;exact PySem.EqNone.eq_str_none (zAi I q (by simp))
  | bl j=>cases ry;exact PySem.EqMixed.eq_str_bool (zAi I q (by simp))
  | int j=>obtain⟨t',rfl⟩:=ry;exact PySem.EqMixed.eq_str_int (zAi I q (by simp))
  | str j=>obtain⟨t',rfl⟩:=ry;exact eq_str (zAi I q zOo)
  | _=>exact absurd (show false=true from hs) xP
 | byt i=>
  obtain⟨t,rfl⟩:=rx;cases y with
  | byt j=>obtain⟨t',rfl⟩:=ry;exact PySem.W.eq_bytes (zAi I q zOq)
  | _=>exact absurd (show false=true from hs) xP
 | _=>cases y <;> exact absurd (show false=true from hs) xP
theorem zUs:OpR X (compareOp .NotEq) rNe:=by
 intro pins s σ H x y v u Q I rx ry h;obtain⟨hs,q⟩:=h;cases x with
 | non=>
  cases rx;cases y with
  | non=>cases ry;exact PySem.EqNone.ne_none_none (zAi I q (by simp))
  | bl j=>cases ry;exact PySem.EqNone.ne_none_bool (zAi I q (by simp))
  | int j=>obtain⟨t',rfl⟩:=ry;exact PySem.EqNone.ne_none_int (zAi I q (by simp))
  | str j=>obtain⟨t',rfl⟩:=ry;exact PySem.EqNone.ne_none_str (zAi I q (by simp))
  | _=>exact absurd (show false=true from hs) xP
 | bl i=>
  cases rx;cases y with
  | non=>cases ry;exact PySem.EqNone.ne_bool_none (zAi I q (by simp))
  | bl j=>cases ry;exact ne_bool (zAi I q (congrArg not zT2))
  | str j=>obtain⟨t',rfl⟩:=ry;exact PySem.EqMixed.ne_bool_str (zAi I q (by simp))
  | _=>exact absurd (show false=true from hs) xP
 | int i=>
  obtain⟨t,rfl⟩:=rx;cases y with
  | non=>cases ry;exact PySem.EqNone.ne_int_none (zAi I q (by simp))
  | int j=>obtain⟨t',rfl⟩:=ry;exact ne_int (zAi I q (congrArg not zOp))
  | str j=>obtain⟨t',rfl⟩:=ry;exact PySem.EqMixed.ne_int_str (zAi I q (by simp))
  | _=>exact absurd (show false=true from hs) xP
 | str i=>
  obtain⟨t,rfl⟩:=rx;cases y with
  | non=>cases ry;exact PySem.EqNone.ne_str_none (zAi I q (by simp))
  | bl j=>cases ry;exact PySem.EqMixed.ne_str_bool (zAi I q (by simp))
  | int j=>obtain⟨t',rfl⟩:=ry;exact PySem.EqMixed.ne_str_int (zAi I q (by simp))
  | str j=>obtain⟨t',rfl⟩:=ry;exact ne_str (zAi I q (congrArg not zOo))
  | _=>exact absurd (show false=true from hs) xP
 | byt i=>
  obtain⟨t,rfl⟩:=rx;cases y with
  | byt j=>obtain⟨t',rfl⟩:=ry;exact PySem.W.ne_bytes (zAi I q (congrArg not zOq))
  | _=>exact absurd (show false=true from hs) xP
 | _=>cases y <;> exact absurd (show false=true from hs) xP
theorem yAy:OpR X (compareOp .Lt) (rI0 λi j=>.bl (decide (i<j))):=opB0 λ_ _ _ _ _ _ _ q=>lt_int q
theorem yAz:OpR X (compareOp .Gt) (rI0 λi j=>.bl (decide (j<i))):=opB0 λ_ _ _ _ _ _ _ q=>gt_int q
theorem yB0:OpR X (compareOp .GtE) (rI0 λi j=>.bl (decide (j<=i))):=opB0 λ_ _ _ _ _ _ _ q=>ge_int q
theorem zN8:OpR X (compareOp .Lt) (λx y H Q=>∃i j,x=.str i/\y=.str j/\Q (.bl (decide (i.cps.toList<j.cps.toList))) H):=by intro pins s σ H x y v u Q I rx ry h;obtain⟨i,j,rfl,rfl,q⟩:=h;obtain⟨t,rfl⟩:=rx;obtain⟨t',rfl⟩:=ry;exact lt_str (zAi I q rfl)
theorem nomark(b:Expr)(h:op≠.In:=by decide)(h2:op≠.NotIn:=by decide):behindInMarks op b=false:=by
 have e1:(op == CmpOp.In)=false:=by cases op <;> first|rfl|exact absurd rfl h
 have e2:(op == CmpOp.NotIn)=false:=by cases op <;> first|rfl|exact absurd rfl h2
 cases b <;> simp[behindInMarks,e1,e2]
theorem zUj(ho:OpR X (compareOp op) r)(ha:PE X a ta)(hb:PE X b tb)(hm:behindInMarks op b=false):PE X (.Compare a [op] [b] pos) (tOp r ta tb):=by intro pins s σ H Q I h;exact wpAny_Compare1 (binT ha hb I h λv u s2 x y H2 I2 rx ry q=>ho pins s2 σ H2 x y v u Q I2 rx ry q) hm
noncomputable def zX5 (t:TE):TT:=λσ H Q=>t σ H λx H'=>∃k,x=.bl k/\Q k H'
theorem zU1(ho:OpR X (compareOp op) r)(ha:PE X a ta)(hb:PE X b tb)(hm:behindInMarks op b=false):PT X (.Compare a [op] [b] pos) (zX5 (tOp r ta tb)):=by
 intro pins s σ H Q I h;refine wpAny_isTrue_Compare1 (thn (ha pins s σ H _ I h) λv s1 ⟨x,H1,I1,r1,q1⟩=>thn (hb pins s1 σ H1 _ I1 q1) λu s2 ⟨y,H2,I2,r2,q2⟩=>
  thn (ho pins s2 σ H2 x y v u _ I2 r1 r2 q2) λc s3 ⟨z,H3,I3,r3,k,e,q3⟩=>?_) hm
 subst e;cases r3;exact vQ ⟨H3,I3,q3⟩
def TruV(K:PySem.W.Frag)(x:V)(H:Hp)(k:Bool):Prop:=
 match x with
 | .non=>k=false
 | .bl b=>k=b
 | .int i=>k=(i != 0)
 | .str y=>y.length<=sizeLine/\k=((y.length:Int) != 0)
 | .byt y=>y.size<=sizeLine/\k=((y.size:Int) != 0)
 | .ref p=>(∃xs,SqL K H p xs/\k=!xs.isEmpty)\/(∃xs,SqT K H p xs/\k=!xs.isEmpty)\/∃kvs,H p=some (.dK kvs)/\k=!kvs.isEmpty
 | _=>False
theorem zLc{κ:Type}{kvs:List (κ × V)}{vs:List (κ × Value)}(r:KV kvs vs):(!vs.isEmpty)=!kvs.isEmpty:=by cases r <;> rfl
theorem zG1{xs:List V}{its:List Value}(r:Vals xs its):(!its.toArray.isEmpty)=!xs.isEmpty:=by cases r <;> simp
theorem line63:(sizeLine:Nat)<2 ^ 63:=by rw[vf];decide
theorem zX4:TruR X (λx H Q=>∃k,TruV X.K x H k/\Q k H):=by
 intro pins s σ H x v Q I rx h;obtain⟨k,e,q⟩:=h;have hl:=line63;have hs:sizeLine=16777216:=vf;cases x with
 | non=>
  cases rx;have e':k=false:=e;subst e';exact truthy_none ⟨H,I,q⟩
 | bl b=>
  cases rx;have e':k=b:=e;subst e';exact vQ ⟨H,I,q⟩
 | int i=>
  obtain⟨t,rfl⟩:=rx;have e':k=(i != 0):=e;subst e';exact PySem.P.truthy_int ⟨H,I,q⟩
 | str y=>
  obtain⟨t,rfl⟩:=rx;obtain⟨hy,e'⟩:y.length<=sizeLine/\k=((y.length:Int) != 0):=e;subst e';exact PySem.P.truthy_str (by nofun) ⟨H,I.tok _,q⟩
 | byt y=>
  obtain⟨t,rfl⟩:=rx;obtain⟨hy,e'⟩:y.size<=sizeLine/\k=((y.size:Int) != 0):=e;subst e';exact PySem.W.truthy_bytes (by nofun) ⟨H,I.tok _,q⟩
 | ref p=>
  cases rx;have e':(∃xs,SqL X.K H p xs/\k=!xs.isEmpty)\/(∃xs,SqT X.K H p xs/\k=!xs.isEmpty)\/∃kvs,H p=some (.dK kvs)/\k=!kvs.isEmpty:=e
  rcases e' with⟨xs,hx,e'⟩|⟨xs,hx,e'⟩|⟨kvs,hx,e'⟩
  ·subst e';obtain⟨its,r,pl,hz⟩:=I.list hx;have hlen:=r.length;exact wpAny_truthy_list pl.isList (by simp only[xq];lia) ⟨H,I.tok _,by rw[zG1 r];exact q⟩
  ·subst e';obtain⟨its,r,pl,hz⟩:=I.tuple hx;have hlen:=r.length;exact truthy_tuple pl (by simp only[xq];lia) ⟨H,I.tok _,by rw[zG1 r];exact q⟩
  ·subst e';obtain⟨hz,hS,vs,r,m⟩:kvs.length<=sizeLine/\(p == sysModules)=false/\∃vs,KV kvs vs/\s.heap.DictOf (zB1 X.prog X.w) p vs:=I.hok p _ hx
   have hlen:kvs.length=vs.length:=v3 r;exact wpAny_truthy_dict hS m (by nofun) ⟨H,I.tok _,by rw[zLc r];exact q⟩
 | _=>exact(show False from e).elim
theorem zQ7(ha:PE X a ta)(he:∀whole,isTrue a X.env whole=(do let v <- whole;standAt a.pos;holding [v] (truthy v))):
  PT X a (λσ H Q=>ta σ H λx H'=>∃k,TruV X.K x H' k/\Q k H'):=by
 intro pins s σ H Q I h;exact isTrue_plain (thn (ha pins s σ H _ I h) λv s1 hz4=>by obtain⟨x,H1,I1,r1,q1⟩:=hz4;exact zX4 pins s1 σ H1 x v Q I1 r1 q1) (he _)
theorem zKz:OpR X (binaryOp .Add) (λx y H Q=>∃i j,x=.str i/\y=.str j/\i.length+j.length<=sizeLine/\Q (.str (i++j)) H):=by intro pins s σ H x y v u Q I rx ry h;obtain⟨i,j,rfl,rfl,hz,q⟩:=h;obtain⟨t,rfl⟩:=rx;obtain⟨t',rfl⟩:=ry;exact add_str (λt' tk=>⟨.str (i++j),H,I.tok _,⟨_,rfl⟩,q⟩) hz
theorem vals1(r:Vals [x] us):∃u,us=[u]/\RelV x u:=by
 cases r with
 | cons r1 r2=>cases r2;exact⟨_,rfl,r1⟩
theorem vals2(r:Vals [x,y] us):∃u w',us=[u,w']/\RelV x u/\RelV y w':=by
 cases r with
 | cons r1 r2=>
  cases r2 with
  | cons r3 r4=>cases r4;exact⟨_,_,rfl,r1,r3⟩
theorem zRw:zBa X (.builtin "abs") (λxs H Q=>∃i,xs=[.int i]/\Q (.int (if i<0 then -i else i)) H):=by intro pins s σ H xs us Q I r h;obtain⟨i,rfl,q⟩:=h;obtain⟨u,rfl,t,rfl⟩:=vals1 r;exact call_abs_int λu tk=>⟨.int (if i<0 then -i else i),H,I.tok _,⟨_,rfl⟩,q⟩
theorem zPa(hc:X.calm=true):zBa X (.builtin "max") (λxs H Q=>∃i j,xs=[.int i,.int j]/\Q (.int (if j > i then j else i)) H):=by
 intro pins s σ H xs us Q I r h;obtain⟨i,j,rfl,q⟩:=h;obtain⟨u,w',rfl,⟨t,rfl⟩,⟨t',rfl⟩⟩:=vals2 r;refine max_two_ints (I.ok.hd hc) λh' tk k=>⟨_,H,I.kept k,?_,q⟩
 by_cases hj:j > i
 ·rw[xb hj,xb hj];exact⟨_,rfl⟩
 ·rw[xc hj,xc hj];exact⟨_,rfl⟩
theorem zP9(hc:X.calm=true):zBa X (.builtin "min") (λxs H Q=>∃i j,xs=[.int i,.int j]/\Q (.int (if j<i then j else i)) H):=by
 intro pins s σ H xs us Q I r h;obtain⟨i,j,rfl,q⟩:=h;obtain⟨u,w',rfl,⟨t,rfl⟩,⟨t',rfl⟩⟩:=vals2 r;refine min_two_ints (I.ok.hd hc) λh' tk k=>⟨_,H,I.kept k,?_,q⟩
 by_cases hj:j<i
 ·rw[xb hj,xb hj];exact⟨_,rfl⟩
 ·rw[xc hj,xc hj];exact⟨_,rfl⟩
end
structure ObjM (h:Heap) (x dx C:Addr) (mA:Str->Option Value):Prop where
 obj:h.get? x=some (PySem.W.instObj C dx)
 ns:h.Ns1 dx mA
 ne:dx≠x
theorem zNo{h:Heap}{mA:Str->Option Value}(n:h.Ns1 dx mA):∃od,h.get? dx=some od/\∀name,PySem.W.lookIn name od=some (mA name):=by
 obtain⟨o,es,ep,ho,hd,hk,_,hm⟩:=n;refine⟨o,ho,λname=>?_⟩;have e:=hm name;unfold nsFind findBy at e;rw[<- Array.find?_toList]at e;unfold PySem.W.lookIn;rw[hd];dsimp only;split
 ·rename_i y q;rw[q]at e;exact congrArg some e
 ·rename_i q;rw[q]at e;have a:es.toList.any (·.refKey)=false:=by
   rw[List.any_eq_false];intro y hy;obtain⟨z,t,hkey⟩:=hk y (uJ.mp hy);simp[DictEntry.refKey,hkey]
  have a':¬ es.toList.any (·.refKey)=true:=by rw[a];exact xP
  rw[xc a'];exact congrArg some e
theorem ObjM.look{mA:Str->Option Value}(I:ObjM h x dx C mA):∃od,PySem.W.InstAt h x (PySem.W.instObj C dx) C (some od)/\∀name,PySem.W.lookIn name od=some (mA name):=
 let ⟨od,ho,hl⟩:=zNo I.ns
 ⟨od,⟨I.obj,rfl,rfl,ho⟩,hl⟩
section
variable {prog:Program}{w:World}{A:Around}{E:Value->Shared->Prop}{s:Shared}{K:PySem.W.Frag}{x dx C f:Addr}{mA:Str->Option Value}{name:Str}{v:Value}
theorem get_map{expr:Bool}{Q:Value->Shared->Prop}(X:K.In s.heap)(I:ObjM s.heap x dx C mA)(hg:PySem.W.plainGet K C name=true)(hh:PySem.W.hasDictIn K C=true)
  (ha:PySem.W.findIn K (.ref C) name=some none) (hv:mA name=some v) (hv':PySem.W.handedIn v=true) (h:Q v { s with toks:=s.toks+1 }):
  wpAny (model prog w) A (getAttr (.ref x) name expr) Q E s:=by
 obtain⟨od,J,hl⟩:=I.look;exact PySem.W.get_value X J (PySem.W.plainGet_of hg).1 (PySem.W.findObj_own hh ha rfl (by rw[hl,hv])) hv' h
theorem zRf{pl:Sem Bool}{Q:Value × List Value->Shared->Prop}(X:K.In s.heap)(I:ObjM s.heap x dx C mA)(hg:PySem.W.plainGet K C name=true)
  (hf:PySem.W.findIn K (.ref C) name=some (some (.ref f))) (ht:PySem.W.isFn K (.ref f)=true) (hv:mA name=none) (h:Q (.ref f,[.ref x]) s):
  wpAny (model prog w) A (getMethod (.ref x) name pl) Q E s:=by
 obtain⟨od,J,hl⟩:=I.look;exact PySem.W.method_fn X J (PySem.W.plainGet_of hg).1 (PySem.W.plainGet_of hg).2 hf (x5.mp ht) (by show(PySem.W.lookIn name od).map (·.isSome)=some false;rw[hl,hv];rfl) h
theorem zTs{ns:List Str}{Q:Unit->Shared->Prop}(X:K.In s.heap)(I:ObjM s.heap x dx C mA)
  (hs:PySem.W.findIn K (.ref C) "__setattr__"=some (some (.builtin "object.__setattr__"))) (hp:PySem.W.plainOver K C=true) (ht:PySem.W.takerIn K C name=some none) (hh:PySem.W.hasDictIn K C=true)
  (hw:PySem.Within mA ns) (hsz:ns.length<=sizeLine)
  (h:∀h',ObjM h' x dx C (λy=>if y=name then some v else mA y)->Heap.SameBut dx s.heap h'->Q () { s with heap:=h',toks:=s.toks+2 }):
  wpAny (model prog w) A (setAttr (.ref x) name v) Q E s:=by
 obtain⟨od,J,hl⟩:=I.look;refine PySem.W.set_plain X J hs (PySem.W.osa_open (s:={ s with toks:=s.toks+1 }) (r:=none) X J hp ht λb=>?_);obtain⟨cd,hc,hd'⟩:=PySem.W.any_some hh;have hx:s.heap.get? x=some ⟨.ref C,some dx,.plain,#[]⟩:=I.obj;refine xa (xf (xa (xa (wpAny_loadPart hx (xa (PySem.W.Looks.here (s:={ s with toks:=s.toks+1 }) (PySem.W.looks_clsIn X hc) ?_))))));rw[hd'];refine xf (a:=some dx) (xa (xf (xa ?_)));refine wpAny_nsSet1 (s:={ s with toks:=s.toks+1 }) I.ns λh' hn2 hs2=>?_
 obtain⟨oD,esD,epD,hoD,hdD,hcD⟩:=hn2.count (PySem.Within.cons name v hw);refine xa (wpAny_lookBehind hoD (by rw[hdD];exact pastItsLine_dict (xm hcD (by rw[xo];lia))) ?_);exact xf (h _ ⟨(hs2.2 _ (xD I.ne)).trans I.obj,hn2,I.ne⟩ hs2)
theorem zR1{R:Result->Shared->Prop}{vs:List Value}{kw:List (Str × Value)}(X:K.In s.heap)(hm:PySem.W.makesIn K C=true)
  (hi:PySem.W.findIn K (.ref C) "__init__"=some (some (.ref f))) (hf:PySem.W.typeIn K (.ref f)=some (.type "function"))
  (h:codeAny (model prog w) (A.under (.builtin "type.__call__" ⟨.ref C::vs,kw⟩)) (.call (.ref f) ⟨.ref (s.heap.objs.size+1)::vs,kw⟩) (PySem.W.InitBack (s.heap.objs.size+1) R)
   { s with heap:=(s.heap.push PySem.W.emptyDict).push (PySem.W.instObj C s.heap.objs.size) }):
  codeAny (model prog w) A (.call (.ref C) ⟨vs,kw⟩) R s:=by
 obtain⟨hh,g,d,t,os⟩:=s;exact PySem.W.make_core (PySem.W.makes_of X hm) (PySem.W.looks_findIn X hi) (λself=>PySem.W.bind_fn X self hf) (.inl rfl) h
end
noncomputable def putF (f:Str) (v:V):List (Str × V)->List (Str × V)
 | []=>[(f,v)]
 | (g,x)::r=>if g=f then(g,v)::r else(g,x)::putF f v r
theorem zF3(f g:Str)(v:V):∀fs:List (Str × V),(putF f v fs).lookup g=if g=f then some v else fs.lookup g
 | []=>by
  show List.lookup g [(f,v)]=_;by_cases h:g=f
  ·have hb:(g == f)=true:=x5.mpr h;simp only[List.lookup,hb,xb h]
  ·have hb:(g == f)=false:=ug.mpr h;simp only[List.lookup,hb,xc h]
 | (k,x)::r=>by
  have ih:=zF3 f g v r;rw[show putF f v ((k,x)::r)=(if k=f then(k,v)::r else(k,x)::putF f v r)from rfl];by_cases hk:k=f
  ·rw[xb hk];by_cases h:g=k
   ·have hb:(g == k)=true:=x5.mpr h;simp only[List.lookup,hb,xb (h.trans hk)]
   ·have hb:(g == k)=false:=ug.mpr h;simp only[List.lookup,hb,xc (λe:g=f=>h (e.trans hk.symm))]
  ·rw[xc hk];by_cases h:g=k
   ·have hb:(g == k)=true:=x5.mpr h;simp only[List.lookup,hb,xc (λe:g=f=>hk (h.symm.trans e))]
   ·have hb:(g == k)=false:=ug.mpr h;simp only[List.lookup,hb];exact ih
theorem zF7(f:Str)(v:V):∀fs:List (Str × V),f∈(putF f v fs).map (·.1)/\∀g,g∈fs.map (·.1)->g∈(putF f v fs).map (·.1)
 | []=>⟨by simp[putF],λg h=>by simp at h⟩
 | (k,x)::r=>by
  obtain⟨i1,i2⟩:=zF7 f v r;rw[show putF f v ((k,x)::r)=(if k=f then(k,v)::r else(k,x)::putF f v r)from rfl];by_cases hk:k=f
  ·rw[xb hk];subst hk;exact⟨by simp,λg h=>by simpa using h⟩
  ·rw[xc hk];refine⟨?_,λg h=>?_⟩
   ·rw[xt];exact xN _ i1
   ·rw[xt]at h ⊢;rcases xh.mp h with e|e
    ·exact xh.mpr (.inl e)
    ·exact xN _ (i2 g e)
theorem zF5(f:Str)(v:V):∀fs:List (Str × V),(putF f v fs).length<=fs.length+1
 | []=>by simp[putF]
 | (k,x)::r=>by
  have ih:=zF5 f v r;rw[show putF f v ((k,x)::r)=(if k=f then(k,v)::r else(k,x)::putF f v r)from rfl];by_cases hk:k=f
  ·rw[xb hk,xo,xo];lia
  ·rw[xc hk,xo,xo];lia
theorem RelO.some_of(r:RelO (some v) o):∃u,o=some u/\RelV v u:=by
 cases o with
 | none=>exact(show False from r).elim
 | some u=>exact⟨u,rfl,r⟩
theorem RelO.none_of(r:RelO none o):o=none:=by
 cases o with
 | none=>rfl
 | some u=>exact(show False from r).elim
theorem zO3(r:RelV v u):PySem.W.handedIn u=true:=by
 cases v with
 | non=>cases(show u=Value.none from r);rfl
 | bl b=>cases(show u=Value.bool b from r);rfl
 | int i=>obtain⟨t,e⟩:=(show ∃t,u=Value.int i t from r);cases e;rfl
 | str x=>obtain⟨t,e⟩:=(show ∃t,u=Value.str x t from r);cases e;rfl
 | byt b=>obtain⟨t,e⟩:=(show ∃t,u=Value.bytes b t from r);cases e;rfl
 | flt b=>obtain⟨t,e⟩:=(show ∃t,u=Value.float b t from r);cases e;rfl
 | ref a=>cases(show u=Value.ref a from r);rfl
 | ty n=>cases(show u=Value.type n from r);rfl
section
variable {P:Program}{w:World}{H H':Hp}{h h':Heap}{a C dx:Addr}{fs fs':List (Str × V)}
theorem zGo(hok:HOk P w H h)(e:H a=some (.ins C dx fs)):∃mA,ObjM h a dx C mA/\(∀f,RelO (fs.lookup f) (mA f))/\PySem.Within mA (fs.map (·.1))/\fs.length<=1000/\H dx=some (.own a):=by obtain⟨d,z,ne,ob,mA,n,r,q⟩:=(show ObjOk P w H h a (.ins C dx fs)from hok a _ e);exact⟨mA,⟨ob,n,ne⟩,r,q,z,d⟩
end
structure Cls (K:PySem.W.Frag) (C:Addr):Prop where
 pg:PySem.W.plainGet K C Str.empty=true
 hd:PySem.W.hasDictIn K C=true
 po:PySem.W.plainOver K C=true
 sa:PySem.W.findIn K (.ref C) "__setattr__"=some (some (.builtin "object.__setattr__"))
theorem Cls.get{K:PySem.W.Frag}{C:Addr}(c:Cls K C)(f:Str):PySem.W.plainGet K C f=true:=c.pg
def NoAttr(K:PySem.W.Frag)(C:Addr)(f:Str):Prop:=PySem.W.findIn K (.ref C) f=some none
theorem NoAttr.taker{K:PySem.W.Frag}{C:Addr}{f:Str}(n:NoAttr K C f):PySem.W.takerIn K C f=some none:=by unfold PySem.W.takerIn;rw[show PySem.W.findIn K (.ref C) f=some none from n];rfl
structure Meth (K:PySem.W.Frag) (C:Addr) (m:Str) (f:Addr):Prop where
 at_:PySem.W.findIn K (.ref C) m=some (some (.ref f))
 fn:PySem.W.isFn K (.ref f)=true
 kp:PySem.W.keepIn K (.ref f)=true
section
variable {X:Cx}{pins:List (Addr × Obj)}{σ:St}{H:Hp}{s:Shared}{a C dx:Addr}{fs:List (Str × V)}{f:Str}{v:V}{A:Around}{E:Value->Shared->Prop}
theorem zLe{b:Bool}{Q:Value->Shared->Prop}(I:Inv X pins σ H s)(e:H a=some (.ins C dx fs))(c:Cls X.K C)(n:NoAttr X.K C f)(l:fs.lookup f=some v)
  (h:∀u s',Inv X pins σ H s'->RelV v u->Q u s'):wpAny (model X.prog X.w) A (getAttr (.ref a) f b) Q E s:=by
 obtain⟨mA,O,r,_,_,_⟩:=zGo I.hok e;obtain⟨u,hu,ru⟩:=RelO.some_of (v:=v) (o:=mA f) (by rw[<- l];exact r f);exact get_map I.kIn O (c.get f) c.hd n hu (zO3 ru) (h u _ (I.tok _) ru)
theorem zLd{pl:Sem Bool}{Q:Value × List Value->Shared->Prop}(I:Inv X pins σ H s)(e:H a=some (.ins C dx fs))(c:Cls X.K C)(k:Meth X.K C m g)(l:fs.lookup m=none)
  (h:Q (.ref g,[.ref a]) s):wpAny (model X.prog X.w) A (getMethod (.ref a) m pl) Q E s:=by
 obtain⟨mA,O,r,_,_,_⟩:=zGo I.hok e;have hn:mA m=none:=RelO.none_of (by rw[<- l];exact r m);exact zRf I.kIn O (c.get m) k.at_ k.fn hn h
theorem zKu{Q:Unit->Shared->Prop}(I:Inv X pins σ H s)(e:H a=some (.ins C dx fs))(c:Cls X.K C)(n:NoAttr X.K C f)(hl:fs.length<1000)(ry:RelV y u)
  (h:∀s',Inv X pins σ (upd H a (.ins C dx (putF f y fs))) s'->Q () s'):wpAny (model X.prog X.w) A (setAttr (.ref a) f u) Q E s:=by
 obtain⟨mA,O,r,wi,_,ho⟩:=zGo I.hok e;have hz:(fs.map (·.1)).length<=sizeLine:=by rw[xn,vf];lia
 refine zTs I.kIn O c.sa c.po n.taker c.hd wi hz λh' O' sb=>h _ ?_
 have hd:∃o,h'.get? dx=some o:=let ⟨o,_,_,e',_⟩:=O'.ns;⟨o,e'⟩
 refine I.write (x:=a) (e:=dx) (by rw[e];exact True.intro) (.inr ho) (λb q hb z=>(sb.2 b hb).trans z) hd ?_;refine⟨by rw[zAf O.ne];exact ho,?_,O.ne,O'.obj,_,O'.ns,λg=>?_,λg hg=>?_⟩
 ·have:=zF5 f y fs;lia
 ·show RelO ((putF f y fs).lookup g) (if g=f then some u else mA g);rw[zF3];by_cases q:g=f
  ·rw[xb q,xb q];exact ry
  ·rw[xc q,xc q];exact r g
 ·by_cases q:g=f
  ·rw[q];exact(zF7 f y fs).1
  ·refine(zF7 f y fs).2 g (wi g λz=>hg ?_);show(if g=f then some u else mA g)=none;rw[xc q];exact z
theorem Inv.made(I:Inv X pins σ H s):Inv X pins σ (upd (upd H s.heap.objs.size (.own (s.heap.objs.size+1))) (s.heap.objs.size+1) (.ins C s.heap.objs.size []))
  { s with heap:=(s.heap.push PySem.W.emptyDict).push (PySem.W.instObj C s.heap.objs.size) }:=by
 have e1:(s.heap.push PySem.W.emptyDict).get? s.heap.objs.size=some PySem.W.emptyDict:=xy s.heap rfl;have e2:((s.heap.push PySem.W.emptyDict).push (PySem.W.instObj C s.heap.objs.size)).get? (s.heap.objs.size+1)=some (PySem.W.instObj C s.heap.objs.size):=by
  have:=xy (s.heap.push PySem.W.emptyDict) (o:=PySem.W.instObj C s.heap.objs.size) rfl
  rwa[vn]at this
 have e3:(s.heap.push PySem.W.emptyDict).Ns s.heap.objs.size (λ_=>none):=⟨PySem.W.emptyDict,#[],_,e1,rfl,(λe he=>absurd he (by simp)),λ_=>rfl⟩;have I1:=I.laid (a:=s.heap.objs.size) (o:=.own (s.heap.objs.size+1)) (h':=s.heap.push PySem.W.emptyDict) (t':=s.toks) (λb u q=>xp _ q) (xg _) ⟨_,e1⟩;refine I1.laid (a:=s.heap.objs.size+1) (o:=.ins C s.heap.objs.size []) (t':=s.toks) (λb u q=>xp _ q) (Nat.le_of_eq (vn _ _)) ?_;have ne:s.heap.objs.size≠s.heap.objs.size+1:=xr (Nat.lt_succ_self _);refine⟨by rw[zAf ne,zAm],xC _,ne,e2,λ_=>none,(Heap.Ns1.of_empty e3).at λo q=>xp _ q,λ_=>True.intro,λy hy=>absurd rfl hy⟩
theorem zWp{prog:Program}{w:World}{pos:Pos}{s:Shared}{Q:Value->Shared->Prop}(hb:attributeBase e f env (eval e env)=eval e env)
  (h:wpAny (model prog w) A (eval e env) (λo s₁=>wpAny (model prog w) A (getAttr o f true) Q E s₁) E s):wpAny (model prog w) A (eval (.Attribute e f pos) env) Q E s:=
 Attribute_any_ h (by rw[arm_eval_Attribute,hb])
end
noncomputable def tFld (K:PySem.W.Frag) (ta:TE) (f:Str):TE:=λσ H Q=>ta σ H λx H1=>∃a C dx fs v,x=.ref a/\H1 a=some (.ins C dx fs)/\Cls K C/\NoAttr K C f/\fs.lookup f=some v/\Q v H1
noncomputable def sFld (K:PySem.W.Frag) (ta tv:TE) (f:Str):TS:=λD σ H=>tv σ H λy H1=>ta σ H1 λx H2=>∃a C dx fs,x=.ref a/\H2 a=some (.ins C dx fs)/\Cls K C/\NoAttr K C f/\fs.length<1000 /\
 D.nx σ (upd H2 a (.ins C dx (putF f y fs)))
section
variable {X:Cx}{o e value:Expr}{f:Str}{pos pos' tpos:Pos}{ta tv:TE}
theorem zY2(he:PE X e ta)(hb:attributeBase e f X.env (eval e X.env)=eval e X.env):PE X (.Attribute e f pos) (tFld X.K ta f):=by intro pins s σ H Q I h;refine zWp hb (thn (he pins s σ H _ I h) λu s1 hq1=>?_);obtain⟨x,H1,I1,rx,a,C,dx,fs,v,ex,ea,c,n,l,q⟩:=hq1;subst ex;obtain rfl:u=Value.ref a:=rx;exact zLe I1 ea c n l λu' s2 I2 ru=>⟨v,H1,I2,ru,q⟩
theorem zXp(ha:PE X o ta)(hv:PE X value tv)(hs:swapsWith value (some (.Attribute o f pos')) pos.line X.env=pure false):PS X (.Assign [.Attribute o f pos'] value pos) (sFld X.K ta tv f):=by intro pins s σ H D I h;refine plainObj_wpAny_Assign_Attribute (thn (hv pins s σ H _ I h) λu s1 ⟨y,H1,I1,ry,q⟩=>thn (ha pins s1 σ H1 _ I1 q) λov s2 hq1=>?_) hs;obtain⟨x,H2,I2,rx,a,C,dx,fs,ex,ea,c,n,l,q2⟩:=hq1;subst ex;obtain rfl:ov=Value.ref a:=rx;exact zKu I2 ea c n l ry λs3 I3=>⟨σ,_,I3,q2⟩
theorem zIo{pl:Sem Bool}{m:Str}{apos:Pos}{args:List Expr}{Q:Value->Shared->Prop}(he:PE X e te)(I:Inv X pins σ H s)
  (h:te σ H λx H1=>∃a C dx fs g,x=.ref a/\H1 a=some (.ins C dx fs)/\Cls X.K C/\Meth X.K C m g/\fs.lookup m=none /\
   ∀s1,Inv X pins σ H1 s1->wpAny (model X.prog X.w) X.A (callWith pos (.ref g) [.ref a] (backTo pos (starEach args X.env)) (backToKw pos (keywordEach [] X.env))) Q X.xe s1)
  (ht:eval (.Call (.Attribute e m apos) args [] pos) X.env=(do
   let ov <- eval e X.env
   standAt apos.atName
   let (f,first) <- holding [ov] (getMethod ov m pl)
   callWith pos f first (backTo pos (starEach args X.env)) (backToKw pos (keywordEach [] X.env)))):
  wpAny (model X.prog X.w) X.A (eval (.Call (.Attribute e m apos) args [] pos) X.env) Q X.xe s:=by
 refine PySem.W.methodCall_KW (pl:=pl) (thn (he pins s σ H _ I h) λu s1 hq1=>?_) ht;obtain⟨x,H1,I1,rx,a,C,dx,fs,g,ex,ea,c,k,l,q⟩:=hq1;subst ex;obtain rfl:u=Value.ref a:=rx;exact zLd I1 ea c k l (q s1 I1)
end
section
variable {X:Cx}{pins:List (Addr × Obj)}{σ:St}{H:Hp}{s:Shared}{A:Around}{E:Value->Shared->Prop}{Q:Value->Shared->Prop}{c:Value}{b:Bool}
inductive TyOf (K:PySem.W.Frag) (H:Hp):V->Value->Prop where
 | non:TyOf K H .non (.type "NoneType")
 | bl (x:Bool):TyOf K H (.bl x) (.type "bool")
 | int (i:Int):TyOf K H (.int i) (.type "int")
 | str (x:Str):TyOf K H (.str x) (.type "str")
 | flt (x:UInt64):TyOf K H (.flt x) (.type "float")
 | lst {a:Addr}{xs:List V}(e:H a=some (.lst xs)):TyOf K H (.ref a) (.type "list")
 | frz {a:Addr}{o:Obj}{xs:List V}(e:H a=some (.frz o (.lst xs))):TyOf K H (.ref a) (.type "list")
 | tup {a:Addr}{xs:List V}(e:H a=some (.tup xs)):TyOf K H (.ref a) (.type "tuple")
 | dK {a:Addr}{kvs:List (Key × V)}(e:H a=some (.dK kvs)):TyOf K H (.ref a) (.type "dict")
 | dT {a:Addr}{kvs:List (List Key × V)}(e:H a=some (.dT kvs)):TyOf K H (.ref a) (.type "dict")
 | ins {a C dx:Addr}{fs:List (Str × V)}(e:H a=some (.ins C dx fs)) (cl:Cls K C) (ha:PySem.W.findIn K (.ref C) "__class__"=some (some (.builtin "object.__class__")))
   (hn:PySem.W.specialIn K (.builtin "object.__class__") "__get__"=some (some (.builtin "getset_descriptor.__get__"))) (htk:PySem.W.takesIn K (.builtin "object.__class__")=some true)
   (hm:PySem.W.mroIn K C (.type "object")=some true):TyOf K H (.ref a) (.ref C)
theorem zNz(I:Inv X pins σ H s)(rx:RelV x u)(ty:TyOf X.K H x t)(e:PySem.W.kitOne X.K t c=some b)(h:∀tk,Q (.bool b) { s with toks:=tk }):
  wpAny (model X.prog X.w) A (call (.builtin "isinstance") [u,c]) Q E s:=by
 cases ty with
 | non=>cases(show u=Value.none from rx);exact vg PySem.W.kitx_none I.kIn True.intro e (λz=>nomatch z) h
 | bl y=>cases(show u=Value.bool y from rx);exact vg PySem.W.kitx_bool I.kIn True.intro e (λz=>nomatch z) h
 | int i=>obtain⟨t,q⟩:=(show ∃t,u=Value.int i t from rx);cases q;exact vg PySem.W.kitx_int I.kIn True.intro e (λz=>nomatch z) h
 | str y=>obtain⟨t,q⟩:=(show ∃t,u=Value.str y t from rx);cases q;exact vg PySem.W.kitx_str I.kIn True.intro e (λz=>nomatch z) h
 | flt y=>obtain⟨t,q⟩:=(show ∃t,u=Value.float y t from rx);cases q;exact vg PySem.W.kitx_float I.kIn True.intro e (λz=>nomatch z) h
 | @lst a xs ea=>
  cases(show u=Value.ref a from rx);obtain⟨_,_,n,_,h1⟩:=(show ObjOk X.prog X.w H s.heap a (.lst xs)from I.hok a _ ea);exact vg PySem.W.kitx_list I.kIn ⟨_,h1,rfl⟩ e (λz=>nomatch z) h
 | @frz a ob xs ea=>
  cases(show u=Value.ref a from rx);obtain⟨_,_,_,n,_,h1⟩:=(show ObjOk X.prog X.w H s.heap a (.frz ob (.lst xs))from I.hok a _ ea);exact vg PySem.W.kitx_list I.kIn ⟨_,h1,rfl⟩ e (λz=>nomatch z) h
 | @tup a xs ea=>
  cases(show u=Value.ref a from rx);obtain⟨_,_,_,p⟩:=(show ObjOk X.prog X.w H s.heap a (.tup xs)from I.hok a _ ea);obtain⟨o,h1,h2,_⟩:=p;exact vg PySem.W.kitx_tuple I.kIn ⟨o,h1,h2⟩ e (λz=>nomatch z) h
 | @dK a kvs ea=>
  cases(show u=Value.ref a from rx);obtain⟨_,_,vs,_,p⟩:=(show ObjOk X.prog X.w H s.heap a (.dK kvs)from I.hok a _ ea);obtain⟨o,es,ep,h1,h2,_⟩:=p;exact vg PySem.W.kitx_dict I.kIn ⟨o,h1,h2.1⟩ e (λz=>nomatch z) h
 | @dT a kvs ea=>
  cases(show u=Value.ref a from rx);obtain⟨_,_,xs,_,o,es,ep,h1,h2,_⟩:=(show ObjOk X.prog X.w H s.heap a (.dT kvs)from I.hok a _ ea);exact vg PySem.W.kitx_dict I.kIn ⟨o,h1,h2.1⟩ e (λz=>nomatch z) h
 | @ins a C dx fs ea cl ha hn htk hm=>
  cases(show u=Value.ref a from rx);obtain⟨mA,O,_⟩:=zGo I.hok ea;obtain⟨od,J,_⟩:=O.look;exact vg (PySem.W.kitx_own (cl.get _) cl.hd ha hn htk hm) I.kIn J e (λz=>nomatch z) h
end
structure Room (k:Nat) (A:Around):Prop where
 hd:A.handled=none
 dp:A.depth+3*k+5<recursionLimit
 un:A.units+16*k+200<cLine
theorem Room.mono{j k:Nat}(r:Room k A)(h:j<=k):Room j A:=⟨r.hd,by have:=r.dp;lia,by have:=r.un;lia⟩
theorem Room.deeper{k:Nat}{A:Around}(r:Room (k+1) A)(env:Env):Room k (A.deeper env):=
 ⟨r.hd,by have:=r.dp;show A.depth+1+3*k+5<_;lia,by have:=r.un;show A.units+3+16*k+200<_;lia⟩
theorem zL5{A:Around}:(A.under (.builtin "type.__call__" ⟨.ref C::us,kw⟩)).depth=A.depth+1:=by first|rfl|simp[Around.under,Code.weight,Code.isCreation,Code.isGuard,Code.isCaller,Code.frames,Code.isFrame,guardIds]
theorem zL4{A:Around}:(A.under (.builtin "type.__call__" ⟨.ref C::us,kw⟩)).units=A.units+1:=by first|rfl|simp[Around.under,Code.cUnits,Code.frames,Code.isFrame]
theorem Room.make{k:Nat}{A:Around}(r:Room (k+1) A)(C:Addr)(us:List Value)(kw:List (Str × Value)):Room k (A.under (.builtin "type.__call__" ⟨.ref C::us,kw⟩)):=
 ⟨r.hd,by have:=r.dp;rw[zL5];lia,by have:=r.un;rw[zL4];lia⟩
theorem Room.depth{A:Around}(r:Room k A):A.depth<recursionLimit:=by have:=r.dp;lia
theorem Room.units{A:Around}(r:Room k A):A.units+64<cLine:=by have:=r.un;lia
theorem Room.units0{A:Around}(r:Room k A):A.units<cLine:=by have:=r.un;lia
noncomputable def tNil:TA:=λ_ H Q=>Q [] H
noncomputable def zTk (ta:TE) (tr:TA):TA:=λσ H Q=>ta σ H λx H1=>tr σ H1 λxs H2=>Q (x::xs) H2
section
variable {X:Cx}{e:Expr}{es:List Expr}{te:TE}{t:TA}{pos:Pos}
theorem zY7:PA X [] tNil:=λ_ _ _ _ H Q I h=>Calls.spliced_nil ⟨[],H,I,.nil,h⟩
theorem zUn(ha:PE X e te)(hr:PA X es t)(hs:starEach (e::es) X.env=(false,eval e X.env)::starEach es X.env:=by rfl):PA X (e::es) (zTk te t):=by intro pos pins s σ H Q I h;rw[hs];show wpAny _ _ (spliced ((false,eval e X.env)::backTo pos (starEach es X.env))) _ _ s;refine Calls.spliced_cons (thn (ha pins s σ H _ I h) λu s1 hq1=>?_);obtain⟨x,H1,I1,r1,q1⟩:=hq1;exact thn (hr pos pins s1 σ H1 _ I1 q1) λus s2 hz5=>by obtain⟨xs,H2,I2,r2,q2⟩:=hz5;exact ⟨x::xs,H2,I2,.cons r1 r2,q2⟩
noncomputable def tTup (t:TA):TE:=λσ H Q=>t σ H λxs H1=>xs.length<=sizeLine/\∀p,H1 p=none->Q (.ref p) (upd H1 p (.tup xs))
noncomputable def tLst (t:TA):TE:=λσ H Q=>t σ H λxs H1=>xs.length<=sizeLine/\∀p,H1 p=none->Q (.ref p) (upd H1 p (.lst xs))
theorem zXw{x1}(h:PA X es t):PE X (.Tuple es x1 pos) (tTup t):=by intro pins s σ H Q I hq;refine wpAny_Tuple_spliced (thn (h pos pins s σ H _ I hq) λus s1 ⟨xs,H1,I1,r,z,q⟩=>⟨by rw[<- r.length];exact z,?_⟩);have hf:H1 s1.heap.objs.size=none:=I1.hok.fresh (xg _);refine⟨.ref s1.heap.objs.size,upd H1 s1.heap.objs.size (.tup xs),I1.laid (t':=s1.toks) (λb u e=>xp _ e) (xg _) ?_,rfl,q _ hf⟩;exact⟨z,us,r,⟨_,xy _ rfl,rfl,_,rfl⟩⟩
theorem zY0(h:PA X es t):PE X (.List es pos) (tLst t):=by intro pins s σ H Q I hq;refine wpAny_List_spliced (thn (h pos pins s σ H _ I hq) λus s1 ⟨xs,H1,I1,r,z,q⟩=>⟨by rw[<- r.length];exact z,?_⟩);have hf:H1 s1.heap.objs.size=none:=I1.hok.fresh (xg _);refine⟨.ref s1.heap.objs.size,upd H1 s1.heap.objs.size (.lst xs),I1.laid (t':=s1.toks) (λb u e=>xp _ e) (xg _) ?_,rfl,q _ hf⟩;exact⟨z,us,0,r,xy _ rfl⟩
end
abbrev Sp:=List V->Hp->VK->XK->Prop
abbrev CXT:=List Env->Hp->Shared->XK->Value->Shared->Prop
structure Env0 (P:Program) (w:World) (K:PySem.W.Frag) (mg:Str->Option Value) (base:Heap) (A:Around) (outer:List Env) (s:Shared) (H:Hp):Prop where
 frames:A.frames=some outer
 mod:Mod K mg base
 bs:∀b o,base.get? b=some o->s.heap.get? b=some o/\H b=none
 bsz:base.objs.size<=s.heap.objs.size
 funs:s.heap.FunFrames base outer
 frf:∀b∈frs outer,H b=none
 hok:HOk P w H s.heap
 bare:AllBare s.gens
 gds:A.guards=some []
def CE(outer:List Env)(P:Program)(w:World)(H:Hp)(s:Shared)(Q:VK)(u:Value)(s':Shared):Prop:=
 ∃v H',s'.os=s.os/\AllBare s'.gens/\Un (frs outer) [] H H' s.heap s'.heap/\HOk P w H' s'.heap/\RelV v u/\Q v H'
def CR(CX:CXT)(outer:List Env)(P:Program)(w:World)(H:Hp)(s:Shared)(Q:VK)(E:XK)(r:Result)(s':Shared):Prop:=
 match r with
 | .ok (.ret u)=>CE outer P w H s Q u s'
 | .ok _=>False
 | .error e=>CX outer H s E e s'
structure FnOk (P:Program) (w:World) (K:PySem.W.Frag) (mg:Str->Option Value) (base:Heap) (CX:CXT) (k:Nat) (f:Addr) (fd:FuncData) (ps:List Str) (sp:Sp):Prop where
 len:∀vs H Q E,sp vs H Q E->vs.length=ps.length
 run:∀(A:Around) (outer:List Env) (s:Shared) (H:Hp) (args:Args) (us:List Value) (vs:List V) (Q:VK) (E:XK),Room k A->Env0 P w K mg base A outer s H->BindsTo s fd args (ps.zip us)->Vals vs us->sp vs H Q E->
  codeAny (model P w) A (.call (.ref f) args) (CR CX outer P w H s Q E) s
theorem Env0.make{P:Program}{w:World}{K:PySem.W.Frag}{mg:Str->Option Value}{base:Heap}{A:Around}{outer:List Env}{s:Shared}{H:Hp}(e:Env0 P w K mg base A outer s H)(C:Addr)(us:List Value)(kw:List (Str × Value)):
  Env0 P w K mg base (A.under (.builtin "type.__call__" ⟨.ref C::us,kw⟩)) outer s H:=⟨by first|exact e.frames|(simpa[Around.under,Code.envs,Code.isFrame,pushEnvs]using e.frames),e.mod,e.bs,e.bsz,e.funs,e.frf,e.hok,e.bare,by first|exact e.gds|(simp[Around.under,Code.guards,Code.isGuard,guardIds,pushGuards,e.gds])⟩
section
variable {X:Cx}{pins:List (Addr × Obj)}{σ:St}{H:Hp}{s s':Shared}
theorem Inv.env0(I:Inv X pins σ H s):Env0 X.prog X.w X.K X.mg X.base X.A X.stack s H:=
 ⟨I.ok.frames,I.ok.mod,I.bs,xm I.ok.bsz I.sz,I.stack,I.stkFree,I.hok,I.bare,I.ok.gds⟩
theorem Inv.after(I:Inv X pins σ H s)(h:CE X.stack X.prog X.w H s Q u s'):EP X pins σ Q u s':=by obtain⟨v,H',os,bare,un,hok,r,q⟩:=h;obtain⟨hh,g,d,t,os'⟩:=s';obtain rfl:os'=s.os:=os;exact⟨v,H',I.call (h':=hh) (g':=g) (d':=d) (t':=t) (ch:=[]) un hok bare (λb z=>absurd z (by simp)),r,q⟩
end
noncomputable def zPt (sp:Sp) (dvs:List V) (E:XK) (t:TA):TE:=λσ H Q=>t σ H λvs H1=>sp (vs++dvs) H1 Q E
noncomputable def yAi (C:Addr) (sp:Sp) (dvs:List V) (E:XK) (t:TA):TE:=λσ H Q=>t σ H λvs H1=>∀x dx,H1 x=none->H1 dx=none->dx≠x->
 sp (.ref x::(vs++dvs)) (upd (upd H1 dx (.own x)) x (.ins C dx [])) (λv H2=>v=.non/\Q (.ref x) H2) E
def Binds(K:PySem.W.Frag)(fd:FuncData)(ps:List Str)(ds:List Value):Prop:=
 ∀(s:Shared) (us:List Value),K.In s.heap->(us++ds).length=ps.length->BindsTo s fd ⟨us,[]⟩ (ps.zip (us++ds))
theorem Binds.all{K:PySem.W.Frag}{fd:FuncData}{ps:List Str}(h:∀us:List Value,us.length=ps.length->bindArgs fd ⟨us,[]⟩=pure (ps.zip us)):Binds K fd ps []:=λs us _ hl=>by
 rw[vA]at hl ⊢;exact .of_eq (h us hl)
def Passes(CX:CXT)(X:Cx)(E:XK):Prop:=∀(pins:List (Addr × Obj)) (σ:St) (H:Hp) (s:Shared) (e:Value) (s':Shared),Inv X pins σ H s->CX X.stack H s E e s'->X.xe e s'
section
variable {X:Cx}{CX:CXT}{k:Nat}{f C:Addr}{fd:FuncData}{ps:List Str}{sp:Sp}{dvs:List V}{ds:List Value}{E:XK}{x m:Str}{p pos apos:Pos}{e o:Expr}{es:List Expr}{ta:TE}{t:TA}
theorem zSc{pins:List (Addr × Obj)}{σ:St}{H:Hp}{s:Shared}{Q:VK}{us:List Value}{vs:List V}(F:FnOk X.prog X.w X.K X.mg X.base CX k f fd ps sp)(hr:Room k X.A)(hb:Binds X.K fd ps ds)(hd:Vals dvs ds)(hx:Passes CX X E)
  (I:Inv X pins σ H s) (r:Vals vs us) (h:sp (vs++dvs) H Q E):wpAny (model X.prog X.w) X.A (call (.ref f) us) (EP X pins σ Q) X.xe s:=by
 have r2:Vals (vs++dvs) (us++ds):=r.append hd;have hl:(us++ds).length=ps.length:=by rw[<- r2.length];exact F.len _ _ _ _ h
 refine wpAny_call (vH (F.run X.A X.stack s H ⟨us,[]⟩ (us++ds) (vs++dvs) Q E hr I.env0 (hb s us I.kIn hl) r2 h) λr s' hq=>?_);cases r with
 | error e=>exact hx pins σ H s e s' I hq
 | ok fl=>
  cases fl with
  | ret u=>exact I.after hq
  | next=>exact False.elim hq
  | brk=>exact False.elim hq
  | cont=>exact False.elim hq
theorem zUk(F:FnOk X.prog X.w X.K X.mg X.base CX k f fd ps sp)(hr:Room k X.A)(hg:Gl X x)(hm:X.mg x=some (.ref f))(hk:PySem.W.keepIn X.K (.ref f)=true)(hb:Binds X.K fd ps ds)(hd:Vals dvs ds)(hx:Passes CX X E)
  (ha:PA X (e::es) t) (hdb:(x == ("__debug__":Str))=false:=by decide) (he:starEach (e::es) X.env=(false,eval e X.env)::starEach es X.env:=by rfl) (hpl:(backTo pos (starEach es X.env)).any (·.1)=false:=by rfl):
  PE X (.Call (.Name x p) (e::es) [] pos) (zPt sp dvs E t):=by
 intro pins s σ H Q I h;refine v7 (zIs I hg hm ?_ hdb);refine PySem.W.callWith_K (h₀:=X.base) I.ok.mod.kin hk (thn (ha pos pins s σ H _ I h) λus s1 ⟨vs,H1,I1,r,q⟩=>⟨I1.kIn,?_⟩) he hpl;exact zSc F hr hb hd hx I1 r q
structure Mk (K:PySem.W.Frag) (C f:Addr):Prop where
 makes:PySem.W.makesIn K C=true
 init:PySem.W.findIn K (.ref C) "__init__"=some (some (.ref f))
 fn:PySem.W.isFn K (.ref f)=true
 kp:PySem.W.keepIn K (.ref C)=true
theorem zQ1{pins:List (Addr × Obj)}{σ:St}{H:Hp}{s:Shared}{Q:VK}{us:List Value}{vs:List V}(M:Mk X.K C f)(F:FnOk X.prog X.w X.K X.mg X.base CX k f fd ps sp)(hr:Room (k+1) X.A)(hb:Binds X.K fd ps ds)(hd:Vals dvs ds)
  (hx:Passes CX X E) (I:Inv X pins σ H s) (r:Vals vs us)
  (h:∀x dx,H x=none->H dx=none->dx≠x->sp (.ref x::(vs++dvs)) (upd (upd H dx (.own x)) x (.ins C dx [])) (λv H2=>v=.non/\Q (.ref x) H2) E):
  wpAny (model X.prog X.w) X.A (call (.ref C) us) (EP X pins σ Q) X.xe s:=by
 have hq:=h (s.heap.objs.size+1) s.heap.objs.size (I.hok.fresh (Nat.le_succ _)) (I.hok.fresh (xg _)) (xr (Nat.lt_succ_self _));have I2:=Inv.made (C:=C) I;have r2:Vals (V.ref (s.heap.objs.size+1)::(vs++dvs)) (Value.ref (s.heap.objs.size+1)::(us++ds)):=.cons rfl (r.append hd);have hl:(Value.ref (s.heap.objs.size+1)::us++ds).length=ps.length:=by have e:=r2.length;rw[F.len _ _ _ _ hq]at e;exact e.symm
 refine wpAny_call (zR1 (f:=f) I.kIn M.makes M.init (x5.mp M.fn) (vH (F.run _ X.stack _ _ ⟨Value.ref (s.heap.objs.size+1)::us,[]⟩ (Value.ref (s.heap.objs.size+1)::(us++ds)) _ _ E (hr.make C us [])
  (I2.env0.make C us []) (hb _ (Value.ref (s.heap.objs.size+1)::us) I2.kIn hl) r2 hq) λr s' hq'=>?_))
 cases r with
 | error e=>exact hx pins σ _ _ e s' I2 hq'
 | ok fl=>
  cases fl with
  | ret u=>
   obtain⟨v,H',I3,rv,ev,q3⟩:=I2.after hq';subst ev;exact⟨rv,⟨V.ref (s.heap.objs.size+1),H',I3,rfl,q3⟩⟩
  | next=>exact False.elim hq'
  | brk=>exact False.elim hq'
  | cont=>exact False.elim hq'
theorem zUf(M:Mk X.K C f)(F:FnOk X.prog X.w X.K X.mg X.base CX k f fd ps sp)(hr:Room (k+1) X.A)(hg:Gl X x)(hm:X.mg x=some (.ref C))(hb:Binds X.K fd ps ds)(hd:Vals dvs ds)(hx:Passes CX X E)
  (ha:PA X (e::es) t) (hdb:(x == ("__debug__":Str))=false:=by decide) (he:starEach (e::es) X.env=(false,eval e X.env)::starEach es X.env:=by rfl) (hpl:(backTo pos (starEach es X.env)).any (·.1)=false:=by rfl):
  PE X (.Call (.Name x p) (e::es) [] pos) (yAi C sp dvs E t):=by
 intro pins s σ H Q I h;refine v7 (zIs I hg hm ?_ hdb);refine PySem.W.callWith_K (h₀:=X.base) I.ok.mod.kin M.kp (thn (ha pos pins s σ H _ I h) λus s1 ⟨vs,H1,I1,r,q⟩=>⟨I1.kIn,?_⟩) he hpl;exact zQ1 M F hr hb hd hx I1 r q
end
structure zE8 (N P:List Str) (sc:Scope):Prop where
 kind:sc.kind=.function
 co:sc.isCoroutine=false
 gen:sc.isGenerator=false
 nd:N.Nodup
 pre:N.take P.length=P
 par:∀x∈P,sc.names.lookup x=some .local\/sc.names.lookup x=some .cell
 nofree:∀y∈sc.names,y.2≠.free
theorem zI6{kindOf:Str->Option NameKind}:∀{binds:List (Str × Value)}{m:Str->Option Value},(∀v,(x,v) ∉ binds)->bindL kindOf binds m x=m x
 | [],_,_=>rfl
 | (n,v)::r,m,h=>by
  unfold bindL;rw[zI6 λw hw=>h w (xN _ hw)];split
  ·have:x≠n:=by rintro rfl;exact h v xK
   simp[this]
  ·rfl
theorem zI8{kindOf:Str->Option NameKind}:∀{binds:List (Str × Value)}{m:Str->Option Value},(∀v,(x,v) ∉ binds)->bindC kindOf binds m x=m x
 | [],_,_=>rfl
 | (n,v)::r,m,h=>by
  unfold bindC;rw[zI8 λw hw=>h w (xN _ hw)];split
  ·rfl
  ·have:x≠n:=by rintro rfl;exact h v xK
   simp[this]
theorem zI7{kindOf:Str->Option NameKind}:∀{P:List Str}{vs:List Value}{i:Nat}{m:Str->Option Value},P.Nodup->P[i]?=some x->vs[i]?=some v->kindOf x=some .local->
  bindL kindOf (P.zip vs) m x=some v
 | [],_,_,_,_,h,_,_=>by simp at h
 | _::_,[],_,_,_,_,h,_=>by simp at h
 | p::P,w::vs,0,m,nd,h1,h2,hk=>by
  simp at h1 h2;subst h1;subst h2;show bindL kindOf ((p,w)::P.zip vs) m p=_;unfold bindL;rw[zI6 λv hv=>(vh.mp nd).1 (List.of_mem_zip hv).1,xb hk];simp
 | p::P,w::vs,i+1,m,nd,h1,h2,hk=>by
  show bindL kindOf ((p,w)::P.zip vs) m x=_;unfold bindL;exact zI7 (i:=i) (vh.mp nd).2 (by simpa using h1) (by simpa using h2) hk
theorem zI9{kindOf:Str->Option NameKind}:∀{P:List Str}{vs:List Value}{i:Nat}{m:Str->Option Value},P.Nodup->P[i]?=some x->vs[i]?=some v->kindOf x≠some .local->
  bindC kindOf (P.zip vs) m x=some v
 | [],_,_,_,_,h,_,_=>by simp at h
 | _::_,[],_,_,_,_,h,_=>by simp at h
 | p::P,w::vs,0,m,nd,h1,h2,hk=>by
  simp at h1 h2;subst h1;subst h2;show bindC kindOf ((p,w)::P.zip vs) m p=_;unfold bindC;rw[zI8 λv hv=>(vh.mp nd).1 (List.of_mem_zip hv).1,xc hk];simp
 | p::P,w::vs,i+1,m,nd,h1,h2,hk=>by
  show bindC kindOf ((p,w)::P.zip vs) m x=_;unfold bindC;exact zI9 (i:=i) (vh.mp nd).2 (by simpa using h1) (by simpa using h2) hk
noncomputable def start (N:List Str) (vs:List V):St:=vs.map some++List.replicate (N.length-vs.length) none
noncomputable def cxOf (CX:CXT) (P:Program) (w:World) (K:PySem.W.Frag) (mg:Str->Option Value) (base:Heap) (N:List Str) (qual:Str) (scope:Scope) (f:Addr) (cd:Value) (A:Around) (outer:List Env) (s:Shared) (H:Hp) (E:XK):Cx where
 prog:=P
 w:=w
 K:=K
 mg:=mg
 base:=base
 A:=A.deeper (envOfC qual scope s.heap.objs.size f cd)
 N:=N
 s₀:=s
 H₀:=H
 env:=envOfC qual scope s.heap.objs.size f cd
 outer:=outer
 stack:=envOfC qual scope s.heap.objs.size f cd::outer
 ex:=[]
 calm:=true
 fn:=λ_=>true
 pn:=[]
 xe:=λe s'=>wpAny (model P w) (A.deeper (envOfC qual scope s.heap.objs.size f cd)) (leaving (envOfC qual scope s.heap.objs.size f cd) e) (λ_ s''=>CX outer H s E e s'') (λe' s''=>CX outer H s E e' s'') s'
theorem zKj{sc:Scope}(h:sc.names.lookup x=some .cell):∃c,(cellsFrom n sc.names []).lookup x=some c:=by have q:=PySem.W.cellsFrom_some sc.names n [] (.inl h);exact Option.isSome_iff_exists.mp q
theorem zO0{CX:CXT}{P:Program}{w:World}{K:PySem.W.Frag}{mg:Str->Option Value}{base:Heap}{N ps:List Str}{qual:Str}{scope:Scope}{f:Addr}{cd:Value}{A:Around}{outer:List Env}{s s1:Shared}{H:Hp}{E:XK}{us:List Value}{vs:List V}
  (S:zE8 N ps scope) (hd:A.handled=none) (e0:Env0 P w K mg base A outer s H) (hl:vs.length=ps.length) (r:Vals vs us)
  (x:InCallC s s.heap.objs.size (bindL (envOfC qual scope s.heap.objs.size f cd).kindOf (ps.zip us) λ_=>none) (cellsFrom (s.heap.objs.size+1) scope.names []) (bindC (envOfC qual scope s.heap.objs.size f cd).kindOf (ps.zip us) λ_=>none) s1):
  Inv (cxOf CX P w K mg base N qual scope f cd A outer s H E) [] (start N vs) H s1:=by
 have hpl:ps.length<=N.length:=by have:=congrArg List.length S.pre;rw[vo]at this;lia
 obtain⟨h1,tk,rfl,hk⟩:=x.done;have noA:∀b:Addr,b ∉ (cxOf CX P w K mg base N qual scope f cd A outer s H E).ex:=λb z=>absurd (show b∈([]:List Addr)from z) (by simp)
 refine⟨⟨e0.mod,S.kind,rfl,rfl,xg _,λy z c h1 h2=>?_,λy hy=>?_,λy c _ h=>?_,λ_=>hd,Around.frames_deeper e0.frames,.inr ⟨rfl,rfl⟩,λb z=>absurd z (noA b),e0.bs,e0.bsz,λb _ _=>noA b,λb z=>absurd z (noA b),e0.funs,e0.frf,e0.gds⟩,
  rfl,e0.bare,Un.kept hk,⟨_,x.toInCall.ns,λi y v h1 h2 h3=>?_⟩,λy c h=>⟨_,x.cell y c h⟩,e0.hok.fresh (xg _),λy c h=>?_,λp hp=>absurd (show p∈([]:List (Addr × Obj))from hp) (by simp),e0.hok.kept hk,?_⟩
 ·exact name_of_addr x.apart (v8 h1) (v8 h2)
 ·have hy:scope.names.lookup y=some .cell\/scope.names.lookup y=some .free:=hy;rcases hy with hy|hy
  ·exact zKj hy
  ·exact absurd rfl (S.nofree _ (v8 hy))
 ·exact x4 (x.above y c (v8 h))
 ·have hi:i<vs.length:=by
   unfold start at h2;by_cases hi:i<vs.length
   ·exact hi
   ·rw[xS (by simpa using hi)]at h2;rw[List.getElem?_replicate]at h2;split at h2 <;> cases h2
  have ha:vs[i]?=some v:=by
   unfold start at h2;rw[xT (by simpa using hi),vp]at h2;cases e:vs[i]? with
   | none=>rw[e]at h2;cases h2
   | some a=>rw[e]at h2;cases h2;rfl
  obtain⟨u,hu,rv⟩:=r.get ha;have hp:ps[i]?=some y:=by rw[<- S.pre,vI (by nofun)];exact h1
  have ndP:ps.Nodup:=by rw[<- S.pre];exact S.nd.sublist (List.take_sublist _ _)
  refine⟨u,rv,?_⟩;rcases S.par y (vS hp)with k|k
  ·exact .inl ⟨k,zI7 ndP hp hu k⟩
  ·obtain⟨c,e⟩:=zKj (n:=s.heap.objs.size+1) k;refine .inr ⟨.inl k,c,e,?_⟩;have q:=x.cell y c e;rw[zI9 ndP hp hu (by show scope.names.lookup y≠_;rw[k];decide)]at q;exact q
 ·exact e0.hok.fresh (x4 (x.above y c (v8 h)))
 ·unfold start;show _=N.length;rw[xE,xn,List.length_replicate];lia
theorem yB9{CX:CXT}{P:Program}{w:World}{K:PySem.W.Frag}{mg:Str->Option Value}{base:Heap}{k:Nat}{f:Addr}{name qual:Str}{params:Arguments}{body:List Stmt}{scope:Scope}{dV kV doc pm cdv ct oc:Value}{an od:Option Addr}
  {osl:Array (Option Value)}{N ps:List Str}{sp:Sp}(lk:K.lookup f=some ⟨oc,od,.func (PySem.W.fnOf name qual params body scope dV kV doc pm an cdv ct),osl⟩) (hcd:PySem.W.codeIn K cdv qual=true) (S:zE8 N ps scope)
  (len:∀vs H Q E,sp vs H Q E->vs.length=ps.length)
  (hbody:∀(A:Around) (outer:List Env) (s:Shared) (H:Hp) (vs:List V) (Q:VK) (E:XK),Room k (A.deeper (envOfC qual scope s.heap.objs.size f cdv))->sp vs H Q E->
   ∃t,PSs (cxOf CX P w K mg base N qual scope f cdv A outer s H E) body t/\t { nx:=λ_ H'=>Q .non H',rt:=Q } (start N vs) H):
  FnOk P w K mg base CX (k+1) f (PySem.W.fnOf name qual params body scope dV kV doc pm an cdv ct) ps sp:=by
 refine⟨len,λA outer s H args us vs Q E hr e0 hb r hsp=>?_⟩;have hl:=len _ _ _ _ hsp;have KX:K.In s.heap:=e0.mod.kin.keeps λb o e=>(e0.bs b o e).1
 have lim:s.heap.NoLimit:=e0.mod.nolimit.keeps λb o e=>(e0.bs b o e).1
 have hkind:∀y∈ps.zip us,scope.names.lookup y.1=some .local\/(scope.names.lookup y.1=some .cell/\((cellsFrom (s.heap.objs.size+1) scope.names []).lookup y.1).isSome=true):=fun⟨n,v⟩ hy=>by
  rcases S.par n (List.of_mem_zip hy).1 with q|q
  ·exact .inl q
  ·exact .inr ⟨q,PySem.W.cellsFrom_some _ _ _ (.inl q)⟩
 refine codeAny_call_function hr.depth (KX _ _ lk) rfl S.co S.gen rfl (PySem.W.codeRec_of KX hcd) (hb _ _ _ _ ?_)
 refine wpAny_newFunctionEnv_cells S.kind hkind λenv he s1 x=>?_
 subst he;refine⟨lim.keeps x.toInCall.keep,codeAny_func ?_⟩;obtain⟨t,ht,hq⟩:=hbody A outer s H vs Q E (hr.deeper _) hsp;have I:Inv (cxOf CX P w K mg base N qual scope f cdv A outer s H E) [] (start N vs) H s1:=zO0 S hr.hd e0 hl r x;refine xV (ht [] s1 (start N vs) H _ I hq) (λfl s' hs=>?_) λe s' hs=>hs
 have fin:∀{σ':St}{H':Hp}{v:V}{u:Value},Inv (cxOf CX P w K mg base N qual scope f cdv A outer s H E) [] σ' H' s'->RelV v u->Q v H'->CE outer P w H s Q u s':=
  λ{σ' H' v u} J rv q=>⟨v,H',J.os,J.bare,J.base,J.hok,rv,q⟩
 cases fl with
 | ret u=>
  obtain⟨v,σ',H',J,rv,q⟩:=hs;exact fin J rv q
 | next=>
  obtain⟨σ',H',J,q⟩:=hs;exact fin (v:=V.non) (u:=Value.none) J rfl q
 | brk=>
  obtain⟨_,_,_,q⟩:=hs;exact False.elim q
 | cont=>
  obtain⟨_,_,_,q⟩:=hs;exact False.elim q
section
variable {X:Cx}{x:Str}{p pos:Pos}{e:Expr}{es:List Expr}{t:TA}{id T:String}{r:List V->Hp->VK->Prop}
noncomputable def tCB (r:List V->Hp->VK->Prop) (t:TA):TE:=λσ H Q=>t σ H λvs H1=>r vs H1 Q
theorem zQq(hc:zBa X (.builtin id) r)(hg:Gl X x)(hm:X.mg x=none)(hv:bootBuiltins x=some (.builtin id))(ha:PA X (e::es) t)(hn:x≠"__name__":=by decide)(hdb:(x == ("__debug__":Str))=false:=by decide)
  (he:starEach (e::es) X.env=(false,eval e X.env)::starEach es X.env:=by rfl) (hpl:(backTo pos (starEach es X.env)).any (·.1)=false:=by rfl):PE X (.Call (.Name x p) (e::es) [] pos) (tCB r t):=by
 intro pins s σ H Q I h;refine v7 (zFz I hg hm hv ?_ hn hdb);exact PyProof.Rows.callWith_builtin1 (thn (ha pos pins s σ H _ I h) λus s1 hz6=>by obtain⟨vs,H1,I1,r1,q1⟩:=hz6;exact hc pins s1 σ H1 vs us Q I1 r1 q1) he hpl
theorem zN3(hc:zBa X (.type T) r)(hg:Gl X x)(hm:X.mg x=none)(hv:bootBuiltins x=some (.type T))(ha:PA X (e::es) t)(hn:x≠"__name__":=by decide)(hdb:(x == ("__debug__":Str))=false:=by decide)
  (he:starEach (e::es) X.env=(false,eval e X.env)::starEach es X.env:=by rfl) (hpl:(backTo pos (starEach es X.env)).any (·.1)=false:=by rfl):PE X (.Call (.Name x p) (e::es) [] pos) (tCB r t):=by
 intro pins s σ H Q I h;refine v7 (zFz I hg hm hv ?_ hn hdb);exact uO (thn (ha pos pins s σ H _ I h) λus s1 hz7=>by obtain⟨vs,H1,I1,r1,q1⟩:=hz7;exact hc pins s1 σ H1 vs us Q I1 r1 q1) he hpl
end
section
variable {κ:Type}[DecidableEq κ]
noncomputable def valV (kvs:List (κ × V)) (k:κ):Option V:=(kvs.find? λkv=>decide (kv.1=k)).map (·.2)
noncomputable def putK (kvs:List (κ × V)) (k:κ) (v:V):List (κ × V):=
 if(kvs.any λkv=>decide (kv.1=k))=true then kvs.map (λkv=>if kv.1=k then(kv.1,v)else kv)else kvs++[(k,v)]
theorem zEe{p:κ × V}(e:p.1=k):valV (p::r) k=some p.2:=by simp[valV,v9,e]
theorem zEf{p:κ × V}(e:¬ p.1=k):valV (p::r) k=valV r k:=by simp[valV,v9,e]
theorem zJk(k:κ):∀kvs:List (κ × V),(kvs.any λkv=>decide (kv.1=k))=(valV kvs k).isSome
 | []=>rfl
 | p::r=>by
  rw[List.any_cons];by_cases e:p.1=k
  ·simp only[zEe e,xk e,Bool.true_or,Option.isSome_some]
  ·rw[zEf e,xj e,Bool.false_or];exact zJk k r
theorem zDd(kvs:List (κ × V))(k:κ)(v:V):(putK kvs k v).length<=kvs.length+1:=by
 unfold putK;split
 ·rw[xn];lia
 ·rw[xE,xo,vJ];lia
theorem RelO.isSome_eq{o:Option V}{u:Option Value}(r:RelO o u):o.isSome=u.isSome:=by
 cases o with
 | none=>cases u with
  | none=>rfl
  | some _=>exact(show False from r).elim
 | some _=>cases u with
  | none=>exact(show False from r).elim
  | some _=>rfl
theorem KV.val(r:KV kvs vs)(k:κ):RelO (valV kvs k) (valueAt vs k):=by
 unfold KV at r;induction r with
 | nil=>exact True.intro
 | @cons p q ps qs h t ih=>
  obtain⟨h1,h2⟩:=h;by_cases e:p.1=k
  ·have e':q.1=k:=h1.symm.trans e;have b:valueAt (q::qs) k=some q.2:=by simp[valueAt,v9,e']
   rw[zEe e,b];exact h2
  ·have e':¬ q.1=k:=λz=>e (h1.trans z)
   have b:valueAt (q::qs) k=valueAt qs k:=by simp[valueAt,v9,e']
   rw[zEf e,b];exact ih
theorem KV.any{kvs:List (κ × V)}{vs:List (κ × Value)}(r:KV kvs vs)(k:κ):(kvs.any λkv=>decide (kv.1=k))=vs.any λkv=>decide (kv.1=k):=by
 unfold KV at r;induction r with
 | nil=>rfl
 | cons h t ih=>rw[List.any_cons,List.any_cons,ih,h.1]
theorem KV.repl(r:KV kvs vs)(k:κ)(ry:RelV y u):
  KV (kvs.map λkv=>if kv.1=k then(kv.1,y)else kv) (vs.map λkv=>if kv.1=k then(kv.1,u)else kv):=by
 unfold KV at r ⊢;induction r with
 | nil=>exact .nil
 | @cons p q ps qs h t ih=>
  rw[xt,xt];refine .cons ?_ ih;obtain⟨h1,h2⟩:=h;by_cases e:p.1=k
  ·rw[xb e,xb (h1.symm.trans e)];exact⟨h1,ry⟩
  ·rw[xc e,xc (λz=>e (h1.trans z))];exact⟨h1,h2⟩
theorem KV.put(r:KV kvs vs)(k:κ)(ry:RelV y u):KV (putK kvs k y) (stored vs k u):=by
 unfold putK stored;rw[r.any k];by_cases e:(vs.any λkv=>decide (kv.1=k))=true
 ·rw[xb e,xb e];exact r.repl k ry
 ·rw[xc e,xc e];exact Paired.snoc r ⟨rfl,ry⟩
theorem KV.length{kvs:List (κ × V)}{vs:List (κ × Value)}(r:KV kvs vs):kvs.length=vs.length:=v3 r
end
theorem zNu(r:RelV (kV k) u):(zB1 P w).is k u=true:=by
 cases k with
 | inl i=>obtain⟨t,e⟩:=(show ∃t,u=Value.int i t from r);subst e;exact zIn P w i t
 | inr x=>obtain⟨t,e⟩:=(show ∃t,u=Value.str x t from r);subst e;exact zIm P w x t
theorem zHo :∀{ks:List Key}{us:List Value},Vals (ks.map kV) us->ItemsAre (zB1 P w) ks us
 | [],_,r=>by rw[xX]at r;cases r;exact .nil
 | k::ks,_,r=>by
  rw[xt]at r;cases r with
  | cons h t=>exact .cons (zNu h) (zHo t)
abbrev KT(H:Hp):List (List Key × V)->List (List Key × Addr × Value)->Prop:=Paired λp q=>p.1=q.1/\H q.2.1=some (.tup (p.1.map kV))/\RelV p.2 q.2.2
theorem KT.val(r:KT H kvs xs)(k:List Key):RelO (valV kvs k) ((atKey xs k).map (·.2)):=by
 induction r with
 | nil=>exact True.intro
 | @cons p q ps qs h t ih=>
  obtain⟨h1,_,h2⟩:=h;by_cases e:p.1=k
  ·have e':q.1=k:=h1.symm.trans e;have b:atKey (q::qs) k=some q.2:=by simp[atKey,v9,e']
   rw[zEe e,b];exact h2
  ·have e':¬ q.1=k:=λz=>e (h1.trans z)
   have b:atKey (q::qs) k=atKey qs k:=by simp[atKey,v9,e']
   rw[zEf e,b];exact ih
theorem KT.repl(r:KT H kvs xs)(k:List Key)(ry:RelV y u):
  KT H (kvs.map λkv=>if kv.1=k then(kv.1,y)else kv) (xs.map (putAt k u)):=by
 induction r with
 | nil=>exact .nil
 | @cons p q ps qs h t ih=>
  rw[xt,xt];refine .cons ?_ ih;obtain⟨h1,h2,h3⟩:=h;unfold putAt;by_cases e:p.1=k
  ·rw[xb e,xb (h1.symm.trans e)];exact⟨h1,h2,ry⟩
  ·rw[xc e,xc (λz=>e (h1.trans z))];exact⟨h1,h2,h3⟩
theorem KT.put{H:Hp}(r:KT H kvs xs)(k:List Key)(hb:H b=some (.tup (k.map kV)))(ry:RelV y u):
  KT H (putK kvs k y) (storedH xs k b u):=by
 have e:(kvs.any λkv=>decide (kv.1=k))=(atKey xs k).isSome:=by rw[zJk,(r.val k).isSome_eq,Option.isSome_map]
 unfold putK storedH;rw[e];by_cases q:(atKey xs k).isSome=true
 ·rw[xb q,xb q];exact r.repl k ry
 ·rw[xc q,xc q];exact Paired.snoc r ⟨rfl,hb,ry⟩
theorem KT.keeps{H H':Hp}(r:KT H kvs xs)(ht:∀b ys,H b=some (.tup ys)->H' b=some (.tup ys)):KT H' kvs xs:=
 Paired.mapP r λ_ _ z=>⟨z.1,ht _ _ z.2.1,z.2.2⟩
section
variable {P:Program}{w:World}{H:Hp}{h:Heap}{a:Addr}
theorem zQ4{u:HO}(ok:HOk P w H h)(e:Rd H a u):ObjOk P w H h a u:=e.ok ok
theorem zLi{kvs:List (Key × V)}(ok:HOk P w H h)(e:Rd H a (.dK kvs)):kvs.length<=sizeLine/\(a == sysModules)=false/\∃vs,KV kvs vs/\h.DictOf (zB1 P w) a vs:=
 show ObjOk P w H h a (.dK kvs)from zQ4 ok e
theorem yBi{kvs:List (Key × V)}(ok:HOk P w H h)(e:H a=some (.dK kvs)):kvs.length<=sizeLine/\(a == sysModules)=false/\∃vs,KV kvs vs/\h.DictOf (zB1 P w) a vs:=zLi ok (.inl e)
theorem zF8{ks:List Key}(ok:HOk P w H h)(e:H a=some (.tup (ks.map kV))):(tupleKind (zB1 P w)).is h ks a:=by obtain⟨_,its,r,o,h1,h2,n,h3⟩:=(show ObjOk P w H h a (.tup (ks.map kV))from ok a _ e);exact⟨o,its.toArray,n,h1,h2,h3,by simpa using zHo r⟩
theorem zLh{kvs:List (List Key × V)}(ok:HOk P w H h)(e:Rd H a (.dT kvs)):kvs.length<=sizeLine/\(a == sysModules)=false /\
  ∃xs,KT H kvs xs/\h.DictOfH (tupleKind (zB1 P w)) a xs:=by
 obtain⟨z,y,xs,r,o,es,ep,h1,h2,h3,h4,h5⟩:=(show ObjOk P w H h a (.dT kvs)from zQ4 ok e);refine⟨z,y,xs,r,o,es,ep,h1,h2,h3,h4,λx hx=>?_,h5⟩;have all:∀{l:List (List Key × V)}{m:List (List Key × Addr × Value)},KT H l m->∀x∈m,(tupleKind (zB1 P w)).is h x.1 x.2.1:=by
  intro l m q;induction q with
  | nil=>intro x hx;exact nomatch hx
  | @cons p q ps qs hq t ih=>
   intro x hx;rcases xh.mp hx with e|hx
   ·subst e;exact zF8 ok (by rw[<- hq.1];exact hq.2.1)
   ·exact ih x hx
 exact all r x hx
theorem yBg{kvs:List (List Key × V)}(ok:HOk P w H h)(e:H a=some (.dT kvs)):kvs.length<=sizeLine/\(a == sysModules)=false /\
  ∃xs,KT H kvs xs/\h.DictOfH (tupleKind (zB1 P w)) a xs:=zLh ok (.inl e)
end
def DGet(H:Hp)(a:Addr)(y:V)(r:Option V):Prop:=
 (∃kvs k,Rd H a (.dK kvs)/\y=kV k/\r=valV kvs k)\/∃kvs k b,Rd H a (.dT kvs)/\y=.ref b/\H b=some (.tup (k.map kV))/\r=valV kvs k
def DPut(H:Hp)(a:Addr)(y v:V)(H':Hp):Prop:=
 (∃kvs k,H a=some (.dK kvs)/\y=kV k/\kvs.length<sizeLine/\H'=upd H a (.dK (putK kvs k v))) \/
 ∃kvs k b,H a=some (.dT kvs)/\y=.ref b/\H b=some (.tup (k.map kV))/\kvs.length<sizeLine/\H'=upd H a (.dT (putK kvs k v))
section
variable {X:Cx}{pins:List (Addr × Obj)}{σ:St}{H:Hp}{s:Shared}{a:Addr}{y v:V}{u r:Value}{o:Option V}{A:Around}{E:Value->Shared->Prop}
theorem Inv.big(I:Inv X pins σ H s):sysModules<s.heap.objs.size:=by have h:mainGlobals<s.heap.objs.size:=(I.mod.glob.keeps I.bk).lt;exact x6 (by decide) h
theorem zOv{Q:Value->Shared->Prop}(hu:A.units+1<cLine)(I:Inv X pins σ H s)(g:DGet H a y (some v))(ry:RelV y u)(h:∀w' s',Inv X pins σ H s'->RelV v w'->Q w' s'):
  wpAny (model X.prog X.w) A (getItem (.ref a) u) Q E s:=by
 rcases g with⟨kvs,k,e,ey,l⟩|⟨kvs,k,b,e,ey,eb,l⟩
 ·subst ey;obtain⟨z,hd,vs,rel,dd⟩:=zLi I.hok e;obtain⟨w',hw,rw'⟩:=RelO.some_of (v:=v) (o:=valueAt vs k) (by rw[l];exact rel.val k);exact wpAny_getItem_of (zNu ry) dd.mapOf hw (h w' _ (I.tok _) rw')
 ·subst ey;cases(show u=Value.ref b from ry);obtain⟨z,hd,xs,rel,dd⟩:=zLh I.hok e;obtain⟨w',hw,rw'⟩:=RelO.some_of (v:=v) (o:=(atKey xs k).map (·.2)) (by rw[l];exact rel.val k);obtain⟨p,hp,hp2⟩:=Option.map_eq_some_iff.mp hw;refine wpAny_getItem_heap (tupleKind_room_in1 hu) (zF8 I.hok eb) dd hp ?_;rw[hp2];exact h w' _ (I.tok _) rw'
theorem d_in{Q:Value->Shared->Prop}(hu:A.units+1<cLine)(I:Inv X pins σ H s)(g:DGet H a y o)(ry:RelV y u)(h:∀s',Inv X pins σ H s'->Q (.bool o.isSome) s'):
  wpAny (model X.prog X.w) A (compareOp .In u (.ref a)) Q E s:=by
 rcases g with⟨kvs,k,e,ey,l⟩|⟨kvs,k,b,e,ey,eb,l⟩
 ·subst ey;obtain⟨z,hd,vs,rel,dd⟩:=zLi I.hok e;refine wpAny_in_of (zNu ry) hd dd.mapOf ?_;rw[<- (rel.val k).isSome_eq,<- l];exact h _ (I.tok _)
 ·subst ey;cases(show u=Value.ref b from ry);obtain⟨z,hd,xs,rel,dd⟩:=zLh I.hok e;refine wpAny_in_heap (tupleKind_room_in1 hu) (zF8 I.hok eb) hd dd ?_;have q:=(rel.val k).isSome_eq;rw[Option.isSome_map]at q;rw[<- q,<- l];exact h _ (I.tok _)
theorem zOu{Q:Value->Shared->Prop}(hu:A.units+1<cLine)(I:Inv X pins σ H s)(g:DGet H a y o)(ry:RelV y u)(h:∀s',Inv X pins σ H s'->Q (.bool (!o.isSome)) s'):
  wpAny (model X.prog X.w) A (compareOp .NotIn u (.ref a)) Q E s:=by
 rcases g with⟨kvs,k,e,ey,l⟩|⟨kvs,k,b,e,ey,eb,l⟩
 ·subst ey;obtain⟨z,hd,vs,rel,dd⟩:=zLi I.hok e;refine wpAny_notIn_of (zNu ry) hd dd.mapOf ?_;rw[<- (rel.val k).isSome_eq,<- l];exact h _ (I.tok _)
 ·subst ey;cases(show u=Value.ref b from ry);obtain⟨z,hd,xs,rel,dd⟩:=zLh I.hok e;refine wpAny_notIn_heap (tupleKind_room_in1 hu) (zF8 I.hok eb) hd dd ?_;have q:=(rel.val k).isSome_eq;rw[Option.isSome_map]at q;rw[<- q,<- l];exact h _ (I.tok _)
theorem zOs{h':Heap}{t':Nat}(I:Inv X pins σ H s)(mu:Mut (H a))(hs:Heap.SameBut a s.heap h')(he:∃q,h'.get? a=some q)(new:ObjOk X.prog X.w (upd H a ob) h' a ob):
  Inv X pins σ (upd H a ob) { s with heap:=h',toks:=t' }:=
 I.write (x:=a) (e:=a) mu (.inl rfl) (λb q hb z=>(hs.2 b hb).trans z) he new
theorem zZo{H':Hp}{h':Heap}{kvs:List (Key × V)}(z:kvs.length<=sizeLine)(hd:(a == sysModules)=false)(rel:KV kvs vs)(dd:h'.DictOf (zB1 P w) a vs):
  ObjOk P w H' h' a (.dK kvs):=⟨z,hd,vs,rel,dd⟩
theorem zOt{Q:Unit->Shared->Prop}(hu:A.units+1<cLine)(I:Inv X pins σ H s)(g:DPut H a y v H')(ry:RelV y u)(rv:RelV v r)(h:∀s',Inv X pins σ H' s'->Q () s'):
  wpAny (model X.prog X.w) A (setItem (.ref a) u r) Q E s:=by
 rcases g with⟨kvs,k,e,ey,l,eH⟩|⟨kvs,k,b,e,ey,eb,l,eH⟩
 ·subst ey eH;obtain⟨z,hd,vs,rel,dd⟩:=yBi I.hok e;have hz:vs.length<=sizeLine:=by rw[<- rel.length];exact z
  have hl:(putK kvs k v).length<=sizeLine:=by have:=zDd kvs k v;lia
  refine wpAny_setItem_pairs (hsz:=hz) (zNu ry) dd λh' dd' hs=>h _ ?_
  have he:∃q,h'.get? a=some q:=let ⟨q,_,_,hq,_⟩:=dd';⟨q,hq⟩
  exact zOs I (by rw[e];exact True.intro) hs he (zZo hl hd (rel.put k rv) dd')
 ·subst ey eH;cases(show u=Value.ref b from ry);obtain⟨z,hd,xs,rel,dd⟩:=yBg I.hok e;have hz:xs.length<=sizeLine:=by rw[<- v3 rel];exact z
  have hl:(putK kvs k v).length<=sizeLine:=by have:=zDd kvs k v;lia
  refine wpAny_setItem_heap (hsz:=hz) (tupleKind_room_in1 hu) (zF8 I.hok eb) dd λh' dd' hs=>h _ ?_
  obtain⟨q,es,ep,hq,h2,h3,h4,_,h5⟩:=dd';refine zOs I (by rw[e];exact True.intro) hs ⟨q,hq⟩ ⟨hl,hd,_,(rel.put k eb rv).keeps λc ys ec=>?_,q,es,ep,hq,h2,h3,h4,h5⟩;rw[zAf (yB1 ec e (λz=>nomatch z))];exact ec
end
section
variable {X:Cx}{pins:List (Addr × Obj)}{σ:St}{H:Hp}{s:Shared}{a:Addr}{kvs:List (Key × V)}{k:Key}{u:Value}{A:Around}{E:Value->Shared->Prop}
theorem yBz{Q:Value->Shared->Prop}(I:Inv X pins σ H s)(e:Rd H a (.dK kvs))(h:∀t s',Inv X pins σ H s'->Q (.int kvs.length t) s'):wpAny (model X.prog X.w) A (call (.builtin "len") [.ref a]) Q E s:=by obtain⟨z,hd,vs,rel,dd⟩:=zLi I.hok e;refine call_len_dict hd dd (by rw[<- rel.length];rw[vf]at z;lia) ?_;rw[<- rel.length];exact h _ _ (I.tok _)
end
theorem zIx{s:Shared}(I:Inv X pins σ H s)(g:DGet H a y o):s.TypeIs (.ref a) "dict":=by
 rcases g with⟨kvs,k,e,_,_⟩|⟨kvs,k,b,e,_,_,_⟩
 ·obtain⟨_,_,vs,_,dd⟩:=zLi I.hok e;exact dd.typeIs
 ·obtain⟨_,_,xs,_,dd⟩:=zLh I.hok e;exact dd.typeIs
theorem zRl(h:Heap)(hb:sysModules<h.objs.size):ObjOk P w H (h.push { cls:=.type "dict",data:=.dict #[] }) h.objs.size (.dT []):=
 ⟨xC _,ug.mpr (xD (xr hb)),[],.nil,_,#[],0,xy _ rfl,⟨rfl,rfl,rfl⟩,rfl,rfl,ua⟩
noncomputable def zS6:TE:=λ_ H Q=>∀p,H p=none->Q (.ref p) (upd H p (.dT []))
section
variable {X:Cx}{pos:Pos}
theorem zQo:PE X (.Dict [] [] pos) zS6:=λpins s σ H Q I h=>
 wpAny_Dict_empty ⟨.ref s.heap.objs.size,_,I.laid (a:=s.heap.objs.size) (o:=.dT []) (t':=s.toks) (λ_ _ q=>xp _ q) (xg _) (zRl s.heap I.big),rfl,h _ (I.hok.fresh (xg _))⟩
end
end L2
namespace HT
open PySem PyProof.Rows
section
open PySem.SeqAt
open PySem.AutoSeq1 (wpAny_loadPart')
open PySem.MeetsSeq PySem.MeetsSeq2 PySem.MeetsSeq3
end
section
variable {prog:Program}{w:World}{A:Around}{E:Value->Shared->Prop}{s:Shared}
theorem cat_tup{vs ws:List Value}{Q:Value->Shared->Prop}(ht:IsTup s.heap t vs.toArray)(hb:IsTup s.heap b ws.toArray)(hv:vs≠[])
  (h1:ws=[]->Q (.ref t) s) (h2:ws≠[]->Q (.ref s.heap.objs.size) { s with heap:=s.heap.push { cls:=.type "tuple",data:=.seq (vs++ws).toArray } })
  (hsz:vs.length+ws.length<=sizeLine):wpAny (model prog w) A (binaryOp .Add (.ref t) (.ref b)) Q E s:=by
 obtain⟨⟨cls,dd,data,sl⟩,ho,hc,n,hd⟩:=id ht;obtain⟨⟨cls2,dd2,data2,sl2⟩,ho2,hc2,n2,hd2⟩:=id hb;simp only at hc hd hc2 hd2;subst hc hd hc2 hd2;have e:vs.toArray++ws.toArray=(vs++ws).toArray:=by simp
 by_cases hw:ws=[]
 ·exact concat_meets ⟨_,ho,rfl⟩ ⟨_,ho2,rfl⟩ noFill_tuple_add seq_tuple_add PySem.F.slot_tuple_add PySem.F.entry_tuple_add (PySem.F.args_tuple_add_2 _ _)
   (tuple_addW1 t b vs.toArray ws.toArray n n2 dd dd2 sl sl2 (by simpa using hv) (by simp[hw])) ⟨ho,ho2,h1 hw⟩
 ·refine concat_meets ⟨_,ho,rfl⟩ ⟨_,ho2,rfl⟩ noFill_tuple_add seq_tuple_add PySem.F.slot_tuple_add PySem.F.entry_tuple_add (PySem.F.args_tuple_add_2 _ _)
   (tuple_addW2 t b vs.toArray ws.toArray n n2 dd dd2 sl sl2 (by simpa using hv) (by simpa using hw) (by rw[xq,xq];exact hsz)) ⟨ho,ho2,?_⟩
  rw[e];exact h2 hw
noncomputable def sIx (n d:Nat):Option Int->Nat
 | none=>d
 | some v=>if v<0 then(v+(n:Int)).toNat else min v.toNat n
theorem zXb(n d:Nat)(hd:d<=n)(o:Option Int):sIx n d o<=n:=by
 cases o with
 | none=>exact hd
 | some v=>
  show(if v<0 then(v+(n:Int)).toNat else min v.toNat n)<=n;by_cases hv:v<0
  ·rw[xb hv];lia
  ·rw[xc hv];exact Nat.min_le_right _ _
theorem zP3(v:Int)(n d:Nat):(if v<0 then max (v+(n:Int)) 0 else min v (n:Int))=((sIx n d (some v):Nat):Int):=by
 show(if v<0 then max (v+(n:Int)) 0 else min v (n:Int))=(((if v<0 then(v+(n:Int)).toNat else min v.toNat n):Nat):Int);by_cases hv:v<0
 ·simp only[xb hv];lia
 ·simp only[xc hv];lia
theorem zLu(lo hi:Option Int)(n:Nat):Builtin.Slice.sliceAdjust lo hi 1 (n:Int)=(((sIx n 0 lo:Nat):Int),((sIx n n hi:Nat):Int)):=by
 have h1:¬ ((1:Int)<0):=by nofun
 unfold Builtin.Slice.sliceAdjust;simp only[h1,xM];refine xJ ?_ ?_
 ·cases lo with
  | none=>rfl
  | some v=>exact zP3 v n 0
 ·cases hi with
  | none=>rfl
  | some v=>exact zP3 v n n
theorem zKx(i j:Nat):Builtin.Slice.slicePlaces (i:Int) (j:Int) 1=j-i:=by
 unfold Builtin.Slice.slicePlaces;have h1:(1:Int) > 0:=by nofun
 simp only[h1,xB,Int.ediv_one];split <;> lia
theorem zFt{o:Option Int}{Q:Option Int->Shared->Prop}(p:IsPart v o)(h:Q o s):wpAny (model prog w) A (Builtin.Slice.slicePartIndex v) Q E s:=by
 cases p with
 | none=>exact slicePart_none h
 | int i t=>exact slicePart_int h
theorem sliceApplied_gen{lo hi:Option Int}{n:Nat}{Q:Int × Int × Nat->Shared->Prop}(hs:s.heap.IsSliceOf sl vl vu .none)(pl:IsPart vl lo)(pu:IsPart vu hi)
  (h:Q (((sIx n 0 lo:Nat):Int),1,sIx n n hi-sIx n 0 lo) s):wpAny (model prog w) A (Builtin.Slice.sliceApplied (.ref sl) (pure (n:Int))) Q E s:=by
 obtain⟨os,hos,hcs,hds⟩:=id hs;unfold Builtin.Slice.sliceApplied Builtin.Slice.sliceFields;refine xa (xa (wpAny_field hos hds (x:=vl) rfl (xa (wpAny_field hos hds (x:=vu) rfl (xa (wpAny_field hos hds (x:=.none) rfl (xf ?_)))))));refine xa (slicePart_none ?_);show wpAny _ _ (if((1:Int) == 0)=true then _ else _) _ _ s;rw[xc (by decide)];refine xa (zFt pl (xa (zFt pu (xa (xf ?_)))));show wpAny _ _ (match Builtin.Slice.sliceAdjust lo hi 1 (n:Int)with|(lo,hi)=>pure (lo,(1:Int),Builtin.Slice.slicePlaces lo hi 1)) _ _ s;rw[zLu lo hi n];show wpAny _ _ (pure (((sIx n 0 lo:Nat):Int),(1:Int),Builtin.Slice.slicePlaces ((sIx n 0 lo:Nat):Int) ((sIx n n hi:Nat):Int) 1)) _ _ s;rw[zKx];exact xf h
theorem zQh(xs:Array Value)(i k:Nat):((List.range k).filterMap fun(m:Nat)=>xs[((i:Int)+(m:Int)*1).toNat]?).toArray=((xs.toList.drop i).take k).toArray:=by
 have e:(fun(m:Nat)=>xs[((i:Int)+(m:Int)*1).toNat]?)=λm=>xs[i+m]?:=by
  funext m
  have:((i:Int)+(m:Int)*1).toNat=i+m:=by nofun
  rw[this]
 rw[e];have:=pick_run xs i k;rw[List.filterMap_map]at this;have e2:((λx=>xs[x]?) ∘ λx=>i+x)=λm=>xs[i+m]?:=rfl
 rw[e2]at this;rw[this]
theorem getItem_tuple_cut{lo hi:Option Int}{Q:Value->Shared->Prop}(ht:IsTup s.heap t items)(hs:s.heap.IsSliceOf sl vl vu .none)(pl:IsPart vl lo)(pu:IsPart vu hi)
  (hw:¬ (sIx items.size 0 lo=0/\sIx items.size items.size hi=items.size))
  (h:Q (.ref s.heap.objs.size) { s with heap:=s.heap.push { cls:=.type "tuple",data:=.seq ((items.toList.drop (sIx items.size 0 lo)).take (sIx items.size items.size hi-sIx items.size 0 lo)).toArray } })
  (hsz:items.size<=sizeLine):wpAny (model prog w) A (getItem (.ref t) (.ref sl)) Q E s:=by
 have htake:sizeOk (.seq ((items.toList.drop (sIx items.size 0 lo)).take (sIx items.size items.size hi-sIx items.size 0 lo)).toArray):=by show((items.toList.drop (sIx items.size 0 lo)).take (sIx items.size items.size hi-sIx items.size 0 lo)).toArray.size<=sizeLine;rw[xq,vo,List.length_drop,vx];exact xm (Nat.min_le_right _ _) (xm (Nat.sub_le _ _) hsz)
 have hj:sIx items.size items.size hi<=items.size:=zXb _ _ (xg _) hi;obtain⟨os,hos,hcs,hds⟩:=id hs;have hTs:s.TypeIs (.ref sl) "slice":=⟨os,hos,hcs⟩;unfold getItem
 try with_reducible refine xI ?_
 first|refine xa (xf ?_)|skip
 refine xa (wpAny_sequenceKey ht.typeIs (by decide) ?_);refine xa (ui (name:=Str.ofString "__getitem__") ht.typeIs vT
  (vq vT ht.typeIs entry_tuple_getitem ?_ (args_tuple_getitem _ _)))
 show wpAny _ _ (Builtin.Tuple.tupleItemsOf (.ref t) >>= _) _ _ s;refine xa (tupleItemsOf_ ht ?_);refine xa (vK hTs ?_);rw[xb (by decide)];refine xa (sliceApplied_gen hs pl pu ?_);have hno:¬ ((((sIx items.size 0 lo:Nat):Int) == 0 && (1:Int) == 1 && (sIx items.size items.size hi-sIx items.size 0 lo) == items.size)=true):=by intro q;rw[xi,xi]at q;have q1:((sIx items.size 0 lo:Nat):Int)=0:=eq_of_beq q.1.1;have q2:sIx items.size items.size hi-sIx items.size 0 lo=items.size:=eq_of_beq q.2;exact hw ⟨by nofun,by nofun⟩
 show wpAny _ _ (if(((sIx items.size 0 lo:Nat):Int) == 0 && (1:Int) == 1 && (sIx items.size items.size hi-sIx items.size 0 lo) == items.size)=true then _ else _) _ _ s;rw[xc hno,zQh];first
  | exact xa (m:=Builtin.Tuple.tupleExact _) (vy (xf ⟨_,rfl,xf h⟩) htake)
  | exact xa (m:=Builtin.Tuple.tupleExact _) (vy (xa (xf (xf ⟨_,rfl,xf h⟩))) htake)
  | exact xa (xa (m:=Builtin.Tuple.tupleExact _) (vy (xf (xf ⟨_,rfl,xf h⟩)) htake))
  | exact xa (xa (m:=Builtin.Tuple.tupleExact _) (vy (xf ⟨_,rfl,xf h⟩) htake))
end
end HT
namespace L2
open PySem PySem.Spec PyProof.Rows
abbrev TO:=St->Hp->(Option Int->Hp->Prop)->Prop
def PO(X:Cx)(e:Option Expr)(t:TO):Prop:=
 ∀(pins:List (Addr × Obj)) (s:Shared) (σ:St) (H:Hp) (Q:Option Int->Hp->Prop),Inv X pins σ H s->t σ H Q->
  wpAny (model X.prog X.w) X.A (evalPart e X.env) (λu s'=>∃o H',Inv X pins σ H' s'/\IsPart u o/\Q o H') X.xe s
noncomputable def zM3:TO:=λ_ H Q=>Q none H
noncomputable def zX6 (t:TE):TO:=λσ H Q=>t σ H λx H1=>∃i,x=.int i/\Q (some i) H1
section
variable {X:Cx}{e:Expr}{te:TE}{lo hi:Option Expr}{tl th:TO}{pos p2:Pos}
theorem zU8:PO X none zM3:=by intro pins s σ H Q I h;rw[evalPart_none];exact xf ⟨none,H,I,.none,h⟩
theorem zU7(h:PE X e te):PO X (some e) (zX6 te):=by
 intro pins s σ H Q I hw;rw[evalPart_some];refine thn (h pins s σ H _ I hw) λu s1 hq1=>?_
 obtain⟨x,H1,I1,r1,q1⟩:=hq1;obtain⟨i,rfl,q⟩:=q1;obtain⟨t,rfl⟩:=r1;exact⟨some i,H1,I1,.int i t,q⟩
def SlR(X:Cx)(r:V->Option Int->Option Int->Hp->VK->Prop):Prop:=
 ∀(pins:List (Addr × Obj)) (s:Shared) (σ:St) (H:Hp) (x:V) (v vl vu:Value) (lo hi:Option Int) (sl:Addr) (Q:VK),Inv X pins σ H s->RelV x v->s.heap.IsSliceOf sl vl vu .none->IsPart vl lo->IsPart vu hi->r x lo hi H Q->
  ∃T id,typeLookup (.type T) "__getitem__"=pure (some (.builtin id))/\s.TypeIs v T/\wpAny (model X.prog X.w) X.A (getItem v (.ref sl)) (EP X pins σ Q) X.xe s
noncomputable def tSl (r:V->Option Int->Option Int->Hp->VK->Prop) (te:TE) (tl th:TO):TE:=λσ H Q=>te σ H λx H1=>tl σ H1 λl H2=>th σ H2 λu H3=>r x l u H3 Q
theorem zQk{r:V->Option Int->Option Int->Hp->VK->Prop}(hr:SlR X r)(he:PE X e te)(hl:PO X lo tl)(hu:PO X hi th):PE X (.Subscript e (.Slice lo hi none p2) pos) (tSl r te tl th):=by
 intro pins s σ H Q I h;refine Subscript_ (thn (he pins s σ H _ I h) λv s1 hq1=>?_);obtain⟨x,H1,I1,r1,q1⟩:=hq1;refine wpAny_Slice (thn (hl pins s1 σ H1 _ I1 q1) λvl s2 ⟨l,H2,I2,pl,q2⟩=>thn (hu pins s2 σ H2 _ I2 q2) λvu s3 hq1=>?_);obtain⟨u,H3,I3,pu,q3⟩:=hq1;rw[evalPart_none];refine xf ?_;have I4:Inv X pins σ H3 { s3 with heap:=s3.heap.push { cls:=.type "slice",data:=.fields #[vl,vu,.none] } }:=I3.kept (t':=s3.toks) λb ob q=>xp _ q
 obtain⟨T,id,hT,ht,hg⟩:=hr pins { s3 with heap:=s3.heap.push { cls:=.type "slice",data:=.fields #[vl,vu,.none] } } σ H3 x v vl vu l u s3.heap.objs.size Q I4 r1 (Heap.IsSliceOf.new ..) pl pu q3;show wpAny (model X.prog X.w) X.A (subscriptTail e (.Slice lo hi none p2) v (.ref s3.heap.objs.size)) (EP X pins σ Q) X.xe { s3 with heap:=s3.heap.push { cls:=.type "slice",data:=.fields #[vl,vu,.none] } };exact tail_any (ops:=[.ref s3.heap.objs.size,v]) ht hT hg (by with_unfolding_all rfl)
noncomputable def cutV (xs:List V) (lo hi:Option Int):List V:=(xs.drop (HT.sIx xs.length 0 lo)).take (HT.sIx xs.length xs.length hi-HT.sIx xs.length 0 lo)
theorem zFh(xs:List V)(lo hi:Option Int):(cutV xs lo hi).length<=xs.length:=by unfold cutV;rw[vo,List.length_drop];lia
def rSlT(K:PySem.W.Frag):V->Option Int->Option Int->Hp->VK->Prop:=λx lo hi H Q=>∃a xs,x=.ref a/\SqT K H a xs /\
 ¬ (HT.sIx xs.length 0 lo=0/\HT.sIx xs.length xs.length hi=xs.length)/\∀p,H p=none->Q (.ref p) (upd H p (.tup (cutV xs lo hi)))
theorem zS9:SlR X (rSlT X.K):=by
 intro pins s σ H x v vl vu lo hi sl Q I rx hs pl pu h;obtain⟨a,xs,rfl,hx,hw,q⟩:=h;cases rx;obtain⟨its,r,ht,hz⟩:=I.tuple hx;have hlen:its.toArray.size=xs.length:=by rw[xq];exact r.length.symm
 refine⟨"tuple",_,vT.lookup,ht.typeIs,?_⟩;refine HT.getItem_tuple_cut ht hs pl pu (by rw[hlen];exact hw) ?_ (by rw[hlen];exact hz);rw[hlen];refine⟨.ref s.heap.objs.size,_,I.laid (t':=s.toks) (o:=.tup (cutV xs lo hi)) (λb ob q=>xp _ q) (xg _) ?_,rfl,q _ (I.hok.fresh (xg _))⟩;exact⟨xm (zFh xs lo hi) hz,_,(r.drop (HT.sIx xs.length 0 lo)).take (HT.sIx xs.length xs.length hi-HT.sIx xs.length 0 lo),IsTup.new _ _⟩
noncomputable def yAp (K:PySem.W.Frag):R2:=λx y H Q=>∃a b xs ys,x=.ref a/\y=.ref b/\SqT K H a xs/\SqT K H b ys/\xs≠[]/\xs.length+ys.length<=sizeLine /\
 (ys=[]->Q (.ref a) H)/\(ys≠[]->∀p,H p=none->Q (.ref p) (upd H p (.tup (xs++ys))))
theorem Vals.nil_iff(r:Vals xs us):us=[] <-> xs=[]:=by
 cases r with
 | nil=>simp
 | cons _ _=>simp
theorem zUz:OpR X (binaryOp .Add) (yAp X.K):=by intro pins s σ H x y v u Q I rx ry h;obtain⟨a,b,xs,ys,rfl,rfl,ha,hb,hx,hz,q1,q2⟩:=h;cases rx;cases ry;obtain⟨its,r1,p1,_⟩:=I.tuple ha;obtain⟨its2,r2,p2,_⟩:=I.tuple hb;refine HT.cat_tup p1 p2 (λz=>hx (r1.nil_iff.mp z)) (λz=>⟨.ref a,H,I,rfl,q1 (r2.nil_iff.mp z)⟩) (λz=>?_) (by rw[<- r1.length,<- r2.length];exact hz);refine⟨.ref s.heap.objs.size,_,I.laid (t':=s.toks) (o:=.tup (xs++ys)) (λb ob q=>xp _ q) (xg _) ?_,rfl,q2 (λw=>z (r2.nil_iff.mpr w)) _ (I.hok.fresh (xg _))⟩;exact⟨by rw[xE];exact hz,_,r1.append r2,IsTup.new _ _⟩
end
noncomputable def ixN (n:Nat) (i:Int):Option Nat:=if 0<=i then(if i<n then some i.toNat else none)else if -(n:Int)<=i then some (i+n).toNat else none
noncomputable def atI {α:Type}(xs:List α) (i:Int):Option α:=(ixN xs.length i).bind λj=>xs[j]?
theorem zNv{n:Nat}{i:Int}{j:Nat}(h:ixN n i=some j):seqIndex? i n=some j/\j<n/\-(n:Int)<=i/\i<n:=by
 unfold ixN at h;by_cases h0:0<=i
 ·rw[xb h0]at h;by_cases h1:i<n
  ·rw[xb h1]at h;have e:i.toNat=j:=xA h;exact⟨by rw[seqIndex_of h0 h1,e],by nofun,by nofun,h1⟩
  ·rw[xc h1]at h;cases h
 ·rw[xc h0]at h;by_cases h1:-(n:Int)<=i
  ·rw[xb h1]at h;have e:(i+n).toNat=j:=xA h;exact⟨by rw[seqIndex_neg (by nofun) h1,e],by nofun,h1,by nofun⟩
  ·rw[xc h1]at h;cases h
theorem zJi{α:Type}{xs:List α}{i:Int}{v:α}(h:atI xs i=some v):∃j,seqIndex? i xs.length=some j/\xs[j]?=some v/\j<xs.length/\-(xs.length:Int)<=i/\i<xs.length:=by
 unfold atI at h;cases e:ixN xs.length i with
 | none=>rw[e]at h;cases h
 | some j=>
  rw[e]at h;obtain⟨h1,h2,h3,h4⟩:=zNv e;exact⟨j,h1,h,h2,h3,h4⟩
def zPl(b:Expr):Prop:=∀o i,subscripted b false o i=operate [o,i] (getItem o i)
def IxR(X:Cx)(r:R2):Prop:=
 ∀(value slice:Expr) (pins:List (Addr × Obj)) (s:Shared) (σ:St) (H:Hp) (x y:V) (v u:Value) (Q:VK),Inv X pins σ H s->RelV x v->RelV y u->r x y H Q->
  subscripted slice false v u=operate [v,u] (getItem v u)->wpAny (model X.prog X.w) X.A (subscriptTail value slice v u) (EP X pins σ Q) X.xe s
def MtR(X:Cx)(id:String)(r:V->List V->Hp->VK->Prop):Prop:=
 ∀(pins:List (Addr × Obj)) (s:Shared) (σ:St) (H:Hp) (x:V) (xs:List V) (v:Value) (us:List Value) (Q:VK),Inv X pins σ H s->RelV x v->Vals xs us->r x xs H Q->
  wpAny (model X.prog X.w) X.A (call (.builtin id) (v::us)) (EP X pins σ Q) X.xe s
section
variable {X:Cx}{a b:Expr}{ta tb:TE}{pos:Pos}
theorem yAv(hr:IxR X r)(ha:PE X a ta)(hb:PE X b tb)(hs:zPl b):PE X (.Subscript a b pos) (tOp r ta tb):=by intro pins s σ H Q I h;exact Subscript_ (binT ha hb I h λv u s2 x y H2 I2 rx ry q=>hr a b pins s2 σ H2 x y v u Q I2 rx ry q (hs _ _))
noncomputable def rIxL (K:PySem.W.Frag):R2:=λx y H Q=>∃p xs i v,x=.ref p/\y=.int i/\SqL K H p xs/\atI xs i=some v/\Q v H
noncomputable def rIxT (K:PySem.W.Frag):R2:=λx y H Q=>∃p xs i v,x=.ref p/\y=.int i/\SqT K H p xs/\atI xs i=some v/\Q v H
noncomputable def rIxS:R2:=λx y H Q=>∃z i c,x=.str z/\y=.int i/\z.length<=sizeLine/\atI z.cps.toList i=some c/\Q (.str ⟨#[c]⟩) H
theorem zVh:IxR X (rIxL X.K):=by
 intro value slice pins s σ H x y v u Q I rx ry h hs;obtain⟨p,xs,i,z,rfl,rfl,hq,he,q⟩:=h;cases rx;obtain⟨t,rfl⟩:=ry;obtain⟨its,r,pl,hz⟩:=I.list hq;obtain⟨j,h1,h2,h3,h4,h5⟩:=zJi he;obtain⟨w,ew,rw'⟩:=r.get h2;have hl:=r.length;have hn:=line63;have fin:EP X pins σ Q w s:=⟨z,H,I,rw',q⟩;by_cases h0:0<=i
 ·have hj:i.toNat=j:=by
   rw[seqIndex_of h0 h5]at h1;exact xA h1
  exact item_listR pl.isList h0 (by nofun) (by rw[hj];simpa using ew) fin hs
 ·have hj:(i+(its.toArray.size:Int)).toNat=j:=by
   rw[seqIndex_neg (by nofun) h4]at h1;rw[xq,<- hl];exact xA h1
  exact subscriptTail_builtinR (x:=w) pl.isList.typeIs slot_list_getitem.lookup
   (wpAny_getItem_list_neg (Q:=λr s'=>r=w/\EP X pins σ Q r s') pl.isList (by nofun) (by rw[xq] <;> lia) (by nofun) (by rw[hj];simpa using ew) ⟨rfl,fin⟩) hs
theorem zYw:IxR X (rIxT X.K):=by
 intro value slice pins s σ H x y v u Q I rx ry h hs;obtain⟨p,xs,i,z,rfl,rfl,hq,he,q⟩:=h;cases rx;obtain⟨t,rfl⟩:=ry;obtain⟨its,r,pl,hz⟩:=I.tuple hq;obtain⟨j,h1,h2,h3,h4,h5⟩:=zJi he;obtain⟨w,ew,rw'⟩:=r.get h2;have hl:=r.length;have hn:=line63;have fin:EP X pins σ Q w s:=⟨z,H,I,rw',q⟩;exact subscriptTail_builtinR (x:=w) pl.typeIs slot_tuple_getitem.lookup
  (getItem_tuple (j:=j) (Q:=λr s'=>r=w/\EP X pins σ Q r s') pl (by nofun) (by nofun) (by rw[xq,<- hl];exact h1) (by simpa using ew) ⟨rfl,fin⟩) hs
theorem zYx:IxR X rIxS:=by
 intro value slice pins s σ H x y v u Q I rx ry h hs;obtain⟨z,i,c,rfl,rfl,hz,he,q⟩:=h;obtain⟨t,rfl⟩:=rx;obtain⟨t',rfl⟩:=ry;obtain⟨j,h1,h2,h3,h4,h5⟩:=zJi he;have hl:z.cps.toList.length=z.length:=by simp[Str.length]
 rw[hl]at h1 h4 h5;have hn:=line63;exact tail_any (typeIs_str s z t) slot_str_getitem.lookup (getItem_str (c:=c) (by
  have e1:decide (i < -(2 ^ 63:Int))=false:=xj (by nofun);have e2:decide (i >= 2 ^ 63)=false:=xj (by nofun);rw[e1,e2,Bool.or_false]) (by rw[h1];simpa using h2) ⟨.str ⟨#[c]⟩,H,I.tok _,⟨_,rfl⟩,q⟩) hs
theorem zL3(its:List Value)(n j:Nat)(u:Value):Obj.mapSeq (·.setIfInBounds j u) { cls:=.type "list",data:=.seq its.toArray n }={ cls:=.type "list",data:=.seq (its.set j u).toArray n }:=by simp[Obj.mapSeq]
theorem Inv.lst{H:Hp}(I:Inv X pins σ H s)(h:H p=some (.lst xs)):
  ∃(its:List Value) (n:Nat),Vals xs its/\s.heap.get? p=some { cls:=.type "list",data:=.seq its.toArray n }/\xs.length<=sizeLine:=by
 obtain⟨z,its,n,r,e⟩:=I.hok p _ h;exact⟨its,n,r,e,z⟩
theorem Inv.lstUpd{H:Hp}{ys:List V}{its its':List Value}{n n':Nat}{f:Obj->Obj}(I:Inv X pins σ H s)(h:H p=some (.lst xs))
  (ho:s.heap.get? p=some { cls:=.type "list",data:=.seq its.toArray n }) (hf:f { cls:=.type "list",data:=.seq its.toArray n }={ cls:=.type "list",data:=.seq its'.toArray n' }) (r:Vals ys its') (hz:ys.length<=sizeLine) (t:Nat):
  Inv X pins σ (upd H p (.lst ys)) { s with heap:=s.heap.update p f,toks:=t }:=by
 have e:(s.heap.update p f).get? p=some { cls:=.type "list",data:=.seq its'.toArray n' }:=by rw[uj f ho (by rw[hf] <;> rfl),hf]
 refine I.write (x:=p) (e:=p) (by rw[h];trivial) (.inl rfl) (λb u hb q=>(uk _ _ (xD hb)).trans q) ⟨_,e⟩ ?_;exact⟨hz,its',n',r,e⟩
def yAo:V->V->V->Hp->(Hp->Prop)->Prop:=λo i v H Q=>∃p xs k j,o=.ref p/\i=.int k/\H p=some (.lst xs)/\ixN xs.length k=some j/\Q (upd H p (.lst (xs.set j v)))
theorem set_list:PSet X yAo:=by
 intro pins s σ H o i v ov iv u Q I ro ri rv h;obtain⟨p,xs,k,j,rfl,rfl,hp,hj,q⟩:=h;cases ro;obtain⟨t,rfl⟩:=ri;obtain⟨its,n,r,ho,hz⟩:=I.lst hp;obtain⟨h1,h2,h3,h4⟩:=zNv hj;have hl:=r.length;have hn:=line63;have I':Inv X pins σ (upd H p (.lst (xs.set j v))) { s with heap:=s.heap.update p (Obj.mapSeq (·.setIfInBounds j u)) }:=
  I.lstUpd hp ho (zL3 its n j u) (r.set rv j) (by rw[List.length_set];exact hz) s.toks
 by_cases h0:0<=k
 ·have hk:k.toNat=j:=by
   rw[seqIndex_of h0 h4]at h1;exact xA h1
  exact PySem.W.ki_setAt ho h0 (by nofun) (by rw[xq,<- hl];exact h4) (by rw[hk];exact⟨_,I',q⟩)
 ·have hk:(k+(its.toArray.size:Int)).toNat=j:=by
   rw[seqIndex_neg (by nofun) h3]at h1;rw[xq,<- hl];exact xA h1
  exact PySem.W.ki_setBack ho (by nofun) (by rw[xq,<- hl];exact h3) (by nofun) (by rw[hk];exact⟨_,I',q⟩)
theorem zHf(lo hi:Option Int)(n:Nat):(sliceBounds lo hi none n).1=((HT.sIx n 0 lo:Nat):Int)/\(sliceBounds lo hi none n).2.1=((HT.sIx n n hi:Nat):Int)/\(sliceBounds lo hi none n).2.2=1:=by
 refine⟨?_,?_,rfl⟩
 ·cases lo with
  | none=>simp[sliceBounds,HT.sIx]
  | some i=>
   simp only[sliceBounds,HT.sIx,Option.getD_none,show(1:Int) > 0 by decide,xB];by_cases h:i<0
   ·simp only[h,xB] <;> lia
   ·simp only[h,xM] <;> lia
 ·cases hi with
  | none=>simp[sliceBounds,HT.sIx]
  | some i=>
   simp only[sliceBounds,HT.sIx,Option.getD_none,show(1:Int) > 0 by decide,xB];by_cases h:i<0
   ·simp only[h,xB] <;> lia
   ·simp only[h,xM] <;> lia
theorem zGb(its:List Value)(lo hi:Option Int):slicePick its.toArray lo hi none=((its.drop (HT.sIx its.length 0 lo)).take (HT.sIx its.length its.length hi-HT.sIx its.length 0 lo)).toArray:=by obtain⟨h1,h2,h3⟩:=zHf lo hi its.toArray.size;unfold slicePick;rw[h1,h2,h3];simp only[sliceRange_one,pick_run,xq] <;> rfl
def rSlL(K:PySem.W.Frag):V->Option Int->Option Int->Hp->VK->Prop:=λx lo hi H Q=>∃a xs,x=.ref a/\SqL K H a xs/\∀p,H p=none->Q (.ref p) (upd H p (.lst (cutV xs lo hi)))
theorem zTp:SlR X (rSlL X.K):=by intro pins s σ H x v vl vu lo hi sl Q I rx hs pl pu h;obtain⟨a,xs,rfl,hx,q⟩:=h;cases rx;obtain⟨its,r,ht,hz⟩:=I.list hx;have hlen:=r.length;refine⟨"list",_,slot_list_getitem.lookup,ht.isList.typeIs,?_⟩;refine wpAny_getItem_list_slice ht.isList hs pl pu .none (by simp) ?_ (by rw[xq] <;> lia);rw[zGb,<- hlen];refine⟨.ref s.heap.objs.size,_,I.laid (t':=s.toks) (o:=.lst (cutV xs lo hi)) (λb ob q=>xp _ q) (xg _) ?_,rfl,q _ (I.hok.fresh (xg _))⟩;exact⟨xm (zFh xs lo hi) hz,_,0,(r.drop (HT.sIx xs.length 0 lo)).take (HT.sIx xs.length xs.length hi-HT.sIx xs.length 0 lo),xy _ rfl⟩
theorem zI0:zBa X (.builtin "len") (λxs H Q=>∃p ys,xs=[.ref p]/\(SqL X.K H p ys\/SqT X.K H p ys)/\Q (.int ys.length) H):=by
 intro pins s σ H xs us Q I r h;obtain⟨p,ys,rfl,hq,q⟩:=h;obtain⟨u,rfl,rx⟩:=vals1 r;cases rx;have hn:=line63;rcases hq with hq|hq
 ·obtain⟨its,r',pl,hz⟩:=I.list hq;have hlen:=r'.length;exact Calls.call_len_list pl.isList (by simp only[xq] <;> lia) ⟨.int ys.length,H,I.tok _,⟨s.toks+1,by rw[xq,hlen]⟩,q⟩
 ·obtain⟨its,r',pl,hz⟩:=I.tuple hq;have hlen:=r'.length;exact len_tuple pl (by simp only[xq] <;> lia) ⟨.int ys.length,H,I.tok _,⟨s.toks+1,by rw[xq,hlen]⟩,q⟩
theorem zHz:zBa X (.builtin "len") (λxs H Q=>∃z,xs=[.str z]/\z.length<=sizeLine/\Q (.int z.length) H):=by intro pins s σ H xs us Q I r h;obtain⟨z,rfl,hz,q⟩:=h;obtain⟨u,rfl,t,rfl⟩:=vals1 r;have hn:=line63;exact len_str (by nofun) ⟨.int z.length,H,I.tok _,⟨_,rfl⟩,q⟩
theorem zCj:zBa X (.type "tuple") (λxs H Q=>∃p ys,xs=[.ref p]/\((SqL X.K H p ys/\∀l,H l=none->Q (.ref l) (upd H l (.tup ys)))\/(SqT X.K H p ys/\Q (.ref p) H))):=by
 intro pins s σ H xs us Q I r h;obtain⟨p,ys,rfl,h⟩:=h;obtain⟨u,rfl,rx⟩:=vals1 r;cases rx;rcases h with⟨hq,q⟩|⟨hq,q⟩
 ·obtain⟨its,r',pl,hz⟩:=I.list hq;have hlen:=r'.length;refine call_tuple_list pl.isList (λh' kp=>?_) (by simp only[xq] <;> lia);have I1:Inv X pins σ H { s with heap:=h' }:=I.kept (t':=s.toks) kp;have I2:Inv X pins σ (upd H h'.objs.size (.tup ys)) { s with heap:=h'.push { cls:=.type "tuple",data:=.seq its.toArray } }:=
   I1.laid (t':=s.toks) (λb o e=>xp _ e) (xg _) (show ObjOk X.prog X.w _ _ _ (.tup ys)from⟨hz,its,r',IsTup.new _ _⟩)
  exact⟨.ref h'.objs.size,_,I2,rfl,q _ (I1.hok.fresh (xg _))⟩
 ·obtain⟨its,r',pl,hz⟩:=I.tuple hq;exact call_tuple_same pl ⟨.ref p,H,I,rfl,q⟩
def tyV(K:PySem.W.Frag)(T:String)(x:V)(H:Hp):Prop:=match x with
 | .str _=>T="str"
 | .int _=>T="int"
 | .ref p=>(T="list"/\∃xs,SqL K H p xs)\/(T="tuple"/\∃o,K.lookup p=some o/\o.cls=.type "tuple"/\o.dict=none) \/
   (T="dict"/\((∃kvs,Rd H p (.dK kvs))\/∃kvs,Rd H p (.dT kvs)))\/(T="set"/\∃S n,H p=some (.set S n))
 | _=>False
theorem zX3(I:Inv X pins σ H s)(r:RelV x v)(ty:tyV X.K T x H):
  s.TypeIs v T/\∀a,v=.ref a->∃ob,s.heap.get? a=some ob/\ob.dict=none:=by
 cases x with
 | str z=>
  obtain⟨t,rfl⟩:=r;cases(show T="str" from ty);exact⟨typeIs_str s z t,λ_ e=>nomatch e⟩
 | int i=>
  obtain⟨t,rfl⟩:=r;cases(show T="int" from ty);exact⟨typeIs_int s i t,λ_ e=>nomatch e⟩
 | ref p=>
  cases r;rcases ty with⟨rfl,xs,hq⟩|⟨rfl,o,hk,hc,hd⟩|⟨rfl,hk⟩|⟨rfl,S,n,hk⟩
  ·obtain⟨its,_,pl,_⟩:=I.list hq;refine⟨pl.isList.typeIs,λa e=>?_⟩;cases e;obtain⟨o,n,e,c,hd,_⟩:=pl;exact⟨o,e,hd⟩
  ·refine⟨⟨o,I.kIn p o hk,hc⟩,λa e=>?_⟩;cases e;exact⟨o,I.kIn _ o hk,hd⟩
  ·have z:∃o,s.heap.get? p=some o/\o.ExactDict:=by
    rcases hk with⟨kvs,hk⟩|⟨kvs,hk⟩
    ·obtain⟨_,_,_,_,o,_,_,e,ex,_⟩:=(show ObjOk X.prog X.w H s.heap p (.dK kvs)from zQ4 I.hok hk);exact⟨o,e,ex⟩
    ·obtain⟨_,_,_,_,o,_,_,e,ex,_⟩:=(show ObjOk X.prog X.w H s.heap p (.dT kvs)from zQ4 I.hok hk);exact⟨o,e,ex⟩
   obtain⟨o,e,ex⟩:=z;refine⟨⟨o,e,ex.1⟩,λa e2=>?_⟩;cases e2;exact⟨o,e,ex.2.1⟩
  ·obtain⟨o,_,_,_,e,ex,_⟩:=I.hok p _ hk;refine⟨⟨o,e,ex.1⟩,λa e2=>?_⟩;cases e2;exact⟨o,e,ex.2.1⟩
 | _=>exact False.elim ty
noncomputable def tBM (K:PySem.W.Frag) (T:String) (r:V->List V->Hp->VK->Prop) (to:TE) (t:TA):TE:=λσ H Q=>to σ H λx H1=>tyV K T x H1/\t σ H1 λxs H2=>r x xs H2 Q
variable {o e:Expr}{es:List Expr}{to:TE}{t:TA}{name:Str}{apos cpos:Pos}{T id:String}{r:V->List V->Hp->VK->Prop}
theorem yAw(pa:PlainAttrs T)(slot:Slot T name id)(hty:typeOf (.builtin id)=pure (.type "method_descriptor"))(hm:MtR X id r)(ho:PE X o to)(ha:PA X (e::es) t)
  (hbase:attributeBase o name X.env (eval o X.env)=eval o X.env:=by rfl)
  (hfew:((backTo cpos (starEach (e::es) X.env)).all (λx=>!x.1) && (backToKw cpos (keywordEach [] X.env)).all (λx=>x.1.isSome)
   && decide ((e::es).length+([]:List Keyword).length+(if([]:List Keyword).isEmpty then 0 else 1)<30))=true:=by rfl)
  (hline:(apos.endLine == cpos.line)=true:=by rfl) (hs:starEach (e::es) X.env=(false,eval e X.env)::starEach es X.env:=by rfl) (hplain:(backTo cpos (starEach es X.env)).any (·.1)=false:=by rfl):
  PE X (.Call (.Attribute o name apos) (e::es) [] cpos) (tBM X.K T r to t):=by
 intro pins s σ H Q I h;refine wpAny_Call_method_late hbase hfew hline rfl (thn (ho pins s σ H _ I h) λv s1 hq1=>?_);obtain⟨x,H1,I1,r1,ty,q1⟩:=hq1;obtain⟨h1,h2⟩:=zX3 I1 r1 ty;refine⟨T,id,pa,slot,hty,h1,h2,?_⟩;have hA:=ha cpos pins s1 σ H1 _ I1 q1;rw[hs]at hA ⊢;refine Calls.callWith_builtin (by show(false || (backTo cpos (starEach es X.env)).any (·.1))=false;rw[hplain] <;> rfl) (Calls.evalArgs_plain ?_);exact thn hA λus s2 hz8=>by obtain⟨vs,H2,I2,r2,q2⟩:=hz8;exact hm pins s2 σ H2 x vs v us Q I2 r1 r2 q2
end
def MtM(X:Cx)(id:String)(r:V->List V->Hp->VK->Prop):Prop:=
 ∀(pins:List (Addr × Obj)) (s:Shared) (σ:St) (H:Hp) (x:V) (xs:List V) (v:Value) (us:List Value) (Q:VK),Inv X pins σ H s->RelV x v->Vals xs us->r x xs H Q->
  wpAny (model X.prog X.w) X.A (call (.builtin id) (v::us)) (EP X pins σ Q) X.xe s
theorem Vals.one:∀{x:V}{us:List Value},Vals [x] us->∃u,us=[u]/\RelV x u
 | _,_,.cons r .nil=>⟨_,rfl,r⟩
theorem Vals.zero:∀{us:List Value},Vals [] us->us=[]
 | _,.nil=>rfl
section
variable {X:Cx}{pins:List (Addr × Obj)}{σ:St}{H:Hp}{s:Shared}{l b:Addr}{xs ys zs:List V}
theorem Inv.lset{its its':List Value}{n:Nat}{f:Array Value->Array Value}{t':Nat}(I:Inv X pins σ H s)(hH:H l=some (.lst xs))
  (e:s.heap.get? l=some { cls:=.type "list",data:=.seq its.toArray n }) (hf:f its.toArray=its'.toArray) (hv:Vals ys its') (hz:ys.length<=sizeLine):
  Inv X pins σ (upd H l (.lst ys)) { s with heap:=s.heap.update l (Obj.mapSeq f),toks:=t' }:=by
 have q:=PySem.IsL.update e f;rw[hf]at q;refine I.write (x:=l) (e:=l) (by rw[hH];exact trivial) (.inl rfl) (λb' u hb hu=>(uk s.heap (Obj.mapSeq f) (xD hb)).trans hu) ⟨_,q⟩ ?_;exact⟨hz,its',_,hv,q⟩
theorem Inv.lnew{t':Nat}(I:Inv X pins σ H s)(hv:Vals ys its)(hz:ys.length<=sizeLine):
  Inv X pins σ (upd H s.heap.objs.size (.lst ys)) { s with heap:=s.heap.push { cls:=.type "list",data:=.seq its.toArray },toks:=t' }:=
 I.laid (λ_ _ q=>xp _ q) (xg _) ⟨hz,its,0,hv,xy _ rfl⟩
theorem Inv.fresh(I:Inv X pins σ H s):H s.heap.objs.size=none:=I.hok.fresh (xg _)
theorem Inv.lstM(I:Inv X pins σ H s)(hH:H l=some (.lst xs)):xs.length<=sizeLine/\∃(its:List Value) (n:Nat),Vals xs its/\xs.length=its.length/\s.heap.get? l=some { cls:=.type "list",data:=.seq its.toArray n }:=by obtain⟨z,its,n,r,e⟩:=I.hok l _ hH;exact⟨z,its,n,r,r.length,e⟩
theorem zQx{n:Nat}(h:n<=sizeLine):Builtin.List.listTooLong n=false:=by unfold Builtin.List.listTooLong;exact xj (by nofun)
end
section
variable {X:Cx}
def zTv:V->List V->Hp->VK->Prop:=λx vs H Q=>∃l xs y,x=.ref l/\vs=[y]/\H l=some (.lst xs)/\xs.length<sizeLine/\Q .non (upd H l (.lst (xs++[y])))
theorem zNh:MtM X "list.append" zTv:=by intro pins s σ H x vs v us Q I rx rv h;obtain⟨l,xs,y,rfl,rfl,hH,hz,q⟩:=h;cases rx;obtain⟨u,rfl,ru⟩:=rv.one;obtain⟨z,its,n,r,hl,e⟩:=I.lstM hH;refine call_meets F.slot_list_append ⟨_,e,rfl⟩ F.entry_list_append (F.args_list_append_2 _ _) (PySem.list_append l its.toArray n u (by rw[xq];lia)) ⟨e,?_⟩;refine⟨.non,_,I.lset (its':=its++[u]) hH e (by simp) (r.append (.cons ru .nil)) ?_,rfl,q⟩;rw[xE,ub];lia
end
end L2
namespace Att
open PySem PySem.W PySem.Calls PyProof.Rows
theorem zFb :∀(ns:List Int) (vs:List Value),WellAll P h vs (ns.map WData.int)->IntsAre vs ns:=by
 intro ns;induction ns with
 | nil=>
  intro vs w;rw[xX]at w;cases w;exact .nil
 | cons n ns ih=>
  intro vs w;rw[xt]at w;cases w with
  | cons a b=>
   cases a;exact .cons _ _ (ih _ b)
theorem zMl{l:OpenLaw}{n:Nat}(hn:l.most=some n){P:Params}{h:Heap}{args:List WData}{vals:List Value}
  (hpre:l.row.toRowW.claim.pre args=true) (hwl:WellAll P h vals args):
  ∃a vs ns,vals=[Value.ref a]/\args=[WData.list (ns.map WData.int)]/\h.get? a=some { cls:=.type "list",data:=.seq vs.toArray }/\IntsAre vs ns/\ns.length<=n:=by
 have hsh:WShape.hasAll [] args [.list .int]=true:=(pre_splitW hpre).1;have hc:l.pre.holds [] { args:=args }=true:=(pre_splitW hpre).2;obtain⟨d,r,rfl,h1,h2⟩:=hasAllW_cons hsh;obtain rfl:=hasAllW_nil h2;obtain⟨xs,rfl,h3⟩:=hasW_list h1;obtain⟨ns,rfl⟩:=items_int h3;have hlen:ns.length<=n:=by
  unfold OpenLaw.pre at hc;have h4:(WTm.not (.lt (.lit (.int (n:Int))) (.len (.arg 0)))).holds [] { args:=[.list (ns.map .int)] }=true:=by have h4:=(holds_andW hc).1;rw[hn]at h4;exact h4
  have h5:=condW_of h4 (w_not (w_lt w_lit (w_len_list (w_arg rfl))));rw[xn]at h5;refine Nat.le_of_not_lt λq=>?_
  have q':(n:Int)<((ns.length:Nat):Int):=by nofun
  first
   | (rw[xk q']at h5;exact absurd h5 (by decide))
   | (simp at h5;lia)
 cases hwl with
 | cons w1 w2=>
  cases w2;cases w1 with
  | list ho hall=>exact⟨_,_,ns,rfl,rfl,ho,zFb ns _ hall,hlen⟩
theorem zMw(l:OpenLaw)(args:List WData):l.row.toRowW.claim.post args (.bool true) args=true:=
 postW_of (r:=l.row.toRowW) (X:=(true == true))
  (show WShape.has [] (.bool true) .bool=true by first|rfl|decide|simp[WShape.has,WShape.arms,WShape.armsAll])
  (show(WTm.eq .res (.lit (.bool true))).value [] { args:=args,res:=some (.bool true),after:=args }=some (.bool (true == true))from w_eq_bool (w_res rfl) w_lit) rfl
theorem attach_call{l:OpenLaw}{n:Nat}{q:Program}{loose:List Str}{XP:(Str->Option Value)->Heap->Prop}{YP:World->Heap->Prop}{d:DefRec}
  (hn:l.most=some n) (hdf:d.params.defaults=[])
  (call:∀(w:World) (s₀ s₁:Shared) (mg mb:Str->Option Value) (fa:Addr) (o:Obj) (pm cd doc:Value) (a:Addr) (vs:List Value) (ns:List Int),
   Ground q loose [] XP w s₀ mg mb s₁.heap->YP w s₁.heap->
   s₁.heap.get? fa=some o->o.data=.func (docDef d.name d.params d.body d.scope pm cd doc)->s₁.heap.CodeRec cd d.name->mg d.name=some (.ref fa)->
   s₁.heap.get? a=some { cls:=.type "list",data:=.seq vs.toArray }->IntsAre vs ns->ns.length<=n->s₁.gens=#[]->
   codeAny (model l.prog w) callerA (.call (.ref fa) ⟨[.ref a],[]⟩) (λr s'=>r=.ok (.ret (.bool true))/\OldK s₁.heap s'.heap/\s'.os=s₁.os/\AllBare s'.gens) s₁):
  WalkO q loose XP YP l.row.toRowW d [] (λf vs=>PySem.call f vs):=by
 intro w s₀ s₁ mg mb G Y fa o pm cd doc dV kV ho hd hcd hD hmg hg args vals as hpre hlay hrd hwl hlo;obtain rfl:dV=.none:=Dflts.none hD hdf;obtain rfl:kV=.none:=Dflts.noKw hD;obtain⟨a,vs,ns,rfl,rfl,hobj,hints,hlen⟩:=zMl hn hpre hwl;refine enter_call (vH (call w s₀ s₁ mg mb fa o pm cd doc a vs ns G Y ho (fd_plain hd) hcd hmg hobj hints hlen hg) λr s' hq=>?_);obtain⟨rfl,h2,h3,h4⟩:=hq;exact⟨.inl ⟨.bool true,.bool true,[],rfl,λ_=>rfl,.bool true,zMw l _,λ_=>⟨List.Pairwise.nil,λ_ hm=>(nomatch hm)⟩⟩,h2,h3,h4⟩
end Att
namespace L2
open PySem PySem.Spec PyProof.Rows
theorem zHb:∀{vs:List Value}{ns:List Int},IntsAre vs ns->Vals (ns.map V.int) vs
 | _,_,.nil=>.nil
 | _,_,.cons n t h=>.cons ⟨t,rfl⟩ (zHb h)
noncomputable abbrev CX0:CXT:=λ_ _ _ _ _ _=>False
noncomputable abbrev E0:XK:=λ_ _ _=>False
theorem pass0 :Passes CX0 X E0:=λ_ _ _ _ _ _ _ h=>h.elim
structure Fun (K:PySem.W.Frag) (x qual:Str) (st:Stmt) (f:Addr) (fd:FuncData):Prop where
 ex:∃(oc:Value) (od:Option Addr) (kV doc pm:Value) (an:Option Addr) (cdv ct:Value) (osl:Array (Option Value)),
  fd=PySem.W.fnOf x qual (zBg st) (zAw st) (zA7 st) .none kV doc pm an cdv ct/\K.lookup f=some ⟨oc,od,.func fd,osl⟩/\PySem.W.codeIn K cdv qual=true
 kp:PySem.W.keepIn K (.ref f)=true
section
variable {P:Program}{w:World}{K:PySem.W.Frag}{mg:Str->Option Value}{base:Heap}
theorem Fun.ok{x qual:Str}{st:Stmt}{f:Addr}{fd:FuncData}{N ps:List Str}{k:Nat}{sp:Sp}(F:Fun K x qual st f fd)(S:zE8 N ps (zA7 st))(len:∀vs H Q E,sp vs H Q E->vs.length=ps.length)
  (hbody:∀(cdv:Value) (A:Around) (outer:List Env) (s:Shared) (H:Hp) (vs:List V) (Q:VK) (E:XK),Room k (A.deeper (envOfC qual (zA7 st) s.heap.objs.size f cdv))->sp vs H Q E->
   ∃t,PSs (cxOf CX0 P w K mg base N qual (zA7 st) f cdv A outer s H E).nox (zAw st) t/\t { nx:=λ_ H'=>Q .non H',rt:=Q } (start N vs) H):FnOk P w K mg base CX0 (k+1) f fd ps sp:=by
 obtain⟨oc,od,kV,doc,pm,an,cdv,ct,osl,rfl,lk,hcd⟩:=F.ex;refine yB9 lk hcd S len λA outer s H vs Q E hr hsp=>?_
 obtain⟨t,h,q⟩:=hbody cdv A outer s H vs Q E hr hsp;exact⟨t,h.nox,q⟩
theorem Fun.binds{x qual:Str}{st:Stmt}{f:Addr}{fd:FuncData}{ps:List Str}(F:Fun K x qual st f fd)
  (h:∀(kV doc pm:Value) (an:Option Addr) (cdv ct:Value) (us:List Value),us.length=ps.length->bindArgs (PySem.W.fnOf x qual (zBg st) (zAw st) (zA7 st) .none kV doc pm an cdv ct) ⟨us,[]⟩=pure (ps.zip us)):Binds K fd ps []:=by
 obtain⟨oc,od,kV,doc,pm,an,cdv,ct,osl,rfl,lk,hcd⟩:=F.ex;exact .all (h kV doc pm an cdv ct)
theorem zO5{x qual:Str}{st:Stmt}{f:Addr}{oc:Value}{od an:Option Addr}{osl:Array (Option Value)}{kV doc pm cdv ct:Value}(l:K.lookup f=some ⟨oc,od,.func (PySem.W.fnOf x qual (zBg st) (zAw st) (zA7 st) .none kV doc pm an cdv ct),osl⟩)
  (c:PySem.W.codeIn K cdv qual=true) (k:PySem.W.keepIn K (.ref f)=true):Fun K x qual st f (PySem.W.fnOf x qual (zBg st) (zAw st) (zA7 st) .none kV doc pm an cdv ct):=⟨⟨oc,od,kV,doc,pm,an,cdv,ct,osl,rfl,l,c⟩,k⟩
end
theorem yB7{A:Around}(hr:Room k A):A.units+1<cLine:=vL (Nat.add_le_add_left (by decide:1<=64) _) hr.units
section
variable {X:Cx}
theorem pv(i:Nat){pos:Pos}(hN:X.N[i]?=some x:=by rfl)(hv:Vis X.env.scope x:=by first|exact Or.inl rfl|exact Or.inr (Or.inl rfl)|exact Or.inr (Or.inr rfl))(hd:(x == ("__debug__":Str))=false:=by decide)
  (hcd:(x == ("__classdict__":Str))=false:=by decide):PE X (.Name x pos) (tVar i):=zXu hN hv hd hcd
end
section
variable {prog:Program}{w:World}{A:Around}{R:Result->Shared->Prop}{s:Shared}
theorem zHv{elt target iter:Expr}{ifs:List Expr}{scope:Scope}{pos:Pos}{it acc:Value}{env:Env}(I:Nat->Shared->Prop)
  (turn:∀n s,I n s->wpAny (model prog w) A (pyNext it) (λr s₁=>match r with
   | none=>R (.ok .next) s₁
   | some v=>wpAny (model prog w) A (letOwnedTupleGo target it v) (λ_ s₂=>wpAny (model prog w) A (assign target env v) (λ_ s₂=>
     wpAny (model prog w) A (forIn ifs true λc r=>if r=true then do let ok <- isTrue c env (eval c env);pure (ForInStep.yield ok)else pure (ForInStep.yield r)) (λok s₃=>
      if ok=true then wpAny (model prog w) A (eval elt env) (λx s₄=>
       wpAny (model prog w) A (call (.builtin "list.append") [acc,x]) (λ_ s₅=>∃m,m<n/\I m s₅) (λ_ _=>False) s₄) (λ_ _=>False) s₃
      else ∃m,m<n/\I m s₃) (λ_ _=>False) s₂) (λ_ _=>False) s₂) (λ_ _=>False) s₁) (λ_ _=>False) s)
  (n:Nat) (h:I n s):
  codeAny (model prog w) A (.compLoop (.ListComp elt [⟨target,iter,ifs,0⟩] scope pos) 0 it acc env) R s:=by
 refine codeAny_loop rfl I (λn s hI=>?_) n h;show wpAny _ A ((compTurn (.ListComp elt [⟨target,iter,ifs,0⟩] scope pos) 0 it acc env).onRaise (λx=>do noteFrame x env;theTreesLotGoes x)) _ _ s;refine wpAny_noted ?_;rw[compTurn_list];refine xa (wpAny_standAt (xa (xV (turn n s hI) (λr s₁ h₁=>?_) λ_ _ h'=>h'.elim)));cases r with
 | none=>exact xf h₁
 | some v=>
  refine xa (xV h₁ (λ_ s₁' h₁=>?_) λ_ _ h'=>h'.elim);refine xa (xV h₁ (λ_ s₂ h₂=>xa (xV h₂ (λok s₃ h₃=>?_) λ_ _ h'=>h'.elim)) λ_ _ h'=>h'.elim);cases ok with
  | false=>exact xf ⟨rfl,h₃⟩
  | true=>
   exact xa (xa (xV h₃ (λx s₄ h₄=>xa (xV h₄ (λ_ s₅ h₅=>xf (xf ⟨rfl,h₅⟩)) λ_ _ h'=>h'.elim)) λ_ _ h'=>h'.elim))
end
theorem zLl{env:Env}:∀(names:List (Str × NameKind)) (cs:List (Str × Addr)),(∀y∈names,y.2=.free->∃c,env.cells.lookup y.1=some c)->∃cl:List (Str × Addr),
  (forIn names cs λx r=>(match x,r with|(name,kind),cs=>if(kind == NameKind.free)=true then do let c <- cellOf env name;pure (ForInStep.yield ((name,c)::cs))else pure (ForInStep.yield cs)):Sem (List (Str × Addr)))=pure cl /\
  (∀x c,cl.lookup x=some c->cs.lookup x=some c\/env.cells.lookup x=some c)/\(∀x c,cs.lookup x=some c->∃c',cl.lookup x=some c')/\∀y∈names,y.2=.free->∃c,cl.lookup y.1=some c:=by
 intro names;induction names with
 | nil=>intro cs _;exact⟨cs,rfl,λ_ _ h=>.inl h,λx c h=>⟨c,h⟩,λ_ h=>nomatch h⟩
 | cons y r ih=>
  intro cs h;obtain⟨n,k⟩:=y;have hr:∀y∈r,y.2=.free->∃c,env.cells.lookup y.1=some c:=λy hy=>h y (xN _ hy)
  by_cases hk:k=.free
  ·subst hk;obtain⟨c,hc⟩:=h (n,.free) xK rfl;obtain⟨cl,e,h1,h2,h3⟩:=ih ((n,c)::cs) hr;refine⟨cl,?_,λx d hx=>?_,λx d hx=>?_,λy hy hf=>?_⟩
   ·rw[List.forIn_cons];have hcell:cellOf env n=(pure c:Sem Addr):=by simp only[cellOf,hc]
    simp only[uc,xB,hcell];simpa using e
   ·rcases h1 x d hx with z|z
    ·rw[xH]at z;by_cases hxn:(x == n)=true
     ·rw[hxn]at z;simp at z;subst z;have:x=n:=by simpa using hxn
      subst this;exact .inr hc
     ·rw[um]at hxn;rw[hxn]at z;exact .inl z
    ·exact .inr z
   ·by_cases hxn:(x == n)=true
    ·exact h2 x c (by rw[xH,hxn])
    ·rw[um]at hxn;exact h2 x d (by rw[xH,hxn];exact hx)
   ·rcases xh.mp hy with z|z
    ·subst z;exact h2 n c (by rw[xH];simp)
    ·exact h3 y z hf
  ·have hb:(k == NameKind.free)=false:=by simpa using hk
   obtain⟨cl,e,h1,h2,h3⟩:=ih cs hr;refine⟨cl,?_,h1,h2,λy hy hf=>?_⟩
   ·rw[List.forIn_cons];simp only[hb,xQ,xM];simpa using e
   ·rcases xh.mp hy with z|z
    ·subst z;exact absurd hf hk
    ·exact h3 y z hf
theorem zDt{scope:Scope}{env:Env}(h:∀y∈scope.names,y.2=.free->∃c,env.cells.lookup y.1=some c):∃cl:List (Str × Addr),closureFor scope env=pure cl /\
  (∀x c,cl.lookup x=some c->env.cells.lookup x=some c)/\∀y∈scope.names,y.2=.free->∃c,cl.lookup y.1=some c:=by
 obtain⟨cl,e,h1,_,h3⟩:=zLl scope.names [] h;refine⟨cl,?_,λx c hx=>(h1 x c hx).elim (λz=>nomatch z) id,h3⟩;simp only[closureFor];rw[e];rfl
theorem zE9{scope:Scope}(h:(relabel scope env).names.lookup x=some .cell\/(relabel scope env).names.lookup x=some .free):∃y∈scope.names,y.1=x/\(y.2=.free\/y.2=.cell):=by
 have key:∀(l:List (Str × NameKind)),((l.map fun(n,k)=>if(k == NameKind.free && env.scope.kind == .function && env.kindOf n == some .cell)then(n,NameKind.cell)else(n,k)).lookup x=some .cell \/
   (l.map fun(n,k)=>if(k == NameKind.free && env.scope.kind == .function && env.kindOf n == some .cell)then(n,NameKind.cell)else(n,k)).lookup x=some .free)->∃y∈l,y.1=x/\(y.2=.free\/y.2=.cell):=by
  intro l;induction l with
  | nil=>intro h;rcases h with h|h <;> simp at h
  | cons y r ih=>
   intro h;obtain⟨n,k⟩:=y;by_cases hb:(k == NameKind.free && env.scope.kind == .function && env.kindOf n == some .cell)=true
   ·have kf:k=.free:=by simp at hb;exact hb.1.1
    by_cases hx:(x == n)=true
    ·have:x=n:=by simpa using hx
     exact⟨(n,k),xK,this.symm,.inl kf⟩
    ·rw[um]at hx;simp only[xt,hb,xB,xH,hx]at h;obtain⟨y,hy,z⟩:=ih h;exact⟨y,xN _ hy,z⟩
   ·rw[um]at hb;by_cases hx:(x == n)=true
    ·have e:x=n:=by simpa using hx
     simp only[xt,hb,xH,hx,xQ,xM]at h;rcases h with h|h
     ·exact⟨(n,k),xK,e.symm,.inr (xA h)⟩
     ·exact⟨(n,k),xK,e.symm,.inl (xA h)⟩
    ·rw[um]at hx;simp only[xt,hb,xH,hx,xQ,xM]at h;obtain⟨y,hy,z⟩:=ih h;exact⟨y,xN _ hy,z⟩
 exact key scope.names h
noncomputable def zA9 (X:Cx) (N:List Str) (scope:Scope) (cl:List (Str × Addr)) (C:Addr) (s:Shared) (H:Hp) (fp:List Addr):Cx where
 prog:=X.prog
 w:=X.w
 K:=X.K
 mg:=X.mg
 base:=X.base
 A:=X.A
 N:=N
 s₀:=s
 H₀:=H
 env:=compEnvC scope cl C X.env
 outer:=X.stack
 stack:=X.stack
 ex:=fp
 fn:=λx=>scope.names.lookup x == some .cell
 calm:=X.calm
 pn:=[]
 xe:=λ_ _=>False
structure CompScope (X:Cx) (own fre:List Str) (ix:List Nat) (scope:Scope):Prop where
 kind:scope.kind=.function
 cell:∀y∈scope.names,y.2=.cell->scope.names.lookup y.1=some .cell
 loc:∀y∈scope.names,y.2=.local->scope.names.lookup y.1=some .local
 fr:∀y∈scope.names,y.2=.free->X.env.kindOf y.1=some .cell\/X.env.kindOf y.1=some .free
 len:fre.length=ix.length
 at_:∀(j:Nat) (i:Nat) (x:Str),fre[j]?=some x->ix[j]?=some i->X.N[i]?=some x/\(X.env.kindOf x=some .cell\/X.env.kindOf x=some .free)
 vis:∀x∈fre,(relabel scope X.env).names.lookup x=some .cell\/(relabel scope X.env).names.lookup x=some .free
 fno:∀x∈fre,scope.names.lookup x≠some .cell
noncomputable def zQ3 (scope sc:Scope):Scope:=
 { scope with names:=scope.names.map fun(n,k)=>if(k == .free && sc.kind == .function && sc.names.lookup n == some .cell)then(n,.cell)else(n,k) }
noncomputable def zBk (o:Option NameKind):Bool:=o == some .cell || o == some .free
theorem zC1(h:zBk o=true):o=some .cell\/o=some .free:=by simpa[zBk]using h
noncomputable def zP0 (sc:Scope) (N own fre:List Str) (ix:List Nat) (scope:Scope):Bool:=
 (scope.kind == .function) && (scope.names.all λy=>y.2 != .cell || scope.names.lookup y.1 == some .cell) && (scope.names.all λy=>y.2 != .local || scope.names.lookup y.1 == some .local) &&
 (scope.names.all λy=>y.2 != .free || zBk (sc.names.lookup y.1)) && (fre.length == ix.length) && ((fre.zip ix).all λp=>N[p.2]? == some p.1 && zBk (sc.names.lookup p.1)) &&
 (fre.all λx=>zBk ((zQ3 scope sc).names.lookup x)) && fre.all λx=>scope.names.lookup x != some .cell
theorem CompScope.mk'{X:Cx}{ix:List Nat}(hs:X.env.scope=sc)(hN:X.N=N)(h:zP0 sc N own fre ix scope=true):CompScope X own fre ix scope:=by
 simp only[zP0,xi]at h;obtain⟨⟨⟨⟨⟨⟨⟨h1,h2⟩,h3⟩,h4⟩,h5⟩,h6⟩,h7⟩,h8⟩:=h;subst hs;subst hN;refine⟨by simpa using h1,λy hy hl=>?_,λy hy hl=>?_,λy hy hl=>?_,by simpa using h5,λj i x e1 e2=>?_,λx hx=>?_,λx hx=>?_⟩
 ·have:=vi.mp h2 y hy;rw[hl]at this;simpa using this
 ·have:=vi.mp h3 y hy;rw[hl]at this;simpa using this
 ·have:=vi.mp h4 y hy;rw[hl]at this;exact zC1 (show zBk (X.env.scope.names.lookup y.1)=true by simpa using this)
 ·have hz:(x,i)∈fre.zip ix:=by
   refine uo.mpr ⟨j,?_⟩;rw[List.getElem?_zip_eq_some];exact⟨e1,e2⟩
  have:=vi.mp h6 (x,i) hz;simp only[xi]at this;exact⟨by simpa using this.1,zC1 this.2⟩
 ·exact zC1 (vi.mp h7 x hx)
 ·have:=vi.mp h8 x hx;simpa using this
section
variable {M:Model}{A:Around}{E:Value->Shared->Prop}{s:Shared}
theorem zP4{lo:Nat}:∀(names:List (Str × NameKind)) (n:Nat) (acc:List (Str × Addr)) (x:Str) (c:Addr),lo<=n->((x,NameKind.cell)∈names\/∀c,acc.lookup x=some c->lo<=c)->(cellsFrom n names acc).lookup x=some c->lo<=c
 | [],_,_,_,_,_,h,e=>h.elim (λz=>nomatch z) λz=>z _ e
 | (m,k)::r,n,acc,x,c,hn,h,e=>by
  unfold cellsFrom at e;split at e
  ·refine zP4 r (n+1) _ x c (by nofun) ?_ e;by_cases hx:x=m
   ·refine .inr λc' q=>?_
    rw[xH,show(x == m)=true by rw[hx];exact uc m]at q;cases q;exact hn
   ·have hb:(x == m)=false:=by simpa using hx
    rcases h with h|h
    ·rcases xh.mp h with z|z
     ·exact absurd (congrArg Prod.fst z) hx
     ·exact .inl z
    ·exact .inr λc' q=>h c' (by rw[xH,hb]at q;exact q)
  ·rename_i hk;refine zP4 r n acc x c hn ?_ e;rcases h with h|h
   ·rcases xh.mp h with z|z
    ·cases z;exact absurd rfl hk
    ·exact .inl z
   ·exact .inr h
theorem zP5:∀(names:List (Str × NameKind)) (n:Nat) (acc:List (Str × Addr)) (x:Str),(∀y∈names,y.1=x->y.2≠.cell)->(cellsFrom n names acc).lookup x=acc.lookup x
 | [],_,_,_,_=>rfl
 | (m,k)::r,n,acc,x,h=>by
  unfold cellsFrom;split
  ·rename_i hk;rw[zP5 r _ _ x λy hy=>h y (xN _ hy),xH];have hx:(x == m)=false:=by
    cases q:x == m with
    | false=>rfl
    | true=>exact absurd (by simpa using hk) (h (m,k) xK (by simpa using(x5.mp q).symm))
   rw[hx]
  ·exact zP5 r n acc x λy hy=>h y (xN _ hy)
theorem zP6:∀(names:List (Str × NameKind)) (n:Nat) (acc:List (Str × Addr)),(∀x c,acc.lookup x=some c->c<n)->(∀x y c,acc.lookup x=some c->acc.lookup y=some c->x=y)->
  ∀x y c,(cellsFrom n names acc).lookup x=some c->(cellsFrom n names acc).lookup y=some c->x=y
 | [],_,_,_,h=>h
 | (m,k)::r,n,acc,hl,h=>by
  unfold cellsFrom;split
  ·refine zP6 r (n+1) _ (λx c e=>?_) λx y c e1 e2=>?_
   ·rw[xH]at e;cases q:x == m with
    | true=>rw[q]at e;cases e;exact Nat.lt_succ_self _
    | false=>rw[q]at e;exact vU (hl x c e)
   ·rw[xH]at e1 e2;cases q:x == m with
    | true=>
     cases q':y == m with
     | true=>rw[x5.mp q,x5.mp q']
     | false=>rw[q]at e1;rw[q']at e2;cases e1;exact absurd (hl y _ e2) (xR _)
    | false=>
     cases q':y == m with
     | true=>rw[q]at e1;rw[q']at e2;cases e2;exact absurd (hl x _ e1) (xR _)
     | false=>rw[q]at e1;rw[q']at e2;exact h x y c e1 e2
  ·exact zP6 r n acc hl h
theorem zGy:∀(names:List (Str × NameKind)) (n:Nat) (acc:List (Str × Addr)) (x:Str),((x,NameKind.cell)∈names\/∃c,acc.lookup x=some c)->∃c,(cellsFrom n names acc).lookup x=some c
 | [],_,_,_,h=>h.elim (λz=>nomatch z) id
 | (m,k)::r,n,acc,x,h=>by
  unfold cellsFrom;split
  ·refine zGy r (n+1) _ x ?_;cases q:x == m with
   | true=>exact .inr ⟨n,by rw[xH,q]⟩
   | false=>
    rcases h with h|⟨c,h⟩
    ·rcases xh.mp h with z|z
     ·rw[show x=m from congrArg Prod.fst z,uc]at q;cases q
     ·exact .inl z
    ·exact .inr ⟨c,by rw[xH,q];exact h⟩
  ·rename_i hk;refine zGy r n acc x ?_;rcases h with h|h
   ·rcases xh.mp h with z|z
    ·cases z;exact absurd rfl hk
    ·exact .inl z
   ·exact .inr h
theorem zJ1:∀(names:List (Str × NameKind)) (h:Heap) (acc:List (Str × Addr)) (lo:Nat),lo<=h.objs.size->(∀x c,acc.lookup x=some c->lo<=c->h.IsCell c none)->∀x c,(cellsFrom h.objs.size names acc).lookup x=some c->lo<=c->(pushCells h names).IsCell c none
 | [],_,_,_,_,q=>q
 | (m,k)::r,h,acc,lo,hl,q=>by
  unfold cellsFrom pushCells;split
  ·have:=zJ1 r (h.push { cls:=.type "cell",data:=.cell none }) ((m,h.objs.size)::acc) lo (by rw[vn];lia) λx c e hc=>by
    rw[xH]at e;cases z:x == m with
    | true=>rw[z]at e;cases e;exact⟨_,xy _ rfl,rfl⟩
    | false=>rw[z]at e;exact(q x c e hc).keeps λb o e=>xp _ e
   rwa[vn]at this
  ·exact zJ1 r h acc lo hl q
theorem zNe{scope:Scope}{globals:Addr}{closure:List (Str × Addr)}{qual:Str}{around:Env}{Q:Env->Shared->Prop}
  (hQ:Q (newEnv scope s.heap.objs.size globals (cellsFrom (s.heap.objs.size+1) scope.names closure) qual none .none (some around) builtinsNs) { s with heap:=pushCells (s.heap.push { cls:=.type "dict",data:=.dict #[] }) scope.names }):
  wpAny M A (newFunctionEnv scope globals closure [] qual none .none (some around)) Q E s:=by
 simp only[newFunctionEnv,Option.isSome_some,xB];refine xa (wpAny_alloc ?_);refine xa (wpAny_layCells _ (λname kind cells=>by cases hkc:kind == NameKind.cell <;> simp[hkc]) _ _ _ _ ?_);rw[show({ s with heap:=s.heap.push { cls:=.type "dict",data:=.dict #[] } }:Shared).heap.objs.size=s.heap.objs.size+1 from vn ..];simp only[List.forIn_nil];exact xa (xf (xf hQ))
end
structure ClOk (X:Cx) (scope:Scope) (C:Addr) (cl:List (Str × Addr)):Prop where
 inj:∀x y c,cl.lookup x=some c->cl.lookup y=some c->x=y
 own:∀x c,scope.names.lookup x=some .cell->cl.lookup x=some c->C<c
 old:∀x c,scope.names.lookup x≠some .cell->cl.lookup x=some c->X.env.cells.lookup x=some c
 has:∀y∈scope.names,(y.2=.free\/y.2=.cell)->∃c,cl.lookup y.1=some c
theorem ClOk.or{X:Cx}{cl:List (Str × Addr)}(h:ClOk X scope C cl)(e:cl.lookup x=some c):X.env.cells.lookup x=some c\/C<c:=by
 by_cases q:scope.names.lookup x=some .cell
 ·exact .inr (h.own x c q e)
 ·exact .inl (h.old x c q e)
noncomputable def zDa (own:List Str) (ix:List Nat) (σ:St):St:=own.map (λ_=>none)++ix.map λi=>(σ[i]?).join
section
variable {X:Cx}{pins:List (Addr × Obj)}{σ:St}{H:Hp}{s:Shared}{own fre:List Str}{ix:List Nat}{scope:Scope}{cl:List (Str × Addr)}{fp:List Addr}{C:Addr}
theorem Inv.stkNo(I:Inv X pins σ H s)(h:FpOk X pins H b):b ∉ frs X.stack:=λhb=>
 (xh.mp (I.stkSub b hb)).elim h.2.1 h.2.2.1
theorem zWi(I:Inv X pins σ H s)(hf:∀b∈fp,FpOk X pins H b)(hlt:∀b∈fp,b<s.heap.objs.size)(S:CompScope X own fre ix scope)(hcl:ClOk X scope C cl)
  (hC:s.heap.objs.size<=C):(zA9 X (own++fre) scope cl C s H fp).Ok where
 mod:=I.ok.mod
 kind:=S.kind
 glob:=I.ok.glob
 blt:=I.ok.blt
 above:=hC
 inj:=hcl.inj
 has:=λx hx=>by
  obtain⟨y,hy,e,k⟩:=zE9 hx;subst e;exact hcl.has y hy k
 cab:=λx c h e=>x4 (vL hC (hcl.own x c (by simpa[zA9]using h) e))
 hd:=I.ok.hd
 frames:=I.ok.frames
 gds:=I.ok.gds
 stk:=.inl rfl
 exf:=λb hb=>⟨xr (xv (hlt b hb) hC),λx c e=>(hcl.or e).elim (λe=>(hf b hb).2.2.2.2.1 x c e) λz=>xD (xr (x6 (xv (hlt b hb) hC) z))⟩
 bs:=I.bs
 bsz:=xm I.ok.bsz I.sz
 noex:=λb o e hb=>by
  rcases(hf b hb).2.2.2.1 with z|z
  ·exact I.ok.noex b o e z
  ·exact absurd (xv (xl e) (xm I.ok.bsz z)) (xR _)
 exfs:=λb hb=>I.stkNo (hf b hb)
 funs:=I.stack
 frf:=I.stkFree
theorem zLj{h₁:Heap}{t':Nat}{m:Str->Option Value}(I:Inv X pins σ H s)(hf:∀b∈fp,FpOk X pins H b)(hlt:∀b∈fp,b<s.heap.objs.size)(S:CompScope X own fre ix scope)(hcl:ClOk X scope C cl)(hnew:∀x c,cl.lookup x=some c->C<c->h₁.IsCell c none)
  (hC:s.heap.objs.size<=C) (old:∀b o,s.heap.get? b=some o->h₁.get? b=some o) (hn:h₁.Ns C m):
  Inv (zA9 X (own++fre) scope cl C s H fp) [] (zDa own ix σ) H { s with heap:=h₁,toks:=t' } where
 ok:=zWi I hf hlt S hcl hC
 os:=rfl
 bare:=I.bare
 base:=Un.kept old
 loc:=by
  refine⟨m,hn,λi x v e1 e2 e3=>?_⟩;obtain⟨m0,hn0,hl⟩:=I.loc;have hi:own.length<=i:=by
   rcases x8 i own.length with z|z
   ·rw[zDa,xT (by simpa using z),vp]at e2;cases q:own[i]? <;> rw[q]at e2 <;> simp at e2
   ·exact z
  have e1':(own++fre)[i]?=some x:=e1;rw[xS hi]at e1';rw[zDa,xS (by simpa using hi),vp,xn]at e2;cases q:ix[i-own.length]? with
  | none=>rw[q]at e2;simp at e2
  | some j=>
   rw[q]at e2;obtain⟨hN,hk⟩:=S.at_ _ _ _ e1' q;have e2':(σ[j]?).join=some v:=by simpa using e2
   have e4:σ[j]?=some (some v):=by
    cases z:σ[j]? with
    | none=>rw[z]at e2';cases e2'
    | some o=>rw[z]at e2';exact congrArg some e2'
   obtain⟨u,r,lk⟩:=hl j x v hN e4 (hk.elim (λz=>.inr (.inl z)) λz=>.inr (.inr z));refine⟨u,r,.inr ?_⟩;rcases lk with⟨k,_⟩|⟨k,c,ec,hc⟩
   ·rcases hk with z|z <;> · rw[k]at z;cases z
   ·have fin:((zA9 X (own++fre) scope cl C s H fp).env.kindOf x=some .cell\/(zA9 X (own++fre) scope cl C s H fp).env.kindOf x=some .free):=by
     exact S.vis x (vS e1')
    refine⟨fin,?_⟩;obtain⟨y,hy,e,kf⟩:=zE9 fin;subst e;obtain⟨c',hc'⟩:=hcl.has y hy kf;have:=(hcl.old _ _ (S.fno _ (vS e1')) hc').symm.trans ec;cases this;exact⟨c,hc',by obtain⟨o,ho,hd⟩:=hc;exact⟨o,old _ _ ho,hd⟩⟩
 cell:=λx c e=>by
  rcases hcl.or e with q|q
  ·obtain⟨v,o,ho,hd⟩:=I.cell x c q;exact⟨v,o,old _ _ ho,hd⟩
  ·exact⟨none,hnew x c e q⟩
 free:=I.hok.fresh hC
 freeC:=λx c e=>(hcl.or e).elim (λq=>I.freeC x c q) λq=>I.hok.fresh (x4 (vL hC q))
 pin:=λp hp=>nomatch hp
 hok:=I.hok.kept old
 len:=by simp[zDa,zA9,S.len]
end
def PIfs(X:Cx)(ifs:List Expr)(t:TT):Prop:=
 ∀(pins:List (Addr × Obj)) (s:Shared) (σ:St) (H:Hp) (Q:Bool->Hp->Prop),Inv X pins σ H s->t σ H Q->
  wpAny (model X.prog X.w) X.A (forIn ifs true λc r=>if r=true then do let ok <- isTrue c X.env (eval c X.env);pure (ForInStep.yield ok)else pure (ForInStep.yield r)) (TP X pins σ Q) X.xe s
noncomputable def tYes:TT:=λ_ H Q=>Q true H
theorem zQg :PIfs X [] tYes:=λpins s σ H Q I h=>xf ⟨H,I,h⟩
theorem zQf(hc:PT X c t):PIfs X [c] t:=by intro pins s σ H Q I h;rw[List.forIn_cons];simp only[xB];refine xa (xa (thn (hc pins s σ H Q I h) λb s1 q=>xf ?_));simp only[List.forIn_nil];exact xf q
def tCompL(J:It)(g:TG)(tt:TT)(te:TE)(σc:St)(H1:Hp)(Qd:List V->Hp->Prop):Prop:=
 ∃W:Nat->Nat->List V->St->Hp->Prop,(∃m,W 0 m [] σc H1)/\∀i m ys σ H,W i m ys σ H->
  (J.stop i H/\Qd ys H)\/(J.go i H/\ys.length<sizeLine/\∃N:List V->St->Hp->Prop,(∀zs σ' H',N zs σ' H'->∃m',m'<m/\W (i+1) m' zs σ' H')/\∀x H',J.yld i H x H'->g x σ H' λσ2 H2=>tt σ2 H2 λc H3=>
   if c=true then te σ2 H3 λy H4=>N (ys++[y]) σ2 H4 else N ys σ2 H3)
structure yAf (Ok:Cx->Hp->Prop) (P:Program) (w:World) (K:PySem.W.Frag) (tg:Expr) (J:It) (fp:List Addr) (it:Addr) (tn:Nat->Heap->Prop):Prop where
 obj:∀i h,tn i h->∀b∈fp,∃o,h.get? b=some o/\∀v,o.data≠.cell v
 keep:∀i h h',tn i h->(∀b∈fp,∀o,h.get? b=some o->h'.get? b=some o)->tn i h'
 item:∀(X:Cx),X.prog=P->X.w=w->X.K=K->∀(i:Nat) (pins:List (Addr × Obj)) (s:Shared) (σ:St) (H:Hp) (E:Value->Shared->Prop),Ok X H->Inv X pins σ H s->(∀b∈fp,FpOk X pins H b)->tn i s.heap->J.go i H->
  wpAny (model P w) X.A (pyNext (.ref it)) (λr s1=>∃u,r=some u /\
   wpAny (model P w) X.A (letOwnedTupleGo tg (.ref it) u) (λ_ s2=>∃x H',Inv X pins σ H' s2/\RelV x u/\J.yld i H x H'/\tn (i+1) s2.heap/\∀b∈fp,H' b=none) E s1) E s
 done:∀(X:Cx),X.prog=P->X.w=w->X.K=K->∀(i:Nat) (pins:List (Addr × Obj)) (s:Shared) (σ:St) (H:Hp) (E:Value->Shared->Prop),Ok X H->Inv X pins σ H s->(∀b∈fp,FpOk X pins H b)->tn i s.heap->J.stop i H->
  wpAny (model P w) X.A (pyNext (.ref it)) (λr s1=>r=none/\Inv X pins σ H s1) E s
 self:∀(A:Around) (i:Nat) (s:Shared) (Q:Value->Shared->Prop) (E:Value->Shared->Prop),tn i s.heap->Q (.ref it) s->wpAny (model P w) A (pyIter (.ref it)) Q E s
theorem Turn.g{P:Program}{w:World}{K:PySem.W.Frag}{tg:Expr}{J:It}{fp:List Addr}{it:Addr}{tn:Nat->Heap->Prop}(T:Turn P w K tg J fp it tn):yAf (λX _=>X.calm=true) P w K tg J fp it tn:=
 ⟨T.obj,T.keep,λX h1 h2 h3 i pins s σ H E hc=>T.item X h1 h2 h3 hc i pins s σ H E,λX h1 h2 h3 i pins s σ H E hc=>T.done X h1 h2 h3 hc i pins s σ H E,T.self⟩
def zS7(Ok:Hp->Prop)(J:It)(g:TG)(tt:TT)(te:TE)(σc:St)(H1:Hp)(Qd:List V->Hp->Prop):Prop:=
 ∃W:Nat->Nat->List V->St->Hp->Prop,(∃m,W 0 m [] σc H1)/\∀i m ys σ H,W i m ys σ H->Ok H /\
  ((J.stop i H/\Qd ys H)\/(J.go i H/\ys.length<sizeLine/\∃N:List V->St->Hp->Prop,(∀zs σ' H',N zs σ' H'->∃m',m'<m/\W (i+1) m' zs σ' H')/\∀x H',J.yld i H x H'->g x σ H' λσ2 H2=>tt σ2 H2 λc H3=>
   if c=true then te σ2 H3 λy H4=>N (ys++[y]) σ2 H4 else N ys σ2 H3))
theorem tCompL.g{Ok:Hp->Prop}{J:It}{g:TG}{tt:TT}{te:TE}{σc:St}{H1:Hp}{Qd:List V->Hp->Prop}(h:tCompL J g tt te σc H1 Qd)(k:∀H,Ok H):zS7 Ok J g tt te σc H1 Qd:=by obtain⟨W,h0,h1⟩:=h;exact⟨W,h0,λi m ys σ H w=>⟨k H,h1 i m ys σ H w⟩⟩
theorem HOk.adopt{H:Hp}(x:HOk P w H h)(n:H D=none)(new:ObjOk P w (upd H D o) h D o):HOk P w (upd H D o) h:=λb u e=>by
 by_cases hb:b=D
 ·subst hb;rw[zAm]at e;cases e;exact new
 ·rw[zAf hb]at e;refine(x b u e).stay (λc v _ q=>q) (λc q=>?_) λc xs q=>?_
  ·rw[zAf (zAq q n)];exact q
  ·rw[zAf (zAq q n)];exact q
theorem Un.adopt{H':Hp}{h:Heap}(u:Un fs ex H H' h h')(hD:h.objs.size<=D)(n:H' D=none):Un fs ex H (upd H' D o) h h' where
 keep:=u.keep
 slot:=u.slot
 free:=λb ob e n' hx=>by rw[zAf (xr (xv (xl e) hD))];exact u.free b ob e n' hx
 there:=u.there
 tups:=λb xs e=>by have:=u.tups b xs e;rw[zAf (zAq this n)];exact this
 frzs:=λb ob xs e=>by have:=u.frzs b ob xs e;rw[zAf (zAq this n)];exact this
 tbls:=λb ps e=>by obtain⟨m,z⟩:=u.tbls b ps e;exact⟨m,by rw[zAf (zAq z n)];exact z⟩
section
variable {X:Cx}{pins:List (Addr × Obj)}{σ:St}{H2:Hp}{s2:Shared}{own fre:List Str}{ix:List Nat}{scope:Scope}{cl:List (Str × Addr)}{fp:List Addr}{C:Addr}
theorem zG4{tg elt iter:Expr}{ifs:List Expr}{pos:Pos}{J:It}{it:Addr}{tn:Nat->Heap->Prop}{g:TG}{tt:TT}{te:TE}{Qd:List V->Hp->Prop}{RR:Value->Addr->Result->Shared->Prop}{E:Value->Shared->Prop}{cl0:List (Str × Addr)}
  {Ok:Cx->Hp->Prop}(I2:Inv X pins σ H2 s2) (T:yAf Ok X.prog X.w X.K tg J fp it tn) (st2:tn 0 s2.heap) (f2:∀b∈fp,FpOk X pins H2 b) (S:CompScope X own fre ix scope)
  (hcl0:∀x c,cl0.lookup x=some c->X.env.cells.lookup x=some c) (hcf0:∀y∈scope.names,y.2=.free->∃c,cl0.lookup y.1=some c)
  (hg:∀cl C,PG (zA9 X (own++fre) scope cl C s2 H2 fp) tg g) (hi:∀cl C,PIfs (zA9 X (own++fre) scope cl C s2 H2 fp) ifs tt) (he:∀cl C,PE (zA9 X (own++fre) scope cl C s2 H2 fp) elt te)
  (q:∀cl C,zS7 (Ok (zA9 X (own++fre) scope cl C s2 H2 fp)) J g tt te (zDa own ix σ) H2 Qd)
  (hRR:∀D C s' m' ys H',Inv X pins σ (upd H' D (.lst ys)) s'->s'.heap.Ns C m'->FpOk X pins (upd H' D (.lst ys)) C->H' D=none->Qd ys H'->RR (.ref D) C (.ok .next) s'):
  wpAny (model X.prog X.w) X.A (newList []) (λacc s₃=>wpAny (model X.prog X.w) X.A (newFunctionEnv scope X.env.globals cl0 [] X.env.qual none .none (some X.env)) (λcenv s₄=>
   codeAny (model X.prog X.w) X.A (.compStart (.ListComp elt [⟨tg,iter,ifs,0⟩] scope pos) 0 (.ref it) acc { cenv with scope:=relabel scope X.env }) (RR acc cenv.locals) s₄) E s₃) E s2:=by
 refine vy (zNe ?_);dsimp only;generalize hHH:s2.heap.push { cls:=.type "list",dict:=none,data:=.seq ([]:List Value).toArray }=HH;have hC:HH.objs.size=s2.heap.objs.size+1:=by rw[<- hHH,vn]
 have hns₁:(pushCells (HH.push { cls:=.type "dict",data:=.dict #[] }) scope.names).Ns HH.objs.size λ_=>none:=(Heap.Ns.new HH (.type "dict")).keeps (pushCells_keeps _ _)
 have hkp:∀b o,HH.get? b=some o->(pushCells (HH.push { cls:=.type "dict",data:=.dict #[] }) scope.names).get? b=some o:=λb o e=>pushCells_keeps _ _ b o (xp _ e)
 have hltc:∀x c,cl0.lookup x=some c->c<HH.objs.size+1:=λx c e=>by
  obtain⟨v,o,ho,_⟩:=I2.cell x c (hcl0 x c e);rw[hC];exact vU (vU (xl ho))
 have hnew:∀x c,(cellsFrom (HH.objs.size+1) scope.names cl0).lookup x=some c->HH.objs.size<c->(pushCells (HH.push { cls:=.type "dict",data:=.dict #[] }) scope.names).IsCell c none:=by
  have:=zJ1 scope.names (HH.push { cls:=.type "dict",data:=.dict #[] }) cl0 (HH.objs.size+1) (by rw[vn];exact xg _) λx c e hc=>absurd (xv (hltc x c e) hc) (xR _)
  rw[vn]at this;exact λx c e h=>this x c e h
 have hcl:ClOk X scope HH.objs.size (cellsFrom (HH.objs.size+1) scope.names cl0):={
  inj:=zP6 _ _ _ hltc λx y c e1 e2=>I2.ok.inj x y c (hcl0 x c e1) (hcl0 y c e2)
  own:=λx c h e=>zP4 _ _ _ x c (xg _) (.inl (v8 h)) e
  old:=λx c h e=>by
   rw[zP5 _ _ _ x λy hy ex ec=>h (by rw[<- ex];exact S.cell y hy ec)]at e;exact hcl0 x c e
  has:=λy hy hk=>by
   obtain⟨n,k⟩:=y;rcases hk with hk|hk
   ·exact zGy _ _ _ _ (.inr (hcf0 _ hy hk))
   ·dsimp only at hk;subst hk;exact zGy _ _ _ _ (.inl hy) }
 generalize cellsFrom (HH.objs.size+1) scope.names cl0=cl at hnew hcl ⊢;generalize pushCells (HH.push { cls:=.type "dict",data:=.dict #[] }) scope.names=h₁ at hns₁ hkp hnew ⊢;generalize hDe:s2.heap.objs.size=D at *;generalize hCe:HH.objs.size=C at *;have hDC:D≠C:=by nofun
 have hDle:s2.heap.objs.size<=D:=by nofun
 have hCle:s2.heap.objs.size<=C:=by nofun
 have below:∀b o,s2.heap.get? b=some o->b≠C/\b≠D:=λb o e=>⟨xr (xv (xl e) hCle),xr (xv (xl e) hDle)⟩
 have old:∀b o,s2.heap.get? b=some o->h₁.get? b=some o:=λb o e=>hkp b o (hHH ▸ xp _ e)
 have hacc:=hkp _ _ (hHH ▸ hDe ▸ xy _ rfl);have fpo:=T.obj _ _ st2;have hlt:∀b∈fp,b<s2.heap.objs.size:=λb hb=>by obtain⟨o,e,_⟩:=fpo b hb;exact xl e
 have hDf:D ∉ fp:=λhm=>absurd (xv (hlt D hm) hDle) (xR _)
 have hcD:∀x c,cl.lookup x=some c->c≠D:=λx c e z=>by
  rcases hcl.or e with q|q
  ·obtain⟨v,o,ho,_⟩:=I2.cell x c q;exact(below c o ho).2 z
  ·exact absurd (xv q (by rw[z,hC];exact Nat.le_succ _)) (xR _)
 let Xc:=zA9 X (own++fre) scope cl C s2 H2 fp
 obtain⟨W,⟨m0,w0⟩,turn⟩:=q cl C;have hnoS:∀b,s2.heap.objs.size<=b->b ∉ frs X.stack:=λb hb z=>by
  rcases xh.mp (I2.stkSub b z)with z|z
  ·exact absurd (xv I2.lt hb) (by rw[z];exact xR _)
  ·exact I2.nofs hb z
 have loop:∀t',codeAny (model X.prog X.w) X.A (.compLoop (.ListComp elt [⟨tg,iter,ifs,0⟩] scope pos) 0 (.ref it) (.ref D) (compEnvC scope cl C X.env)) (RR (.ref D) C) { s2 with heap:=h₁,toks:=t' }:=by
  intro t';have I4:Inv Xc [] (zDa own ix σ) H2 { s2 with heap:=h₁,toks:=t' }:=zLj I2 f2 hlt S hcl hnew hCle old hns₁;refine zHv (λn s'=>∃i ys σ' H' its k,Inv Xc [] σ' H' s'/\tn i s'.heap/\(∀b∈fp,H' b=none)/\H' D=none/\s'.heap.get? D=some ({ cls:=.type "list",data:=.seq (List.toArray its) k }:Obj)/\Vals ys its/\ys.length<=sizeLine/\W i n ys σ' H')
   ?_ m0 ⟨0,[],_,H2,[],_,I4,T.keep _ _ _ st2 (λb _ o e=>old b o e),λb hb=>(f2 b hb).1,I2.hok.fresh hDle,hacc,.nil,xC _,w0⟩
  rintro n s3 ⟨i,ys,σ3,H3,its,k,I3,st3,fr3,hD3,ho3,hv3,hz3,w3⟩;have I3p:Inv Xc [(D,{ cls:=.type "list",data:=.seq (List.toArray its) k })] σ3 H3 s3:=I3.pins_of λp hp=>by
   have e:p=(D,({ cls:=.type "list",data:=.seq (List.toArray its) k }:Obj)):=by simpa using hp
   subst e;exact⟨ho3,hD3,hDC,hnoS D hDle,λv z=>by cases z⟩
  have stat:∀{H':Hp},(∀b∈fp,H' b=none)->∀b∈fp,FpOk Xc [(D,({ cls:=.type "list",data:=.seq (List.toArray its) k }:Obj))] H' b:=λhn b hb=>
   ⟨hn b hb,xr (xv (hlt b hb) hCle),I2.stkNo (f2 b hb),.inl hb,λx c e=>(hcl.or e).elim (λe=>(f2 b hb).2.2.2.2.1 x c e) λz=>xD (xr (x6 (xv (hlt b hb) hCle) z)),λp hp z=>by
    have e:p=(D,({ cls:=.type "list",data:=.seq (List.toArray its) k }:Obj)):=by simpa[Xc,zA9]using hp
    rw[e]at z;exact hDf (by rw[show D=b from z];exact hb)⟩
  obtain⟨ok3,turn3⟩:=turn i n ys σ3 H3 w3;rcases turn3 with⟨stop,qn⟩|⟨go,hys,N,hN,step⟩
  ·refine thn (T.done Xc rfl rfl rfl i _ s3 σ3 H3 _ ok3 I3p (stat fr3) st3 stop) λr s4 hq1=>?_
   obtain⟨hr,I4⟩:=hq1;subst hr;have ho4:=(I4.pin (D,_) (xW _ xK)).1;obtain⟨m',hn',_⟩:=I4.loc;have un:Un (frs X.stack) fp H2 (upd H3 D (.lst ys)) s2.heap s4.heap:=Un.adopt (I4.base) hDle hD3;have hok:HOk X.prog X.w (upd H3 D (.lst ys)) s4.heap:=HOk.adopt (I4.hok) hD3 ⟨hz3,its,_,hv3,ho4⟩;have IX:=I2.call' I4.os un hok I4.bare λb hb=>⟨(f2 b hb).2.2.2.1,(f2 b hb).2.1,(f2 b hb).2.2.2.2.1,(f2 b hb).2.2.2.2.2⟩
   exact hRR D C s4 m' ys H3 IX hn' (I2.fpOk hCle (by rw[zAf (xD hDC)];exact I4.free)) hD3 qn
  ·refine thn (T.item Xc rfl rfl rfl i _ s3 σ3 H3 _ ok3 I3p (stat fr3) st3 go) λr s4 hq1=>?_
   obtain⟨u,hr,h4⟩:=hq1;subst hr;refine thn h4 λ_ s5 hq1=>?_
   obtain⟨x,H5,I5,r5,y5,st5,fr5⟩:=hq1;have I5':=I5.pinned (stat fr5) (T.obj _ _ st5);refine thn (hg cl C _ s5 σ3 H5 x u _ I5' r5 (step x H5 y5)) λ_ s6 hq1=>?_
   obtain⟨σ6,H6,I6,q6⟩:=hq1;refine thn (hi cl C _ s6 σ6 H6 _ I6 q6) λb s7 hq1=>?_
   obtain⟨H7,I7,q7⟩:=hq1;have keepT:∀{σ7:St}{H7:Hp}{s7:Shared}{h':Heap},Inv Xc ([(D,({ cls:=.type "list",data:=.seq (List.toArray its) k }:Obj))]++zHi fp s5.heap) σ7 H7 s7->(∀b o,b≠D->s7.heap.get? b=some o->h'.get? b=some o)->tn (i+1) h'/\∀b∈fp,H7 b=none:=λ{σ7 H7 s7 h'} I7 hk=>by
    refine⟨T.keep _ _ _ st5 λb hb o e=>hk b o (λz=>hDf (z ▸ hb)) (I7.pin (b,o) (xW _ (xW _ (zD2 hb e)))).1,λb hb=>?_⟩;obtain⟨o,e,d⟩:=T.obj _ _ st5 b hb;exact(I7.pin (b,o) (xW _ (xW _ (zD2 hb e)))).2.1
   cases b with
   | false=>
    obtain⟨m',hm,w7⟩:=hN _ _ _ q7;obtain⟨t7,f7⟩:=keepT I7 λ_ _ _ e=>e
    have pD:=I7.pin (D,_) (xW _ (uI _ xK));exact⟨m',hm,i+1,ys,σ6,H7,its,k,I7.pins_of (λp hp=>nomatch hp),t7,f7,pD.2.1,pD.1,hv3,hz3,w7⟩
   | true=>
    refine thn (he cl C _ s7 σ6 H7 _ I7 q7) λy s8 hq1=>?_
    obtain⟨v,H8,I8,r8,n8⟩:=hq1;obtain⟨m',hm,w8⟩:=hN _ _ _ n8;have pD:=I8.pin (D,_) (xW _ (uI _ xK));have hsz:its.toArray.size<=sizeLine:=by rw[xq,<- hv3.length];exact hz3
    refine wpAny_list_append_plain (show s8.heap.PlainList D its.toArray from⟨_,pD.1⟩) λh₅ hl₅ hs₅=>?_
    obtain⟨t8,f8⟩:=keepT I8 λb o hb e=>hs₅.extBut b o hb e
    obtain⟨k',ho5⟩:=hl₅;have I9:=(I8.pins_of (pins':=[]) (λp hp=>nomatch hp)).turned (t':=s8.toks) (λb o hb e=>hs₅.extBut b o hb e) pD.2.1 hDC (.inr hDle) hcD λp hp=>nomatch hp
    refine⟨m',hm,i+1,ys++[v],σ6,H8,its++[y],k',I9,t8,f8,pD.2.1,?_,hv3.append (.cons r8 .nil),(by rw[xE,ub];exact hys),w8⟩;show h₅.get? D=_;rw[ho5];simp
 exact codeAny_compStart_list (loop _) (T.self _ 0 _ _ _ (T.keep _ _ _ st2 (λb _ o e=>old b o e)) (loop _))
end
noncomputable def zIi (own:List Str) (ix:List Nat) (wi:TI) (g:TG) (tt:TT) (te:TE):TE:=λσ H Q=>wi σ H λJ H1=>
 tCompL J g tt te (zDa own ix σ) H1 λys H2=>∀D,H2 D=none->Q (.ref D) (upd H2 D (.lst ys))
section
variable {X:Cx}{own fre:List Str}{ix:List Nat}{scope:Scope}
theorem zQl{elt:Expr}{ifs:List Expr}{pos:Pos}{g:TG}{tt:TT}{te:TE}(hc:X.calm=true)(S:CompScope X own fre ix scope)(hi:PI X tg iter wi)
  (hg:∀cl C s H fp,PG (zA9 X (own++fre) scope cl C s H fp) tg g) (ht:∀cl C s H fp,PIfs (zA9 X (own++fre) scope cl C s H fp) ifs tt) (he:∀cl C s H fp,PE (zA9 X (own++fre) scope cl C s H fp) elt te)
  (hs:∀x,foldedSetIterable iter X.env x=pure x:=by intro _;rfl):PE X (.ListComp elt [⟨tg,iter,ifs,0⟩] scope pos) (zIi own ix wi g tt te):=by
 intro pins s σ H Q I h;obtain⟨cl,ecl,hcl,hcf⟩:=zDt λy hy hf=>I.ok.has y.1 (S.fr y hy hf)
 rw[eval_ListComp];refine wpAny_comprehension_free rfl hs ecl S.kind S.loc (thn (hi pins s σ H _ I h) λv s1 h1=>thn h1 λy s2 h2=>?_);obtain⟨it,fp,tn,J,H2,e,I2,T,st2,f2,q⟩:=h2;subst e;refine zG4 I2 T.g st2 f2 S hcl hcf (λcl C=>hg _ _ _ _ _) (λcl C=>ht _ _ _ _ _) (λcl C=>he _ _ _ _ _) (λcl C=>q.g λ_=>hc) ?_;intro D C s' m' ys H' IX hn fC hD qd;refine⟨m',hn,λh' hs'=>?_⟩;exact⟨.ref D,_,IX.turned (λb o hb e=>hs'.extBut b o hb e) fC.1 fC.2.1 fC.2.2.2.1 fC.2.2.2.2.1 fC.2.2.2.2.2,rfl,qd D hD⟩
theorem zU4{i:Nat}{pos':Pos}{tg elt iter:Expr}{ifs:List Expr}{pos cpos:Pos}{wi:TI}{g:TG}{tt:TT}{te:TE}(hN:X.N.Nodup)(hix:X.N[i]?=some x)(hx:Loc X.env.scope x)
  (hc:X.calm=true) (S:CompScope X own fre ix scope) (hi:PI X tg iter wi)
  (hg:∀cl C s H fp,PG (zA9 X (own++fre) scope cl C s H fp) tg g) (ht:∀cl C s H fp,PIfs (zA9 X (own++fre) scope cl C s H fp) ifs tt) (he:∀cl C s H fp,PE (zA9 X (own++fre) scope cl C s H fp) elt te)
  (hsw:swapsWith (.ListComp elt [⟨tg,iter,ifs,0⟩] scope cpos) (some (.Name x pos')) pos.line X.env=pure true:=by rfl)
  (hs:∀x,foldedSetIterable iter X.env x=pure x:=by intro _;rfl) (hf:X.fn x=true\/X.env.scope.names.lookup x=some .local:=by first|exact .inl rfl|exact .inr rfl|assumption):
  PS X (.Assign [.Name x pos'] (.ListComp elt [⟨tg,iter,ifs,0⟩] scope cpos) pos) (tAsg (zIi own ix wi g tt te) (gName i)):=by
 intro pins s σ H D I h;obtain⟨cl,ecl,hcl,hcf⟩:=zDt λy hy hf=>I.ok.has y.1 (S.fr y hy hf)
 rw[exec_Assign_Name_used _ _ _ _ hsw];refine xa (wpAny_standAt (xa ?_));show wpAny _ X.A (do let _ <- comprehension (.ListComp elt [⟨tg,iter,ifs,0⟩] scope cpos) scope X.env _ (newList []) false (eval iter X.env) (some (assign (.Name x pos') X.env))) _ _ s;refine xa (xV (wpAny_comprehension_free rfl hs ecl S.kind S.loc
  (thn (hi pins s σ H _ I h) λv s1 h1=>thn h1 λy s2 h2=>?_)) (λ_ s' hq=>xf (xf hq)) λ_ _ e=>e)
 obtain⟨it,fp,tn,J,H2,e,I2,T,st2,f2,q⟩:=h2;subst e;refine zG4 I2 T.g st2 f2 S hcl hcf (λcl C=>hg _ _ _ _ _) (λcl C=>ht _ _ _ _ _) (λcl C=>he _ _ _ _ _) (λcl C=>q.g λ_=>hc) ?_;intro D' C s' m' ys H' IX hn fC hD qd;show wpAny _ X.A (assign (.Name x pos') X.env (.ref D')) _ _ _;refine wpAny_assign_Name (zHd (v:=.ref D') IX hN hix hx rfl (λs'' I'' hsb=>?_) hf);obtain⟨a,hsb,ha⟩:=hsb;have hCa:C≠a:=by
  rcases ha with z|z
  ·rw[z];exact fC.2.1
  ·exact xD (fC.2.2.2.2.1 x a z)
 refine⟨m',hn.sameBut hsb hCa,λh' hs'=>?_⟩;exact⟨_,_,I''.turned (λb o hb e=>hs'.extBut b o hb e) fC.1 fC.2.1 fC.2.2.2.1 fC.2.2.2.2.1 fC.2.2.2.2.2,qd D' hD⟩
end
inductive Dv where
 | non|bl (b:Bool)|int (i:Int)|str (x:Str)|tup (l:List Dv)|lst (l:List Dv)
mutual
def Dv.eqv:Dv->Dv->Bool
 | .non,.non=>true
 | .bl a,.bl b=>a == b
 | .int a,.int b=>a == b
 | .str a,.str b=>decide (a=b)
 | .tup a,.tup b=>eqvL a b
 | .lst a,.lst b=>eqvL a b
 | _,_=>false
def eqvL:List Dv->List Dv->Bool
 | [],[]=>true
 | a::r,b::t=>a.eqv b && eqvL r t
 | _,_=>false
end
mutual
def Dv.cmp:Dv->Dv->Bool
 | .non,.non=>true
 | .bl _,.bl _=>true
 | .int _,.int _=>true
 | .str _,.str _=>true
 | .tup a,.tup b=>cmpL a b
 | .lst a,.lst b=>cmpL a b
 | _,_=>false
def cmpL:List Dv->List Dv->Bool
 | a::r,b::t=>a.cmp b && cmpL r t
 | _,_=>true
end
mutual
def Dv.dep:Dv->Nat
 | .tup l=>depL l+1
 | .lst l=>depL l+1
 | _=>0
def depL:List Dv->Nat
 | []=>0
 | d::r=>max d.dep (depL r)
end
mutual
def Den(K:PySem.W.Frag)(H:Hp):Dv->V->Prop
 | .non,v=>v=.non
 | .bl b,v=>v=.bl b
 | .int i,v=>v=.int i
 | .str x,v=>v=.str x
 | .tup ds,v=>∃a xs,v=.ref a/\SqT K H a xs/\DenL K H ds xs
 | .lst ds,v=>∃a xs,v=.ref a/\SqL K H a xs/\DenL K H ds xs
def DenL(K:PySem.W.Frag)(H:Hp):List Dv->List V->Prop
 | [],xs=>xs=[]
 | d::ds,xs=>∃x r,xs=x::r/\Den K H d x/\DenL K H ds r
end
mutual
theorem Dv.eqv_iff:∀(a b:Dv),a.eqv b=true <-> a=b
 | .non,b=>by cases b <;> simp[Dv.eqv]
 | .bl x,b=>by cases b <;> simp[Dv.eqv]
 | .int x,b=>by cases b <;> simp[Dv.eqv]
 | .str x,b=>by cases b <;> simp[Dv.eqv]
 | .tup l,b=>by
  cases b with
  | tup m=>simp only[Dv.eqv,Dv.tup.injEq];exact zCg l m
  | _=>simp[Dv.eqv]
 | .lst l,b=>by
  cases b with
  | lst m=>simp only[Dv.eqv,Dv.lst.injEq];exact zCg l m
  | _=>simp[Dv.eqv]
theorem zCg:∀(a b:List Dv),eqvL a b=true <-> a=b
 | [],b=>by cases b <;> simp[eqvL]
 | x::r,b=>by
  cases b with
  | nil=>simp[eqvL]
  | cons y t=>simp only[eqvL,xi,List.cons.injEq,Dv.eqv_iff x y,zCg r t]
end
section
variable {X:Cx}{pins:List (Addr × Obj)}{σ:St}{H:Hp}{s:Shared}
mutual
theorem Den.inj(I:Inv X pins σ H s):∀(d e:Dv) (v:V),Den X.K H d v->Den X.K H e v->d.cmp e=true->d=e
 | .non,e,v,h,h',c=>by cases e <;> simp[Dv.cmp]at c;rfl
 | .bl x,e,v,h,h',c=>by
  cases e <;> simp[Dv.cmp]at c
  have:=Eq.trans (Eq.symm (h)) (h');cases this;rfl
 | .int x,e,v,h,h',c=>by
  cases e <;> simp[Dv.cmp]at c
  have:=Eq.trans (Eq.symm (h)) (h');cases this;rfl
 | .str x,e,v,h,h',c=>by
  cases e <;> simp[Dv.cmp]at c
  have:=Eq.trans (Eq.symm (h)) (h');cases this;rfl
 | .tup l,e,v,h,h',c=>by
  cases e with
  | tup m=>
   obtain⟨a,xs,e1,q1,r1⟩:=h;obtain⟨b,ys,e2,q2,r2⟩:=h';have e3:=Eq.trans (Eq.symm e1) e2;cases e3;have e4:=I.tuple_inj q1 q2;subst e4;rw[DenL.inj I l m xs r1 r2 (by simpa[Dv.cmp]using c)]
  | _=>simp[Dv.cmp]at c
 | .lst l,e,v,h,h',c=>by
  cases e with
  | lst m=>
   obtain⟨a,xs,e1,q1,r1⟩:=h;obtain⟨b,ys,e2,q2,r2⟩:=h';have e3:=Eq.trans (Eq.symm e1) e2;cases e3;have e4:=I.list_inj q1 q2;subst e4;rw[DenL.inj I l m xs r1 r2 (by simpa[Dv.cmp]using c)]
  | _=>simp[Dv.cmp]at c
theorem DenL.inj(I:Inv X pins σ H s):∀(ds es:List Dv) (xs:List V),DenL X.K H ds xs->DenL X.K H es xs->cmpL ds es=true->ds=es
 | [],es,xs,h,h',c=>by
  cases es with
  | nil=>rfl
  | cons e es=>
   obtain⟨x,r,e1,_⟩:=h';rw[show xs=[]from h]at e1;cases e1
 | d::ds,es,xs,h,h',c=>by
  cases es with
  | nil=>
   obtain⟨x,r,e1,_⟩:=h;rw[show xs=[]from h']at e1;cases e1
  | cons e es=>
   obtain⟨x,r,e1,h1,h2⟩:=h;obtain⟨y,t,e2,h3,h4⟩:=h';have e3:=Eq.trans (Eq.symm e1) e2;cases e3;simp only[cmpL,xi]at c;rw[Den.inj I d e x h1 h3 c.1,DenL.inj I ds es r h2 h4 c.2]
end
theorem DenL.len{K:PySem.W.Frag}{H:Hp}:∀{ds:List Dv}{xs:List V},DenL K H ds xs->ds.length=xs.length
 | [],_,h=>by rw[show _=[]from h];rfl
 | d::ds,xs,⟨x,r,e,_,h⟩=>by rw[e,xo,xo,DenL.len h]
theorem DenL.get{K:PySem.W.Frag}{H:Hp}:∀{ds:List Dv}{xs:List V}{j:Nat}{d:Dv}{x:V},DenL K H ds xs->ds[j]?=some d->xs[j]?=some x->Den K H d x
 | [],_,_,_,_,_,e,_=>by simp at e
 | d::ds,xs,0,d',x',⟨x,r,e,h1,_⟩,e1,e2=>by
  subst e;simp at e1 e2;subst e1 e2;exact h1
 | d::ds,xs,j+1,d',x',⟨x,r,e,_,h2⟩,e1,e2=>by
  subst e;exact DenL.get (j:=j) h2 (by simpa using e1) (by simpa using e2)
theorem zEs:∀{ds es:List Dv}{j:Nat}{d e:Dv},cmpL ds es=true->ds[j]?=some d->es[j]?=some e->d.cmp e=true
 | [],_,_,_,_,_,h,_=>by simp at h
 | _::_,[],_,_,_,_,_,h=>by simp at h
 | a::r,b::t,0,d,e,c,h1,h2=>by
  simp at h1 h2;subst h1 h2;simp only[cmpL,xi]at c;exact c.1
 | a::r,b::t,j+1,d,e,c,h1,h2=>by
  simp only[cmpL,xi]at c;exact zEs (j:=j) c.2 (by simpa using h1) (by simpa using h2)
theorem zEq:∀{ds:List Dv}{j:Nat}{d:Dv},ds[j]?=some d->d.dep<=depL ds
 | [],_,_,h=>by simp at h
 | a::r,0,d,h=>by simp at h;subst h;simp only[depL];lia
 | a::r,j+1,d,h=>by
  have:=zEq (by simpa using h);simp only[depL];lia
noncomputable def zE5 (ds es:List Dv) (j:Nat):Bool:=match ds[j]?,es[j]? with
 | some d,some e=>d.eqv e
 | _,_=>true
theorem zCh:∀(ds es:List Dv),((List.range (min ds.length es.length)).all (zE5 ds es) && ds.length == es.length)=eqvL ds es
 | [],[]=>rfl
 | [],e::es=>by simp[eqvL]
 | d::ds,[]=>by simp[eqvL]
 | d::ds,e::es=>by
  have ih:=zCh ds es;have h1:min (d::ds).length (e::es).length=min ds.length es.length+1:=by simp only[xo];lia
  have hf:((List.range (min ds.length es.length)).map Nat.succ).all (zE5 (d::ds) (e::es))=(List.range (min ds.length es.length)).all (zE5 ds es):=by rw[List.all_map];rfl
  have h0:zE5 (d::ds) (e::es) 0=d.eqv e:=rfl;have h2:((d::ds).length == (e::es).length)=(ds.length == es.length):=by simp
  rw[h1,List.range_succ_eq_map,vj,hf,h0,h2,Bool.and_assoc,ih,eqvL]
theorem units_in1(A:Around):A.in1.units=A.units+1:=rfl
theorem zSy(I:Inv X pins σ H s):∀(n:Nat) (d e:Dv),d.dep<=n->∀(A:Around) (x y:V) (u v:Value),A.units+n<cLine->Den X.K H d x->Den X.K H e y->RelV x u->RelV y v->d.cmp e=true->SeqAt.EqAt A s u v (d.eqv e):=by
 intro n;induction n with
 | zero=>
  intro d e hd A x y u v hu h1 h2 r1 r2 hc;cases d with
  | non=>cases e <;> simp[Dv.cmp]at hc;rw[show x=.non from h1]at r1;rw[show y=.non from h2]at r2;cases r1;cases r2;exact SeqAt.EqAt.same _
  | bl a=>cases e with|bl b=>(rw[show x=.bl a from h1]at r1;rw[show y=.bl b from h2]at r2;cases r1;cases r2;exact SeqAt.EqAt.bool_bool a b)|_=>simp[Dv.cmp]at hc
  | int a=>cases e with|int b=>(rw[show x=.int a from h1]at r1;rw[show y=.int b from h2]at r2;obtain⟨t,rfl⟩:=r1;obtain⟨t',rfl⟩:=r2;exact SeqAt.EqAt.int_int a t b t')|_=>simp[Dv.cmp]at hc
  | str a=>cases e with|str b=>(rw[show x=.str a from h1]at r1;rw[show y=.str b from h2]at r2;obtain⟨t,rfl⟩:=r1;obtain⟨t',rfl⟩:=r2;have q:=SeqAt.EqAt.str_str (A:=A) (s:=s) a t b t';rw[Bool.beq_eq_decide_eq]at q;exact q)|_=>simp[Dv.cmp]at hc
  | tup l=>simp[Dv.dep]at hd
  | lst l=>simp[Dv.dep]at hd
 | succ n ih=>
  intro d e hd A x y u v hu h1 h2 r1 r2 hc;cases d with
  | non=>exact ih .non e (by simp[Dv.dep]) A x y u v (by nofun) h1 h2 r1 r2 hc
  | bl a=>exact ih (.bl a) e (by simp[Dv.dep]) A x y u v (by nofun) h1 h2 r1 r2 hc
  | int a=>exact ih (.int a) e (by simp[Dv.dep]) A x y u v (by nofun) h1 h2 r1 r2 hc
  | str a=>exact ih (.str a) e (by simp[Dv.dep]) A x y u v (by nofun) h1 h2 r1 r2 hc
  | tup l=>
   cases e with
   | tup m=>
    obtain⟨a,xs,ea,qa,ra⟩:=id h1;obtain⟨b,ys,eb,qb,rb⟩:=id h2;subst ea eb;cases r1;cases r2;by_cases hab:a=b
    ·subst hab;have e1:=Den.inj I _ _ _ h1 h2 hc;rw[(Dv.eqv_iff _ _).mpr e1];exact SeqAt.EqAt.same _
    ·obtain⟨its,va,ta,_⟩:=I.tuple qa;obtain⟨jts,vb,tb,_⟩:=I.tuple qb;have la:=ra.len.trans va.length;have lb:=rb.len.trans vb.length;refine SeqAt.EqAt.of_refs hab ?_;have key:=SeqAt.RcAt.tuples (A:=A) (e:=zE5 l m) (ta) (tb) (by nofun) (λj h1' h2'=>?_)
     ·simp only[xq]at key;rw[<- la,<- lb,zCh]at key;exact key
     ·simp only[xq]at h1' h2';simp only[uK];have gl:l[j]?=some (l[j]'(by nofun)):=xu (by nofun);have gm:m[j]?=some (m[j]'(by nofun)):=xu (by nofun);have gx:xs[j]?=some (xs[j]'(by rw[va.length];lia)):=xu _;have gy:ys[j]?=some (ys[j]'(by rw[vb.length];lia)):=xu _;obtain⟨u',gu,ru⟩:=va.get gx;obtain⟨v',gv,rv⟩:=vb.get gy;rw[xu h1']at gu;rw[xu h2']at gv;cases gu;cases gv;have e1:zE5 l m j=(l[j]'(by nofun)).eqv (m[j]'(by nofun)):=by simp only[zE5,gl,gm]
      rw[e1];have hdep:=zEq gl;simp only[Dv.dep]at hd;simp only[Dv.cmp]at hc;exact ih _ _ (by nofun) A.in1 _ _ _ _ (by rw[units_in1];lia) (ra.get gl gx) (rb.get gm gy) ru rv (zEs hc gl gm)
   | _=>simp[Dv.cmp]at hc
  | lst l=>
   cases e with
   | lst m=>
    obtain⟨a,xs,ea,qa,ra⟩:=id h1;obtain⟨b,ys,eb,qb,rb⟩:=id h2;subst ea eb;cases r1;cases r2;by_cases hab:a=b
    ·subst hab;have e1:=Den.inj I _ _ _ h1 h2 hc;rw[(Dv.eqv_iff _ _).mpr e1];exact SeqAt.EqAt.same _
    ·obtain⟨its,va,ta,_⟩:=I.list qa;obtain⟨jts,vb,tb,_⟩:=I.list qb;have la:=ra.len.trans va.length;have lb:=rb.len.trans vb.length;refine SeqAt.EqAt.of_refs hab ?_;by_cases hsz:its.length=jts.length
     ·have key:=SeqAt.RcAt.lists (A:=A) (e:=zE5 l m) ta.isList tb.isList (by simpa using hsz) (by nofun) (λj h1' h2'=>?_)
      ·simp only[xq]at key;have e2:=zCh l m;rw[la,lb,hsz,Nat.min_self,uc,Bool.and_true]at e2;rw[hsz,e2]at key;exact key
      ·simp only[xq]at h1' h2';simp only[uK];have gl:l[j]?=some (l[j]'(by nofun)):=xu (by nofun);have gm:m[j]?=some (m[j]'(by nofun)):=xu (by nofun);have gx:xs[j]?=some (xs[j]'(by rw[va.length];lia)):=xu _;have gy:ys[j]?=some (ys[j]'(by rw[vb.length];lia)):=xu _;obtain⟨u',gu,ru⟩:=va.get gx;obtain⟨v',gv,rv⟩:=vb.get gy;rw[xu h1']at gu;rw[xu h2']at gv;cases gu;cases gv;have e1:zE5 l m j=(l[j]'(by nofun)).eqv (m[j]'(by nofun)):=by simp only[zE5,gl,gm]
       rw[e1];have hdep:=zEq gl;simp only[Dv.dep]at hd;simp only[Dv.cmp]at hc;exact ih _ _ (by nofun) A.in1 _ _ _ _ (by rw[units_in1];lia) (ra.get gl gx) (rb.get gm gy) ru rv (zEs hc gl gm)
     ·have e2:(Dv.lst l).eqv (.lst m)=false:=by
       rw[vB];intro z;have z':=(Dv.eqv_iff _ _).mp z;cases z';lia
      rw[e2];exact SeqAt.RcAt.lists_lengths ta.isList tb.isList (by simpa using hsz) (by nofun)
   | _=>simp[Dv.cmp]at hc
theorem zGn(I:Inv X pins σ H s){A:Around}(hd:depL l<=60)(hu:A.units+64<cLine)(ra:DenL X.K H l xs)(rb:DenL X.K H m ys)(va:Vals xs its)(vb:Vals ys jts)(hc:cmpL l m=true)
  (j:Nat) (h1':j<its.toArray.size) (h2':j<jts.toArray.size):SeqAt.EqAt A.in1 s its.toArray[j] jts.toArray[j] (zE5 l m j):=by
 simp only[xq]at h1' h2';simp only[uK];have la:=ra.len.trans va.length;have lb:=rb.len.trans vb.length;have gl:l[j]?=some (l[j]'(by nofun)):=xu (by nofun);have gm:m[j]?=some (m[j]'(by nofun)):=xu (by nofun);have gx:xs[j]?=some (xs[j]'(by rw[va.length];lia)):=xu _;have gy:ys[j]?=some (ys[j]'(by rw[vb.length];lia)):=xu _;obtain⟨u',gu,ru⟩:=va.get gx;obtain⟨v',gv,rv⟩:=vb.get gy;rw[xu h1']at gu;rw[xu h2']at gv;cases gu;cases gv;have e1:zE5 l m j=(l[j]'(by nofun)).eqv (m[j]'(by nofun)):=by simp only[zE5,gl,gm]
 rw[e1];have hdep:=zEq gl;exact zSy I 60 _ _ (by nofun) A.in1 _ _ _ _ (by rw[units_in1];lia) (ra.get gl gx) (rb.get gm gy) ru rv (zEs hc gl gm)
noncomputable def rEqD (K:PySem.W.Frag) (neg:Bool):R2:=λx y H Q=>(∃l m,Den K H (.tup l) x/\Den K H (.tup m) y/\cmpL l m=true/\depL l<=60/\Q (.bl (if neg then !eqvL l m else eqvL l m)) H) \/
 ∃l m,Den K H (.lst l) x/\Den K H (.lst m) y/\cmpL l m=true/\depL l<=60/\Q (.bl (if neg then !eqvL l m else eqvL l m)) H
theorem zSj(hu:X.A.units+64<cLine):OpR X (compareOp .Eq) (rEqD X.K false):=by
 intro pins s σ H x y v u Q I rx ry h;rcases h with⟨l,m,⟨a,xs,ea,qa,ra⟩,⟨b,ys,eb,qb,rb⟩,hc,hd,q⟩|⟨l,m,⟨a,xs,ea,qa,ra⟩,⟨b,ys,eb,qb,rb⟩,hc,hd,q⟩
 ·subst ea eb;cases rx;cases ry;obtain⟨its,va,ta,_⟩:=I.tuple qa;obtain⟨jts,vb,tb,_⟩:=I.tuple qb;have la:=ra.len.trans va.length;have lb:=rb.len.trans vb.length;refine SeqAt.RcAt.tuples (ta) (tb) (by nofun) (λj h1 h2=>zGn I hd hu ra rb va vb hc j h1 h2) _ _ _ _ ?_;simp only[xq];rw[<- la,<- lb,zCh];exact⟨.bl _,H,I,rfl,q⟩
 ·subst ea eb;cases rx;cases ry;obtain⟨its,va,ta,_⟩:=I.list qa;obtain⟨jts,vb,tb,_⟩:=I.list qb;have la:=ra.len.trans va.length;have lb:=rb.len.trans vb.length;by_cases hsz:its.length=jts.length
  ·refine SeqAt.RcAt.lists ta.isList tb.isList (by simpa using hsz) (by nofun) (λj h1 h2=>zGn I hd hu ra rb va vb hc j h1 h2) _ _ _ _ ?_;have e2:=zCh l m;rw[la,lb,hsz,Nat.min_self,uc,Bool.and_true]at e2;simp only[xq];rw[hsz,e2];exact⟨.bl _,H,I,rfl,q⟩
  ·refine SeqAt.RcAt.lists_lengths ta.isList tb.isList (by simpa using hsz) (by nofun) _ _ _ _ ?_;have e2:eqvL l m=false:=by
    rw[vB];intro z;have z':=(zCg _ _).mp z;subst z';lia
   rw[e2]at q;exact⟨.bl _,H,I,rfl,q⟩
theorem zSf(hu:X.A.units+64<cLine):OpR X (compareOp .NotEq) (rEqD X.K true):=by
 intro pins s σ H x y v u Q I rx ry h;rcases h with⟨l,m,⟨a,xs,ea,qa,ra⟩,⟨b,ys,eb,qb,rb⟩,hc,hd,q⟩|⟨l,m,⟨a,xs,ea,qa,ra⟩,⟨b,ys,eb,qb,rb⟩,hc,hd,q⟩
 ·subst ea eb;cases rx;cases ry;obtain⟨its,va,ta,_⟩:=I.tuple qa;obtain⟨jts,vb,tb,_⟩:=I.tuple qb;have la:=ra.len.trans va.length;have lb:=rb.len.trans vb.length;refine SeqAt.RcNeAt.tuples (ta) (tb) (by nofun) (λj h1 h2=>zGn I hd hu ra rb va vb hc j h1 h2) _ _ _ _ ?_;simp only[xq];rw[<- la,<- lb,zCh];exact⟨.bl _,H,I,rfl,q⟩
 ·subst ea eb;cases rx;cases ry;obtain⟨its,va,ta,_⟩:=I.list qa;obtain⟨jts,vb,tb,_⟩:=I.list qb;have la:=ra.len.trans va.length;have lb:=rb.len.trans vb.length;by_cases hsz:its.length=jts.length
  ·refine SeqAt.RcNeAt.lists ta.isList tb.isList (by simpa using hsz) (by nofun) (λj h1 h2=>zGn I hd hu ra rb va vb hc j h1 h2) _ _ _ _ ?_;have e2:=zCh l m;rw[la,lb,hsz,Nat.min_self,uc,Bool.and_true]at e2;simp only[xq];rw[hsz,e2];exact⟨.bl _,H,I,rfl,q⟩
  ·refine SeqAt.RcNeAt.lists_lengths ta.isList tb.isList (by simpa using hsz) (by nofun) _ _ _ _ ?_;have e2:eqvL l m=false:=by
    rw[vB];intro z;have z':=(zCg _ _).mp z;subst z';lia
   rw[e2]at q;exact⟨.bl _,H,I,rfl,q⟩
theorem zRv(b:Bool):zBa X (.builtin "isinstance") (λxs H Q=>∃x t,xs=[x,.ty T]/\TyOf X.K H x t/\PySem.W.kitOne X.K t (.type T)=some b/\Q (.bl b) H):=by intro pins s σ H xs us Q I r h;obtain⟨x,t,rfl,ty,e,q⟩:=h;obtain⟨u,w',rfl,ru,rw'⟩:=vals2 r;cases(rw');exact zNz I ru ty e λtk=>⟨.bl b,H,I.tok _,rfl,q⟩
noncomputable def gLst (K:PySem.W.Frag) (n:Nat) (t:TGs):TG:=λv σ H Q=>∃a xs,v=.ref a/\SqL K H a xs/\xs.length=n/\t xs σ H Q
theorem zKf{prog:Program}{w:World}{A:Around}{E:Value->Shared->Prop}{items:Array Value}(hne:t≠it):∀(n i:Nat) (s:Shared) (Q:List Value->Shared->Prop),s.heap.IsListIter it t i->s.heap.IsList t items->i+n<=items.size->
  (∀h',h'.IsListIter it t (i+n)->Heap.SameBut it s.heap h'->Q ((items.toList.drop i).take n) { s with heap:=h' })->wpAny (model prog w) A (draw (.ref it) n) Q E s
 | 0,i,s,Q,hit,_,_,hQ=>by
  show wpAny _ _ (pure []) Q E s;exact xf (by simpa using hQ s.heap hit (Heap.SameBut.refl ..))
 | n+1,i,s,Q,hit,ht,hle,hQ=>by
  have hlt:i<items.size:=by nofun
  show wpAny _ _ (pyNext (.ref it) >>= _) Q E s;refine xa (wpAny_pyNext_list_item hit ht (x:=items[i]) (by simp[hlt]) λh₁ hit₁ hs₁=>?_);refine xa (xI (zKf hne n (i+1) { s with heap:=h₁ } _ hit₁ (ht.at λo e=>hs₁.extBut t o hne e) (by nofun) λh₂ hit₂ hs₂=>xf ?_));have hd:items.toList.drop i=items[i]::items.toList.drop (i+1):=by simp[List.drop_eq_getElem_cons,hlt]
  have:=hQ h₂ (by rw[show i+(n+1)=i+1+n by nofun];exact hit₂) (hs₁.trans hs₂);rw[hd,List.take_succ_cons]at this;exact this
theorem zEu{prog:Program}{w:World}{A:Around}{E:Value->Shared->Prop}{s:Shared}{Q:List Value->Shared->Prop}(hh:A.handled=none)(ht:s.heap.IsList t items)
  (hQ:∀h',Heap.ExtBut s.heap.objs.size s.heap h'->Q items.toList { s with heap:=h' }):wpAny (model prog w) A (unpackItems (.ref t) items.size none) Q E s:=by
 have hlt:t≠s.heap.objs.size:=by obtain⟨o,ho,_⟩:=ht;exact xr (xl ho)
 unfold unpackItems;refine xa ?_
 ·unfold notIterableAtAll;refine xa (ud ht.typeIs slot_list_iter.lookup ?_);refine xf ?_;simp only[xQ,xM];refine xa (xI (wpAny_pyIter_list ht ?_));refine xa (xI (zKf hlt items.size 0 _ _ ⟨_,xy _ rfl,rfl,rfl⟩ (ht.at λo e=>xp _ e) (by nofun) λh₁ hit₁ hs₁=>?_));have hall:List.take items.size (List.drop 0 items.toList)=items.toList:=by
   rw[List.drop_zero];exact List.take_of_length_le (by simp)
  rw[hall];rw[xc (by simp)];have ht₁:=ht.at λo e=>hs₁.extBut t o hlt (xp _ e)
  refine xa (xI (wpAny_pyNext_list_end hh hit₁ ht₁ (by simp) λh₂ he₂=>?_));simp only[Option.isSome_none,xQ,xM];refine xf (hQ h₂ λb o hb e=>he₂ b o hb (hs₁.extBut b o hb (xp _ e)))
theorem zXr{k:Nat}{n:Nat}{pos:Pos}(hc:X.calm=true)(h:PGs X es t)
  (hn:(assignEach es X.env).length=n:=by rfl) (hst:(assignEach es X.env).findIdx? (·.1)=none:=by rfl):PG X (.Tuple es k pos) (gLst X.K n t):=by
 intro pins s σ H v u Q I r hw;obtain⟨a,xs,e1,hq,hl,hw⟩:=hw;subst e1;cases r;obtain⟨its,rv,ht,hz⟩:=I.list hq;rw[assign_Tuple];refine xa (wpAny_standAt ?_);unfold unpack;rw[hst,hn,show n=its.toArray.size by rw[xq,<- rv.length,hl]];refine xa (xI (zEu (I.ok.hd hc) ht.isList λh' hx=>?_));have I1:=I.kept (t':=s.toks) λb o e=>hx b o (xr (xl e)) e
 exact h pins _ σ H xs _ Q I1 (by simpa using rv) hw
end
structure Cal (P:Program) (w:World) (K:PySem.W.Frag) (mg:Str->Option Value) (base:Heap) (x:Str) (k:Nat) (ps:List Str) (sp:Sp):Prop where
 ex:∃f fd,FnOk P w K mg base CX0 k f fd ps sp/\mg x=some (.ref f)/\PySem.W.keepIn K (.ref f)=true/\Binds K fd ps []
section
variable {X:Cx}{x:Str}{k:Nat}{ps:List Str}{sp:Sp}{e:Expr}{es:List Expr}{t:TA}{p pos:Pos}
theorem zY3(C:Cal X.prog X.w X.K X.mg X.base x k ps sp)(hr:Room k X.A)(hg:Gl X x)(ha:PA X (e::es) t)(hdb:(x == ("__debug__":Str))=false:=by decide)
  (hs:starEach (e::es) X.env=(false,eval e X.env)::starEach es X.env:=by rfl) (hpl:(backTo pos (starEach es X.env)).any (·.1)=false:=by rfl):
  PE X (.Call (.Name x p) (e::es) [] pos) (zPt sp [] E0 t):=by
 obtain⟨f,fd,F,hm,hk,hb⟩:=C.ex;exact zUk F hr hg hm hk hb .nil pass0 ha hdb hs hpl
end
noncomputable def nst:Expr->Bool
 | .Starred ..=>false
 | _=>true
theorem zBm(h:nst e=true):starEach (e::es) env=(false,eval e env)::starEach es env:=by cases e <;> first|rfl|cases h
theorem zDh :∀{es:List Expr},es.all nst=true->(backTo pos (starEach es env)).any (·.1)=false
 | [],_=>rfl
 | e::es,h=>by
  simp only[vj,xi]at h;rw[zBm h.1];show(false || (backTo pos (starEach es env)).any (·.1))=false;rw[zDh h.2];rfl
noncomputable def nsl:Expr->Bool
 | .Slice ..=>false
 | _=>true
theorem zQd(h:nsl b=true):zPl b:=λo i=>by cases b <;> first|rfl|cases h
noncomputable def nco:Expr->Bool
 | .ListComp ..|.SetComp ..|.DictComp ..=>false
 | _=>true
theorem zEg(h:nco e=true):swapsWith e tg l env=pure false:=by cases e <;> first|rfl|cases h
theorem zTn{l:Nat}(h:nco e=true):swapsWithSole [tg] e l env=pure false:=zEg h
theorem zGa{l:Nat}:swapsWithSole [.Tuple es k p] e l env=pure false:=by show swapsWith e (some (.Tuple es k p)) l env=pure false;cases e <;> rfl
noncomputable def ntu:Expr->Bool
 | .Tuple ..=>false
 | _=>true
theorem zM6(h:ntu e=true):swappedStores [tg] e env=pure none:=by
 cases tg with
 | Tuple _ _ _=>cases e with
  | Tuple _ _ _=>cases h
  | _=>rfl
 | List _ _=>cases e with
  | Tuple _ _ _=>cases h
  | _=>rfl
 | _=>rfl
theorem zFm(h:nst tg=true):(assignEach (tg::es) env).map (·.2)=assign tg env::(assignEach es env).map (·.2):=by cases tg <;> first|rfl|cases h
theorem zB3 :∀{es:List Expr},es.all nst=true->(assignEach es env).length=es.length/\(assignEach es env).findIdx? (·.1)=none
 | [],_=>⟨rfl,rfl⟩
 | e::es,h=>by
  simp only[vj,xi]at h;obtain⟨h1,h2⟩:=zB3 h.2;have e1:assignEach (e::es) env=(false,assign e env)::assignEach es env:=by have:=h.1;cases e <;> first|rfl|cases this
  rw[e1];refine⟨by rw[xo,h1,xo],?_⟩;rw[List.findIdx?_cons];simp[h2]
noncomputable def nse:Expr->Bool
 | .Set ..=>false
 | _=>true
theorem zGc(h:nse e=true)(x:Value):foldedSetIterable e env x=pure x:=by cases e <;> first|rfl|cases h
noncomputable def nba:Expr->Bool
 | .Call ..=>false
 | _=>true
theorem zE7(h:nba o=true):attributeBase o m env (eval o env)=eval o env:=by cases o <;> first|rfl|cases h
noncomputable def ntt:Expr->Bool
 | .UnaryOp ..|.BoolOp ..|.IfExp ..|.Compare ..=>false
 | _=>true
theorem zTf{e:Expr}(h:ntt e=true)(whole:Sem Value):isTrue e env whole=(do let v <- whole;standAt e.pos;holding [v] (truthy v)):=by cases e <;> first|rfl|cases h
section
variable {X:Cx}{e o i a b:Expr}{es:List Expr}{te ta tb to ti:TE}{t:TA}{p pos cpos apos:Pos}
theorem qa(ha:PE X e te)(hr:PA X es t)(h:nst e=true:=by rfl):PA X (e::es) (zTk te t):=zUn ha hr (zBm h)
theorem qix(hr:IxR X r)(ha:PE X a ta)(hb:PE X b tb)(h:nsl b=true:=by rfl):PE X (.Subscript a b pos) (tOp r ta tb):=yAv hr ha hb (zQd h)
theorem qcal(C:Cal X.prog X.w X.K X.mg X.base x k ps sp)(hr:Room k X.A)(hg:Gl X x)(ha:PA X (e::es) t)(hdb:(x == ("__debug__":Str))=false:=by decide)
  (h:(e::es).all nst=true:=by rfl):PE X (.Call (.Name x p) (e::es) [] pos) (zPt sp [] E0 t):=by
 simp only[vj,xi]at h;exact zY3 C hr hg ha hdb (zBm h.1) (zDh h.2)
theorem zXe{x:Str}{id:String}{r:List V->Hp->VK->Prop}(hc:zBa X (.builtin id) r)(hg:Gl X x)(hm:X.mg x=none)(hv:bootBuiltins x=some (.builtin id))(ha:PA X (e::es) t)(hn:x≠"__name__":=by decide)(hdb:(x == ("__debug__":Str))=false:=by decide)
  (h:(e::es).all nst=true:=by rfl):PE X (.Call (.Name x p) (e::es) [] pos) (tCB r t):=by
 simp only[vj,xi]at h;exact zQq hc hg hm hv ha hn hdb (zBm h.1) (zDh h.2)
theorem zXd{r:List V->Hp->VK->Prop}(hc:zBa X (.type T) r)(hg:Gl X x)(hm:X.mg x=none)(hv:bootBuiltins x=some (.type T))(ha:PA X (e::es) t)(hn:x≠"__name__":=by decide)(hdb:(x == ("__debug__":Str))=false:=by decide)
  (h:(e::es).all nst=true:=by rfl):PE X (.Call (.Name x p) (e::es) [] pos) (tCB r t):=by
 simp only[vj,xi]at h;exact zN3 hc hg hm hv ha hn hdb (zBm h.1) (zDh h.2)
theorem qtruth(ha:PE X e te)(h:ntt e=true:=by rfl):PT X e (λσ H Q=>te σ H λx H1=>∃k,TruV X.K x H1 k/\Q k H1):=zQ7 ha (zTf h)
theorem qset{j:Nat}{pos':Pos}(hN:X.N.Nodup)(hi:X.N[j]?=some x)(hx:Loc X.env.scope x)(he:PE X e te)(hf:X.fn x=true\/X.env.scope.names.lookup x=some .local:=by first|exact .inl rfl|exact .inr rfl|assumption)(h:nco e=true:=by rfl):
  PS X (.Assign [.Name x pos'] e pos) (tAsg te (gName j)):=zXk hN hi hx he (zEg h) hf
theorem qasgt(he:PE X e te)(hg:PG X (.Tuple ts k tp) g)(h1:ntu e=true:=by rfl):PS X (.Assign [.Tuple ts k tp] e pos) (tAsg te g):=zMv he hg zGa (zM6 h1) rfl
theorem qgs(h1:PG X tg g)(h2:PGs X ts gs)(h:nst tg=true:=by rfl):PGs X (tg::ts) (zVs g gs):=zQi h1 h2 (zFm h)
theorem qtup{ts:List Expr}{n:Nat}(hc:X.calm=true)(h:PGs X ts gs)(hn:ts.length=n:=by rfl)(h1:ts.all nst=true:=by rfl):PG X (.Tuple ts k pos) (gTup X.K n gs):=zXs hc h ((zB3 h1).1.trans hn) (zB3 h1).2
theorem qunl{ts:List Expr}{n:Nat}(hc:X.calm=true)(h:PGs X ts gs)(hn:ts.length=n:=by rfl)(h1:ts.all nst=true:=by rfl):PG X (.Tuple ts k pos) (gLst X.K n gs):=zXr hc h ((zB3 h1).1.trans hn) (zB3 h1).2
theorem qfor{tg iter:Expr}{body:List Stmt}{wi:TI}{g:TG}{tb:TS}(hp:PassesOwn (model X.prog X.w) X.A X.env X.xe)(hc:X.calm=true)(hi:PI X tg iter wi)(hg:PG X tg g)(hb:PSs X body tb)(h:nse iter=true:=by rfl):
  PS X (.For tg iter body [] pos) (tFor wi g tb):=zXo hp hc hi hg hb (zGc h)
theorem qexpr(he:PE X e te)(h:nco e=true:=by rfl):PS X (.Expr e pos) (zTj te):=zU6 he (zEg h)
theorem qlcomp{ix:List Nat}{elt:Expr}{ifs:List Expr}{g:TG}{tt:TT}(hc:X.calm=true)(S:CompScope X own fre ix scope)(hi:PI X tg iter wi)
  (hg:∀cl C s H fp,PG (zA9 X (own++fre) scope cl C s H fp) tg g) (ht:∀cl C s H fp,PIfs (zA9 X (own++fre) scope cl C s H fp) ifs tt) (he:∀cl C s H fp,PE (zA9 X (own++fre) scope cl C s H fp) elt te)
  (h:nse iter=true:=by rfl):PE X (.ListComp elt [⟨tg,iter,ifs,0⟩] scope pos) (zIi own ix wi g tt te):=zQl hc S hi hg ht he (zGc h)
theorem qsetc{own fre:List Str}{ix:List Nat}{scope:Scope}{j:Nat}{pos':Pos}{tg elt iter:Expr}{ifs:List Expr}{wi:TI}{g:TG}{tt:TT}(hN:X.N.Nodup)(hix:X.N[j]?=some x)(hx:Loc X.env.scope x)
  (hc:X.calm=true) (S:CompScope X own fre ix scope) (hi:PI X tg iter wi)
  (hg:∀cl C s H fp,PG (zA9 X (own++fre) scope cl C s H fp) tg g) (ht:∀cl C s H fp,PIfs (zA9 X (own++fre) scope cl C s H fp) ifs tt) (he:∀cl C s H fp,PE (zA9 X (own++fre) scope cl C s H fp) elt te)
  (hsw:swapsWith (.ListComp elt [⟨tg,iter,ifs,0⟩] scope cpos) (some (.Name x pos')) pos.line X.env=pure true:=by rfl) (h:nse iter=true:=by rfl) (hf:X.fn x=true\/X.env.scope.names.lookup x=some .local:=by first|exact .inl rfl|exact .inr rfl|assumption):
  PS X (.Assign [.Name x pos'] (.ListComp elt [⟨tg,iter,ifs,0⟩] scope cpos) pos) (tAsg (zIi own ix wi g tt te) (gName j)):=zU4 hN hix hx hc S hi hg ht he hsw (zGc h) hf
theorem qrange1{tg:Expr}{ta:TA}(hg:Gl X "range")(hm:X.mg "range"=none)(ha:PA X [a] ta)(h:nst a=true:=by rfl):PI X tg (.Call (.Name "range" p) [a] [] pos) (zVo ta):=zN0 hg hm ha (zBm h)
theorem qpar{px py pt pt2:Pos}{kt k2 i j:Nat}{ta:TA}(hc:X.calm=true)(hN:X.N.Nodup)(hi:X.N[i]?=some x)(hj:X.N[j]?=some y)(hij:i≠j)
  (hx:X.env.scope.names.lookup x=some .local) (hy:X.env.scope.names.lookup y=some .local) (ha:PA X [a,b] ta)
  (hw:swappedStores [.Tuple [.Name x px,.Name y py] kt pt] (.Tuple [a,b] k2 pt2) X.env=pure (some [x,y])):
  PS X (.Assign [.Tuple [.Name x px,.Name y py] kt pt] (.Tuple [a,b] k2 pt2) pos) (tPar i j ta):=zXm hc hN hi hj hij hx hy ha hw zGa
end
structure SE (X:Cx) (e:Expr) (t:TE):Prop where h:PE X e t
structure ST (X:Cx) (e:Expr) (t:TT):Prop where h:PT X e t
structure SW (X:Cx) (e:Expr) (t:TT):Prop where h:PW X e t
structure SA (X:Cx) (es:List Expr) (t:TA):Prop where h:PA X es t
structure SS (X:Cx) (st:Stmt) (t:TS):Prop where h:PS X st t
structure SSs (X:Cx) (st:List Stmt) (t:TS):Prop where h:PSs X st t
structure SG (X:Cx) (e:Expr) (t:TG):Prop where h:PG X e t
structure SGs (X:Cx) (es:List Expr) (t:TGs):Prop where h:PGs X es t
structure SI (X:Cx) (tg e:Expr) (t:TI):Prop where h:PI X tg e t
structure SIfs (X:Cx) (es:List Expr) (t:TT):Prop where h:PIfs X es t
structure SO (X:Cx) (e:Option Expr) (t:TO):Prop where h:PO X e t
section
variable {X:Cx}{e o i a b c:Expr}{es:List Expr}{te ta tb tc to ti tv td ty:TE}{t:TA}{p pos cpos apos:Pos}{tA tB':TT}
theorem pv'(i:Nat){pos:Pos}(hN:X.N[i]?=some x:=by rfl)(hv:Vis X.env.scope x:=by first|exact Or.inl rfl|exact Or.inr (Or.inl rfl)|exact Or.inr (Or.inr rfl))(hd:(x == ("__debug__":Str))=false:=by decide)
  (hcd:(x == ("__classdict__":Str))=false:=by decide):SE X (.Name x pos) (tVar i):=⟨pv i hN hv hd hcd⟩
theorem zUh{i:Int}{j:Nat}:SE X (.Constant (.int i) j pos) (tC (.int i)):=⟨zY1⟩
theorem zY5{b:Bool}{j:Nat}:SE X (.Constant (.bool b) j pos) (tC (.bl b)):=⟨yAx⟩
theorem zUd{j:Nat}:SE X (.Constant (.str x) j pos) (tC (.str x)):=⟨zXx⟩
theorem zQr(hg:Gl X x)(hm:X.mg x=none)(hv:bootBuiltins x=some u)(r:RelV v u)(hn:x≠"__name__":=by decide)(hd:(x == ("__debug__":Str))=false:=by decide):SE X (.Name x pos) (tC v):=⟨zUl hg hm hv r hn hd⟩
theorem zXy(ho:OpR X (binaryOp op) r)(ha:SE X a ta)(hb:SE X b tb):SE X (.BinOp a op b pos) (tOp r ta tb):=⟨yAu ho ha.h hb.h⟩
theorem zXv{r:V->Hp->VK->Prop}(ho:UnR X (unaryOp op) r)(ha:SE X a ta):SE X (.UnaryOp op a pos) (tUn r ta):=⟨yAt ho ha.h⟩
theorem zUm(ha:SE X a ta)(hb:SE X (.BoolOp .And (b::es) pos) tb):SE X (.BoolOp .And (a::b::es) pos) (zX8 ta tb):=⟨zY6 ha.h hb.h⟩
theorem zUe(ha:SE X a ta):SE X (.BoolOp op [a] pos) ta:=⟨zXz ha.h⟩
theorem zN2(hc:ST X c tA)(ha:SE X a ta)(hb:SE X b tb):SE X (.IfExp c a b pos) (tIf tA ta tb):=⟨zQm hc.h ha.h hb.h⟩
theorem zUc(h:SA X es t):SE X (.Tuple es k pos) (tTup t):=⟨zXw h.h⟩
theorem zUg(h:SA X es t):SE X (.List es pos) (tLst t):=⟨zY0 h.h⟩
theorem pe_dnewT':SE X (.Dict [] [] pos) zS6:=⟨zQo⟩
theorem zN1{r:V->Option Int->Option Int->Hp->VK->Prop}{lo hi:Option Expr}{tl th:TO}{p2:Pos}(hr:SlR X r)(he:SE X e te)(hl:SO X lo tl)(hu:SO X hi th):SE X (.Subscript e (.Slice lo hi none p2) pos) (tSl r te tl th):=⟨zQk hr he.h hl.h hu.h⟩
theorem po_none':SO X none zM3:=⟨zU8⟩
theorem zQc(h:SE X e te):SO X (some e) (zX6 te):=⟨zU7 h.h⟩
theorem pa_nil':SA X [] tNil:=⟨zY7⟩
theorem qa'(ha:SE X e te)(hr:SA X es t)(h:nst e=true:=by rfl):SA X (e::es) (zTk te t):=⟨qa ha.h hr.h h⟩
theorem qix'(hr:IxR X r)(ha:SE X a ta)(hb:SE X b tb)(h:nsl b=true:=by rfl):SE X (.Subscript a b pos) (tOp r ta tb):=⟨qix hr ha.h hb.h h⟩
theorem qcal'(C:Cal X.prog X.w X.K X.mg X.base x k ps sp)(hr:Room k X.A)(hg:Gl X x)(ha:SA X (e::es) t)(hdb:(x == ("__debug__":Str))=false:=by decide)
  (h:(e::es).all nst=true:=by rfl):SE X (.Call (.Name x p) (e::es) [] pos) (zPt sp [] E0 t):=⟨qcal C hr hg ha.h hdb h⟩
theorem zMr{x:Str}{id:String}{r:List V->Hp->VK->Prop}(hc:zBa X (.builtin id) r)(hg:Gl X x)(hm:X.mg x=none)(hv:bootBuiltins x=some (.builtin id))(ha:SA X (e::es) t)(hn:x≠"__name__":=by decide)(hdb:(x == ("__debug__":Str))=false:=by decide)
  (h:(e::es).all nst=true:=by rfl):SE X (.Call (.Name x p) (e::es) [] pos) (tCB r t):=⟨zXe hc hg hm hv ha.h hn hdb h⟩
theorem zMq{r:List V->Hp->VK->Prop}(hc:zBa X (.type T) r)(hg:Gl X x)(hm:X.mg x=none)(hv:bootBuiltins x=some (.type T))(ha:SA X (e::es) t)(hn:x≠"__name__":=by decide)(hdb:(x == ("__debug__":Str))=false:=by decide)
  (h:(e::es).all nst=true:=by rfl):SE X (.Call (.Name x p) (e::es) [] pos) (tCB r t):=⟨zXd hc hg hm hv ha.h hn hdb h⟩
theorem zH7 :∀{es:List Expr},es.all nst=true->(backTo pos (starEach es env)).all (λx=>!x.1)=true
 | [],_=>rfl
 | e::es,h=>by
  simp only[vj,xi]at h;rw[zBm h.1];show(true && (backTo pos (starEach es env)).all (λx=>!x.1))=true;rw[zH7 h.2];rfl
theorem zY4{T name id:_}{r:V->List V->Hp->VK->Prop}(pa:PlainAttrs T)(slot:Slot T name id)(hty:typeOf (.builtin id)=pure (.type "method_descriptor"))(hm:MtR X id r)(ho:SE X o to)(ha:SA X (e::es) t)(h:nba o=true:=by rfl)(hs:(e::es).all nst=true:=by rfl)
  (hlen:decide ((e::es).length+0+0<30)=true:=by rfl) (hline:(apos.endLine == cpos.line)=true:=by rfl):SE X (.Call (.Attribute o name apos) (e::es) [] cpos) (tBM X.K T r to t):=by
 have hs':=hs;simp only[vj,xi]at hs';refine⟨yAw pa slot hty hm ho.h ha.h (zE7 h) ?_ hline (zBm hs'.1) (zDh hs'.2)⟩;rw[zH7 hs];exact hlen
theorem zQp(ho:OpR X (compareOp op) r)(ha:SE X a ta)(hb:SE X b tb)(hm:behindInMarks op b=false):SE X (.Compare a [op] [b] pos) (tOp r ta tb):=⟨zUj ho ha.h hb.h hm⟩
theorem zQ8(ho:OpR X (compareOp op) r)(ha:SE X a ta)(hb:SE X b tb)(hm:behindInMarks op b=false):ST X (.Compare a [op] [b] pos) (zX5 (tOp r ta tb)):=⟨zU1 ho ha.h hb.h hm⟩
theorem zU0(ha:ST X a tA):ST X (.UnaryOp .Not a pos) (tNot tA):=⟨zXj ha.h⟩
theorem zQ6(ha:ST X a tA):SW X (.BoolOp .And [a] pos) tA:=⟨zTx ha.h⟩
theorem zTw(ha:ST X a tA):SW X (.BoolOp .Or [a] pos) tA:=⟨zXg ha.h⟩
theorem zTy(ha:ST X a tA)(hb:SW X (.BoolOp .And (b::es) pos) tB'):SW X (.BoolOp .And (a::b::es) pos) (tAnd tA tB'):=⟨zXi ha.h hb.h⟩
theorem zXh(ha:ST X a tA)(hb:SW X (.BoolOp .Or (b::es) pos) tB'):SW X (.BoolOp .Or (a::b::es) pos) (tOr tA tB'):=⟨yAr ha.h hb.h⟩
theorem zXf(h:SW X e tA):ST X e tA:=⟨h.h.pt⟩
noncomputable def tTru (K:PySem.W.Frag) (te:TE):TT:=λσ H Q=>te σ H λx H1=>∃k,TruV K x H1 k/\Q k H1
theorem qtruth'(ha:SE X e te)(h:ntt e=true:=by rfl):ST X e (tTru X.K te):=⟨qtruth ha.h h⟩
theorem qrange1'{tg:Expr}{ta:TA}(hg:Gl X "range")(hm:X.mg "range"=none)(ha:SA X [a] ta)(h:nst a=true:=by rfl):SI X tg (.Call (.Name "range" p) [a] [] pos) (zVo ta):=⟨qrange1 hg hm ha.h h⟩
theorem zQj(hN:X.N.Nodup)(hi:X.N[j]?=some x)(hx:Loc X.env.scope x)(hf:X.fn x=true\/X.env.scope.names.lookup x=some .local:=by first|exact .inl rfl|exact .inr rfl|assumption):SG X (.Name x pos) (gName j):=⟨zUb hN hi hx hf⟩
theorem pgs_nil':SGs X [] gNil:=⟨zU9⟩
theorem qgs'(h1:SG X tg g)(h2:SGs X ts gs)(h:nst tg=true:=by rfl):SGs X (tg::ts) (zVs g gs):=⟨qgs h1.h h2.h h⟩
theorem qtup'{ts:List Expr}{n:Nat}(hc:X.calm=true)(h:SGs X ts gs)(hn:ts.length=n:=by rfl)(h1:ts.all nst=true:=by rfl):SG X (.Tuple ts k pos) (gTup X.K n gs):=⟨qtup hc h.h hn h1⟩
theorem qunl'{ts:List Expr}{n:Nat}(hc:X.calm=true)(h:SGs X ts gs)(hn:ts.length=n:=by rfl)(h1:ts.all nst=true:=by rfl):SG X (.Tuple ts k pos) (gLst X.K n gs):=⟨qunl hc h.h hn h1⟩
theorem zUa(ho:SE X o to)(hi:SE X i ti)(hs:PSet X ts)(h:nsl i=true:=by rfl):SG X (.Subscript o i pos) (gSub to ti ts):=by refine⟨zXt ho.h hi.h hs λv=>?_⟩;cases i <;> first|rfl|cases h
theorem pifs_nil':SIfs X [] tYes:=⟨zQg⟩
theorem zMx(hc:ST X c tA):SIfs X [c] tA:=⟨zQf hc.h⟩
theorem qlcomp'{ix:List Nat}{elt:Expr}{ifs:List Expr}{g:TG}{tt:TT}(hc:X.calm=true)(S:CompScope X own fre ix scope)(hi:SI X tg iter wi)
  (hg:∀cl C s H fp,SG (zA9 X (own++fre) scope cl C s H fp) tg g) (ht:∀cl C s H fp,SIfs (zA9 X (own++fre) scope cl C s H fp) ifs tt) (he:∀cl C s H fp,SE (zA9 X (own++fre) scope cl C s H fp) elt te)
  (h:nse iter=true:=by rfl):SE X (.ListComp elt [⟨tg,iter,ifs,0⟩] scope pos) (zIi own ix wi g tt te):=⟨qlcomp hc S hi.h (λ_ _ _ _ _=>(hg _ _ _ _ _).h) (λ_ _ _ _ _=>(ht _ _ _ _ _).h) (λ_ _ _ _ _=>(he _ _ _ _ _).h) h⟩
theorem qsetc'{own fre:List Str}{ix:List Nat}{scope:Scope}{j:Nat}{pos':Pos}{tg elt iter:Expr}{ifs:List Expr}{wi:TI}{g:TG}{tt:TT}(hN:X.N.Nodup)(hix:X.N[j]?=some x)(hx:Loc X.env.scope x)
  (hc:X.calm=true) (S:CompScope X own fre ix scope) (hi:SI X tg iter wi)
  (hg:∀cl C s H fp,SG (zA9 X (own++fre) scope cl C s H fp) tg g) (ht:∀cl C s H fp,SIfs (zA9 X (own++fre) scope cl C s H fp) ifs tt) (he:∀cl C s H fp,SE (zA9 X (own++fre) scope cl C s H fp) elt te)
  (hsw:swapsWith (.ListComp elt [⟨tg,iter,ifs,0⟩] scope cpos) (some (.Name x pos')) pos.line X.env=pure true:=by rfl) (h:nse iter=true:=by rfl) (hf:X.fn x=true\/X.env.scope.names.lookup x=some .local:=by first|exact .inl rfl|exact .inr rfl|assumption):
  SS X (.Assign [.Name x pos'] (.ListComp elt [⟨tg,iter,ifs,0⟩] scope cpos) pos) (tAsg (zIi own ix wi g tt te) (gName j)):=⟨qsetc hN hix hx hc S hi.h (λ_ _ _ _ _=>(hg _ _ _ _ _).h) (λ_ _ _ _ _=>(ht _ _ _ _ _).h) (λ_ _ _ _ _=>(he _ _ _ _ _).h) hsw h hf⟩
theorem qset'{j:Nat}{pos':Pos}(hN:X.N.Nodup)(hi:X.N[j]?=some x)(hx:Loc X.env.scope x)(he:SE X e te)(hf:X.fn x=true\/X.env.scope.names.lookup x=some .local:=by first|exact .inl rfl|exact .inr rfl|assumption)(h:nco e=true:=by rfl):
  SS X (.Assign [.Name x pos'] e pos) (tAsg te (gName j)):=⟨qset hN hi hx he.h hf h⟩
theorem qasgt'(he:SE X e te)(hg:SG X (.Tuple ts k tp) g)(h1:ntu e=true:=by rfl):SS X (.Assign [.Tuple ts k tp] e pos) (tAsg te g):=⟨qasgt he.h hg.h h1⟩
theorem qasgn'(he:SE X e te)(hg:SG X (.Tuple ts k tp) g)(hw:swappedStores [.Tuple ts k tp] e X.env=pure none:=by rfl):SS X (.Assign [.Tuple ts k tp] e pos) (tAsg te g):=⟨zMv he.h hg.h zGa hw rfl⟩
theorem qasgs'(he:SE X e te)(hg:SG X (.Subscript o i sp2) g)(h2:nco e=true:=by rfl):SS X (.Assign [.Subscript o i sp2] e pos) (tAsg te g):=⟨zMv he.h hg.h (zTn h2) (by cases e <;> rfl) rfl⟩
theorem qpar'{px py pt pt2:Pos}{kt k2 i j:Nat}{ta:TA}(hc:X.calm=true)(hN:X.N.Nodup)(hi:X.N[i]?=some x)(hj:X.N[j]?=some y)(hij:i≠j)
  (hx:X.env.scope.names.lookup x=some .local) (hy:X.env.scope.names.lookup y=some .local) (ha:SA X [a,b] ta)
  (hw:swappedStores [.Tuple [.Name x px,.Name y py] kt pt] (.Tuple [a,b] k2 pt2) X.env=pure (some [x,y])):
  SS X (.Assign [.Tuple [.Name x px,.Name y py] kt pt] (.Tuple [a,b] k2 pt2) pos) (tPar i j ta):=⟨qpar hc hN hi hj hij hx hy ha.h hw⟩
theorem zU5(he:SE X e te):SS X (.Return (some e) pos) (tRet te):=⟨zXl he.h⟩
theorem ps_break':SS X (.Break pos) zS8:=⟨zQb⟩
theorem zXn{ba bb:List Stmt}{t u:TS}(hc:ST X c tA)(ha:SSs X ba t)(hb:SSs X bb u):SS X (.If c ba bb pos) (tIfS tA t u):=⟨yAs hc.h ha.h hb.h⟩
theorem qfor'{tg iter:Expr}{body:List Stmt}{wi:TI}{g:TG}{t:TS}(hp:PassesOwn (model X.prog X.w) X.A X.env X.xe)(hc:X.calm=true)(hi:SI X tg iter wi)(hg:SG X tg g)(hb:SSs X body t)(h:nse iter=true:=by rfl):
  SS X (.For tg iter body [] pos) (tFor wi g t):=⟨qfor hp hc hi.h hg.h hb.h h⟩
theorem qexpr'(he:SE X e te)(h:nco e=true:=by rfl):SS X (.Expr e pos) (zTj te):=⟨qexpr he.h h⟩
theorem pss_nil':SSs X [] zX7:=⟨zU3⟩
theorem zQ9{st:Stmt}{t:TS}(h:SS X st t):SSs X [st] t:=⟨zU2 h.h⟩
theorem zMu{st:Stmt}{r:List Stmt}{t u:TS}(h1:SS X st t)(h2:SSs X r u):SSs X (st::r) (tSeq t u):=⟨zQa h1.h h2.h⟩
end
def BN(n:Nat)(x:Int):Prop:=x.natAbs<2 ^ n
theorem BN.bits{x:Int}(h:BN 5000 x):Builtin.Int.intBits x<=2 ^ 20:=by
 unfold Builtin.Int.intBits;split
 ·exact xC _
 ·rename_i hx;have h0:x.natAbs≠0:=by
   intro z;apply hx;have:x=0:=by omega
   rw[this];rfl
  have:=(Nat.log2_lt h0).mpr h
  omega
theorem BN.log{x:Int}(h:BN 5000 x):x.natAbs.log2<9000:=by
 by_cases h0:x.natAbs=0
 ·rw[h0];decide +kernel
 ·have:=(Nat.log2_lt h0).mpr h;lia
section
variable {X:Cx}
theorem zUt:OpR X (binaryOp .Mult) (rI (λi j=>BN 5000 i/\BN 5000 j) λi j=>.int (i*j)):=opI λ_ _ _ _ _ _ _ hc q=>mul_int q (IntMulOk.of_bits hc.1.bits hc.2.bits)
theorem zQt:OpR X (binaryOp .FloorDiv) (rI (λ_ j=>j≠0/\BN 5000 j) λi j=>.int (i.fdiv j)):=opI λ_ _ _ _ _ _ _ hc q=>floordiv_int hc.1 q (.inl (PyProof.noPylong_of_log2 hc.2.log))
end
noncomputable def dv (u l:Int):Int:=if l<0 then -(Int.gcd u l:Int)else(Int.gcd u l:Int)
end L2
namespace TB
open PySem
abbrev Up(l:List Nat):Prop:=l.Pairwise (·<·)
theorem zFr{l:List Nat}(h:Up l){i j:Nat}(hij:i<j)(hj:j<l.length):l[i]'(x6 hij hj)<l[j]:=List.pairwise_iff_getElem.mp h i j _ hj hij
theorem zIf:∀(l:List Nat) (a b:Nat),Up l->(∀e,a<=e->e<b->e∈l)->b-a<=l.length
 | [],a,b,_,h=>by
  by_cases c:a<b
  ·exact absurd (h a (xg _) c) (by simp)
  ·simp;lia
 | x::xs,a,b,u,h=>by
  have ux:=vC.mp u;by_cases c:a<b
  ·have ha:=h a (xg _) c;rcases Nat.lt_trichotomy a x with q|q|q
   ·rcases xh.mp ha with z|z
    ·lia
    ·exact absurd (ux.1 a z) (by nofun)
   ·subst q;have r:=zIf xs (a+1) b ux.2 λe h1 h2=>by
     rcases xh.mp (h e (by nofun) h2)with z|z
     ·lia
     ·exact z
    simp only[xo];lia
   ·have r:=zIf xs a b ux.2 λe h1 h2=>by
     rcases xh.mp (h e h1 h2)with z|z
     ·lia
     ·exact z
    simp only[xo];lia
  ·lia
theorem zX0{l:List Nat}{m:Nat}(u:Up l)(h:l.length<=m):∃e,e<=m/\e ∉ l:=by
 refine Classical.byContradiction λn=>?_
 have r:=zIf l 0 (m+1) u λe _ h2=>Classical.byContradiction λq=>n ⟨e,by nofun,q⟩
 lia
theorem zH6{xs:Array Nat}{j:Nat}(u:Up xs.toList):∀(f lo hi:Nat),hi-lo<=f->lo<=hi->hi<=xs.size->(∀i (q:i<xs.size),i<lo->xs[i]<j)->(∀i (q:i<xs.size),hi<=i->j<=xs[i])->
  (SetTable.below.go xs j f lo hi<=xs.size/\(∀i (q:i<xs.size),i<SetTable.below.go xs j f lo hi->xs[i]<j)/\(∀i (q:i<xs.size),SetTable.below.go xs j f lo hi<=i->j<=xs[i]))
 | 0,lo,hi,h1,h2,h3,h4,h5=>by
  have e:lo=hi:=by nofun
  subst e;exact⟨h3,h4,h5⟩
 | f+1,lo,hi,h1,h2,h3,h4,h5=>by
  unfold SetTable.below.go;by_cases c:lo<hi
  ·rw[xb c];have hm:(lo+hi) / 2<hi:=by nofun
   have hl:lo<=(lo+hi) / 2:=by nofun
   have hz:(lo+hi) / 2<xs.size:=by nofun
   have eg:xs.getD ((lo+hi) / 2) j=xs[(lo+hi) / 2]:=by simp[Array.getD,hz]
   dsimp only;rw[eg];have rise:∀i k (q:i<xs.size) (r:k<xs.size),i<k->xs[i]<xs[k]:=λi k q r hik=>by
    have:=zFr u hik (by simpa using r);simpa using this
   by_cases d:xs[(lo+hi) / 2]<j
   ·rw[xb d];refine zH6 u f _ hi (by nofun) (by nofun) h3 (λi q hi'=>?_) h5;rcases x8 i ((lo+hi) / 2)with z|z
    ·exact x6 (rise _ _ q hz z) d
    ·have:i=(lo+hi) / 2:=by nofun
     subst this;exact d
   ·rw[xc d];refine zH6 u f lo _ (by nofun) hl (by nofun) h4 (λi q hi'=>?_);rcases x8 ((lo+hi) / 2) i with z|z
    ·have:=rise _ _ hz q z;lia
    ·have:i=(lo+hi) / 2:=by nofun
     subst this;lia
  ·rw[xc c];have e:lo=hi:=by nofun
   subst e;exact⟨h3,h4,h5⟩
theorem zH5{xs:Array Nat}(j:Nat)(u:Up xs.toList):SetTable.below xs j<=xs.size/\(∀i (q:i<xs.size),i<SetTable.below xs j->xs[i]<j)/\(∀i (q:i<xs.size),SetTable.below xs j<=i->j<=xs[i]):=
 zH6 u xs.size 0 xs.size (by nofun) (by nofun) (xg _) (λi q h=>by nofun) (λi q h=>by nofun)
theorem zS0{xs:Array Nat}{j k:Nat}(u:Up xs.toList)(hk:k<=xs.size)(h1:∀i (q:i<xs.size),i<k->xs[i]<j)(h2:∀i (q:i<xs.size),k<=i->j<=xs[i]):SetTable.below xs j=k:=by
 obtain⟨a,b,c⟩:=zH5 j u;rcases Nat.lt_trichotomy (SetTable.below xs j) k with z|z|z
 ·have p:=h1 _ (by nofun) z;have q:=c _ (by nofun) (xg _);lia
 ·exact z
 ·have p:=h2 k (by nofun) (xg _);have q:=b k (by nofun) z;lia
noncomputable def slotAt (xs:Array Nat) (k:Nat):Nat:=if k=0 then 0 else xs.getD (k-1) 0+1
theorem zIa{xs:Array Nat}{k:Nat}(u:Up xs.toList)(hk:k<=xs.size):SetTable.below xs (slotAt xs k)=k:=by
 have rise:∀i k (q:i<xs.size) (r:k<xs.size),i<k->xs[i]<xs[k]:=λi k q r hik=>by
  have:=zFr u hik (by simpa using r);simpa using this
 refine zS0 u hk (λi q h=>?_) (λi q h=>?_)
 ·unfold slotAt;rw[xc (by nofun)];have hz:k-1<xs.size:=by nofun
  have:xs.getD (k-1) 0=xs[k-1]:=by simp[Array.getD,hz]
  rw[this];rcases x8 i (k-1)with z|z
  ·have:=rise _ _ q hz z;lia
  ·have:i=k-1:=by nofun
   subst this;lia
 ·unfold slotAt;by_cases c:k=0
  ·rw[xb c];lia
  ·rw[xc c];have hz:k-1<xs.size:=by nofun
   have:xs.getD (k-1) 0=xs[k-1]:=by simp[Array.getD,hz]
   rw[this];have:=rise _ _ hz q (by nofun);lia
theorem zEo{α:Type}(xs:Array α)(p:Nat)(x:α):(SetTable.insertAt xs p x).toList=xs.toList.take p++x::xs.toList.drop p:=by unfold SetTable.insertAt;simp[Array.toList_extract];exact List.take_of_length_le (by simp)
theorem ins_perm{α:Type}(xs:Array α)(p:Nat)(x:α):(SetTable.insertAt xs p x).toList.Perm (x::xs.toList):=by rw[zEo];exact uq.trans (by rw[List.take_append_drop])
theorem zK6{α:Type}(xs:Array α)(p:Nat)(x:α):(SetTable.insertAt xs p x).size=xs.size+1:=by have:=(ins_perm xs p x).length_eq;simpa using this
theorem ins_up{xs:Array Nat}{j:Nat}(u:Up xs.toList)(h:xs[SetTable.below xs j]?≠some j):Up (SetTable.insertAt xs (SetTable.below xs j) j).toList:=by
 obtain⟨a,b,c⟩:=zH5 j u;rw[zEo];have h1:∀v∈xs.toList.take (SetTable.below xs j),v<j:=λv hv=>by
  obtain⟨i,hi,rfl⟩:=vV.mp hv;rw[vo]at hi;rw[List.getElem_take];have:=b i (by simp at hi;lia) (by nofun);simpa using this
 have h2:∀v∈xs.toList.drop (SetTable.below xs j),j<v:=λv hv=>by
  obtain⟨i,hi,rfl⟩:=vV.mp hv;rw[List.length_drop]at hi;rw[List.getElem_drop];have hz:SetTable.below xs j+i<xs.size:=by simp at hi;lia
  have h3:=c _ hz (by nofun);have h4:xs[SetTable.below xs j]'(by nofun)≠j:=λe=>h (by rw[xY (by nofun),e])
  have h5:=c (SetTable.below xs j) (by nofun) (xg _);have h6:xs[SetTable.below xs j]'(by nofun)<=xs[SetTable.below xs j+i]:=by
   rcases Nat.eq_zero_or_pos i with z|z
   ·subst z;exact xg _
   ·have:=zFr u (i:=SetTable.below xs j) (j:=SetTable.below xs j+i) (by nofun) (by simpa using hz);exact x4 (by simpa using this)
  simp only[Array.getElem_toList];lia
 refine List.pairwise_append.mpr ⟨u.sublist (List.take_sublist _ _),vC.mpr ⟨λv hv=>h2 v hv,u.sublist (List.drop_sublist _ _)⟩,λp hp q hq=>?_⟩;rcases xh.mp hq with rfl|hq
 ·exact h1 p hp
 ·exact x6 (h1 p hp) (h2 q hq)
noncomputable def orb (m:Nat):Nat->Nat × Nat->Nat × Nat
 | 0,x=>x
 | L+1,x=>orb m L (SetTable.leap m x.1 x.2)
noncomputable def gs (m:Nat):Nat->Nat->Nat
 | 0,i=>i
 | k+1,i=>gs m k ((i*5+1) % (m+1))
theorem zK8(m:Nat):∀(a b i:Nat),gs m (a+b) i=gs m b (gs m a i)
 | 0,b,i=>by rw[vt];rfl
 | a+1,b,i=>by rw[show a+1+b=(a+b)+1 by nofun];exact zK8 m a b _
def Msk(m:Nat):Prop:=m∈[7,15,31,63,127,255,511,1023,2047,4095]
noncomputable def gsB (m:Nat):Nat->Nat->Nat->Nat
 | 0,_,a=>a
 | k+1,i,a=>gsB m k ((i*5+1) % (m+1)) (a ||| 2 ^ i)
theorem zSw(m:Nat):∀(n i a e:Nat),(gsB m n i a).testBit e=true->a.testBit e=true\/∃k,k<n/\gs m k i=e
 | 0,i,a,e,h=>.inl h
 | n+1,i,a,e,h=>by
  rcases zSw m n _ _ e h with z|⟨k,hk,z⟩
  ·rw[Nat.testBit_or,Bool.or_eq_true]at z;rcases z with z|z
   ·exact .inl z
   ·rw[Nat.testBit_two_pow]at z;exact .inr ⟨0,by nofun,ur z⟩
  ·exact .inr ⟨k+1,by nofun,z⟩
theorem zZ6{m:Nat}(h:Msk m):gs m (m+1) 0=0/\∀e,e<m+1->∃k,k<m+1/\gs m k 0=e:=by
 have t:∀(M:Nat),(gs M (M+1) 0 == 0 && gsB M (M+1) 0 0 == 2 ^ (M+1)-1)=true->gs M (M+1) 0=0/\∀e,e<M+1->∃k,k<M+1/\gs M k 0=e:=λM hh=>by
  rw[xi]at hh;refine⟨by simpa using hh.1,λe he=>?_⟩;have hb:gsB M (M+1) 0 0=2 ^ (M+1)-1:=by simpa using hh.2
  rcases zSw M (M+1) 0 0 e (by rw[hb,Nat.testBit_two_pow_sub_one];exact xk he)with z|z
  ·rw[Nat.zero_testBit]at z;cases z
  ·exact z
 have al:∀m∈[7,15,31,63,127,255,511,1023,2047,4095],(gs m (m+1) 0 == 0 && gsB m (m+1) 0 0 == 2 ^ (m+1)-1)=true:=by decide +kernel
 exact t m (al m h)
theorem zZ5{m i e:Nat}(h:Msk m)(hi:i<m+1)(he:e<m+1):∃k,k<=m/\gs m k i=e:=by
 obtain⟨z,al⟩:=zZ6 h;obtain⟨a,ha,rfl⟩:=al i hi;obtain⟨b,hb,rfl⟩:=al e he;rcases x8 b a with c|c
 ·refine⟨m+1-a+b,by nofun,?_⟩;rw[<- zK8,show a+(m+1-a+b)=(m+1)+b by nofun,zK8,z]
 ·exact⟨b-a,by nofun,by rw[<- zK8,show a+(b-a)=b by nofun]⟩
theorem zN7(m:Nat):∀(a b:Nat) (x:Nat × Nat),orb m (a+b) x=orb m b (orb m a x)
 | 0,b,x=>by rw[vt];rfl
 | a+1,b,x=>by rw[show a+1+b=(a+b)+1 by nofun];exact zN7 m a b _
theorem zN6(m:Nat):∀(L:Nat) (x:Nat × Nat),(orb m L x).2=x.2 / 32 ^ L
 | 0,x=>by simp[orb]
 | L+1,x=>by
  show(orb m L _).2=_;rw[zN6 m L];show x.2 / 32 / 32 ^ L=_;rw[Nat.div_div_eq_div_mul,Nat.pow_succ,Nat.mul_comm]
theorem zSd{m:Nat}:∀(L:Nat) (x:Nat × Nat),x.1<m+1->(orb m L x).1<m+1
 | 0,x,h=>h
 | L+1,x,h=>zSd L _ (vc _ (by nofun))
theorem zSe(m:Nat):∀(k:Nat) (x:Nat × Nat),x.2=0->(orb m k x).1=gs m k x.1
 | 0,x,h=>rfl
 | k+1,x,h=>by
  show(orb m k (SetTable.leap m x.1 x.2)).1=gs m k _;rw[zSe m k _ (by show x.2 / 32=0;rw[h])];show gs m k ((x.1*5+1+x.2 / 32) % (m+1))=_;rw[h]
theorem zIk{m i p e:Nat}(h:Msk m)(hi:i<m+1)(hp:p<2 ^ 64)(he:e<m+1):∃L,L<=13+m/\(orb m L (i,p)).1=e:=by
 obtain⟨k,hk,ek⟩:=zZ5 h (zSd 13 (i,p) hi) he;have h0:(orb m 13 (i,p)).2=0:=by rw[zN6];exact Nat.div_eq_of_lt (x6 hp (by decide))
 exact⟨13+k,by nofun,by rw[zN7,zSe m k _ h0,ek]⟩
noncomputable def adv (t:SetTable):Nat->SetTable.Probe->SetTable.Probe
 | 0,p=>p
 | m+1,p=>adv t m (t.advance p)
theorem zCn(t:SetTable):∀(a b:Nat) (p:SetTable.Probe),adv t (a+b) p=adv t b (adv t a p)
 | 0,b,p=>by rw[vt];rfl
 | a+1,b,p=>by rw[show a+1+b=(a+b)+1 by nofun];exact zCn t a b _
theorem zId(t:SetTable):∀(m:Nat) (p:SetTable.Probe),(adv t m p).dummy=p.dummy
 | 0,p=>rfl
 | m+1,p=>by
  show(adv t m (t.advance p)).dummy=_;rw[zId t m];unfold SetTable.advance;split <;> rfl
noncomputable def beg (t:SetTable) (x:Nat × Nat) (d:Option Nat):SetTable.Probe:={ j:=x.1,more:=SetTable.runEnd t.mask x.1-x.1,i:=x.1,perturb:=x.2,dummy:=d }
theorem zH9(t:SetTable):∀(c:Nat) (p:SetTable.Probe),p.more=c->adv t (c+1) p=beg t (SetTable.leap t.mask p.i p.perturb) p.dummy
 | 0,p,h=>by
  show t.advance p=_;unfold SetTable.advance;rw[xc (by nofun)];rfl
 | c+1,p,h=>by
  show adv t (c+1) (t.advance p)=_;have e:t.advance p={ p with j:=p.j+1,more:=p.more-1 }:=by unfold SetTable.advance;rw[xb (by nofun)]
  rw[e];exact zH9 t c _ (by show p.more-1=c;lia)
theorem zWs(t:SetTable)(x:Nat × Nat)(d:Option Nat):∃c,1<=c/\c<=10/\adv t c (beg t x d)=beg t (SetTable.leap t.mask x.1 x.2) d:=by refine⟨SetTable.runEnd t.mask x.1-x.1+1,by nofun,?_,zH9 t _ (beg t x d) rfl⟩;unfold SetTable.runEnd;split <;> lia
theorem zPh(t:SetTable)(d:Option Nat):∀(L:Nat) (x:Nat × Nat),∃c,c<=10*L/\adv t c (beg t x d)=beg t (orb t.mask L x) d
 | 0,x=>⟨0,by nofun,rfl⟩
 | L+1,x=>by
  obtain⟨c,_,h1,e1⟩:=zWs t x d;obtain⟨c',h2,e2⟩:=zPh t d L (SetTable.leap t.mask x.1 x.2);refine⟨c+c',by nofun,?_⟩;rw[zCn,e1,e2];rfl
theorem zJc(h:Int):SetTable.bits h<2 ^ 64:=by unfold SetTable.bits;have:=vM h (show(0:Int)<2 ^ 64 by decide);have:=vN h (show(2 ^ 64:Int)≠0 by decide);lia
theorem zM7{t:SetTable}{h:Int}{e:Nat}(hm:Msk t.mask)(he:e<=t.mask):∃c,c<10*SetTable.turns t.mask/\(adv t c (t.probeStart h)).j=e:=by obtain⟨L,hL,eL⟩:=zIk hm (vc _ (by nofun)) (zJc h) (show e<t.mask+1 by nofun);obtain⟨c,hc,ec⟩:=zPh t none L (SetTable.bits h % (t.mask+1),SetTable.bits h);refine⟨c,by unfold SetTable.turns;lia,?_⟩;have e0:t.probeStart h=beg t (SetTable.bits h % (t.mask+1),SetTable.bits h) none:=rfl;rw[e0,ec];exact eL
def Far(t:SetTable)(p:SetTable.Probe)(m:Nat):Prop:=t.slot (adv t m p).j=.empty/\p.dummy=none
theorem zCp{t:SetTable}(hd:t.dummies=#[])(j:Nat):t.slot j=(if t.place[SetTable.below t.place j]? == some j then .live (SetTable.below t.place j)else .empty):=by
 have e:SetTable.has t.dummies j=false:=by rw[hd];rfl
 unfold SetTable.slot;simp only[e];simp
theorem zDy{t:SetTable}(hd:t.dummies=#[]){j:Nat}:t.slot j=.empty <-> t.place[SetTable.below t.place j]?≠some j:=by
 rw[zCp hd];by_cases c:t.place[SetTable.below t.place j]?=some j
 ·simp[c]
 ·simp[c]
theorem Msk.le{m:Nat}(h:Msk m):7<=m:=(by decide:∀m∈[7,15,31,63,127,255,511,1023,2047,4095],7<=m) _ h
structure Tab (t:SetTable) (n:Nat) (led:Bool):Prop where
 hm:Msk t.mask
 size:t.place.size=n
 nod:t.dummies=#[]
 up:Up t.place.toList
 room:n*5<t.mask*3
 plain:t.plain=true
 led:t.led=led
theorem Tab.fill{t:SetTable}{n:Nat}(T:Tab t n b):t.fill=n:=by unfold SetTable.fill;rw[T.size,T.nod];rfl
theorem Tab.fits{t:SetTable}(T:Tab t n b):(t.place.size != n || decide (t.fill > t.mask))=false:=by have:=T.room;rw[T.fill,T.size];simp;lia
theorem Tab.way{t:SetTable}(T:Tab t n b):t.gaveWay=false:=by unfold SetTable.gaveWay;exact(by decide:∀m∈[7,15,31,63,127,255,511,1023,2047,4095],(m % 2 == 0)=false) _ T.hm
theorem Tab.start{t:SetTable}(T:Tab t n b)(h:Int):∃m,m<10*SetTable.turns t.mask/\Far t (t.probeStart h) m:=by
 have hn:t.place.toList.length<=t.mask:=by have:=T.room;have:=T.size;simp;lia
 obtain⟨e,he,hne⟩:=zX0 T.up hn;obtain⟨c,hc,ec⟩:=zM7 T.hm he;refine⟨c,hc,?_,rfl⟩;rw[ec,zDy T.nod];intro q;exact hne (by
  obtain⟨hz,e'⟩:=xU.mp q;rw[<- e'];simp)
theorem Tab.turns{t:SetTable}(T:Tab t n b):10*SetTable.turns t.mask<100000:=by exact(by decide:∀m∈[7,15,31,63,127,255,511,1023,2047,4095],10*SetTable.turns m<100000) _ T.hm
theorem zHq(b:Bool):Tab (SetTable.fresh 0 0 b) 0 b:=⟨.head _,rfl,rfl,.nil,(show 0*5<7*3 by decide),rfl,rfl⟩
structure TabP (t:SetTable) (n:Nat) (led:Bool):Prop where
 hm:Msk t.mask
 size:t.place.size=n
 nod:t.dummies=#[]
 up:Up t.place.toList
 most:(n-1)*5<t.mask*3
 plain:t.plain=true
 led:t.led=led
theorem Tab.put{t:SetTable}{n j:Nat}(T:Tab t n b)(hj:t.slot j=.empty):TabP (t.put j).1 (n+1) b:=by
 have e:SetTable.has t.dummies j=false:=by rw[T.nod];rfl
 have e2:(t.put j).1={ t with place:=SetTable.insertAt t.place (SetTable.below t.place j) j }:=by unfold SetTable.put;simp[e]
 rw[e2];exact⟨T.hm,by show(SetTable.insertAt _ _ _).size=_;rw[zK6,T.size],T.nod,ins_up T.up ((zDy T.nod).mp hj),by show(n+1-1)*5<t.mask*3;have:=T.room;simpa using this,T.plain,T.led⟩
theorem TabP.fill{t:SetTable}{n:Nat}(T:TabP t n b):t.fill=n:=by unfold SetTable.fill;rw[T.size,T.nod];rfl
theorem TabP.tab{t:SetTable}(T:TabP t n b)(h:t.tooFull=false):Tab t n b:=by refine⟨T.hm,T.size,T.nod,T.up,?_,T.plain,T.led⟩;unfold SetTable.tooFull at h;rw[T.fill]at h;simpa using h
theorem TabP.fits{t:SetTable}(T:TabP t n b):(t.place.size != n || decide (t.fill > t.mask))=false:=by have h:=T.most;have hm:=Msk.le T.hm;rw[T.fill,T.size];simp;lia
theorem zGp{m:Nat}{owner:Array (Option Nat)}{e:Nat}(ho:owner.getD e (some 0)=none):∀(L f:Nat) (x:Nat × Nat),L<f->(orb m L x).1=e->∃j,SetTable.layClean.free m owner f x.1 x.2=some j/\owner.getD j (some 0)=none
 | L,0,x,h,_=>by nofun
 | L,f+1,x,h,he=>by
  unfold SetTable.layClean.free;cases hf:(List.range (SetTable.runEnd m x.1+1-x.1)).find? λk=>(owner.getD (x.1+k) (some 0)).isNone with
  | some k=>
   have:=List.find?_some hf;exact⟨x.1+k,rfl,by simpa using this⟩
  | none=>
   cases L with
   | zero=>
    have hx:x.1=e:=he;have:=List.find?_eq_none.mp hf 0 (vF.mpr (by unfold SetTable.runEnd;split <;> lia));rw[Nat.add_zero,hx,ho]at this;exact absurd rfl this
   | succ L=>exact zGp ho L f (SetTable.leap m x.1 x.2) (by nofun) he
theorem zIl:∀(l:List (Option Nat)),(l.filterMap id).length<l.length->∃e,e<l.length/\l[e]?=some none
 | [],h=>by simp at h
 | none::l,_=>⟨0,by simp,rfl⟩
 | some v::l,h=>by
  obtain⟨e,h1,h2⟩:=zIl l (by simpa using h);exact⟨e+1,by simp;omega,by simpa using h2⟩
theorem zGd:∀(l:List (Option Nat)) (j k:Nat),l[j]?=some none->((l.set j (some k)).filterMap id).Perm (k::l.filterMap id)
 | [],j,k,h=>by simp at h
 | x::l,0,k,h=>by
  have:x=none:=by simpa using h
  subst this;simp
 | x::l,j+1,k,h=>by
  have ih:=zGd l j k (by simpa using h);cases x with
  | none=>simpa using ih
  | some v=>
   simp only[List.set_cons_succ,vP,id];exact(List.Perm.cons v ih).trans (List.Perm.swap _ _ _)
def Laid(m:Nat)(acc:Option (Array (Option Nat) × Nat))(k:Nat):Prop:=∃owner,acc=some (owner,k)/\owner.size=m+1/\(owner.toList.filterMap id).Perm (List.range k)
theorem zNq{m k:Nat}(hm:Msk m)(hk:k<=m){owner:Array (Option Nat)}(hs:owner.size=m+1)(hp:(owner.toList.filterMap id).Perm (List.range k))(h:Int):
  ∃j,SetTable.layClean.free m owner (SetTable.turns m) (SetTable.bits h % (m+1)) (SetTable.bits h)=some j/\Laid m (some (owner.setIfInBounds j (some k),k+1)) (k+1):=by
 obtain⟨e,h1,h2⟩:=zIl owner.toList (by rw[hp.length_eq,vv];simp[hs];lia);have h1':e<owner.size:=by simpa using h1
 have ho:owner.getD e (some 0)=none:=by
  have:owner[e]?=some none:=by simpa using h2
  simp[vd,this]
 obtain⟨L,hL,eL⟩:=zIk hm (vc _ (by nofun)) (zJc h) (show e<m+1 by nofun);obtain⟨j,ej,hj⟩:=zGp ho L (SetTable.turns m) (SetTable.bits h % (m+1),SetTable.bits h) (by unfold SetTable.turns;lia) eL;refine⟨j,ej,_,rfl,by simpa using hs,?_⟩;have hj2:owner.toList[j]?=some none:=by
  rw[vd]at hj;cases hq:owner[j]? with
  | none=>rw[hq]at hj;cases hj
  | some v=>rw[hq]at hj;have:=hj;subst this;simpa using hq
 rw[Array.toList_setIfInBounds];refine(zGd _ j k hj2).trans ((List.Perm.cons k hp).trans ?_);rw[List.range_succ];exact(List.perm_append_singleton k (List.range k)).symm
theorem zK4{m:Nat}(hm:Msk m):∀(hs:List Int) (k:Nat) (acc:Option (Array (Option Nat) × Nat)),k+hs.length<=m+1->Laid m acc k->
  Laid m (hs.foldl (λacc h=>do
   let (owner,k) <- acc
   let j <- SetTable.layClean.free m owner (SetTable.turns m) (SetTable.bits h % (m+1)) (SetTable.bits h)
   pure (owner.setIfInBounds j (some k),k+1)) acc) (k+hs.length)
 | [],k,acc,_,L=>L
 | h::hs,k,acc,hl,⟨owner,ea,h1,h2⟩=>by
  subst ea;obtain⟨j,ej,L⟩:=zNq hm (by simp at hl;lia) h1 h2 h;have:=zK4 hm hs (k+1) _ (by simp at hl;lia) L;rw[List.foldl_cons];have e2:(do
   let (owner,k) <- some (owner,k)
   let j <- SetTable.layClean.free m owner (SetTable.turns m) (SetTable.bits h % (m+1)) (SetTable.bits h)
   pure (owner.setIfInBounds j (some k),k+1))=some (owner.setIfInBounds j (some k),k+1):=by
   show(SetTable.layClean.free m owner (SetTable.turns m) (SetTable.bits h % (m+1)) (SetTable.bits h) >>= λj=>pure (owner.setIfInBounds j (some k),k+1))=_;rw[ej];rfl
  rw[e2,xo,show k+(hs.length+1)=k+1+hs.length by nofun];exact this
theorem zK2:∀(l:List (Option Nat)) (g:Nat->Nat),((List.range l.length).filterMap λj=>((l[j]?).getD none).map λv=>(g j,v)).map (·.2)=l.filterMap id
 | [],g=>rfl
 | x::l,g=>by
  have ih:=zK2 l (λj=>g (j+1));rw[xo,List.range_succ_eq_map,vP];have e:((List.map Nat.succ (List.range l.length)).filterMap λj=>(((x::l)[j]?).getD none).map λv=>(g j,v))=(List.range l.length).filterMap λj=>((l[j]?).getD none).map λv=>(g (j+1),v):=by rw[List.filterMap_map];rfl
  cases x with
  | none=>simp only[uu,Option.getD_some,Option.map_none];rw[e,ih];rfl
  | some v=>simp only[uu,Option.getD_some,ue,xt];rw[e,ih];rfl
theorem zIp(f:Nat->Option Nat):∀(l:List Nat),Up l->Up ((l.filterMap λj=>(f j).map λv=>(j,v)).map (·.1))
 | [],_=>.nil
 | x::l,u=>by
  have ux:=vC.mp u;rw[vP];cases hx:f x with
  | none=>exact zIp f l ux.2
  | some v=>
   simp only[ue,xt];refine vC.mpr ⟨λy hy=>?_,zIp f l ux.2⟩;obtain⟨q,hq,rfl⟩:=xw.mp hy;obtain⟨z,hz,ez⟩:=v5.mp hq;cases hf:f z with
   | none=>rw[hf]at ez;cases ez
   | some w=>rw[hf]at ez;cases ez;exact ux.1 _ hz
theorem zVd{m:Nat}(hm:Msk m){hs:Array Int}(hl:hs.size<=m)(hr:hs.size*5<m*3)(fing moves:Nat)(led:Bool):∃t order,SetTable.laid m fing moves led true hs=some (t,order)/\Tab t hs.size led/\order.toList.Perm (List.range hs.size):=by
 obtain⟨owner,e,h1,h2⟩:=zK4 hm hs.toList 0 (some (Array.replicate (m+1) none,0)) (by simp;lia) ⟨_,rfl,by simp,by simp⟩;have ec:SetTable.layClean m hs=some owner:=by unfold SetTable.layClean;rw[<- Array.foldl_toList,e];rfl
 have es:=zK2 owner.toList id;have eg:∀j,(owner.getD j none).map (j,·)=((owner.toList[j]?).getD none).map λv=>(id j,v):=λj=>by
  rw[vd];simp
 refine⟨_,_,by unfold SetTable.laid;rw[ec];rfl,⟨hm,?_,rfl,?_,hr,rfl,rfl⟩,?_⟩
 ·show(List.map _ _).toArray.size=_;rw[xq,xn,<- xn];rw[<- h1] ;rw[show owner.size=owner.toList.length by simp];simp only[eg];rw[es,h2.length_eq];simp
 ·show Up (List.map _ _).toArray.toList;exact zIp _ _ (List.pairwise_lt_range)
 ·show(List.map _ _).toArray.toList.Perm _;rw[<- h1,show owner.size=owner.toList.length by simp];simp only[eg];rw[List.toList_toArray,es];simpa using h2
structure TabW (t:SetTable) (n:Nat) (led:Bool):Prop where
 size:t.place.size=n
 up:Up t.place.toList
 fit:t.fill<=t.mask
 plain:t.plain=true
 led:t.led=led
theorem Tab.w(T:Tab t n b):TabW t n b:=⟨T.size,T.up,by have:=T.room;rw[T.fill];lia,T.plain,T.led⟩
theorem TabW.ft{t:SetTable}{n:Nat}(T:TabW t n b):t.fits n=true:=by unfold SetTable.fits;rw[T.size,xk T.fit];simp
theorem zDx{t t':SetTable}(h:t.mask=t'.mask):∀(m:Nat) (p:SetTable.Probe),adv t m p=adv t' m p
 | 0,_=>rfl
 | m+1,p=>by
  show adv t m (t.advance p)=adv t' m (t'.advance p);have e:t.advance p=t'.advance p:=by unfold SetTable.advance;rw[h]
  rw[e];exact zDx h m _
theorem zCz{t t':SetTable}(h:t.mask=t'.mask)(x:Int):t.probeStart x=t'.probeStart x:=by unfold SetTable.probeStart;rw[h]
theorem zR0{xs:Array Nat}{j:Nat}(u:Up xs.toList):xs[SetTable.below xs j]?=some j <-> j∈xs.toList:=by
 constructor
 ·intro h;obtain⟨z,e⟩:=xU.mp h;rw[<- e];simp
 ·intro h;obtain⟨i,hi,e⟩:=vV.mp h;have hi':i<xs.size:=by simpa using hi
  have e':xs[i]=j:=by simpa using e
  obtain⟨a,b,c⟩:=zH5 j u;have h1:¬ i<SetTable.below xs j:=λq=>by have:=b i hi' q;lia
  have h2:¬ SetTable.below xs j<i:=λq=>by
   have h3:=c _ (by nofun) (xg _);have:=zFr u q (by simpa using hi');have:xs[SetTable.below xs j]'(by nofun)<xs[i]:=by simpa using this
   lia
  have h3:SetTable.below xs j=i:=by nofun
  rw[h3,xY hi',e']
theorem zHt{t:SetTable}(T:Tab t n b)(j:Nat):t.slot j=.empty <-> j ∉ t.place.toList:=by rw[zDy T.nod,ne_eq,zR0 T.up]
def Chn(t:SetTable)(h:Int)(j:Nat):Prop:=∃m,(adv t m (t.probeStart h)).j=j/\∀m',m'<m->(adv t m' (t.probeStart h)).j∈t.place.toList
def Chs(t:SetTable)(hs:List Int):Prop:=∀q∈t.place.toList.zip hs,Chn t q.2 q.1
theorem Chn.grow{t t':SetTable}{h:Int}(c:Chn t h j)(hm:t.mask=t'.mask)(hp:∀j∈t.place.toList,j∈t'.place.toList):Chn t' h j:=by obtain⟨m,e,al⟩:=c;refine⟨m,by rw[<- zCz hm,<- zDx hm];exact e,λm' hm'=>?_⟩;rw[<- zCz hm,<- zDx hm];exact hp _ (al m' hm')
theorem zLv{α β:Type}:∀(p:Nat) (a:List α) (b:List β) (x:α) (y:β),a.length=b.length->∀q∈(a.take p++x::a.drop p).zip (b.take p++y::b.drop p),q=(x,y)\/q∈a.zip b
 | 0,a,b,x,y,h,q,hq=>by
  simp only[List.take_zero,uv,List.drop_zero,vW]at hq;exact xh.mp hq
 | p+1,[],[],x,y,h,q,hq=>by
  simp at hq;exact .inl hq
 | p+1,c::a,d::b,x,y,h,q,hq=>by
  simp only[List.take_succ_cons,List.drop_succ_cons,List.cons_append,vW]at hq;rcases xh.mp hq with rfl|hq
  ·exact .inr (xK)
  ·rcases zLv p a b x y (by simpa using h) q hq with z|z
   ·exact .inl z
   ·exact .inr (xN _ z)
 | p+1,[],_::_,x,y,h,q,hq=>by simp at h
 | p+1,_::_,[],x,y,h,q,hq=>by simp at h
theorem zTz{t:SetTable}{n j M:Nat}{hs:List Int}{h:Int}(T:Tab t n b)(hn:hs.length=n)(C:Chs t hs)(hj:t.slot j=.empty)(hM:(adv t M (t.probeStart h)).j=j)(al:∀m',m'<M->(adv t m' (t.probeStart h)).j∈t.place.toList):
  Chs (t.put j).1 (hs.take (t.put j).2++h::hs.drop (t.put j).2)/\(t.put j).2=SetTable.below t.place j:=by
 have e:SetTable.has t.dummies j=false:=by rw[T.nod];rfl
 have e2:t.put j=({ t with place:=SetTable.insertAt t.place (SetTable.below t.place j) j },SetTable.below t.place j):=by unfold SetTable.put;simp[e]
 rw[e2];have pl:({ t with place:=SetTable.insertAt t.place (SetTable.below t.place j) j }:SetTable).place.toList=t.place.toList.take (SetTable.below t.place j)++j::t.place.toList.drop (SetTable.below t.place j):=zEo _ _ _;have sub:∀i∈t.place.toList,i∈({ t with place:=SetTable.insertAt t.place (SetTable.below t.place j) j }:SetTable).place.toList:=λi hi=>(ins_perm t.place _ j).mem_iff.mpr (xN _ hi)
 refine⟨λq hq=>?_,rfl⟩;rw[pl]at hq;rcases zLv _ _ _ _ _ (by simp[T.size,hn]) q hq with rfl|z
 ·exact Chn.grow ⟨M,hM,al⟩ rfl sub
 ·exact(C q z).grow rfl sub
theorem zKp(t:SetTable):∀(c:Nat) (p:SetTable.Probe),c<=p.more->(adv t c p).j=p.j+c
 | 0,p,_=>rfl
 | c+1,p,h=>by
  show(adv t c (t.advance p)).j=_;have e:t.advance p={ p with j:=p.j+1,more:=p.more-1 }:=by unfold SetTable.advance;rw[xb (by nofun)]
  rw[e,zKp t c _ (by show c<=p.more-1;lia)];show p.j+1+c=p.j+(c+1);lia
theorem zK9{t:SetTable}{owner:Array (Option Nat)}:∀(f:Nat) (x:Nat × Nat) (j:Nat),SetTable.layClean.free t.mask owner f x.1 x.2=some j->
  ∃m,(adv t m (beg t x none)).j=j/\∀m',m'<m->owner.getD (adv t m' (beg t x none)).j (some 0)≠none
 | 0,x,j,h=>by cases h
 | f+1,x,j,h=>by
  unfold SetTable.layClean.free at h;have rl:SetTable.runEnd t.mask x.1+1-x.1=(beg t x none).more+1:=by show _=SetTable.runEnd t.mask x.1-x.1+1;unfold SetTable.runEnd;split <;> lia
  rw[rl]at h;cases hf:(List.range ((beg t x none).more+1)).find? λk=>(owner.getD (x.1+k) (some 0)).isNone with
  | some k=>
   rw[hf]at h;have ej:=xA h;obtain⟨h1,h2,h3⟩:=List.find?_range_eq_some.mp hf;have hk:=vF.mp h2;refine⟨k,by rw[zKp t k _ (by nofun)];exact ej,λm' hm'=>?_⟩;rw[zKp t m' _ (by nofun)];have:=h3 m' hm';intro z;have z':owner.getD (x.1+m') (some 0)=none:=z;rw[z']at this;simp at this
  | none=>
   rw[hf]at h;obtain⟨m,e,al⟩:=zK9 f (SetTable.leap t.mask x.1 x.2) j h;refine⟨(beg t x none).more+1+m,by rw[zCn,zH9 t _ _ rfl];exact e,λm' hm'=>?_⟩;rcases x8 m' ((beg t x none).more+1)with z|z
   ·rw[zKp t m' _ (by nofun)];have:=List.find?_eq_none.mp hf m' (vF.mpr z);intro w;have w':owner.getD (x.1+m') (some 0)=none:=w;rw[w']at this;simp at this
   ·obtain⟨c,rfl⟩:∃c,m'=(beg t x none).more+1+c:=⟨m' - ((beg t x none).more+1),by nofun⟩
    rw[zCn,zH9 t _ _ rfl];exact al c (by nofun)
theorem zSa(m i:Nat)(h:i<=m):SetTable.runEnd m i<=m:=by unfold SetTable.runEnd;split <;> omega
theorem zSb(m i:Nat):i<=SetTable.runEnd m i:=by unfold SetTable.runEnd;split <;> lia
theorem zTa(t:SetTable):∀(m:Nat) (p:SetTable.Probe),p.j+p.more<=t.mask->(adv t m p).j<=t.mask
 | 0,p,h=>by show p.j<=_;omega
 | m+1,p,h=>by
  refine zTa t m (t.advance p) ?_;unfold SetTable.advance;by_cases c:p.more > 0
  ·rw[xb c];show p.j+1+(p.more-1)<=_;omega
  ·rw[xc c];have:(p.i*5+1+p.perturb / 32) % (t.mask+1)<t.mask+1:=vc _ (by omega);show(p.i*5+1+p.perturb / 32) % (t.mask+1)+(SetTable.runEnd t.mask ((p.i*5+1+p.perturb / 32) % (t.mask+1))-(p.i*5+1+p.perturb / 32) % (t.mask+1))<=t.mask;have a:=zSa t.mask ((p.i*5+1+p.perturb / 32) % (t.mask+1)) (by omega);have b:=zSb t.mask ((p.i*5+1+p.perturb / 32) % (t.mask+1))
   omega
theorem zPu(t:SetTable)(h:Int)(m:Nat):(adv t m (t.probeStart h)).j<=t.mask:=by refine zTa t m _ ?_;have:SetTable.bits h % (t.mask+1)<t.mask+1:=vc _ (by nofun);show SetTable.bits h % (t.mask+1)+(SetTable.runEnd t.mask (SetTable.bits h % (t.mask+1))-SetTable.bits h % (t.mask+1))<=t.mask;have a:=zSa t.mask (SetTable.bits h % (t.mask+1)) (by nofun);have b:=zSb t.mask (SetTable.bits h % (t.mask+1));lia
def OwnC(t:SetTable)(hs:List Int)(owner:Array (Option Nat)):Prop:=∀j v,owner[j]?=some (some v)->∃m,(adv t m (t.probeStart (hs.getD v 0))).j=j/\∀m',m'<m->owner.getD (adv t m' (t.probeStart (hs.getD v 0))).j (some 0)≠none
def zWu(t:SetTable)(hs:List Int)(acc:Option (Array (Option Nat) × Nat))(k:Nat):Prop:=∃owner,acc=some (owner,k)/\owner.size=t.mask+1/\(owner.toList.filterMap id).Perm (List.range k)/\OwnC t hs owner
theorem zL9{t:SetTable}{hs:List Int}{k:Nat}(hm:Msk t.mask)(hk:k<=t.mask){owner:Array (Option Nat)}(hz:owner.size=t.mask+1)(hp:(owner.toList.filterMap id).Perm (List.range k))(C:OwnC t hs owner){h:Int}(eh:hs.getD k 0=h):
  ∃j,SetTable.layClean.free t.mask owner (SetTable.turns t.mask) (SetTable.bits h % (t.mask+1)) (SetTable.bits h)=some j/\zWu t hs (some (owner.setIfInBounds j (some k),k+1)) (k+1):=by
 obtain⟨e,h1,h2⟩:=zIl owner.toList (by rw[hp.length_eq,vv];simp[hz];lia);have h1':e<owner.size:=by simpa using h1
 have ho:owner.getD e (some 0)=none:=by
  have:owner[e]?=some none:=by simpa using h2
  simp[vd,this]
 obtain⟨L,hL,eL⟩:=zIk hm (vc _ (by nofun)) (zJc h) (show e<t.mask+1 by nofun);obtain⟨j,ej,hj⟩:=zGp ho L (SetTable.turns t.mask) (SetTable.bits h % (t.mask+1),SetTable.bits h) (by unfold SetTable.turns;lia) eL;have hj1:owner[j]?=some none:=by
  rw[vd]at hj;cases hq:owner[j]? with
  | none=>rw[hq]at hj;cases hj
  | some v=>rw[hq]at hj;have:=hj;subst this;rfl
 have hj2:owner.toList[j]?=some none:=by simpa using hj1
 have hjz:=(xU.mp hj1).1;have gd:∀i,owner.getD i (some 0)≠none->(owner.setIfInBounds j (some k)).getD i (some 0)≠none:=λi hi=>by
  rw[vd]at hi ⊢;rw[Array.getElem?_setIfInBounds];by_cases c:j=i
  ·rw[xb c];split <;> simp
  ·rw[xc c];exact hi
 refine⟨j,ej,_,rfl,by simpa using hz,?_,λi v hv=>?_⟩
 ·rw[Array.toList_setIfInBounds];refine(zGd _ j k hj2).trans ((List.Perm.cons k hp).trans ?_);rw[List.range_succ];exact(List.perm_append_singleton k (List.range k)).symm
 ·rw[Array.getElem?_setIfInBounds]at hv;by_cases c:j=i
  ·rw[xb c,xb hjz]at hv;have ev:k=v:=by simpa using hv
   subst ev c;obtain⟨m,em,al⟩:=zK9 _ (SetTable.bits h % (t.mask+1),SetTable.bits h) j ej;rw[eh];exact⟨m,em,λm' hm'=>gd _ (al m' hm')⟩
  ·rw[xc c]at hv;obtain⟨m,em,al⟩:=C i v hv;exact⟨m,em,λm' hm'=>gd _ (al m' hm')⟩
theorem zHm{t:SetTable}(hm:Msk t.mask)(hs0:List Int):∀(hs:List Int) (k:Nat) (acc:Option (Array (Option Nat) × Nat)),k+hs.length<=t.mask+1->(∀i,hs.getD i 0=hs0.getD (k+i) 0)->zWu t hs0 acc k->
  zWu t hs0 (hs.foldl (λacc h=>do
   let (owner,k) <- acc
   let j <- SetTable.layClean.free t.mask owner (SetTable.turns t.mask) (SetTable.bits h % (t.mask+1)) (SetTable.bits h)
   pure (owner.setIfInBounds j (some k),k+1)) acc) (k+hs.length)
 | [],k,acc,_,_,L=>L
 | h::hs,k,acc,hl,he,⟨owner,ea,h1,h2,h3⟩=>by
  subst ea;obtain⟨j,ej,L⟩:=zL9 hm (by simp at hl;lia) h1 h2 h3 (by have:=he 0;simpa using this.symm);have:=zHm hm hs0 hs (k+1) _ (by simp at hl;lia) (λi=>by have:=he (i+1);rw[show k+1+i=k+(i+1) by nofun];simpa using this) L;rw[List.foldl_cons];have e2:(do
   let (owner,k) <- some (owner,k)
   let j <- SetTable.layClean.free t.mask owner (SetTable.turns t.mask) (SetTable.bits h % (t.mask+1)) (SetTable.bits h)
   pure (owner.setIfInBounds j (some k),k+1))=some (owner.setIfInBounds j (some k),k+1):=by
   show(SetTable.layClean.free t.mask owner (SetTable.turns t.mask) (SetTable.bits h % (t.mask+1)) (SetTable.bits h) >>= λj=>pure (owner.setIfInBounds j (some k),k+1))=_;rw[ej];rfl
  rw[e2,xo,show k+(hs.length+1)=k+1+hs.length by nofun];exact this
theorem zR6{m:Nat}(hm:Msk m){hs:Array Int}(hl:hs.size<=m)(hr:hs.size*5<m*3)(fing moves:Nat)(led:Bool):∃t order,SetTable.laid m fing moves led true hs=some (t,order)/\Tab t hs.size led/\order.toList.Perm (List.range hs.size)/\Chs t (order.toList.map λk=>hs.toList.getD k 0):=by
 let t0:SetTable:={ mask:=m,place:=#[],dummies:=#[],finger:=fing,led:=led,moves:=moves,plain:=true }
 obtain⟨owner,e,h1,h2,h3⟩:=zHm (t:=t0) hm hs.toList hs.toList 0 (some (Array.replicate (m+1) none,0)) (by show 0+hs.toList.length<=m+1;simp;lia) (λi=>by rw[vt]) ⟨_,rfl,by show _=m+1;simp,by show((Array.replicate (m+1) (none:Option Nat)).toList.filterMap id).Perm (List.range 0);simp,λj v hv=>by rw[Array.getElem?_replicate]at hv;split at hv <;> cases hv⟩;have h1:=h1;have ec:SetTable.layClean m hs=some owner:=by
  unfold SetTable.layClean;rw[<- Array.foldl_toList];have e':(hs.toList.foldl (λacc h=>do
   let (owner,k) <- acc
   let j <- SetTable.layClean.free m owner (SetTable.turns m) (SetTable.bits h % (m+1)) (SetTable.bits h)
   pure (owner.setIfInBounds j (some k),k+1)) (some (Array.replicate (m+1) none,0)))=some (owner,0+hs.toList.length):=e
  rw[e'];rfl
 obtain⟨t,order,a,T,p⟩:=zVd hm hl hr fing moves led;refine⟨t,order,a,T,p,?_⟩;unfold SetTable.laid at a;rw[ec]at a;have a':=xA a;obtain⟨e1,e2⟩:=Prod.mk.inj a';have mem:∀j,j<=m->owner.getD j (some 0)≠none->j∈t.place.toList:=λj hj hn=>by
  rw[<- e1];show j∈(List.map (λr:Nat × Nat=>r.1) _).toArray.toList;have hz:j<owner.size:=by nofun
  have hg:=xY hz;rw[vd,hg]at hn;cases hv:owner[j]with
  | none=>rw[hv]at hn;exact absurd rfl hn
  | some v=>exact xw.mpr ⟨(j,v),v5.mpr ⟨j,vF.mpr (by nofun),by rw[vd,hg,hv];rfl⟩,rfl⟩
 have tm:t.mask=t0.mask:=by rw[<- e1]
 intro q hq;have zq:∃r∈((List.range (m+1)).filterMap λj=>(owner.getD j none).map (j,·)),q=(r.1,hs.toList.getD r.2 0):=by
  rw[<- e1,<- e2]at hq;simp only[vD]at hq;generalize ((List.range (m+1)).filterMap λj=>(owner.getD j none).map (j,·))=live at hq
  clear a a' e1 e2 T p mem
  induction live with
  | nil=>simp at hq
  | cons r live ih=>
   simp only[xt,vW]at hq;rcases xh.mp hq with rfl|hq
   ·exact⟨r,.head _,rfl⟩
   ·obtain⟨r',hr',e'⟩:=ih hq;exact⟨r',.tail _ hr',e'⟩
 obtain⟨⟨j,v⟩,hr,rfl⟩:=zq;obtain⟨j',hj',ej⟩:=v5.mp hr;have hov:owner[j']?=some (some v)/\j'=j:=by
  rw[vd]at ej;cases ho:owner[j']? with
  | none=>rw[ho]at ej;cases ej
  | some w=>
   rw[ho]at ej;cases w with
   | none=>cases ej
   | some u=>cases ej;exact⟨rfl,rfl⟩
 obtain⟨hov,rfl⟩:=hov;obtain⟨mm,em,al⟩:=h3 j' v hov;refine⟨mm,by rw[zCz tm,zDx tm];exact em,λm' hm'=>?_⟩;rw[zCz tm,zDx tm];exact mem _ (zPu t0 _ m') (al m' hm')
theorem zFw{t:SetTable}{hashAt:Nat->Int}{h:Int}(hd:t.dummies=#[]):∀(f m:Nat) (p:SetTable.Probe),m<f->Far t p m->
  (∃d,d<=m/\SetTable.probe.go t hashAt h f p=some (.empty (adv t d p).j none)/\t.slot (adv t d p).j=.empty/\∀d',d'<d->∃i,t.slot (adv t d' p).j=.live i/\(hashAt i == h)=false) \/
  (∃d i,d<m/\SetTable.probe.go t hashAt h f p=some (.candidate (adv t d p).j i (adv t (d+1) p))/\t.slot (adv t d p).j=.live i/\(∀d',d'<d->∃i,t.slot (adv t d' p).j=.live i/\(hashAt i == h)=false)/\Far t (adv t (d+1) p) (m-(d+1)))
 | 0,m,p,hf,_=>by nofun
 | f+1,m,p,hf,⟨hm,hp⟩=>by
  unfold SetTable.probe.go;have nd:=zCp hd p.j;cases hs:t.slot p.j with
  | empty=>exact .inl ⟨0,xC _,by rw[hp];rfl,hs,λd' h=>by nofun⟩
  | dummy=>rw[hs]at nd;split at nd <;> cases nd
  | live i=>
   obtain⟨m',rfl⟩:∃m',m=m'+1:=by
    cases m with
    | zero=>
     have:t.slot p.j=.empty:=hm;rw[hs]at this;cases this
    | succ k=>exact⟨k,rfl⟩
   have fr:Far t (t.advance p) m':=⟨hm,(zId t 1 p).trans hp⟩;dsimp only;by_cases c:(hashAt i == h)=true
   ·rw[xb c];exact .inr ⟨0,i,by nofun,rfl,hs,λd' h=>by nofun,by rw[show m'+1-(0+1)=m' by nofun];exact fr⟩
   ·rw[xc c];have c':(hashAt i == h)=false:=by simpa using c
    rcases zFw hd f m' _ (by nofun) fr with⟨d,h1,h2,h3,h4⟩|⟨d,i',h1,h2,h3,h4,h5⟩
    ·refine .inl ⟨d+1,by nofun,h2,h3,λd' hd'=>?_⟩;cases d' with
     | zero=>exact⟨i,hs,c'⟩
     | succ d'=>exact h4 d' (by nofun)
    ·refine .inr ⟨d+1,i',by nofun,h2,h3,λd' hd'=>?_,by rw[show m'+1-(d+1+1)=m' - (d+1) by nofun];exact h5⟩;cases d' with
     | zero=>exact⟨i,hs,c'⟩
     | succ d'=>exact h4 d' (by nofun)
theorem zIq{t:SetTable}{j i:Nat}(T:Tab t n b)(h:t.slot j=.live i):t.place[i]?=some j:=by
 rw[zCp T.nod]at h;split at h
 ·rename_i c;cases h;exact eq_of_beq c
 ·cases h
theorem zV9{t:SetTable}{j i:Nat}(T:Tab t n b)(h:t.slot j=.live i):j∈t.place.toList:=by obtain⟨z,e⟩:=xU.mp (zIq T h);rw[<- e];simp
theorem zWz{l:List Nat}(u:Up l){i j:Nat}(hi:i<l.length)(hj:j<l.length)(e:l[i]=l[j]):i=j:=by
 rcases Nat.lt_trichotomy i j with z|z|z
 ·have:=zFr u z hj;lia
 ·exact z
 ·have:=zFr u z hi;lia
theorem zMp{t:SetTable}{n:Nat}(T:TabP t n b)(hf:t.tooFull=true)(hn:n<=1200)(hs:Array Int)(hz:hs.size=n):
  (decide (SetTable.sizeAbove (SetTable.grown n) > sizeLine)=false)/\∃t' order,t.relaid hs (SetTable.grown n)=some (t',order)/\Tab t' n b/\order.toList.Perm (List.range n)/\Chs t' (order.toList.map λk=>hs.toList.getD k 0):=by
 have h1:=T.most;unfold SetTable.tooFull at hf;rw[T.fill]at hf;have hf:t.mask*3<=n*5:=by simpa using hf
 have c:∃M,Msk M/\SetTable.sizeAbove (SetTable.grown n)=M+1/\n<=M/\n*5<M*3/\decide (SetTable.sizeAbove (SetTable.grown n) > sizeLine)=false:=by
  have c:n∈[5,9,19,38,77,153,307,614]:=by simp only[xh,uw,or_false];have:=T.hm;simp only[Msk,xh,uw,or_false]at this;rcases this with e|e|e|e|e|e|e|e|e|e <;> rw[e]at h1 hf <;> lia
  exact(by decide +kernel:∀n∈[5,9,19,38,77,153,307,614],∃M∈[7,15,31,63,127,255,511,1023,2047,4095],SetTable.sizeAbove (SetTable.grown n)=M+1/\n<=M/\n*5<M*3/\decide (SetTable.sizeAbove (SetTable.grown n) > sizeLine)=false) n c
 have key:∀M,Msk M->SetTable.sizeAbove (SetTable.grown n)=M+1->n<=M->n*5<M*3->∃t' order,t.relaid hs (SetTable.grown n)=some (t',order)/\Tab t' n b/\order.toList.Perm (List.range n)/\Chs t' (order.toList.map λk=>hs.toList.getD k 0):=λM hM e1 e2 e3=>by
  obtain⟨t',order,a,T',p,C⟩:=zR6 hM (hs:=hs) (by nofun) (by nofun) t.finger (t.movedTo M) b;rw[hz]at T' p;refine⟨t',order,?_,T',p,C⟩;unfold SetTable.relaid;rw[e1,T.plain,T.led];exact a
 obtain⟨M,a1,a2,a3,a4,a5⟩:=c;exact⟨a5,key M a1 a2 a3 a4⟩
end TB
namespace TS
open PySem TB
noncomputable abbrev sObj (es:Array (Int × Value)) (ep:Nat) (t:SetTable):Obj:={ cls:=.type "set",dict:=none,data:=.set es ep t,slots:=#[] }
theorem Tab.ft{t:SetTable}{n:Nat}(T:Tab t n b):t.fits n=true:=by have:=T.fits;unfold SetTable.fits;simp at this ⊢;exact⟨this.1,this.2⟩
theorem TabP.ft{t:SetTable}{n:Nat}(T:TabP t n b):t.fits n=true:=by have:=T.fits;unfold SetTable.fits;simp at this ⊢;exact⟨this.1,this.2⟩
section
variable {prog:Program}{w:World}{A:Around}{E:Value->Shared->Prop}{s:Shared}
theorem gate{α:Type}[Decidable c]{U R:Sem α}{Q:α->Shared->Prop}(hm:∀Q':Bool->Shared->Prop,Q' false s->wpAny M A m Q' E s)(hR:wpAny M A R Q E s):
  wpAny M A (if c then m >>= λb=>if b=true then U else R else R) Q E s:=by
 by_cases h:c
 ·rw[xb h];exact xa (hm _ (by rw[xc (by decide)];exact hR))
 ·rw[xc h];exact hR
noncomputable def adr:Value->Addr
 | .ref a=>a
 | _=>0
end
noncomputable abbrev zE1 (w:World):Bool:=!(w.params.followText "set-order")
section
variable {prog:Program}{w:World}{A:Around}{E:Value->Shared->Prop}{s:Shared}
noncomputable abbrev nObj (w:World):Obj:=sObj #[] 0 (.fresh 0 0 (zE1 w))
theorem zEi(a:Value){Q₁:Value->Shared->Prop}(h:Q₁ (.ref s.heap.objs.size) { s with heap:=s.heap.push (nObj w) }):
  codeAny (model prog w) A (.call (.builtin "set.__new__") ⟨[.type "set",a],[]⟩) (wants Q₁ E) s:=by
 refine codeAny_of_tree (?_);refine xa (wpAny_of_eq (F.newCall_set_1 a) (xf ⟨plainId_quiet F.plain_set_new _,vE F.entry_set_new ?_⟩));rw[uy F.plain_set_new _];unfold Builtin.«set.__new__» Builtin.Frozenset.newClass;have hsub:=sub_set_self;obtain⟨hp,g,d,tk,os⟩:=s;dsimp only;wp_walk;refine uz (xf ?_);dsimp only;simp only[newObj];exact xa (wpAny_alloc (xf (xf h)))
end
theorem si_next:Slot "set_iterator" "__next__" "set_iterator.__next__":=
 .of (owner:="set_iterator") (n:="__next__") (by rw[typeLookup_type,builtinLookup_eq_fast];kernel_rfl) (by decide +kernel) (by decide +kernel) (by decide +kernel) (by first|exact .inl (by decide +kernel)|exact .inr (by decide +kernel)) (by rw[isSubtype_type];kernel_rfl)
theorem zJs:entryFor table "set_iterator.__next__"=some Builtin.«set_iterator.__next__»:=entryFor_of_tree (by kernel_rfl)
theorem zMe(a:Value):argsOk "set_iterator.__next__" ⟨[a],[]⟩:=by unfold argsOk;kernel_rfl
theorem zMc:Slot "set_iterator" "__iter__" "set_iterator.__iter__":=
 .of (owner:="set_iterator") (n:="__iter__") (by rw[typeLookup_type,builtinLookup_eq_fast];kernel_rfl) (by decide +kernel) (by decide +kernel) (by decide +kernel) (by first|exact .inl (by decide +kernel)|exact .inr (by decide +kernel)) (by rw[isSubtype_type];kernel_rfl)
theorem zMd:entryFor table "set_iterator.__iter__"=some Builtin.«dict_keyiterator.__iter__»:=entryFor_alias (id':="dict_keyiterator.__iter__") (by kernel_rfl) rfl (by decide +kernel) (by kernel_rfl)
theorem zPx(a:Value):argsOk "set_iterator.__iter__" ⟨[a],[]⟩:=by unfold argsOk;kernel_rfl
theorem yAk:entryFor table "set.__iter__"=some Builtin.«frozenset.__iter__»:=entryFor_alias (id':="frozenset.__iter__") (by kernel_rfl) rfl (by decide +kernel) (by kernel_rfl)
theorem zG2{α:Type}:∀(l:List α) (i:Nat) (h:i<l.length),(l[i]::l.eraseIdx i).Perm l
 | [],i,h=>by simp at h
 | x::l,0,h=>by simp
 | x::l,i+1,h=>by
  simp only[List.getElem_cons_succ,List.eraseIdx_cons_succ];exact(List.Perm.swap _ _ _).trans (List.Perm.cons x (zG2 l i (by simpa using h)))
theorem zMz{α:Type}(next:Nat->Nat):∀(f k:Nat) (left:List α) (out:Array α),left.length=f->∃l,(pickOrder.go next f k left out).toList=out.toList++l/\l.Perm left
 | 0,k,left,out,h=>⟨[],by simp[pickOrder.go],by rw[List.length_eq_zero_iff.mp h]⟩
 | f+1,k,left,out,h=>by
  have hl:next k % left.length<left.length:=vc _ (by nofun);unfold pickOrder.go;rw[xu hl];dsimp only;obtain⟨l,e,p⟩:=zMz next f (k+1) (left.eraseIdx (next k % left.length)) (out.push left[next k % left.length]) (by rw[List.length_eraseIdx];simp[hl];lia);refine⟨left[next k % left.length]::l,by rw[e];simp,(List.Perm.cons _ p).trans ?_⟩;exact zG2 left _ hl
theorem zMy{α:Type}(next:Nat->Nat)(xs:Array α):(pickOrder next xs).toList.Perm xs.toList:=by obtain⟨l,e,p⟩:=zMz next xs.size 0 xs.toList #[] (by simp);unfold pickOrder;rw[e];simpa using p
noncomputable def ordW (w:World) (S:Addr) (ep:Nat) (es:Array (Int × Value)):Array (Int × Value):=if w.params.followText "set-order"=true then pickOrder (w.params.setOrder S ep) es else es
theorem zF0(w:World)(S:Addr)(ep:Nat)(es:Array (Int × Value)):(ordW w S ep es).toList.Perm es.toList:=by
 unfold ordW;split
 ·exact zMy _ _
 ·exact .refl _
theorem zCr(w:World)(S:Addr)(ep:Nat)(es:Array (Int × Value)):(ordW w S ep es).size=es.size:=by simpa using(zF0 w S ep es).length_eq
noncomputable def zEx (w:World) (t:SetTable) (i:Nat):Nat:=if w.params.followText "set-order"=true then 0 else TB.slotAt t.place i
section
variable {prog:Program}{w:World}{A:Around}{E:Value->Shared->Prop}{s:Shared}
def IsSI(w:World)(h:Heap)(I S:Addr)(i n ep:Nat)(t:SetTable):Prop:=∃o,h.get? I=some o/\o.cls=.type "set_iterator"/\o.data=.fields #[.int (zEx w t i) 0,.int i 0,.ref S,.int n 0,.int ep 0]
theorem IsSI.typeIs(x:IsSI w s.heap I S i n ep t):s.TypeIs (.ref I) "set_iterator":=let ⟨o,ho,hc,_⟩:=x;⟨o,ho,hc⟩
theorem zLz{es:Array (Int × Value)}(ho:s.heap.get? S=some (sObj es ep t))(T:TabW t es.size (!(w.params.followText "set-order")))(i:Nat)(hi:i<=es.size){Q:Option (Value × Nat)->Shared->Prop}
  (h:Q (((ordW w S ep es)[i]?).map λe=>(e.2,zEx w t (i+1))) s):wpAny (model prog w) A (setNext S (zEx w t i) i ep) Q E s:=by
 unfold setNext;refine xa (vO ho rfl T.ft ?_);dsimp only;unfold setsByText;refine xa (xa (uz (xf ?_)));show wpAny _ _ (if(w.params.followText "set-order")=true then _ else _) _ _ _;by_cases c:w.params.followText "set-order"=true
 ·rw[xb c];rw[xc (by simp)];refine xa ?_;unfold setWalk;refine xa (vO ho rfl T.ft ?_);dsimp only;unfold setsByText;refine xa (xa (uz (xf ?_)));show wpAny _ _ (if(w.params.followText "set-order")=true then _ else _) _ _ _;rw[xb c];refine xa (uz (xf (xf ?_)));unfold ordW zEx at h;rw[xb c,xb c]at h;unfold zEx;rw[xb c];exact h
 ·rw[xc c];have hl:t.led=true:=by rw[T.led];simpa using c
  have e1:(!t.plain && decide (es.size > 1))=false:=by rw[T.plain];rfl
  show wpAny _ _ (if(!t.plain && decide (es.size > 1))=true then _ else _) _ _ _;rw[e1];rw[xc (by decide)];show wpAny _ _ ((if(!t.led && !es.isEmpty)=true then _ else pure ()) >>= _) _ _ _;rw[hl];rw[xc (by simp)];refine xa (xf ?_);unfold ordW zEx at h;rw[xc c,xc c]at h;unfold zEx;rw[xc c,zIa T.up (by rw[T.size];exact hi)];refine xf ?_;rcases x8 i es.size with z|z
  ·have z2:i<t.place.size:=by rw[T.size];exact z
   rw[xY z,xY z2];rw[xY z]at h;have:TB.slotAt t.place (i+1)=t.place[i]+1:=by unfold TB.slotAt;simp[Array.getD,z2]
   rw[this]at h;exact h
  ·rw[Array.getElem?_eq_none z];rw[Array.getElem?_eq_none z]at h;exact h
theorem zTq{es:Array (Int × Value)}{e:Int × Value}{Q:Option Value->Shared->Prop}(hit:IsSI w s.heap I S i es.size ep t)(ho:s.heap.get? S=some (sObj es ep t))(T:TabW t es.size (!(w.params.followText "set-order")))(hne:S≠I)
  (hx:(ordW w S ep es)[i]?=some e) (hQ:∀h',IsSI w h' I S (i+1) es.size ep t->Heap.SameBut I s.heap h'->Q (some e.2) { s with heap:=h' }):wpAny (model prog w) A (pyNext (.ref I)) Q E s:=by
 have hlt:i<es.size:=by rw[<- zCr w S ep es];exact(xU.mp hx).1
 obtain⟨o,hi,hc,hd⟩:=id hit;unfold pyNext;refine xa (wpAny_attempt (ui hit.typeIs si_next (vq si_next hit.typeIs zJs ?_ (zMe _))));unfold Builtin.«set_iterator.__next__»;refine xa (xf ?_);refine xa (wpAny_fieldsOf hi hd ?_);dsimp only;refine xa (wpAny_setEntries_of ho rfl T.ft ?_);rw[xc (by simp)];simp only[Int.toNat_natCast];refine xa (zLz ho T i (x4 hlt) ?_);rw[hx];simp only[ue];refine xa (wpAny_setField hi hd (by simp) ?_);have g1:=uj (Obj.mapFields λx=>x.setIfInBounds 0 (rawInt ↑(zEx w t (i+1)))) hi (Obj.isFreed_of_fields (Obj.data_mapFields hd _));have d1:=Obj.data_mapFields hd λx=>x.setIfInBounds 0 (rawInt ↑(zEx w t (i+1)))
 refine xa (wpAny_setField g1 d1 (by simp) (xf ⟨e.2,rfl,xf (hQ _ ⟨_,uj _ g1 (Obj.isFreed_of_fields (Obj.data_mapFields d1 _)),(Obj.cls_mapFields ..).trans ((Obj.cls_mapFields ..).trans hc),?_⟩ ((uA ..).trans (uA ..)))⟩));rw[Obj.data_mapFields d1];simp[rawInt]
theorem zTr{es:Array (Int × Value)}{Q:Option Value->Shared->Prop}(hh:A.handled=none)(hit:IsSI w s.heap I S es.size es.size ep t)(ho:s.heap.get? S=some (sObj es ep t))(T:TabW t es.size (!(w.params.followText "set-order")))(hne:S≠I)
  (hQ:∀h',Heap.ExtBut I s.heap h'->Q none { s with heap:=h' }):wpAny (model prog w) A (pyNext (.ref I)) Q E s:=by
 obtain⟨o,hi,hc,hd⟩:=id hit;unfold pyNext;refine xa (wpAny_attempt (ui hit.typeIs si_next (vq si_next hit.typeIs zJs ?_ (zMe _))));unfold Builtin.«set_iterator.__next__»;refine xa (xf ?_);refine xa (wpAny_fieldsOf hi hd ?_);dsimp only;refine xa (wpAny_setEntries_of ho rfl T.ft ?_);rw[xc (by simp)];simp only[Int.toNat_natCast];refine xa (zLz ho T es.size (xg _) ?_);rw[Array.getElem?_eq_none (by rw[zCr];exact xg _)];simp only[Option.map_none];refine xa (wpAny_setField hi hd (by simp) ?_);refine xa ?_;simp only[newExc,newTuple];refine xa (vy (xa (wpAny_of_eq (by first|rfl|(simp only[firstArgMember];rfl)) (vy ?_ (by size_fits)))) (by size_fits));simp only[raiseNew];refine xa (wpAny_handled ?_);rw[show A.in1.handled=none from hh];refine xa (xf (wpAny_throw ?_));refine xa (uB ⟨_,xy _ rfl,rfl⟩ isSubtype_stop (xf (hQ _ (((uA ..).extBut.push _).push _))))
theorem zLy(hh:A.handled=none)(I S:Addr)(hne:S≠I)(es:Array (Int × Value))(ep:Nat)(t:SetTable)(T:TabW t es.size (!(w.params.followText "set-order"))):
  Walks prog w A I [I,S] [I] es.size (λi v=>((ordW w S ep es).map (·.2))[i]?=some v) (λi h=>IsSI w h I S i es.size ep t/\h.get? S=some (sObj es ep t)) where
 sub:=λb hb=>by simp at hb;simp[hb]
 frame:=λ_ _ _ st hk=>⟨let ⟨o,ho,r⟩:=st.1;⟨o,hk I (by simp) o ho,r⟩,hk S (by simp) _ st.2⟩
 item:=λi s Q E hi st hQ=>by
  have hz:i<(ordW w S ep es).size:=by rw[zCr];exact hi
  refine zTq st.1 st.2 T hne (xY hz) λh' it' sb=>?_
  exact hQ _ h' s.toks (by rw[Array.getElem?_map,xY hz];rfl) ⟨it',(sb.2 S hne).trans st.2⟩ λb o hb e=>(sb.2 b λz=>hb (by simp[z])).trans e
 done:=λs Q E st hQ=>zTr hh st.1 st.2 T hne λh' he'=>hQ h' s.toks λb o hb e=>he' b o (λh=>hb (by simp[h])) e
 self:=λi s Q E st hQ=>wpAny_pyIter_slot st.1.typeIs zMc (vq zMc st.1.typeIs zMd (xf ⟨_,rfl,"set_iterator",_,st.1.typeIs,si_next.lookup,hQ⟩) (zPx _))
theorem zRa{es:Array (Int × Value)}{Q:Value->Shared->Prop}(ho:s.heap.get? S=some (sObj es ep t))(T:TabW t es.size (!(w.params.followText "set-order")))
  (h:Q (.ref s.heap.objs.size) { s with heap:=s.heap.push { cls:=.type "set_iterator",data:=.fields #[.int 0 0,.int 0 0,.ref S,.int es.size 0,.int ep 0] } }):wpAny (model prog w) A (pyIter (.ref S)) Q E s:=by
 have hT:s.TypeIs (.ref S) "set":=⟨_,ho,rfl⟩;refine wpAny_pyIter_slot hT F.slot_set_iter (vq F.slot_set_iter hT yAk ?_ (F.args_set_iter_1 _));unfold Builtin.«frozenset.__iter__»;refine xa (xf ?_);unfold Builtin.Frozenset.sizeOf;refine xa (xa (wpAny_setEntries_of ho rfl T.ft (xf ?_)));unfold setDrawn;refine xa (xa (vO ho rfl T.ft ?_));dsimp only;unfold setsByText;refine xa (xa (uz (xf (xf ?_))));show wpAny _ _ (if(!(w.params.followText "set-order") && (!t.plain && decide (es.size > 1)))=true then _ else _) _ _ _;rw[xc (by rw[T.plain];simp)];refine xa (xf ?_);refine xa (wpAny_setEpoch_of ho rfl T.ft ?_);unfold newFields;refine xa (vy (xf ⟨_,rfl,"set_iterator",_,⟨_,xy _ rfl,rfl⟩,si_next.lookup,?_⟩));simpa[rawInt]using h
theorem zRc{Q:Bool->Shared->Prop}(hT:s.TypeIs (.ref S) "set")(h:Q false s):wpAny (model prog w) A (Builtin.List.listLengthHint (.ref S)) Q E s:=by unfold Builtin.List.listLengthHint;refine xa (ud hT F.slot_set_len.lookup ?_);generalize hid:("set.__len__":String)=id0;wp_delta;rw[show splitId id0=some ("set","__len__")from by subst hid;decide +kernel];subst hid;refine xa (uB hT sub_set_self (wpAny_ite_split (λhab=>absurd hab (by decide)) λ_=>wpAny_ite_split (λ_=>xa (vK hT (xf h))) λhab=>absurd (by decide +kernel) hab))
open PySem.W in
theorem zMa{S:Addr}{es:Array (Int × Value)}{ep:Nat}(T:TabW t es.size (!(w.params.followText "set-order"))):
  KdlSrc prog w "set" S S es.size (λi v=>((ordW w S ep es).map (·.2))[i]?=some v) (λh=>h.get? S=some (sObj es ep t)) where
 type:=λs ok=>⟨_,ok,rfl⟩
 there:=λh ok=>⟨xl ok,xl ok⟩
 keep:=λh h' ok k=>k S (.inl rfl) _ ok
 notList:=by decide
 notTuple:=by decide
 hint:=λA E s Q ok h=>zRc ⟨_,ok,rfl⟩ h
 iter:=λA s hh ok=>⟨{ cls:=.type "set_iterator",data:=.fields #[.int 0 0,.int 0 0,.ref S,.int es.size 0,.int ep 0] },_,λE Q h=>zRa ok T h,
  zLy hh _ S (xr (xl ok)) es ep t T,⟨_,xy _ rfl,rfl,by
   have:zEx w t 0=0:=by unfold zEx;split <;> rfl
   rw[this];rfl⟩,xp _ ok⟩
end
end TS
namespace L2
open PySem PySem.Spec PyProof.Rows TS
section
variable {X:Cx}{K:PySem.W.Frag}
noncomputable def Its (x:Str):It:=⟨λi _=>i<x.cps.size,λi H v H'=>H'=H/\∃c,x.cps[i]?=some c/\v=.str ⟨#[c]⟩,λi _=>x.cps.size<=i⟩
theorem zPr(it:Addr)(x:Str)(t:Tok):Turn P w K tg (Its x) [it] it (λi h=>i<=x.cps.size/\h.IsStrIter it "str_ascii_iterator" x t i) where
 mem:=by simp
 obj:=λi h st b hb=>by
  have e:b=it:=by simpa using hb
  subst e;obtain⟨_,o,e,c,d⟩:=st;exact⟨o,e,λv z=>by rw[d]at z;cases z⟩
 keep:=λi h h' st k=>⟨st.1,let ⟨o,ho,r⟩:=st.2;⟨o,k it (by simp) o ho,r⟩⟩
 item:=by
  intro X hP hw hK hc i pins s σ H E I hf st hg;subst hP hw hK;obtain⟨f0,f1,f2,f3,f4,f5⟩:=hf it (by simp);have hg:i<x.cps.size:=hg;refine wpAny_pyNext_ascii_item st.2 (c:=x.cps[i]) (by simp[hg]) λh' st' sb=>?_
  have I1:=I.turned (t':=s.toks+1) (λb o hb e=>(sb.2 b hb).trans e) f0 f1 f3 f4 f5;obtain⟨o,e,c,d⟩:=id st';exact⟨_,rfl,zRe e c d (by decide) ⟨.str ⟨#[x.cps[i]]⟩,H,I1,⟨_,rfl⟩,⟨rfl,_,by simp[hg],rfl⟩,⟨hg,st'⟩,λb hb=>(hf b hb).1⟩⟩
 done:=by intro X hP hw hK hc i pins s σ H E I hf st hg;subst hP hw hK;obtain⟨f0,f1,f2,f3,f4,f5⟩:=hf it (by simp);have hg:x.cps.size<=i:=hg;exact wpAny_pyNext_ascii_end (I.ok.hd hc) st.2 (by simp[hg]) λh' eb=>⟨rfl,I.turned (λb o hb e=>eb b o hb e) f0 f1 f3 f4 f5⟩
 self:=λ_ _ _ _ _ st h=>wpAny_pyIter_striter_ascii st.2 h
theorem zQn(hg:Gl X x)(hm:X.mg x=some u)(r:RelV v u)(hd:(x == ("__debug__":Str))=false:=by decide):SE X (.Name x pos) (tC v):=⟨zUi hg hm r hd⟩
variable {σ:St}{H:Hp}{Q:VK}
end
structure Caps (H:Hp) (h:Heap) (fre:List Str) (cl:List (Str × Addr)) (gs:List V):Prop where
 len:fre.length=gs.length
 has:∀(i:Nat) (x:Str) (v:V),fre[i]?=some x->gs[i]?=some v->∃c u,cl.lookup x=some c/\h.IsCell c (some u)/\RelV v u
 only:∀x c,cl.lookup x=some c->x∈fre
 inj:∀x y c,cl.lookup x=some c->cl.lookup y=some c->x=y
 free:∀x c,cl.lookup x=some c->H c=none
def zHa(c:Addr)(q:Str):Heap->Prop:=λh=>h.CodeRec (.ref c) q
inductive zPk (H:Hp) (P:Addr) (ps:Array Value) (q:Str) (pos:Pos) (c:Addr):Hp->Prop where
 | hit:codeAmong pos ps.toList=some (.ref c)->H c=some (.ext (zHa c q))->zPk H P ps q pos c H
 | miss:codeAmong pos ps.toList=none->H c=none->c≠P->zPk H P ps q pos c (upd (upd H P (.tbl (ps++#[rawInt pos.line,rawInt pos.col,.ref c]))) c (.ext (zHa c q)))
def XO(a C:Addr)(dx:Option Addr)(fr:Bool):Heap->Prop:=λh=>∃vs sl,h.get? a=some ⟨.ref C,dx,.fields vs,sl⟩/\(1<vs.size/\vs[2]?=some .none)/\(fr=true->vs[1]?=some .none)
end L2
namespace DS
open PySem (Str)
inductive D where
 | non|bl (b:Bool)|int (i:Int)|str (x:Str)|ty (n:String)
 | tup (l:List D)|ktup (l:List D)|lst (l:List D)|klst (l:List D)|dct (t:Bool) (ks vs:List D)|st (l:List D)
 | ref (n:Nat)
noncomputable abbrev Store:=List D
noncomputable abbrev Env:=List (Option D)
structure Exn where
 cls:Str
 fs:List (Str × D)
inductive Rs (α:Type) where
 | ok (a:α) (S:Store)|ex (x:Exn) (S:Store)|bad
inductive SR where
 | nx (e:Env) (S:Store)|rt (d:D) (S:Store)|bk (e:Env) (S:Store)|ct (e:Env) (S:Store)|ex (x:Exn) (S:Store)|bad
noncomputable def Rs.bind {α β:Type}(r:Rs α) (k:α->Store->Rs β):Rs β:=match r with
 | .ok a S=>k a S
 | .ex x S=>.ex x S
 | .bad=>.bad
@[simp] theorem Rs.bind_ok {α β:Type}{a:α}{S:Store}{k:α->Store->Rs β}:(Rs.ok a S).bind k=k a S:=rfl
@[simp] theorem Rs.bind_ex {α β:Type}{x:Exn}{S:Store}{k:α->Store->Rs β}:(Rs.ex x S:Rs α).bind k=.ex x S:=rfl
@[simp] theorem Rs.bind_bad {α β:Type}{k:α->Store->Rs β}:(Rs.bad:Rs α).bind k=.bad:=rfl
noncomputable def Rs.then {α:Type}(r:Rs α) (k:α->Store->SR):SR:=match r with
 | .ok a S=>k a S
 | .ex x S=>.ex x S
 | .bad=>.bad
@[simp] theorem Rs.then_ok {α:Type}{a:α}{S:Store}{k:α->Store->SR}:(Rs.ok a S).then k=k a S:=rfl
@[simp] theorem Rs.then_ex {α:Type}{x:Exn}{S:Store}{k:α->Store->SR}:(Rs.ex x S:Rs α).then k=.ex x S:=rfl
@[simp] theorem Rs.then_bad {α:Type}{k:α->Store->SR}:(Rs.bad:Rs α).then k=.bad:=rfl
noncomputable def lift {α:Type}(o:Option α) (S:Store):Rs α:=match o with
 | some a=>.ok a S
 | none=>.bad
@[simp] theorem zF4 {α:Type}{a:α}{S:Store}:lift (some a) S=.ok a S:=rfl
@[simp] theorem zYm {α:Type}{S:Store}:lift (none:Option α) S=.bad:=rfl
noncomputable def zVa {α:Type}(o:Option (α × Store)):Rs α:=match o with
 | some a=>.ok a.1 a.2
 | none=>.bad
@[simp] theorem zL7 {α:Type}{a:α × Store}:zVa (some a)=.ok a.1 a.2:=rfl
@[simp] theorem zWw {α:Type}:zVa (none:Option (α × Store))=.bad:=rfl
mutual
/-- all refs are below n -/
def D.low(n:Nat):D->Bool
 | .ref m=>decide (m<n)
 | .tup l=>lowL n l
 | .lst l=>lowL n l
 | .ktup l=>lowL n l
 | .klst l=>lowL n l
 | .dct _ ks vs=>lowL n ks && lowL n vs
 | .st l=>lowL n l
 | .non=>true
 | .bl _=>true
 | .int _=>true
 | .str _=>true
 | .ty _=>true
def lowL(n:Nat):List D->Bool
 | []=>true
 | d::r=>d.low n && lowL n r
end
mutual
/-- numbers,texts,truths,None,tuples and lists of them -/
def D.flat:D->Bool
 | .ref _=>false
 | .tup l=>zC6 l
 | .lst l=>zC6 l
 | .dct _ _ _=>false
 | .ktup _=>false
 | .klst _=>false
 | .st _=>false
 | .ty _=>false
 | .non=>true
 | .bl _=>true
 | .int _=>true
 | .str _=>true
def zC6:List D->Bool
 | []=>true
 | d::r=>d.flat && zC6 r
end
mutual
/-- they may be compared: of one kind wherever == looks;no refs -/
def D.cmp:D->D->Bool
 | .non,.non=>true
 | .bl _,.bl _=>true
 | .int _,.int _=>true
 | .str _,.str _=>true
 | .tup a,.tup b=>cmpL a b
 | .lst a,.lst b=>cmpL a b
 | _,_=>false
def cmpL:List D->List D->Bool
 | a::r,b::t=>a.cmp b && cmpL r t
 | _,_=>true
end
mutual
def D.dep:D->Nat
 | .tup l=>depL l+1
 | .lst l=>depL l+1
 | .dct _ _ _=>0
 | .ktup _=>0
 | .klst _=>0
 | .st _=>0
 | .non=>0
 | .bl _=>0
 | .int _=>0
 | .str _=>0
 | .ty _=>0
 | .ref _=>0
def depL:List D->Nat
 | []=>0
 | d::r=>max d.dep (depL r)
end
section
open Classical
noncomputable def look (S:Store):D->Option D
 | .ref n=>S[n]?
 | .ktup l=>some (.tup l)
 | .klst l=>some (.lst l)
 | d=>some d
noncomputable def items (S:Store) (d:D):Option (List D):=match look S d with
 | some (.tup l)=>some l
 | some (.lst l)=>some l
 | _=>none
noncomputable def litems (S:Store) (d:D):Option (List D):=match d with
 | .klst _=>none
 | d=>match look S d with
  | some (.lst l)=>some l
  | _=>none
noncomputable abbrev EM:=Env->Store->Rs D
noncomputable abbrev TM:=Env->Store->Rs Bool
noncomputable abbrev AM:=Env->Store->Rs (List D)
noncomputable abbrev SM:=Env->Store->SR
noncomputable abbrev GM:=Store->D->Env->Option Env
noncomputable abbrev Fn:=List D->Store->Rs D
noncomputable def eVar (i:Nat):EM:=λenv S=>match env[i]? with
 | some (some d)=>.ok d S
 | _=>.bad
noncomputable def eC (d:D):EM:=λ_ S=>.ok d S
noncomputable def eOp (g:Store->D->D->Option D) (a b:EM):EM:=λenv S=>(a env S).bind λx S1=>(b env S1).bind λy S2=>lift (g S2 x y) S2
noncomputable def eUn (g:Store->D->Option D) (a:EM):EM:=λenv S=>(a env S).bind λx S1=>lift (g S1 x) S1
noncomputable def aNil:AM:=λ_ S=>.ok [] S
noncomputable def zA0 (a:EM) (r:AM):AM:=λenv S=>(a env S).bind λx S1=>(r env S1).bind λxs S2=>.ok (x::xs) S2
noncomputable def eTup (a:AM):EM:=λenv S=>(a env S).bind λxs S1=>.ok (.tup xs) S1
noncomputable def eLst (a:AM):EM:=λenv S=>(a env S).bind λxs S1=>.ok (.lst xs) S1
noncomputable def eDct (t:Bool):EM:=λ_ S=>.ok (.dct t [] []) S
noncomputable def eNew (a:EM):EM:=λenv S=>(a env S).bind λx S1=>.ok (.ref S1.length) (S1++[x])
noncomputable def eCB (g:Store->List D->Option D) (a:AM):EM:=λenv S=>(a env S).bind λxs S1=>lift (g S1 xs) S1
noncomputable def zA3 (F:Fn) (a:AM):EM:=λenv S=>(a env S).bind λxs S1=>F xs S1
noncomputable def tyD (S:Store) (d:D):Option String:=match look S d with
 | some (.str _)=>some "str"
 | some (.lst _)=>some "list"
 | some (.dct _ _ _)=>some "dict"
 | some (.tup _)=>some "tuple"
 | some (.int _)=>some "int"
 | some (.bl _)=>some "bool"
 | some .non=>some "NoneType"
 | some (.st _)=>some "set"
 | _=>none
noncomputable def eMt (T:String) (g:Store->D->List D->Option (D × Store)) (o:EM) (a:AM):EM:=λenv S=>(o env S).bind λx S1=>if tyD S1 x=some T then(a env S1).bind λxs S2=>zVa (g S2 x xs)else .bad
noncomputable def asI:D->Option Int
 | .int i=>some i
 | _=>none
noncomputable def pNo:Env->Store->Rs (Option Int):=λ_ S=>.ok none S
noncomputable def pYes (a:EM):Env->Store->Rs (Option Int):=λenv S=>(a env S).bind λx S1=>lift ((asI x).map some) S1
noncomputable def eSl (g:Store->D->Option Int->Option Int->Option D) (a:EM) (lo hi:Env->Store->Rs (Option Int)):EM:=λenv S=>
 (a env S).bind λx S1=>(lo env S1).bind λl S2=>(hi env S2).bind λh S3=>lift (g S3 x l h) S3
noncomputable def asB:D->Option Bool
 | .bl b=>some b
 | _=>none
noncomputable def tB (a:EM):TM:=λenv S=>(a env S).bind λx S1=>lift (asB x) S1
noncomputable def most:Nat:=2 ^ 24
noncomputable def truth (S:Store) (d:D):Option Bool:=match look S d with
 | some (.bl b)=>some b
 | some (.int i)=>some (decide (i≠0))
 | some (.str x)=>if x.length<=most then some (decide (x.length≠0))else none
 | some (.tup l)=>some (decide (l≠[]))
 | some (.lst l)=>some (decide (l≠[]))
 | some .non=>some false
 | _=>none
noncomputable def tTru (a:EM):TM:=λenv S=>(a env S).bind λx S1=>lift (truth S1 x) S1
noncomputable def tAnd (a b:TM):TM:=λenv S=>(a env S).bind λc S1=>if c=true then b env S1 else .ok false S1
noncomputable def tOr (a b:TM):TM:=λenv S=>(a env S).bind λc S1=>if c=true then .ok true S1 else b env S1
noncomputable def tNot (a:TM):TM:=λenv S=>(a env S).bind λc S1=>.ok (!c) S1
noncomputable def tYes:TM:=λ_ S=>.ok true S
noncomputable def eAnd (a b:EM):EM:=λenv S=>(a env S).bind λx S1=>(lift (asB x) S1).bind λc S1=>if c=true then b env S1 else .ok (.bl false) S1
noncomputable def eOr (a b:EM):EM:=λenv S=>(a env S).bind λx S1=>(lift (asB x) S1).bind λc S1=>if c=true then .ok (.bl true) S1 else b env S1
noncomputable def eNot (a:EM):EM:=λenv S=>(a env S).bind λx S1=>(lift (asB x) S1).bind λc S1=>.ok (.bl (!c)) S1
noncomputable def eIf (c:TM) (a b:EM):EM:=λenv S=>(c env S).bind λk S1=>if k=true then a env S1 else b env S1
structure Walk where
 its:List D
 gd:List (Nat × D)
def gOk(S:Store)(gd:List (Nat × D)):Prop:=∀p∈gd,S[p.1]?=some p.2
noncomputable abbrev IM:=Env->Store->Rs Walk
noncomputable def gdOf (S:Store):D->List (Nat × D)
 | .ref n=>match S[n]? with
  | some d=>[(n,d)]
  | none=>[]
 | _=>[]
noncomputable def chars (x:Str):List D:=x.cps.toList.map λc=>.str ⟨#[c]⟩
noncomputable def zFp (S:Store) (d:D):Option Walk:=match look S d with
 | some (.tup l)=>some ⟨l,gdOf S d⟩
 | some (.lst l)=>some ⟨l,gdOf S d⟩
 | some (.str x)=>if x.cps.all (·<128)then some ⟨chars x,[]⟩else none
 | _=>none
noncomputable def iVal (a:EM):IM:=λenv S=>(a env S).bind λx S1=>lift (zFp S1 x) S1
noncomputable def fits62 (i:Int):Bool:=decide (-(2 ^ 62)<=i/\i<2 ^ 62)
noncomputable def zFv (i j:Int):List D:=(List.range (j-i).toNat).map fun(k:Nat)=>.int (i+k)
noncomputable def zGe:List D->Option Walk
 | [.int j]=>if fits62 j then some ⟨zFv 0 j,[]⟩else none
 | [.int i,.int j]=>if fits62 i && fits62 j then some ⟨zFv i j,[]⟩else none
 | _=>none
noncomputable def zBo (a:AM):IM:=λenv S=>(a env S).bind λxs S1=>lift (zGe xs) S1
noncomputable def gName (i:Nat):GM:=λ_ d env=>some (env.set i (some d))
noncomputable def gAll:List GM->Store->List D->Env->Option Env
 | [],_,[],env=>some env
 | g::gs,S,d::ds,env=>match g S d env with
  | some env'=>gAll gs S ds env'
  | none=>none
 | _,_,_,_=>none
noncomputable def gTup (gs:List GM):GM:=λS d env=>match items S d with
 | some l=>gAll gs S l env
 | none=>none
noncomputable def zBq (gd:List (Nat × D)) (g:GM) (c:TM) (e:EM):Nat->List D->Env->Store->Rs (List D)
 | _,[],_,S=>if gOk S gd then .ok [] S else .bad
 | k,d::r,env,S=>if gOk S gd/\k<most then(match g S d env with
  | some env'=>(c env' S).bind λb S1=>if b=true then(e env' S1).bind λv S2=>(zBq gd g c e (k+1) r env' S2).bind λvs S3=>.ok (v::vs) S3 else zBq gd g c e k r env' S1
  | none=>.bad)else .bad
noncomputable def compEnv (own:Nat) (ix:List Nat) (env:Env):Env:=List.replicate own none++ix.map λi=>(env[i]?).join
noncomputable def zB2 (own:Nat) (ix:List Nat) (i:IM) (g:GM) (c:TM) (e:EM):EM:=λenv S=>
 (i env S).bind λw S1=>(zBq w.gd g c e 0 w.its (compEnv own ix env) S1).bind λvs S2=>.ok (.lst vs) S2
noncomputable def zAl:SM:=λenv S=>.nx env S
noncomputable def zMm:SM:=λenv S=>.bk env S
noncomputable def zJv:SM:=λ_ _=>.bad
noncomputable def sSeq (a b:SM):SM:=λenv S=>match a env S with
 | .nx e S1=>b e S1
 | r=>r
noncomputable def sSet (i:Nat) (e:EM):SM:=λenv S=>(e env S).then λd S1=>.nx (env.set i (some d)) S1
noncomputable def sUnp (g:GM) (e:EM):SM:=λenv S=>(e env S).then λd S1=>match g S1 d env with
 | some env'=>.nx env' S1
 | none=>.bad
noncomputable def zD9 (e:EM):SM:=λenv S=>(e env S).then λ_ S1=>.nx env S1
noncomputable def sRet (e:EM):SM:=λenv S=>(e env S).then λd S1=>.rt d S1
noncomputable def yAm:SM:=λ_ S=>.rt .non S
noncomputable def sIf (c:TM) (a b:SM):SM:=λenv S=>(c env S).then λk S1=>if k=true then a env S1 else b env S1
noncomputable def zMi:List Nat->List D->Env->Option Env
 | [],[],env=>some env
 | i::is,d::ds,env=>zMi is ds (env.set i (some d))
 | _,_,_=>none
noncomputable def sPar (is:List Nat) (a:AM):SM:=λenv S=>(a env S).then λds S1=>match zMi is ds env with
 | some env'=>.nx env' S1
 | none=>.bad
noncomputable def sPut (g:Store->D->D->D->Option Store) (o i v:EM):SM:=λenv S=>(v env S).then λy S1=>(o env S1).then λx S2=>(i env S2).then λk S3=>match g S3 x k y with
 | some S4=>.nx env S4
 | none=>.bad
noncomputable def forL (gd:List (Nat × D)) (g:GM) (b:SM):List D->Env->Store->SR
 | [],env,S=>if gOk S gd then .nx env S else .bad
 | d::r,env,S=>if gOk S gd then(match g S d env with
  | some env'=>(match b env' S with
   | .nx e S1=>forL gd g b r e S1
   | .ct e S1=>forL gd g b r e S1
   | .bk e S1=>.nx e S1
   | q=>q)
  | none=>.bad)else .bad
noncomputable def sFor (i:IM) (g:GM) (b:SM):SM:=λenv S=>(i env S).then λw S1=>forL w.gd g b w.its env S1
def keeps(n:Nat):Store->Store->Prop
 | [],_=>True
 | a::r,b::t=>(a=b\/b.low n=true)/\keeps n r t
 | _::_,[]=>False
noncomputable def fin (S:Store) (d:D) (S':Store):Rs D:=
 if keeps S.length S S' then
  if d.low S.length=true then .ok d (S'.take S.length)
  else match d with
   | .ref n=>match S'[n]? with
    | some c=>if c.low S.length=true then .ok c (S'.take S.length)else .ok d S'
    | none=>.bad
   | _=>.ok d S'
 else .ok d S'
noncomputable def zAc (np nl:Nat) (b:SM):Fn:=λds S=>if ds.length=np then
  (match b (ds.map some++List.replicate (nl-np) none) S with
  | .nx _ S'=>fin S .non S'
  | .rt d S'=>fin S d S'
  | .ex x S'=>.ex x S'
  | _=>.bad)
 else .bad
noncomputable def zH0 (np nl:Nat) (b:SM):Fn:=λds S=>if ds.length=np then
  (match b (ds.map some++List.replicate (nl-np) none) S with
  | .nx _ S'=>.ok .non S'
  | .rt d S'=>.ok d S'
  | .ex x S'=>.ex x S'
  | _=>.bad)
 else .bad
end
end DS
namespace L2
open PySem PySem.Spec PyProof.Rows
open DS (D Store Exn Rs SR)
noncomputable abbrev Js:=List Addr
def TAt(K:PySem.W.Frag)(J:Js)(H:Hp)(a:Addr)(xs:List V):Prop:=H a=some (.tup xs)/\a ∉ J
def KAt(K:PySem.W.Frag)(J:Js)(H:Hp)(a:Addr)(xs:List V):Prop:=
 ((∃o,H a=some (.frz o (.tup xs))/\o.cls=.type "tuple"/\o.dict=none)/\a ∉ J)\/∃(o:Obj) (its:Array Value) (n:Nat),K.lookup a=some o/\o.cls=.type "tuple"/\o.dict=none/\o.data=.seq its n/\its.size<=sizeLine/\Vals xs its.toList
def LAt(K:PySem.W.Frag)(J:Js)(H:Hp)(a:Addr)(xs:List V):Prop:=H a=some (.lst xs)/\a ∉ J
def SAt(K:PySem.W.Frag)(J:Js)(H:Hp)(a:Addr)(xs:List V):Prop:=
 (Rd H a (.lst xs)/\a ∉ J)\/∃(o:Obj) (its:Array Value) (n:Nat),K.lookup a=some o/\o.cls=.type "list"/\o.dict=none/\o.data=.seq its n/\its.size<=sizeLine/\Vals xs its.toList
noncomputable def keyD:Key->D
 | .inl i=>.int i
 | .inr x=>.str x
noncomputable def zKt (k:List Key):D:=.tup (k.map keyD)
def DOb(o:HO)(t:Bool)(ks:List D)(xs:List V):Prop:=
 (t=false/\∃kvs:List (Key × V),o=.dK kvs/\ks=kvs.map (λp=>keyD p.1)/\xs=kvs.map (·.2)) \/
  (t=true/\∃kvs:List (List Key × V),o=.dT kvs/\ks=kvs.map (λp=>zKt p.1)/\xs=kvs.map (·.2))
def XFs(J:Js)(H:Hp)(dx:Option Addr)(xs:List (Str × V)):Prop:=(dx=none/\xs=[])\/∃d,dx=some d/\d ∉ J/\H d=some (.xd xs)
noncomputable def freeOf (scope:Scope):List Str:=(scope.names.filter λy=>y.2 == .free).map (·.1)
def zTb(a:Addr)(o:Obj):Heap->Prop:=λh=>h.get? a=some o
noncomputable def lamE:Expr->List (Arguments × Expr × Scope)
 | .Call _ [_,.Lambda a b s _] _ _=>[(a,b,s)]
 | .Call _ [_] [⟨_,.Lambda a b s _,_⟩] _=>[(a,b,s)]
 | _=>[]
noncomputable def zK3:List Stmt->List (Arguments × Expr × Scope)
 | []=>[]
 | .Return (some e) _::r=>lamE e++zK3 r
 | .Assign _ e _::r=>lamE e++zK3 r
 | _::r=>zK3 r
noncomputable def zYn (o:Obj):List (Arguments × Expr × Scope):=match o.data with
 | .func fd=>(match fd.body with
  | .stmts b=>zK3 b
  | _=>[])
 | _=>[]
noncomputable def yB4 (K:PySem.W.Frag) (g:Nat):Option (Arguments × Expr × Scope):=(K.lookup (g / 8)).bind λo=>(zYn o)[g % 8]?
def zWv(J:Js)(H:Hp)(fre:List Str)(cl:List (Str × Addr))(gs:List V):Prop:=fre.length=gs.length/\(∀x c,cl.lookup x=some c->x∈fre)/\(∀x y c,cl.lookup x=some c->cl.lookup y=some c->x=y) /\
 ∀(i:Nat) (x:Str) (v:V),fre[i]?=some x->gs[i]?=some v->∃c o u,cl.lookup x=some c/\H c=some (.ext (zTb c o))/\c ∉ J/\o.data=.cell (some u)/\RelV v u
def FnV(K:PySem.W.Frag)(J:Js)(H:Hp)(v:V)(xs:List V):Prop:=∃(f:Addr) (g:Nat) (q:Str) (params:Arguments) (body:Expr) (scope:Scope) (cl:List (Str × Addr)) (pm:Value) (c:Addr) (ctv:Value) (gs:List V),
 xs=.int g::gs/\v=.ref f/\yB4 K g=some (params,body,scope)/\(H f=some (.ext (zTb f (PySem.W.kla_obj "<lambda>" q params body scope cl pm c ctv)))/\f ∉ J)/\(H c=some (.ext (zHa c q))/\c ∉ J)/\zWv J H (freeOf scope) cl gs
mutual
def Rep(K:PySem.W.Frag)(J:Js)(H:Hp):D->V->Prop
 | .non,v=>v=.non
 | .bl b,v=>v=.bl b
 | .int i,v=>v=.int i
 | .str x,v=>v=.str x
 | .ty n,v=>v=.ty n
 | .tup ds,v=>∃a xs,v=.ref a/\TAt K J H a xs/\RepL K J H ds xs
 | .lst ds,v=>∃a xs,v=.ref a/\LAt K J H a xs/\RepL K J H ds xs
 | .ktup ds,v=>∃a xs,v=.ref a/\KAt K J H a xs/\RepL K J H ds xs
 | .klst ds,v=>∃a xs,v=.ref a/\SAt K J H a xs/\RepL K J H ds xs
 | .dct t ks vs,v=>∃a o xs,v=.ref a/\a ∉ J/\Rd H a o/\DOb o t ks xs/\RepL K J H vs xs
 | .st ds,v=>(∃xs,FnV K J H v xs/\RepL K J H ds xs)\/(∃a C dx fr xs,v=.ref a/\a ∉ J/\H a=some (.ext (XO a C dx fr))/\XFs J H dx xs/\RepX K J H C ds xs)\/∃a C dx xs,v=.ref a/\a ∉ J/\H a=some (.ins C dx xs)/\RepI K J H C ds xs
 | .ref n,v=>∃a,J[n]?=some a/\v=.ref a
def RepL(K:PySem.W.Frag)(J:Js)(H:Hp):List D->List V->Prop
 | [],xs=>xs=[]
 | d::ds,xs=>∃x r,xs=x::r/\Rep K J H d x/\RepL K J H ds r
/-- an exception as a datum: its class's address,its fields -/
def RepX(K:PySem.W.Frag)(J:Js)(H:Hp)(C:Addr):List D->List (Str × V)->Prop
 | .non::.int c::l,xs=>c=(C:Int)/\RepF K J H l xs
 | _,_=>False
/-- an instance as a datum -/
def RepI(K:PySem.W.Frag)(J:Js)(H:Hp)(C:Addr):List D->List (Str × V)->Prop
 | .bl true::.int c::l,xs=>c=(C:Int)/\RepF K J H l xs
 | _,_=>False
def RepF(K:PySem.W.Frag)(J:Js)(H:Hp):List D->List (Str × V)->Prop
 | [],xs=>xs=[]
 | .str f::d::l,xs=>∃x r,xs=(f,x)::r/\Rep K J H d x/\RepF K J H l r
 | _::_,_=>False
end
def ObD(K:PySem.W.Frag)(J:Js)(H:Hp):D->HO->Prop
 | .lst ds,o=>∃xs,o=.lst xs/\RepL K J H ds xs
 | .dct t ks vs,o=>∃xs,DOb o t ks xs/\RepL K J H vs xs
 | .st ds,o=>∃C dx xs,o=.ins C dx xs/\RepI K J H C ds xs
 | _,_=>False
def RepO(K:PySem.W.Frag)(J:Js)(H:Hp)(d:D)(a:Addr):Prop:=∃o,H a=some o/\ObD K J H d o
noncomputable def tqAt (P:Addr) (o:Obj):Option Str:=match o.data with
 | .fields vs=>(match vs.getD 11 .none with
  | .ref p=>(match vs.getD 1 .none with
   | .str q _=>if p=P then some (q++".<locals>."++"<lambda>")else none
   | _=>none)
  | _=>none)
 | _=>none
noncomputable def tqOf (K:PySem.W.Frag) (P:Addr):Str:=(K.findSome? λe=>tqAt P e.2).getD ""
noncomputable def tabOf (K:PySem.W.Frag) (o:Obj):Option Addr:=match o.data with
 | .func fd=>if(zYn o).isEmpty then none else(match fd.code with
  | .ref cd=>(K.lookup cd).bind λoc=>(match oc.data with
   | .fields vs=>(match vs.getD 11 .none with
    | .ref P=>some P
    | _=>none)
   | _=>none)
  | _=>none)
 | _=>none
noncomputable def zC3 (K:PySem.W.Frag):List Addr:=K.filterMap λe=>tabOf K e.2
def TabsOk(K:PySem.W.Frag)(H:Hp):Prop:=(∀P ps,H P=some (.tbl ps)->TriplesOk ps.toList/\∀pos cv,codeAmong pos ps.toList=some cv->∃c,cv=.ref c/\H c=some (.ext (zHa c (tqOf K P))))/\∀P∈zC3 K,∃ps,H P=some (.tbl ps)
def zWt:HO->Prop
 | .tbl _=>False
 | _=>True
def Pinned:HO->Prop
 | .tbl _=>True
 | .ext _=>True
 | _=>False
theorem TabsOk.imp{K:PySem.W.Frag}{H H':Hp}(h:TabsOk K H)(h1:∀P ps,H' P=some (.tbl ps)->H P=some (.tbl ps))(h2:∀c o,H c=some o->Pinned o->H' c=some o):TabsOk K H':=⟨λP ps e=>by
 obtain⟨t,k⟩:=h.1 P ps (h1 P ps e);exact⟨t,λpos cv e=>by obtain⟨c,e1,e2⟩:=k pos cv e;exact⟨c,e1,h2 _ _ e2 trivial⟩⟩,λP m=>by
 obtain⟨ps,e⟩:=h.2 P m;exact⟨ps,h2 _ _ e trivial⟩⟩
structure AbS (K:PySem.W.Frag) (J:Js) (S:Store) (H:Hp):Prop where
 len:J.length=S.length
 tab:TabsOk K H
 nd:J.Nodup
 ob:∀(i:Nat) (a:Addr) (d:D),J[i]?=some a->S[i]?=some d->RepO K J H d a
def Fz(o:HO)(x:Option HO):Prop:=x=some o\/((∃kvs,o=.dT kvs)/\∃ob,x=some (.frz ob o))\/((∃ps,o=.tbl ps)/\∃ps,x=some (.tbl ps))
theorem Fz.tup(h:Fz (.tup xs) x):x=some (.tup xs):=by
 rcases h with h|⟨⟨_,z⟩,_⟩|⟨⟨_,z⟩,_⟩
 ·exact h
 ·cases z
 ·cases z
theorem Fz.lst(h:Fz (.lst xs) x):x=some (.lst xs):=by
 rcases h with h|⟨⟨_,z⟩,_⟩|⟨⟨_,z⟩,_⟩
 ·exact h
 ·cases z
 ·cases z
theorem Fz.frz(h:Fz (.frz ob u) x):x=some (.frz ob u):=by
 rcases h with h|⟨⟨_,z⟩,_⟩|⟨⟨_,z⟩,_⟩
 ·exact h
 ·cases z
 ·cases z
theorem Fz.ext{φ:Heap->Prop}(h:Fz (.ext φ) x):x=some (.ext φ):=by
 rcases h with h|⟨⟨_,z⟩,_⟩|⟨⟨_,z⟩,_⟩
 ·exact h
 ·cases z
 ·cases z
theorem Fz.ins(h:Fz (.ins C dx fs) x):x=some (.ins C dx fs):=by
 rcases h with h|⟨⟨_,z⟩,_⟩|⟨⟨_,z⟩,_⟩
 ·exact h
 ·cases z
 ·cases z
theorem Fz.xd(h:Fz (.xd xs) x):x=some (.xd xs):=by
 rcases h with h|⟨⟨_,z⟩,_⟩|⟨⟨_,z⟩,_⟩
 ·exact h
 ·cases z
 ·cases z
theorem Fz.tbl(h:Fz (.tbl ps) x):∃qs,x=some (.tbl qs):=by
 rcases h with h|⟨⟨_,z⟩,_⟩|⟨_,z⟩
 ·exact⟨_,h⟩
 ·cases z
 ·exact z
structure Grow (J:Js) (H:Hp) (J':Js) (H':Hp):Prop where
 pre:∀(i:Nat) (a:Addr),J[i]?=some a->J'[i]?=some a
 new:∀a∈J',a ∉ J->H a=none
 keep:∀b o,b ∉ J->H b=some o->Fz o (H' b)
 dom:∀b,H' b=none->H b=none
structure RepE (K:PySem.W.Frag) (J:Js) (H:Hp) (env:DS.Env) (σ:St):Prop where
 len:env.length=σ.length
 get:∀(i:Nat) (d:D),env[i]?=some (some d)->∃v,σ[i]?=some (some v)/\Rep K J H d v
section
variable {K:PySem.W.Frag}{J J' J1 J2:Js}{H H' H1 H2:Hp}{a:Addr}{d:D}{v:V}{S S':Store}{env:DS.Env}{σ:St}
theorem Grow.refl:Grow J H J H:=⟨λ_ _ h=>h,λ_ h n=>absurd h n,λ_ _ _ h=>.inl h,λ_ h=>h⟩
theorem Grow.trans(g:Grow J H J1 H1)(k:Grow J1 H1 J2 H2):Grow J H J2 H2 where
 pre:=λi a h=>k.pre i a (g.pre i a h)
 new:=λa h n=>by
  by_cases z:a∈J1
  ·exact g.new a z n
  ·exact g.dom a (k.new a h z)
 keep:=λb o n h=>by
  have n1:b ∉ J1:=λz=>by rw[g.new b z n]at h;cases h
  rcases g.keep b o n h with e|⟨z,ob,e⟩|⟨z,ps,e⟩
  ·exact k.keep b o n1 e
  ·exact .inr (.inl ⟨z,ob,(k.keep b _ n1 e).frz⟩)
  ·exact .inr (.inr ⟨z,(k.keep b _ n1 e).tbl⟩)
 dom:=λb h=>g.dom b (k.dom b h)
theorem Grow.out(g:Grow J H J' H')(n:a ∉ J)(h:H a=some o):a ∉ J':=λz=>by rw[g.new a z n]at h;cases h
theorem Grow.rd(g:Grow J H J' H')(n:a ∉ J)(h:Rd H a u)(hu:∀ps,u≠.tbl ps:=by intro _ z;cases z):Rd H' a u/\a ∉ J':=by
 rcases h with h|⟨o,h⟩
 ·refine⟨?_,g.out n h⟩;rcases g.keep _ _ n h with e|⟨_,ob,e⟩|⟨⟨_,z⟩,ps,e⟩
  ·exact .inl e
  ·exact .inr ⟨ob,e⟩
  ·exact absurd z (hu _)
 ·exact⟨.inr ⟨o,(g.keep _ _ n h).frz⟩,g.out n h⟩
theorem TAt.sq(h:TAt K J H a xs):SqT K H a xs:=.inl (.inl h.1)
theorem KAt.sq(h:KAt K J H a xs):SqT K H a xs:=by
 rcases h with⟨⟨o,h,_⟩,_⟩|⟨o,its,n,l,c,_,d,s,v⟩
 ·exact .inl (.inr ⟨o,h⟩)
 ·exact .inr ⟨o,its,n,l,c,d,s,v⟩
theorem KAt.grow(g:Grow J H J' H')(h:KAt K J H a xs):KAt K J' H' a xs:=by
 rcases h with⟨⟨o,h,r⟩,n⟩|h
 ·exact .inl ⟨⟨o,(g.keep _ _ n h).frz,r⟩,g.out n h⟩
 ·exact .inr h
theorem LAt.sq(h:LAt K J H a xs):SqL K H a xs:=.inl (.inl h.1)
theorem SAt.sq(h:SAt K J H a xs):SqL K H a xs:=by
 rcases h with h|h
 ·exact .inl h.1
 ·exact .inr h
theorem SAt.grow(g:Grow J H J' H')(h:SAt K J H a xs):SAt K J' H' a xs:=by
 rcases h with h|h
 ·exact .inl (g.rd h.2 h.1)
 ·exact .inr h
theorem FnV.grow(g:Grow J H J' H')(h:FnV K J H v xs):FnV K J' H' v xs:=by
 obtain⟨f,g',q,params,body,scope,cl,pm,c,ctv,gs,e1,e2,e3,⟨e4,n4⟩,⟨e5,n5⟩,l1,l2,l3,l4⟩:=h;exact⟨f,g',q,params,body,scope,cl,pm,c,ctv,gs,e1,e2,e3,⟨(g.keep _ _ n4 e4).ext,g.out n4 e4⟩,⟨(g.keep _ _ n5 e5).ext,g.out n5 e5⟩,l1,l2,l3,λi x v h1 h2=>by
  obtain⟨c,o,u,q1,q2,q3,q4⟩:=l4 i x v h1 h2;exact⟨c,o,u,q1,(g.keep _ _ q3 q2).ext,g.out q3 q2,q4⟩⟩
theorem DOb.nt(h:DOb o t ks xs):∀ps,o≠.tbl ps:=λps z=>by
 rcases h with⟨_,_,e,_⟩|⟨_,_,e,_⟩ <;> · rw[e]at z;cases z
theorem TAt.grow(g:Grow J H J' H')(h:TAt K J H a xs):TAt K J' H' a xs:=⟨(g.keep _ _ h.2 h.1).tup,g.out h.2 h.1⟩
theorem LAt.grow(g:Grow J H J' H')(h:LAt K J H a xs):LAt K J' H' a xs:=⟨(g.keep _ _ h.2 h.1).lst,g.out h.2 h.1⟩
theorem XFs.grow(g:Grow J H J' H')(h:XFs J H dx xs):XFs J' H' dx xs:=by
 rcases h with h|⟨d,e,n,h⟩
 ·exact .inl h
 ·exact .inr ⟨d,e,g.out n h,(g.keep _ _ n h).xd⟩
mutual
theorem Rep.grow(g:Grow J H J' H'):∀(d:D) (v:V),Rep K J H d v->Rep K J' H' d v
 | .non,_,h=>h
 | .bl _,_,h=>h
 | .int _,_,h=>h
 | .str _,_,h=>h
 | .ty _,_,h=>h
 | .tup ds,v,⟨a,xs,e,t,r⟩=>⟨a,xs,e,t.grow g,RepL.grow g ds xs r⟩
 | .lst ds,v,⟨a,xs,e,t,r⟩=>⟨a,xs,e,t.grow g,RepL.grow g ds xs r⟩
 | .ktup ds,v,⟨a,xs,e,t,r⟩=>⟨a,xs,e,t.grow g,RepL.grow g ds xs r⟩
 | .klst ds,v,⟨a,xs,e,t,r⟩=>⟨a,xs,e,t.grow g,RepL.grow g ds xs r⟩
 | .dct _ ks vs,v,⟨a,o,xs,e,n,h,t,r⟩=>⟨a,o,xs,e,(g.rd n h t.nt).2,(g.rd n h t.nt).1,t,RepL.grow g vs xs r⟩
 | .st ds,v,.inl ⟨xs,e,r⟩=>.inl ⟨xs,e.grow g,RepL.grow g ds xs r⟩
 | .st l,v,.inr (.inl ⟨a,C,dx,fr,xs,e,n,h,f,r⟩)=>.inr (.inl ⟨a,C,dx,fr,xs,e,g.out n h,(g.keep _ _ n h).ext,f.grow g,RepX.grow g C l xs r⟩)
 | .st l,v,.inr (.inr ⟨a,C,dx,xs,e,n,h,r⟩)=>.inr (.inr ⟨a,C,dx,xs,e,g.out n h,(g.keep _ _ n h).ins,RepI.grow g C l xs r⟩)
 | .ref n,v,⟨a,e,h⟩=>⟨a,g.pre n a e,h⟩
theorem RepL.grow(g:Grow J H J' H'):∀(ds:List D) (xs:List V),RepL K J H ds xs->RepL K J' H' ds xs
 | [],_,h=>h
 | d::ds,xs,⟨x,r,e,h,t⟩=>⟨x,r,e,Rep.grow g d x h,RepL.grow g ds r t⟩
theorem RepX.grow(g:Grow J H J' H')(C:Addr):∀(l:List D) (xs:List (Str × V)),RepX K J H C l xs->RepX K J' H' C l xs
 | .non::.int _::l,xs,h=>⟨h.1,RepF.grow g l xs h.2⟩
theorem RepI.grow(g:Grow J H J' H')(C:Addr):∀(l:List D) (xs:List (Str × V)),RepI K J H C l xs->RepI K J' H' C l xs
 | .bl true::.int _::l,xs,h=>⟨h.1,RepF.grow g l xs h.2⟩
theorem RepF.grow(g:Grow J H J' H'):∀(l:List D) (xs:List (Str × V)),RepF K J H l xs->RepF K J' H' l xs
 | [],_,h=>h
 | .str _::d::l,xs,⟨x,r,e,h,t⟩=>⟨x,r,e,Rep.grow g d x h,RepF.grow g l r t⟩
end
theorem RepE.grow(g:Grow J H J' H')(h:RepE K J H env σ):RepE K J' H' env σ:=⟨h.len,λi d e=>by
 obtain⟨v,q,r⟩:=h.get i d e;exact⟨v,q,Rep.grow g d v r⟩⟩
theorem RepL.length:∀{ds:List D}{xs:List V},RepL K J H ds xs->ds.length=xs.length
 | [],_,h=>by cases h;rfl
 | _::ds,_,⟨x,r,e,_,t⟩=>by subst e;simp[RepL.length t]
theorem RepL.get:∀{ds:List D}{xs:List V}{i:Nat}{d:D},RepL K J H ds xs->ds[i]?=some d->∃x,xs[i]?=some x/\Rep K J H d x
 | [],_,_,_,_,e=>by simp at e
 | d::ds,_,0,_,⟨x,r,e,h,t⟩,q=>by subst e;simp at q;subst q;exact⟨x,rfl,h⟩
 | _::ds,_,i+1,d,⟨x,r,e,_,t⟩,q=>by subst e;exact RepL.get (i:=i) t (by simpa using q)
theorem RepL.get'{i:Nat}(h:RepL K J H ds xs)(e:xs[i]?=some x):∃d,ds[i]?=some d/\Rep K J H d x:=by
 have hl:=h.length;have hi:i<ds.length:=by rw[hl];exact(xG.mp e).1
 obtain⟨y,ey,r⟩:=h.get (xu hi);rw[e]at ey;cases ey;exact⟨_,xu hi,r⟩
theorem RepL.append:∀{ds es:List D}{xs ys:List V},RepL K J H ds xs->RepL K J H es ys->RepL K J H (ds++es) (xs++ys)
 | [],_,_,_,h,k=>by cases h;exact k
 | d::ds,_,_,_,⟨x,r,e,h,t⟩,k=>by subst e;exact⟨x,_,rfl,h,t.append k⟩
theorem RepL.snoc(h:RepL K J H ds xs)(r:Rep K J H d x):RepL K J H (ds++[d]) (xs++[x]):=h.append ⟨x,[],rfl,r,rfl⟩
theorem RepL.take:∀{ds:List D}{xs:List V}(n:Nat),RepL K J H ds xs->RepL K J H (ds.take n) (xs.take n)
 | _,_,0,_=>rfl
 | [],_,_+1,h=>by cases h;rfl
 | d::ds,_,n+1,⟨x,r,e,h,t⟩=>by subst e;exact⟨x,_,rfl,h,t.take n⟩
theorem RepL.drop:∀{ds:List D}{xs:List V}(n:Nat),RepL K J H ds xs->RepL K J H (ds.drop n) (xs.drop n)
 | _,_,0,h=>h
 | [],_,_+1,h=>by cases h;rfl
 | d::ds,_,n+1,⟨x,r,e,h,t⟩=>by subst e;exact t.drop n
theorem RepL.set:∀{ds:List D}{xs:List V}{x:V}(n:Nat),RepL K J H ds xs->Rep K J H d x->RepL K J H (ds.set n d) (xs.set n x)
 | [],_,_,_,h,_=>by cases h;rfl
 | _::ds,_,_,0,⟨y,r,e,_,t⟩,k=>by subst e;exact⟨_,_,rfl,k,t⟩
 | _::ds,_,_,n+1,⟨y,r,e,h,t⟩,k=>by subst e;exact⟨_,_,rfl,h,RepL.set n t k⟩
theorem RepL.ints:∀{ns:List Int},RepL K J H (ns.map D.int) (ns.map V.int)
 | []=>rfl
 | n::ns=>⟨_,_,rfl,rfl,RepL.ints⟩
theorem AbS.lt(h:AbS K J S H){n:Nat}(e:J[n]?=some a):n<S.length:=by rw[<- h.len];exact(xG.mp e).1
theorem AbS.at(h:AbS K J S H){n:Nat}(e:J[n]?=some a):∃d,S[n]?=some d/\RepO K J H d a:=
 ⟨S[n]'(h.lt e),xu (h.lt e),h.ob n a _ e (xu (h.lt e))⟩
theorem AbS.mem(h:AbS K J S H)(m:a∈J):∃o,H a=some o:=by obtain⟨i,e⟩:=uo.mp m;obtain⟨d,_,o,r,_⟩:=h.at e;exact⟨o,r⟩
theorem AbS.out(h:AbS K J S H)(n:H a=none):a ∉ J:=λm=>by
 obtain⟨o,e⟩:=h.mem m;rw[n]at e;cases e
theorem ObD.imp(rl:∀ds xs,RepL K J H ds xs->RepL K J' H' ds xs)(ri:∀C l xs,RepI K J H C l xs->RepI K J' H' C l xs):∀{d:D},ObD K J H d o->ObD K J' H' d o
 | .lst ds,⟨xs,e,r⟩=>⟨xs,e,rl _ _ r⟩
 | .dct _ ks vs,⟨xs,e,r⟩=>⟨xs,e,rl _ _ r⟩
 | .st ds,⟨C,dx,xs,e,r⟩=>⟨C,dx,xs,e,ri _ _ _ r⟩
 | .non,h=>False.elim h
 | .bl _,h=>False.elim h
 | .int _,h=>False.elim h
 | .str _,h=>False.elim h
 | .ty _,h=>False.elim h
 | .tup _,h=>False.elim h
 | .ktup _,h=>False.elim h
 | .klst _,h=>False.elim h
 | .ref _,h=>False.elim h
theorem ObD.grow(g:Grow J H J' H')(h:ObD K J H d o):ObD K J' H' d o:=h.imp (RepL.grow g) (RepI.grow g)
theorem Grow.of(k:∀b o,H b=some o->H' b=some o):Grow J H J H':=⟨λ_ _ h=>h,λ_ h n=>absurd h n,λb o _ h=>.inl (k b o h),λb h=>by
 cases e:H b with
 | none=>rfl
 | some o=>rw[k b o e]at h;cases h⟩
theorem AbS.more(h:AbS K J S H)(k:∀b o,H b=some o->H' b=some o)(nt:∀P ps,H' P=some (.tbl ps)->H P=some (.tbl ps)):AbS K J S H':=
 ⟨h.len,h.tab.imp nt λc o e _=>k _ _ e,h.nd,λi a d e q=>by
  obtain⟨o,eo,r⟩:=h.ob i a d e q;exact⟨o,k _ _ eo,r.grow (.of k)⟩⟩
theorem zDo(n:H p=none):∀b u,H b=some u->upd H p o b=some u:=λb u e=>by rw[zAf (zAq e n)];exact e
theorem zNd(no:zWt o):∀P ps,upd H p o P=some (.tbl ps)->H P=some (.tbl ps):=λP ps e=>by
 by_cases z:P=p
 ·subst z;rw[zAm]at e;cases e;exact no.elim
 ·rwa[zAf z]at e
theorem AbS.push(h:AbS K J S H)(n:H p=none)(no:zWt o:=by trivial):AbS K J S (upd H p o):=h.more (zDo n) (zNd no)
theorem ObD.nt :∀{d:D},ObD K J H d o->zWt o
 | .lst ds,⟨xs,e,r⟩=>by rw[e];trivial
 | .dct _ ks vs,⟨xs,e,r⟩=>by
  cases o with
  | tbl ps=>exact absurd rfl (e.nt ps)
  | _=>trivial
 | .st _,⟨C,dx,xs,e,r⟩=>by rw[e];trivial
 | .non,h=>False.elim h
 | .bl _,h=>False.elim h
 | .int _,h=>False.elim h
 | .str _,h=>False.elim h
 | .ty _,h=>False.elim h
 | .tup _,h=>False.elim h
 | .ktup _,h=>False.elim h
 | .klst _,h=>False.elim h
 | .ref _,h=>False.elim h
theorem Grow.push(n:H p=none):Grow J H J (upd H p o):=.of (zDo n)
theorem Grow.name(n:H p=none):Grow J H (J++[p]) (upd H p o) where
 pre:=λi a h=>by rw[xT (xG.mp h).1];exact h
 new:=λa h z=>by
  rcases vm.mp h with h|h
  ·exact absurd h z
  ·rw[xZ.mp h];exact n
 keep:=λb u _ e=>.inl (zDo n b u e)
 dom:=(Grow.push (J:=J) n).dom
theorem AbS.name(h:AbS K J S H)(n:H p=none)(r:ObD K J H d o):AbS K (J++[p]) (S++[d]) (upd H p o):=by
 have hp:=h.out n;have g:Grow J H (J++[p]) (upd H p o):=.name n;refine⟨by simp[h.len],h.tab.imp (zNd r.nt) λc o e _=>zDo n _ _ e,?_,λi a d' e q=>?_⟩
 ·refine List.nodup_append.mpr ⟨h.nd,(vh.mpr ⟨by simp,ua⟩),λx hx y hy=>?_⟩;rintro rfl;exact hp (by rw[<- xZ.mp hy];exact hx)
 ·by_cases hi:i<J.length
  ·rw[xT hi]at e;rw[xT (by rw[<- h.len];exact hi)]at q;obtain⟨o',eo,r'⟩:=h.ob i a d' e q;exact⟨o',zDo n _ _ eo,r'.grow g⟩
  ·have hl:i=J.length:=by
    have:=(xG.mp e).1;simp at this;lia
   subst hl;rw[xS (xg _)]at e;rw[xS (by rw[h.len];exact xg _),h.len]at q;simp at e q;subst e q;exact⟨o,zAm,r.grow g⟩
theorem Grow.write{n:Nat}(e:J[n]?=some a):Grow J H J (upd H a o) where
 pre:=λ_ _ h=>h
 new:=λb h z=>absurd h z
 keep:=λb u z h=>.inl (by rw[zAf (λq=>z (by rw[q];exact vS e))];exact h)
 dom:=λb h=>by
  by_cases q:b=a
  ·subst q;rw[zAm]at h;cases h
  ·rw[zAf q]at h;exact h
theorem AbS.write{n:Nat}(h:AbS K J S H)(e:J[n]?=some a)(r:ObD K J H d o):AbS K J (S.set n d) (upd H a o):=by
 have g:Grow J H J (upd H a o):=.write e;have ne:∀c o,H c=some o->Pinned o->c≠a:=λc o ec hp z=>by
  subst z;obtain⟨d0,_,o0,e0,r0⟩:=h.at e;rw[ec]at e0;cases e0;cases d0 with
  | lst ds=>obtain⟨_,z,_⟩:=r0;rw[z]at hp;exact hp
  | dct t ks vs=>
   obtain⟨_,z,_⟩:=r0;rcases z with⟨_,_,z,_⟩|⟨_,_,z,_⟩ <;> · rw[z]at hp;exact hp
  | st ds=>
   obtain⟨_,_,_,z,_⟩:=r0;rw[z]at hp;exact hp
  | _=>exact r0
 refine⟨by simp[h.len],h.tab.imp (zNd r.nt) λc o ec hp=>by rw[zAf (ne c o ec hp)];exact ec,h.nd,λi b d' ei q=>?_⟩;by_cases hi:i=n
 ·subst hi;rw[e]at ei;cases ei;rw[vG (h.lt e)]at q;cases q;exact⟨o,zAm,r.grow g⟩
 ·rw[ve (xD hi)]at q;obtain⟨o',eo,r'⟩:=h.ob i b d' ei q;have hb:b≠a:=λz=>by
   subst z;exact hi ((List.getElem?_inj (xG.mp ei).1 h.nd).mp (ei.trans e.symm))
  exact⟨o',by rw[zAf hb];exact eo,r'.grow g⟩
theorem lowL_iff{n:Nat}:∀{l:List D},DS.lowL n l=true <-> ∀d∈l,d.low n=true
 | []=>⟨(λ_ _ h=>nomatch h),λ_=>rfl⟩
 | d::r=>by
  show(d.low n && DS.lowL n r)=true <-> _;rw[xi,lowL_iff (l:=r)];simp
theorem zK5(n:Nat)(k:Key):(keyD k).low n=true:=by cases k <;> rfl
theorem DOb.low(h:DOb o t ks xs):DS.lowL n ks=true:=by
 rcases h with⟨_,kvs,_,rfl,_⟩|⟨_,kvs,_,rfl,_⟩
 ·exact lowL_iff.mpr λd hd=>by obtain⟨p,_,rfl⟩:=xw.mp hd;exact zK5 n p.1
 ·exact lowL_iff.mpr λd hd=>by
   obtain⟨p,_,rfl⟩:=xw.mp hd;show DS.lowL n (p.1.map keyD)=true;exact lowL_iff.mpr λd hd=>by obtain⟨q,_,rfl⟩:=xw.mp hd;exact zK5 n q
mutual
theorem Rep.low:∀(d:D) (v:V),Rep K J H d v->d.low J.length=true
 | .non,_,_=>rfl
 | .bl _,_,_=>rfl
 | .int _,_,_=>rfl
 | .str _,_,_=>rfl
 | .ty _,_,_=>rfl
 | .tup ds,v,⟨a,xs,e,t,r⟩=>RepL.low ds xs r
 | .lst ds,v,⟨a,xs,e,t,r⟩=>RepL.low ds xs r
 | .ktup ds,v,⟨a,xs,e,t,r⟩=>RepL.low ds xs r
 | .klst ds,v,⟨a,xs,e,t,r⟩=>RepL.low ds xs r
 | .dct _ ks vs,v,⟨a,o,xs,e,n,h,t,r⟩=>by
  show(DS.lowL J.length ks && DS.lowL J.length vs)=true;rw[RepL.low vs xs r,Bool.and_true];exact DOb.low t
 | .st ds,v,.inl ⟨xs,e,r⟩=>RepL.low ds xs r
 | .st l,v,.inr (.inl ⟨a,C,dx,fr,xs,e,n,h,f,r⟩)=>RepX.low C l xs r
 | .st l,v,.inr (.inr ⟨a,C,dx,xs,e,n,h,r⟩)=>RepI.low C l xs r
 | .ref n,v,⟨a,e,h⟩=>xk (xG.mp e).1
theorem RepL.low:∀(ds:List D) (xs:List V),RepL K J H ds xs->DS.lowL J.length ds=true
 | [],_,_=>rfl
 | d::ds,xs,⟨x,r,e,h,t⟩=>by
  show(d.low J.length && DS.lowL J.length ds)=true;rw[Rep.low d x h,RepL.low ds r t];rfl
theorem RepX.low(C:Addr):∀(l:List D) (xs:List (Str × V)),RepX K J H C l xs->DS.lowL J.length l=true
 | .non::.int _::l,xs,h=>by
  show(true && (true && DS.lowL J.length l))=true;rw[RepF.low l xs h.2];rfl
theorem RepI.low(C:Addr):∀(l:List D) (xs:List (Str × V)),RepI K J H C l xs->DS.lowL J.length l=true
 | .bl true::.int _::l,xs,h=>by
  show(true && (true && DS.lowL J.length l))=true;rw[RepF.low l xs h.2];rfl
theorem RepF.low:∀(l:List D) (xs:List (Str × V)),RepF K J H l xs->DS.lowL J.length l=true
 | [],_,h=>rfl
 | .str _::d::l,xs,⟨x,r,e,h,t⟩=>by
  show(true && (d.low J.length && DS.lowL J.length l))=true;rw[Rep.low d x h,RepF.low l r t];rfl
end
theorem ObD.low :∀{d:D},ObD K J H d o->d.low J.length=true
 | .lst ds,⟨xs,_,r⟩=>RepL.low ds xs r
 | .dct _ ks vs,⟨xs,t,r⟩=>by
  show(DS.lowL J.length ks && DS.lowL J.length vs)=true;rw[RepL.low vs xs r,Bool.and_true];exact DOb.low t
 | .st ds,⟨C,dx,xs,e,r⟩=>RepI.low C ds xs r
 | .non,h=>False.elim h
 | .bl _,h=>False.elim h
 | .int _,h=>False.elim h
 | .str _,h=>False.elim h
 | .ty _,h=>False.elim h
 | .tup _,h=>False.elim h
 | .ktup _,h=>False.elim h
 | .klst _,h=>False.elim h
 | .ref _,h=>False.elim h
theorem zAp{n:Nat}(h:a ∉ J):a ∉ J.take n:=λz=>h (List.mem_of_mem_take z)
theorem FnV.cut{n:Nat}(h:FnV K J H v xs):FnV K (J.take n) H v xs:=by
 obtain⟨f,g',q,params,body,scope,cl,pm,c,ctv,gs,e1,e2,e3,⟨e4,n4⟩,⟨e5,n5⟩,l1,l2,l3,l4⟩:=h;exact⟨f,g',q,params,body,scope,cl,pm,c,ctv,gs,e1,e2,e3,⟨e4,zAp n4⟩,⟨e5,zAp n5⟩,l1,l2,l3,λi x v h1 h2=>by
  obtain⟨c,o,u,q1,q2,q3,q4⟩:=l4 i x v h1 h2;exact⟨c,o,u,q1,q2,zAp q3,q4⟩⟩
mutual
theorem Rep.cut(n:Nat):∀(d:D) (v:V),d.low n=true->Rep K J H d v->Rep K (J.take n) H d v
 | .non,_,_,h=>h
 | .bl _,_,_,h=>h
 | .int _,_,_,h=>h
 | .str _,_,_,h=>h
 | .ty _,_,_,h=>h
 | .tup ds,v,l,⟨a,xs,e,t,r⟩=>⟨a,xs,e,⟨t.1,zAp t.2⟩,RepL.cut n ds xs l r⟩
 | .ktup ds,v,l,⟨a,xs,e,t,r⟩=>⟨a,xs,e,by
   rcases t with t|t
   ·exact .inl ⟨t.1,zAp t.2⟩
   ·exact .inr t,RepL.cut n ds xs l r⟩
 | .klst ds,v,l,⟨a,xs,e,t,r⟩=>⟨a,xs,e,by
   rcases t with t|t
   ·exact .inl ⟨t.1,zAp t.2⟩
   ·exact .inr t,RepL.cut n ds xs l r⟩
 | .lst ds,v,l,⟨a,xs,e,t,r⟩=>⟨a,xs,e,⟨t.1,zAp t.2⟩,RepL.cut n ds xs l r⟩
 | .dct _ ks vs,v,l,⟨a,o,xs,e,q,h,t,r⟩=>⟨a,o,xs,e,zAp q,h,t,RepL.cut n vs xs (by
   have l:(DS.lowL n ks && DS.lowL n vs)=true:=l;rw[xi]at l;exact l.2) r⟩
 | .st ds,v,l,.inl ⟨xs,e,r⟩=>.inl ⟨xs,e.cut,RepL.cut n ds xs l r⟩
 | .st l,v,q,.inr (.inl ⟨a,C,dx,fr,xs,e,m,h,f,r⟩)=>.inr (.inl ⟨a,C,dx,fr,xs,e,zAp m,h,by
   rcases f with f|⟨d,e,m,f⟩
   ·exact .inl f
   ·exact .inr ⟨d,e,zAp m,f⟩,RepX.cut n C l xs q r⟩)
 | .st l,v,q,.inr (.inr ⟨a,C,dx,xs,e,m,h,r⟩)=>.inr (.inr ⟨a,C,dx,xs,e,zAp m,h,RepI.cut n C l xs q r⟩)
 | .ref m,v,l,⟨a,e,h⟩=>⟨a,by rw[vI (ur l)];exact e,h⟩
theorem RepL.cut(n:Nat):∀(ds:List D) (xs:List V),DS.lowL n ds=true->RepL K J H ds xs->RepL K (J.take n) H ds xs
 | [],_,_,h=>h
 | d::ds,xs,l,⟨x,r,e,h,t⟩=>by
  have l:(d.low n && DS.lowL n ds)=true:=l;rw[xi]at l;exact⟨x,r,e,Rep.cut n d x l.1 h,RepL.cut n ds r l.2 t⟩
theorem RepX.cut(n:Nat)(C:Addr):∀(l:List D) (xs:List (Str × V)),DS.lowL n l=true->RepX K J H C l xs->RepX K (J.take n) H C l xs
 | .non::.int _::l,xs,q,h=>⟨h.1,RepF.cut n l xs (by
   have q:(true && (true && DS.lowL n l))=true:=q;exact q) h.2⟩
theorem RepI.cut(n:Nat)(C:Addr):∀(l:List D) (xs:List (Str × V)),DS.lowL n l=true->RepI K J H C l xs->RepI K (J.take n) H C l xs
 | .bl true::.int _::l,xs,q,h=>⟨h.1,RepF.cut n l xs (by
   have q:(true && (true && DS.lowL n l))=true:=q;exact q) h.2⟩
theorem RepF.cut(n:Nat):∀(l:List D) (xs:List (Str × V)),DS.lowL n l=true->RepF K J H l xs->RepF K (J.take n) H l xs
 | [],_,_,h=>h
 | .str _::d::l,xs,q,⟨x,r,e,h,t⟩=>by
  have q:(true && (d.low n && DS.lowL n l))=true:=q;rw[Bool.true_and,xi]at q;exact⟨x,r,e,Rep.cut n d x q.1 h,RepF.cut n l r q.2 t⟩
end
theorem ObD.cut{n:Nat}:∀{d:D},d.low n=true->ObD K J H d o->ObD K (J.take n) H d o
 | .lst ds,l,⟨xs,e,r⟩=>⟨xs,e,RepL.cut n ds xs l r⟩
 | .dct _ ks vs,l,⟨xs,t,r⟩=>⟨xs,t,RepL.cut n vs xs (by
   have l:(DS.lowL n ks && DS.lowL n vs)=true:=l;rw[xi]at l;exact l.2) r⟩
 | .st ds,l,⟨C,dx,xs,e,r⟩=>⟨C,dx,xs,e,RepI.cut n C ds xs l r⟩
 | .non,_,h=>False.elim h
 | .bl _,_,h=>False.elim h
 | .int _,_,h=>False.elim h
 | .str _,_,h=>False.elim h
 | .ty _,_,h=>False.elim h
 | .tup _,_,h=>False.elim h
 | .ktup _,_,h=>False.elim h
 | .klst _,_,h=>False.elim h
 | .ref _,_,h=>False.elim h
theorem zF9{n:Nat}:∀{S S':Store},DS.keeps n S S'->∀i,i<S.length->∃b,S'[i]?=some b/\(S[i]?=some b\/b.low n=true)
 | [],_,_,i,hi=>by simp at hi
 | a::r,[],h,_,_=>False.elim h
 | a::r,b::t,h,0,_=>⟨b,rfl,by
   rcases h.1 with e|e
   ·subst e;exact .inl rfl
   ·exact .inr e⟩
 | a::r,b::t,h,i+1,hi=>by simpa using zF9 h.2 i (by simpa using hi)
theorem Grow.take(h:AbS K J S H)(g:Grow J H J' H'):J'.take S.length=J:=by
 refine List.ext_getElem? λi=>?_
 by_cases hi:i<S.length
 ·rw[vI hi];have hj:i<J.length:=by rw[h.len];exact hi
  rw[xu hj];exact g.pre i _ (xu hj)
 ·rw[vk (by rw[vo];lia),vk (by rw[h.len];lia)]
theorem Grow.cut(g:Grow J H J' H'):Grow J H J H':=⟨λ_ _ h=>h,λ_ h n=>absurd h n,g.keep,g.dom⟩
theorem AbS.cut(h:AbS K J S H)(g:Grow J H J' H')(h':AbS K J' S' H')(k:DS.keeps S.length S S'):AbS K J (S'.take S.length) H':=by
 have e:=g.take h;refine⟨?_,h'.tab,h.nd,λi a d ei q=>?_⟩
 ·have l:∀i,i<S.length->i<S'.length:=λi hi=>by
   obtain⟨b,eb,_⟩:=zF9 k i hi;exact(xG.mp eb).1
  rw[h.len,vo];by_cases z:S.length=0
  ·lia
  ·have:=l (S.length-1) (by nofun);lia
 ·have hi:=h.lt ei;rw[vI hi]at q;obtain⟨b,eb,lo⟩:=zF9 k i hi;rw[q]at eb;cases eb;obtain⟨o,eo,r⟩:=h'.ob i a d (g.pre i a ei) q;have low:d.low S.length=true:=by
   rcases lo with lo|lo
   ·obtain⟨o',_,r'⟩:=h.ob i a d ei lo;have:=r'.low;rw[h.len]at this;exact this
   ·exact lo
  have:=r.cut low;rw[e]at this;exact⟨o,eo,this⟩
theorem zZ8(h:AbS K J S H)(g:Grow J H J' H')(h':AbS K J' S' H')(r:Rep K J' H' d v)(e:DS.fin S d S'=.ok d2 S2):∃J2,AbS K J2 S2 H'/\Grow J H J2 H'/\Rep K J2 H' d2 v:=by
 have ek:=g.take h;unfold DS.fin at e;by_cases k:DS.keeps S.length S S'
 ·rw[xb k]at e;by_cases l:d.low S.length=true
  ·rw[xb l]at e;cases e;refine⟨J,h.cut g h' k,g.cut,?_⟩;have:=Rep.cut _ _ _ l r;rw[ek]at this;exact this
  ·rw[xc l]at e;cases d with
   | ref n=>
    obtain⟨a,ea,rfl⟩:=r;obtain⟨c,ec,o,eo,rc⟩:=h'.at ea;simp only[ec]at e;by_cases lc:c.low S.length=true
    ·rw[xb lc]at e;cases e;refine⟨J,h.cut g h' k,g.cut,?_⟩;have ha:a ∉ J:=λz=>by
      obtain⟨i,ei⟩:=uo.mp z;have hi:=h.lt ei;have e2:=g.pre i a ei;have:=(List.getElem?_inj (xG.mp e2).1 h'.nd).mp (e2.trans ea.symm);subst this;exact l (xk hi)
     have rc2:=rc.cut lc;rw[ek]at rc2;cases d2 with
     | lst ds=>obtain⟨xs,rfl,rl⟩:=rc2;exact⟨a,xs,rfl,⟨eo,ha⟩,rl⟩
     | dct _ ks vs=>obtain⟨xs,t,rl⟩:=rc2;exact⟨a,o,xs,rfl,ha,.inl eo,t,rl⟩
     | st ds=>obtain⟨C,dx,xs,rfl,rl⟩:=rc2;exact .inr (.inr ⟨a,C,dx,xs,rfl,ha,eo,rl⟩)
     | _=>exact False.elim rc2
    ·rw[xc lc]at e;cases e;exact⟨J',h',g,a,ea,rfl⟩
   | _=>cases e;exact⟨J',h',g,r⟩
 ·rw[xc k]at e;cases e;exact⟨J',h',g,r⟩
end
abbrev XE:=Exn->Store->Js->Hp->Prop
noncomputable def XE0:XE:=λ_ _ _ _=>False
def Post{α:Type}(K:PySem.W.Frag)(E:XE)(J:Js)(H:Hp)(r:Rs α)(P:α->Store->Js->Hp->Prop):Prop:=match r with
 | .ok a S=>∀J' H',AbS K J' S H'->Grow J H J' H'->P a S J' H'
 | .ex x S=>∀J' H',AbS K J' S H'->Grow J H J' H'->E x S J' H'
 | .bad=>False
def PostS(K:PySem.W.Frag)(E:XE)(J:Js)(H:Hp)(r:SR)(D:Ends):Prop:=match r with
 | .nx e S=>∀J' H' σ,AbS K J' S H'->Grow J H J' H'->RepE K J' H' e σ->D.nx σ H'
 | .rt d S=>∀J' H' v,AbS K J' S H'->Grow J H J' H'->Rep K J' H' d v->D.rt v H'
 | .bk e S=>∀J' H' σ,AbS K J' S H'->Grow J H J' H'->RepE K J' H' e σ->D.bk σ H'
 | .ct e S=>∀J' H' σ,AbS K J' S H'->Grow J H J' H'->RepE K J' H' e σ->D.ct σ H'
 | .ex x S=>∀J' H',AbS K J' S H'->Grow J H J' H'->E x S J' H'
 | .bad=>False
section
variable {α β:Type}{K:PySem.W.Frag}{E:XE}{J J1:Js}{H H1:Hp}{S:Store}
theorem Post.grow{r:Rs α}{P:α->Store->Js->Hp->Prop}(g:Grow J H J1 H1)(h:Post K E J H r P):Post K E J1 H1 r P:=by
 cases r with
 | ok a S=>exact λJ' H' h1 h2=>h J' H' h1 (g.trans h2)
 | ex x S=>exact λJ' H' h1 h2=>h J' H' h1 (g.trans h2)
 | bad=>exact h
theorem Post.bind{r:Rs α}{k:α->Store->Rs β}{P:β->Store->Js->Hp->Prop}(h:Post K E J H (r.bind k) P):Post K E J H r (λa S J' H'=>Post K E J' H' (k a S) P):=by
 cases r with
 | ok a S=>exact λJ' H' _ g=>Post.grow g h
 | ex x S=>exact h
 | bad=>exact h
theorem Post.imp{r:Rs α}{P P':α->Store->Js->Hp->Prop}(h:Post K E J H r P)(k:∀a S J' H',r=.ok a S->AbS K J' S H'->Grow J H J' H'->P a S J' H'->P' a S J' H'):Post K E J H r P':=by
 cases r with
 | ok a S=>exact λJ' H' h1 h2=>k a S J' H' rfl h1 h2 (h J' H' h1 h2)
 | ex x S=>exact h
 | bad=>exact h
theorem Post.map{r:Rs α}{P P':α->Store->Js->Hp->Prop}(h:Post K E J H r P)(k:∀a S J' H',r=.ok a S->AbS K J' S H'->Grow J H J' H'->(∀J2 H2,AbS K J2 S H2->Grow J H J2 H2->P a S J2 H2)->P' a S J' H'):Post K E J H r P':=by
 cases r with
 | ok a S=>exact λJ' H' h1 h2=>k a S J' H' rfl h1 h2 h
 | ex x S=>exact h
 | bad=>exact h
theorem Post.lift{o:Option α}{P:α->Store->Js->Hp->Prop}(h:Post K E J H (DS.lift o S) P):∃a,o=some a/\∀J' H',AbS K J' S H'->Grow J H J' H'->P a S J' H':=by
 cases o with
 | some a=>exact⟨a,rfl,h⟩
 | none=>exact False.elim h
theorem PostS.grow{r:SR}{D:Ends}(g:Grow J H J1 H1)(h:PostS K E J H r D):PostS K E J1 H1 r D:=by
 cases r with
 | nx e S=>exact λJ' H' σ h1 h2=>h J' H' σ h1 (g.trans h2)
 | bk e S=>exact λJ' H' σ h1 h2=>h J' H' σ h1 (g.trans h2)
 | ct e S=>exact λJ' H' σ h1 h2=>h J' H' σ h1 (g.trans h2)
 | rt e S=>exact λJ' H' σ h1 h2=>h J' H' σ h1 (g.trans h2)
 | ex x S=>exact λJ' H' h1 h2=>h J' H' h1 (g.trans h2)
 | bad=>exact h
theorem PostS.then{r:Rs α}{k:α->Store->SR}{D:Ends}(h:PostS K E J H (r.then k) D):Post K E J H r (λa S J' H'=>PostS K E J' H' (k a S) D):=by
 cases r with
 | ok a S=>exact λJ' H' _ g=>PostS.grow g h
 | ex x S=>exact h
 | bad=>exact h
end
section
variable (K:PySem.W.Frag) (E:XE)
noncomputable def tOf (m:DS.EM):TE:=λσ H Q=>∃env S J,AbS K J S H/\RepE K J H env σ/\Post K E J H (m env S) (λd _ J' H'=>∀v,Rep K J' H' d v->Q v H')
noncomputable def tOfF (m:DS.EM):TE:=λσ H Q=>∃env S J,AbS K J S H/\RepE K J H env σ/\Post K E J H (m env S) (λd _ J' H'=>∀p o,H' p=none->ObD K J' H' d o->Q (.ref p) (upd H' p o))
noncomputable def ttOf (m:DS.TM):TT:=λσ H Q=>∃env S J,AbS K J S H/\RepE K J H env σ/\Post K E J H (m env S) (λb _ _ H'=>Q b H')
noncomputable def aOf (m:DS.AM):TA:=λσ H Q=>∃env S J,AbS K J S H/\RepE K J H env σ/\Post K E J H (m env S) (λds _ J' H'=>∀vs,RepL K J' H' ds vs->Q vs H')
noncomputable def tsOf (m:DS.SM):TS:=λD σ H=>∃env S J,AbS K J S H/\RepE K J H env σ/\PostS K E J H (m env S) D
noncomputable def gOf (m:DS.GM):TG:=λv σ H Q=>∃env S J d env',AbS K J S H/\RepE K J H env σ/\Rep K J H d v/\m S d env=some env'/\∀σ',RepE K J H env' σ'->Q σ' H
noncomputable def gsOf (m:Store->List D->DS.Env->Option DS.Env):TGs:=λvs σ H Q=>∃env S J ds env',AbS K J S H/\RepE K J H env σ/\RepL K J H ds vs/\m S ds env=some env'/\∀σ',RepE K J H env' σ'->Q σ' H
structure ItOk (J0:Js) (H0:Hp) (w:DS.Walk) (I:It):Prop where
 go:∀(i:Nat) (H:Hp) (J:Js) (S:Store),AbS K J S H->Grow J0 H0 J H->DS.gOk S w.gd->i<w.its.length->I.go i H
 yld:∀(i:Nat) (H:Hp) (J:Js) (S:Store) (x:V) (H':Hp),AbS K J S H->Grow J0 H0 J H->DS.gOk S w.gd->I.yld i H x H'->∀d,w.its[i]?=some d->AbS K J S H'/\Grow J H J H'/\Rep K J H' d x
 stop:∀(i:Nat) (H:Hp) (J:Js) (S:Store),AbS K J S H->Grow J0 H0 J H->DS.gOk S w.gd->w.its.length<=i->I.stop i H
noncomputable def iOf (m:DS.IM):TI:=λσ H R=>∃env S J,AbS K J S H/\RepE K J H env σ/\Post K E J H (m env S) (λw _ J' H'=>∀I,ItOk K J' H' w I->R I H')
noncomputable def r2Of (g:Store->D->D->Option D):R2:=λx y H Q=>∃J S d1 d2 d,AbS K J S H/\Rep K J H d1 x/\Rep K J H d2 y/\g S d1 d2=some d/\∀v H',AbS K J S H'->Grow J H J H'->Rep K J H' d v->Q v H'
def r1Of(g:Store->D->Option D):V->Hp->VK->Prop:=λx H Q=>∃J S d1 d,AbS K J S H/\Rep K J H d1 x/\g S d1=some d/\∀v H',AbS K J S H'->Grow J H J H'->Rep K J H' d v->Q v H'
def cOf(g:Store->List D->Option D):List V->Hp->VK->Prop:=λxs H Q=>∃J S ds d,AbS K J S H/\RepL K J H ds xs/\g S ds=some d/\∀v H',AbS K J S H'->Grow J H J H'->Rep K J H' d v->Q v H'
noncomputable def yAq (g:Store->D->D->Option D):R2:=λx y H Q=>∃J S d1 d2 d,AbS K J S H/\Rep K J H d1 x/\Rep K J H d2 y/\g S d1 d2=some d/\∀p o H',AbS K J S H'->Grow J H J H'->H' p=none->ObD K J H' d o->Q (.ref p) (upd H' p o)
def cOfF(g:Store->List D->Option D):List V->Hp->VK->Prop:=λxs H Q=>∃J S ds d,AbS K J S H/\RepL K J H ds xs/\g S ds=some d/\∀p o H',AbS K J S H'->Grow J H J H'->H' p=none->ObD K J H' d o->Q (.ref p) (upd H' p o)
def mOf(g:Store->D->List D->Option (D × Store)):V->List V->Hp->VK->Prop:=λx xs H Q=>∃J S d1 ds d S',AbS K J S H/\Rep K J H d1 x/\RepL K J H ds xs/\g S d1 ds=some (d,S')/\∀v H',AbS K J S' H'->Grow J H J H'->Rep K J H' d v->Q v H'
noncomputable def spOf (F:DS.Fn):Sp:=λvs H Q _=>∃J S ds,AbS K J S H/\RepL K J H ds vs/\Post K E J H (F ds S) (λd _ J' H'=>∀v,Rep K J' H' d v->Q v H')
end
structure DE (X:Cx) (K:PySem.W.Frag) (E:XE) (e:Expr) (m:DS.EM):Prop where h:SE X e (tOf K E m)
structure DF (X:Cx) (K:PySem.W.Frag) (E:XE) (e:Expr) (m:DS.EM):Prop where h:SE X e (tOfF K E m)
structure DT (X:Cx) (K:PySem.W.Frag) (E:XE) (e:Expr) (m:DS.TM):Prop where h:ST X e (ttOf K E m)
structure DW (X:Cx) (K:PySem.W.Frag) (E:XE) (e:Expr) (m:DS.TM):Prop where h:SW X e (ttOf K E m)
structure DIf (X:Cx) (K:PySem.W.Frag) (E:XE) (es:List Expr) (m:DS.TM):Prop where h:SIfs X es (ttOf K E m)
structure DA (X:Cx) (K:PySem.W.Frag) (E:XE) (es:List Expr) (m:DS.AM):Prop where
 h:SA X es (aOf K E m)
 len:∀env S ds S',m env S=.ok ds S'->ds.length=es.length
structure DS1 (X:Cx) (K:PySem.W.Frag) (E:XE) (st:Stmt) (m:DS.SM):Prop where h:SS X st (tsOf K E m)
structure DSs (X:Cx) (K:PySem.W.Frag) (E:XE) (st:List Stmt) (m:DS.SM):Prop where h:SSs X st (tsOf K E m)
structure DG (X:Cx) (K:PySem.W.Frag) (e:Expr) (m:DS.GM):Prop where h:SG X e (gOf K m)
structure DGs (X:Cx) (K:PySem.W.Frag) (es:List Expr) (m:List DS.GM):Prop where h:SGs X es (gsOf K (DS.gAll m))
structure DI (X:Cx) (K:PySem.W.Frag) (E:XE) (tg e:Expr) (m:DS.IM):Prop where h:SI X tg e (iOf K E m)
section
variable {X:Cx}{K:PySem.W.Frag}{E:XE}{e a b c:Expr}{es:List Expr}{p pos:Pos}{m ma mb mc:DS.EM}{mt mu:DS.TM}
theorem SE.imp{t t':TE}(h:SE X e t)(k:∀σ H Q,t' σ H Q->t σ H Q):SE X e t':=⟨λpins s σ H Q I q=>h.h pins s σ H Q I (k σ H Q q)⟩
theorem ST.imp{t t':TT}(h:ST X e t)(k:∀σ H Q,t' σ H Q->t σ H Q):ST X e t':=⟨λpins s σ H Q I q=>h.h pins s σ H Q I (k σ H Q q)⟩
theorem SW.imp{t t':TT}(h:SW X e t)(k:∀σ H Q,t' σ H Q->t σ H Q):SW X e t':=⟨λwhole pins s σ H Q I q=>h.h whole pins s σ H Q I (k σ H Q q)⟩
theorem SIfs.imp{t t':TT}(h:SIfs X es t)(k:∀σ H Q,t' σ H Q->t σ H Q):SIfs X es t':=⟨λpins s σ H Q I q=>h.h pins s σ H Q I (k σ H Q q)⟩
theorem SA.imp{t t':TA}(h:SA X es t)(k:∀σ H Q,t' σ H Q->t σ H Q):SA X es t':=⟨λpos pins s σ H Q I q=>h.h pos pins s σ H Q I (k σ H Q q)⟩
theorem SS.imp{st:Stmt}{t t':TS}(h:SS X st t)(k:∀D σ H,t' D σ H->t D σ H):SS X st t':=⟨λpins s σ H D I q=>h.h pins s σ H D I (k D σ H q)⟩
theorem SSs.imp{st:List Stmt}{t t':TS}(h:SSs X st t)(k:∀D σ H,t' D σ H->t D σ H):SSs X st t':=⟨λpins s σ H D I q=>h.h pins s σ H D I (k D σ H q)⟩
theorem SG.imp{t t':TG}(h:SG X e t)(k:∀v σ H Q,t' v σ H Q->t v σ H Q):SG X e t':=⟨λpins s σ H v u Q I r q=>h.h pins s σ H v u Q I r (k v σ H Q q)⟩
theorem SGs.imp{t t':TGs}(h:SGs X es t)(k:∀v σ H Q,t' v σ H Q->t v σ H Q):SGs X es t':=⟨λpins s σ H v u Q I r q=>h.h pins s σ H v u Q I r (k v σ H Q q)⟩
theorem SI.imp{t t':TI}(h:SI X tg e t)(k:∀σ H R,t' σ H R->t σ H R):SI X tg e t':=⟨λpins s σ H R I q=>h.h pins s σ H R I (k σ H R q)⟩
theorem ObD.rep{K:PySem.W.Frag}{J:Js}{S:Store}{H:Hp}{d:D}{o:HO}{p:Addr}(ha:AbS K J S H)(n:H p=none)(r:ObD K J H d o):Rep K J (upd H p o) d (.ref p):=by
 have r2:=r.grow (Grow.push (o:=o) n);have hp:=ha.out n;cases d with
 | lst ds=>obtain⟨xs,rfl,rl⟩:=r2;exact⟨p,xs,rfl,⟨zAm,hp⟩,rl⟩
 | dct _ ks vs=>obtain⟨xs,t,rl⟩:=r2;exact⟨p,o,xs,rfl,hp,.inl zAm,t,rl⟩
 | st _=>obtain⟨C,dx,xs,rfl,rl⟩:=r2;exact .inr (.inr ⟨p,C,dx,xs,rfl,hp,zAm,rl⟩)
 | _=>first|exact False.elim r2|(cases h;done)|(cases e;done)|(cases e1;done)|(cases ed;done)|(cases h;rcases hT with z|z|z <;> exact absurd z (by decide))
theorem yBr(h:DF X K E e m):DE X K E e m:=⟨h.h.imp λσ H Q ⟨env,S,J,ha,he,q⟩=>⟨env,S,J,ha,he,q.map λd S' J' H' _ h1 g k p o n r=>
 k J' (upd H' p o) (h1.push n r.nt) (g.trans (.push n)) (.ref p) (r.rep h1 n)⟩⟩
theorem zZw(h:DF X K E e m):DE X K E e (DS.eNew m):=⟨h.h.imp λσ H Q ⟨env,S,J,ha,he,q⟩=>⟨env,S,J,ha,he,q.bind.map λd S' J' H' _ h1 g k p o n r=>
 k J' H' h1 g (J'++[p]) (upd H' p o) (h1.name n r) (.name n) (.ref p) ⟨p,by rw[<- h1.len,xS (xg _)];simp,rfl⟩⟩⟩
theorem zZs(i:Nat)(hN:X.N[i]?=some x:=by rfl)(hv:Vis X.env.scope x:=by first|exact Or.inl rfl|exact Or.inr (Or.inl rfl)|exact Or.inr (Or.inr rfl))(hd:(x == ("__debug__":Str))=false:=by decide)
  (hcd:(x == ("__classdict__":Str))=false:=by decide):DE X K E (.Name x pos) (DS.eVar i):=⟨(pv' i hN hv hd hcd).imp λσ H Q hq2=>by
 obtain⟨env,S,J,ha,he,q⟩:=hq2;unfold DS.eVar at q;cases e1:env[i]? with
 | none=>rw[e1]at q;exact False.elim q
 | some o=>
  cases o with
  | none=>rw[e1]at q;exact False.elim q
  | some d=>
   rw[e1]at q;obtain⟨v,ev,r⟩:=he.get i d e1;exact⟨v,ev,q J H ha .refl v r⟩⟩
theorem de_c(h:SE X e (tC v))(r:∀J H,Rep K J H d v):DE X K E e (DS.eC d):=⟨h.imp λσ H Q hz9=>by obtain⟨env,S,J,ha,he,q⟩:=hz9;exact q J H ha .refl v (r J H)⟩
theorem zZx{i:Int}:DE X K E (.Constant (.int i) j pos) (DS.eC (.int i)):=de_c zUh λ_ _=>rfl
theorem yBy :DE X K E (.Constant (.bool i) j pos) (DS.eC (.bl i)):=de_c zY5 λ_ _=>rfl
theorem zZu :DE X K E (.Constant (.str i) j pos) (DS.eC (.str i)):=de_c zUd λ_ _=>rfl
theorem yBo(hg:Gl X x)(hm:X.mg x=none)(hv:bootBuiltins x=some u)(r:RelV (.ty T) u)(hn:x≠"__name__":=by decide)(hd:(x == ("__debug__":Str))=false:=by decide):DE X K E (.Name x pos) (DS.eC (.ty T)):=de_c (zQr hg hm hv r hn hd) λ_ _=>rfl
theorem zJm{r:R2}{g:Store->D->D->Option D}(hr:∀x y H Q,r2Of K g x y H Q->r x y H Q):∀σ H Q,tOf K E (DS.eOp g ma mb) σ H Q->tOp r (tOf K E ma) (tOf K E mb) σ H Q:=λσ H Q ⟨env,S,J,ha,he,q⟩=>
 ⟨env,S,J,ha,he,q.bind.imp λd1 S1 J1 H1 _ a1 g1 q1 x rx=>⟨env,S1,J1,a1,he.grow g1,q1.bind.imp λd2 S2 J2 H2 _ a2 g2 q2 y ry=>by
  obtain⟨d,e,k⟩:=q2.lift;exact hr _ _ _ _ ⟨J2,S2,d1,d2,d,a2,Rep.grow g2 _ _ rx,ry,e,λv H' h1 h2 h3=>k J2 H' h1 h2 v h3⟩⟩⟩
theorem yBq{g:Store->D->D->Option D}(ho:OpR X (binaryOp op) (r2Of K g))(ha:DE X K E a ma)(hb:DE X K E b mb):DE X K E (.BinOp a op b pos) (DS.eOp g ma mb):=⟨(zXy ho ha.h hb.h).imp (zJm λ_ _ _ _ h=>h)⟩
theorem zZy{g:Store->D->D->Option D}(ho:OpR X (compareOp op) (r2Of K g))(ha:DE X K E a ma)(hb:DE X K E b mb)(hm:behindInMarks op b=false):DE X K E (.Compare a [op] [b] pos) (DS.eOp g ma mb):=⟨(zQp ho ha.h hb.h hm).imp (zJm λ_ _ _ _ h=>h)⟩
theorem yBu{g:Store->D->D->Option D}(hr:IxR X (r2Of K g))(ha:DE X K E a ma)(hb:DE X K E b mb)(h:nsl b=true:=by rfl):DE X K E (.Subscript a b pos) (DS.eOp g ma mb):=⟨(qix' hr ha.h hb.h h).imp (zJm λ_ _ _ _ h=>h)⟩
theorem yBn{g:Store->D->Option D}(ho:UnR X (unaryOp op) (r1Of K g))(ha:DE X K E a ma):DE X K E (.UnaryOp op a pos) (DS.eUn g ma):=⟨(zXv ho ha.h).imp λσ H Q ⟨env,S,J,h,he,q⟩=>
 ⟨env,S,J,h,he,q.bind.imp λd1 S1 J1 H1 _ a1 g1 q1 x rx=>by
  obtain⟨d,e,k⟩:=q1.lift;exact⟨J1,S1,d1,d,a1,rx,e,λv H' h1 h2 h3=>k J1 H' h1 h2 v h3⟩⟩⟩
theorem yA1:DA X K E [] DS.aNil:=⟨pa_nil'.imp λσ H Q hz0=>by obtain⟨env,S,J,ha,he,q⟩:=hz0;exact q J H ha .refl [] rfl,λ_ _ _ _ e=>by cases e;rfl⟩
theorem zWh(ha:DE X K E e m)(hr:DA X K E es am)(h:nst e=true:=by rfl):DA X K E (e::es) (DS.zA0 m am):=by
 refine⟨(qa' ha.h hr.h h).imp λσ H Q ⟨env,S,J,h,he,q⟩=>⟨env,S,J,h,he,q.bind.imp λd1 S1 J1 H1 _ a1 g1 q1 x rx=>⟨env,S1,J1,a1,he.grow g1,q1.bind.imp λd2 S2 J2 H2 _ a2 g2 q2 ys ry=>
  q2 J2 H2 a2 .refl (x::ys) ⟨x,ys,rfl,Rep.grow g2 _ _ rx,ry⟩⟩⟩,λenv S ds S' e1=>?_⟩
 unfold DS.zA0 at e1;cases e2:m env S with
 | ok d S1=>
  rw[e2,Rs.bind_ok]at e1;cases e3:am env S1 with
  | ok dr S2=>rw[e3,Rs.bind_ok]at e1;cases e1;simp[hr.len _ _ _ _ e3]
  | _=>rw[e3]at e1;cases e1
 | _=>rw[e2]at e1;cases e1
theorem z1000{n:Nat}(h:n<=1000):n<=sizeLine:=xm h (by decide)
theorem zZt(h:DA X K E es am)(hz:es.length<=1000:=by decide):DE X K E (.Tuple es k pos) (DS.eTup am):=⟨(zUc h.h).imp λσ H Q ⟨env,S,J,ha,he,q⟩=>
 ⟨env,S,J,ha,he,q.bind.imp λds S1 J1 H1 e1 a1 g1 q1 xs rx=>⟨by rw[<- rx.length,h.len _ _ _ _ e1];exact z1000 hz,λp n=>
  q1 J1 (upd H1 p (.tup xs)) (a1.push n) (.push n) (.ref p) ⟨p,xs,rfl,⟨zAm,a1.out n⟩,RepL.grow (.push n) _ _ rx⟩⟩⟩⟩
theorem zZr(h:DA X K E es am)(hz:es.length<=1000:=by decide):DF X K E (.List es pos) (DS.eLst am):=⟨(zUg h.h).imp λσ H Q ⟨env,S,J,ha,he,q⟩=>
 ⟨env,S,J,ha,he,q.bind.imp λds S1 J1 H1 e1 a1 g1 q1 xs rx=>⟨by rw[<- rx.length,h.len _ _ _ _ e1];exact z1000 hz,λp n=>
  q1 J1 H1 a1 .refl p (.lst xs) n ⟨xs,rfl,rx⟩⟩⟩⟩
theorem zWe:DF X K E (.Dict [] [] pos) (DS.eDct true):=⟨pe_dnewT'.imp λσ H Q ⟨env,S,J,ha,he,q⟩ p n=>q J H ha .refl p (.dT []) n ⟨[],.inr ⟨rfl,[],rfl,rfl,rfl⟩,rfl⟩⟩
theorem yA5{r:List V->Hp->VK->Prop}{g:Store->List D->Option D}(hr:∀xs H Q,cOf K g xs H Q->r xs H Q):∀σ H Q,tOf K E (DS.eCB g am) σ H Q->tCB r (aOf K E am) σ H Q:=λσ H Q ⟨env,S,J,ha,he,q⟩=>
 ⟨env,S,J,ha,he,q.bind.imp λds S1 J1 H1 _ a1 g1 q1 xs rx=>by
  obtain⟨d,e,k⟩:=q1.lift;exact hr _ _ _ ⟨J1,S1,ds,d,a1,rx,e,λv H' h1 h2 h3=>k J1 H' h1 h2 v h3⟩⟩
theorem zT6{r:List V->Hp->VK->Prop}{g:Store->List D->Option D}(hr:∀xs H Q,cOfF K g xs H Q->r xs H Q):∀σ H Q,tOfF K E (DS.eCB g am) σ H Q->tCB r (aOf K E am) σ H Q:=λσ H Q ⟨env,S,J,ha,he,q⟩=>
 ⟨env,S,J,ha,he,q.bind.imp λds S1 J1 H1 _ a1 g1 q1 xs rx=>by
  obtain⟨d,e,k⟩:=q1.lift;exact hr _ _ _ ⟨J1,S1,ds,d,a1,rx,e,λp o H' h1 h2 h3=>k J1 H' h1 h2 p o h3⟩⟩
theorem yBx{x:Str}{id:String}{am:DS.AM}{g:Store->List D->Option D}(hc:zBa X (.builtin id) (cOf K g))(hg:Gl X x)(hm:X.mg x=none)(hv:bootBuiltins x=some (.builtin id))(ha:DA X K E (e::es) am)(hn:x≠"__name__":=by decide)(hdb:(x == ("__debug__":Str))=false:=by decide)
  (h:(e::es).all nst=true:=by rfl):DE X K E (.Call (.Name x p) (e::es) [] pos) (DS.eCB g am):=⟨(zMr hc hg hm hv ha.h hn hdb h).imp (yA5 λ_ _ _ h=>h)⟩
theorem yBw{g:Store->List D->Option D}(hc:zBa X (.type T) (cOf K g))(hg:Gl X x)(hm:X.mg x=none)(hv:bootBuiltins x=some (.type T))(ha:DA X K E (e::es) am)(hn:x≠"__name__":=by decide)(hdb:(x == ("__debug__":Str))=false:=by decide)
  (h:(e::es).all nst=true:=by rfl):DE X K E (.Call (.Name x p) (e::es) [] pos) (DS.eCB g am):=⟨(zMq hc hg hm hv ha.h hn hdb h).imp (yA5 λ_ _ _ h=>h)⟩
theorem yBl{x:Str}{id:String}{am:DS.AM}{g:Store->List D->Option D}(hc:zBa X (.builtin id) (cOfF K g))(hg:Gl X x)(hm:X.mg x=none)(hv:bootBuiltins x=some (.builtin id))(ha:DA X K E (e::es) am)(hn:x≠"__name__":=by decide)(hdb:(x == ("__debug__":Str))=false:=by decide)
  (h:(e::es).all nst=true:=by rfl):DF X K E (.Call (.Name x p) (e::es) [] pos) (DS.eCB g am):=⟨(zMr hc hg hm hv ha.h hn hdb h).imp (zT6 λ_ _ _ h=>h)⟩
theorem yBk{g:Store->List D->Option D}(hc:zBa X (.type T) (cOfF K g))(hg:Gl X x)(hm:X.mg x=none)(hv:bootBuiltins x=some (.type T))(ha:DA X K E (e::es) am)(hn:x≠"__name__":=by decide)(hdb:(x == ("__debug__":Str))=false:=by decide)
  (h:(e::es).all nst=true:=by rfl):DF X K E (.Call (.Name x p) (e::es) [] pos) (DS.eCB g am):=⟨(zMq hc hg hm hv ha.h hn hdb h).imp (zT6 λ_ _ _ h=>h)⟩
theorem zWg(C:Cal X.prog X.w X.K X.mg X.base x k ps (spOf K E F))(hr:Room k X.A)(hg:Gl X x)(ha:DA X K E (e::es) am)(hdb:(x == ("__debug__":Str))=false:=by decide)
  (h:(e::es).all nst=true:=by rfl):DE X K E (.Call (.Name x p) (e::es) [] pos) (DS.zA3 F am):=⟨(qcal' C hr hg ha.h hdb h).imp λσ H Q ⟨env,S,J,h,he,q⟩=>
 ⟨env,S,J,h,he,q.bind.imp λds S1 J1 H1 _ a1 g1 q1 xs rx=>by
  show spOf K E F (xs++[]) H1 Q E0;rw[vA];exact⟨J1,S1,ds,a1,rx,q1⟩⟩⟩
theorem zX2(ha:AbS K J S H)(r:Rep K J H d v)(hT:T="str"\/T="list"\/T="dict")(h:DS.tyD S d=some T):tyV K T v H:=by
 cases d with
 | str x=>obtain rfl:=r;cases h;exact rfl
 | lst ds=>obtain⟨a,xs,rfl,t,_⟩:=r;cases h;exact .inl ⟨rfl,xs,t.sq⟩
 | klst ds=>obtain⟨a,xs,rfl,t,_⟩:=r;cases h;exact .inl ⟨rfl,xs,t.sq⟩
 | dct _ ks vs=>
  obtain⟨a,o,xs,rfl,_,e,t,_⟩:=r;cases h;refine .inr (.inr (.inl ⟨rfl,?_⟩));rcases t with⟨_,kvs,rfl,_⟩|⟨_,kvs,rfl,_⟩
  ·exact .inl ⟨kvs,e⟩
  ·exact .inr ⟨kvs,e⟩
 | ref n=>
  obtain⟨a,ea,rfl⟩:=r;obtain⟨c,ec,o,eo,rc⟩:=ha.at ea;have el:DS.look S (.ref n)=some c:=ec;unfold DS.tyD at h;rw[el]at h;cases c with
  | lst ds=>cases h;obtain⟨xs,rfl,_⟩:=rc;exact .inl ⟨rfl,xs,.inl (.inl eo)⟩
  | dct _ ks vs=>
   cases h;obtain⟨xs,t,_⟩:=rc;refine .inr (.inr (.inl ⟨rfl,?_⟩));rcases t with⟨_,kvs,rfl,_⟩|⟨_,kvs,rfl,_⟩
   ·exact .inl ⟨kvs,.inl eo⟩
   ·exact .inr ⟨kvs,.inl eo⟩
  | _=>first|exact False.elim rc|(cases h;done)|(cases e;done)|(cases e1;done)|(cases ed;done)|(cases h;rcases hT with z|z|z <;> exact absurd z (by decide))
 | _=>first|(cases h;rcases hT with z|z|z <;> exact absurd z (by decide))|cases h
theorem yB2{r:V->List V->Hp->VK->Prop}{g:Store->D->List D->Option (D × Store)}(hT:T="str"\/T="list"\/T="dict")(hr:∀x xs H Q,mOf K g x xs H Q->r x xs H Q):∀σ H Q,tOf K E (DS.eMt T g ma am) σ H Q->tBM K T r (tOf K E ma) (aOf K E am) σ H Q:=λσ H Q ⟨env,S,J,ha,he,q⟩=>
 ⟨env,S,J,ha,he,q.bind.imp λd1 S1 J1 H1 _ a1 g1 q1 x rx=>by
  by_cases hty:DS.tyD S1 d1=some T
  ·rw[xb hty]at q1;refine⟨zX2 a1 rx hT hty,env,S1,J1,a1,he.grow g1,q1.bind.imp λds S2 J2 H2 _ a2 g2 q2 xs rs=>?_⟩;cases e:g S2 d1 ds with
   | none=>rw[e]at q2;exact False.elim q2
   | some w=>
    rw[e]at q2;exact hr _ _ _ _ ⟨J2,S2,d1,ds,w.1,w.2,a2,Rep.grow g2 _ _ rx,rs,e,λv H' h1 h2 h3=>q2 J2 H' h1 h2 v h3⟩
  ·rw[xc hty]at q1;exact False.elim q1⟩
theorem yBs{T name id:_}{o:Expr}{apos cpos:Pos}{g:Store->D->List D->Option (D × Store)}{mo:DS.EM}{am:DS.AM}(pa:PlainAttrs T)(slot:Slot T name id)(hty:typeOf (.builtin id)=pure (.type "method_descriptor"))(hm:MtR X id (mOf K g))
  (hT:T="str"\/T="list"\/T="dict") (ho:DE X K E o mo) (ha:DA X K E (e::es) am) (h:nba o=true:=by rfl) (hs:(e::es).all nst=true:=by rfl)
  (hlen:decide ((e::es).length+0+0<30)=true:=by rfl) (hline:(apos.endLine == cpos.line)=true:=by rfl) (hK:X.K=K:=by rfl):DE X K E (.Call (.Attribute o name apos) (e::es) [] cpos) (DS.eMt T g mo am):=by
 subst hK;exact⟨(zY4 pa slot hty hm ho.h ha.h h hs hlen hline).imp (yB2 hT λ_ _ _ _ h=>h)⟩
noncomputable def poOf (K:PySem.W.Frag) (E:XE) (m:DS.Env->Store->Rs (Option Int)):TO:=λσ H Q=>∃env S J,AbS K J S H/\RepE K J H env σ/\Post K E J H (m env S) (λoi _ _ H'=>Q oi H')
structure DO (X:Cx) (K:PySem.W.Frag) (E:XE) (e:Option Expr) (m:DS.Env->Store->Rs (Option Int)):Prop where h:SO X e (poOf K E m)
theorem SO.imp{t t':TO}(h:SO X o t)(k:∀σ H Q,t' σ H Q->t σ H Q):SO X o t':=⟨λpins s σ H Q I q=>h.h pins s σ H Q I (k σ H Q q)⟩
theorem yBh:DO X K E none DS.pNo:=⟨po_none'.imp λσ H Q hz1=>by obtain⟨env,S,J,ha,he,q⟩:=hz1;exact q J H ha .refl⟩
theorem zZn(h:DE X K E e m):DO X K E (some e) (DS.pYes m):=⟨(zQc h.h).imp λσ H Q ⟨env,S,J,ha,he,q⟩=>⟨env,S,J,ha,he,q.bind.imp λd S1 J1 H1 _ a1 g1 q1 x rx=>by
 obtain⟨oi,e,k⟩:=q1.lift;cases d with
 | int i=>cases e;obtain rfl:=rx;exact⟨i,rfl,k J1 H1 a1 .refl⟩
 | _=>cases e⟩⟩
def slOf(K:PySem.W.Frag)(g:Store->D->Option Int->Option Int->Option D):V->Option Int->Option Int->Hp->VK->Prop:=λx lo hi H Q=>∃J S d1 d,AbS K J S H/\Rep K J H d1 x/\g S d1 lo hi=some d/\∀v H',AbS K J S H'->Grow J H J H'->Rep K J H' d v->Q v H'
theorem yBp{g:Store->D->Option Int->Option Int->Option D}{lo hi:Option Expr}{ml mh:DS.Env->Store->Rs (Option Int)}{p2:Pos}(hr:SlR X (slOf K g))(he:DE X K E e m)(hl:DO X K E lo ml)(hu:DO X K E hi mh):DE X K E (.Subscript e (.Slice lo hi none p2) pos) (DS.eSl g m ml mh):=
 ⟨(zN1 hr he.h hl.h hu.h).imp λσ H Q ⟨env,S,J,ha,he,q⟩=>⟨env,S,J,ha,he,q.bind.imp λd S1 J1 H1 _ a1 g1 q1 x rx=>⟨env,S1,J1,a1,he.grow g1,q1.bind.imp λl S2 J2 H2 _ a2 g2 q2=>
  ⟨env,S2,J2,a2,he.grow (g1.trans g2),q2.bind.imp λh S3 J3 H3 _ a3 g3 q3=>by
   obtain⟨r,er,k⟩:=q3.lift;exact⟨J3,S3,d,r,a3,Rep.grow (g2.trans g3) _ _ rx,er,λv H' h1 h2 h3=>k J3 H' h1 h2 v h3⟩⟩⟩⟩⟩
theorem zT8(e:DS.asB d=some k)(r:Rep K J H d x):x=.bl k:=by
 cases d with
 | bl i=>cases e;exact r
 | _=>cases e
theorem yAh:∀σ H Q,ttOf K E (DS.tB m) σ H Q->tOf K E m σ H (λx H'=>∃k,x=.bl k/\Q k H'):=λσ H Q ⟨env,S,J,ha,he,q⟩=>⟨env,S,J,ha,he,q.bind.imp λd S1 J1 H1 _ a1 g1 q1 x rx=>by
 obtain⟨k,e,z⟩:=q1.lift;exact⟨k,zT8 e rx,z J1 H1 a1 .refl⟩⟩
theorem zZm{g:Store->D->D->Option D}(ho:OpR X (compareOp op) (r2Of K g))(ha:DE X K E a ma)(hb:DE X K E b mb)(hm:behindInMarks op b=false):DT X K E (.Compare a [op] [b] pos) (DS.tB (DS.eOp g ma mb)):=
 ⟨(zQ8 ho ha.h hb.h hm).imp λσ H Q h=>zJm (λ_ _ _ _ h=>h) σ H _ (yAh σ H Q h)⟩
theorem zZl(ha:DT X K E a mt):DT X K E (.UnaryOp .Not a pos) (DS.tNot mt):=⟨(zU0 ha.h).imp λσ H Q hz2=>by obtain⟨env,S,J,ha,he,q⟩:=hz2;exact ⟨env,S,J,ha,he,q.bind.imp λk S1 J1 H1 _ a1 g1 q1=>q1 J1 H1 a1 .refl⟩⟩
theorem zVy(ha:DT X K E a mt):DW X K E (.BoolOp .And [a] pos) mt:=⟨zQ6 ha.h⟩
theorem zZc(ha:DT X K E a mt):DW X K E (.BoolOp .Or [a] pos) mt:=⟨zTw ha.h⟩
theorem zZd(ha:DT X K E a mt)(hb:DW X K E (.BoolOp .And (b::es) pos) mu):DW X K E (.BoolOp .And (a::b::es) pos) (DS.tAnd mt mu):=⟨(zTy ha.h hb.h).imp λσ H Q ⟨env,S,J,ha,he,q⟩=>⟨env,S,J,ha,he,q.bind.imp λk S1 J1 H1 _ a1 g1 q1=>by
 cases k with
 | true=>exact⟨env,S1,J1,a1,he.grow g1,q1⟩
 | false=>exact q1 J1 H1 a1 .refl⟩⟩
theorem yBa(ha:DT X K E a mt)(hb:DW X K E (.BoolOp .Or (b::es) pos) mu):DW X K E (.BoolOp .Or (a::b::es) pos) (DS.tOr mt mu):=⟨(zXh ha.h hb.h).imp λσ H Q ⟨env,S,J,ha,he,q⟩=>⟨env,S,J,ha,he,q.bind.imp λk S1 J1 H1 _ a1 g1 q1=>by
 cases k with
 | true=>exact q1 J1 H1 a1 .refl
 | false=>exact⟨env,S1,J1,a1,he.grow g1,q1⟩⟩⟩
theorem dt_w(h:DW X K E e mt):DT X K E e mt:=⟨zXf h.h⟩
theorem yA0(ha:DE X K E a ma)(hb:DE X K E (.BoolOp .And (b::es) pos) mb):DE X K E (.BoolOp .And (a::b::es) pos) (DS.eAnd ma mb):=⟨(zUm ha.h hb.h).imp λσ H Q ⟨env,S,J,ha,he,q⟩=>⟨env,S,J,ha,he,q.bind.imp λd S1 J1 H1 _ a1 g1 q1 x rx=>by
 obtain⟨k,e,z⟩:=q1.bind.lift;have z:=z J1 H1 a1 .refl;refine⟨k,zT8 e rx,?_⟩;cases k with
 | true=>exact⟨env,S1,J1,a1,he.grow g1,z⟩
 | false=>exact z J1 H1 a1 .refl _ rfl⟩⟩
theorem zZv(ha:DE X K E a ma):DE X K E (.BoolOp op [a] pos) ma:=⟨zUe ha.h⟩
theorem yBv(hc:DT X K E c mt)(ha:DE X K E a ma)(hb:DE X K E b mb):DE X K E (.IfExp c a b pos) (DS.eIf mt ma mb):=⟨(zN2 hc.h ha.h hb.h).imp λσ H Q ⟨env,S,J,ha,he,q⟩=>⟨env,S,J,ha,he,q.bind.imp λk S1 J1 H1 _ a1 g1 q1=>by
 cases k with
 | true=>exact⟨env,S1,J1,a1,he.grow g1,q1⟩
 | false=>exact⟨env,S1,J1,a1,he.grow g1,q1⟩⟩⟩
theorem zWb:DIf X K E [] DS.tYes:=⟨pifs_nil'.imp λσ H Q hz3=>by obtain⟨env,S,J,ha,he,q⟩:=hz3;exact q J H ha .refl⟩
theorem zWa(h:DT X K E c mt):DIf X K E [c] mt:=⟨zMx h.h⟩
theorem zBn{J:Js}{H:Hp}{ds:List D}{xs:List V}(r:RepL K J H ds xs):decide (ds≠[])=!xs.isEmpty:=by
 cases ds with
 | nil=>cases r;simp
 | cons d ds=>obtain⟨x,t,rfl,_⟩:=r;simp
theorem zTg(ha:AbS K J S H)(r:Rep K J H d v)(h:DS.truth S d=some k):TruV K v H k:=by
 cases d with
 | non=>obtain rfl:=r;cases h;exact rfl
 | bl b=>obtain rfl:=r;cases h;exact rfl
 | int i=>
  obtain rfl:=r;have h:=xA h;subst h;show decide (i≠0)=(i != 0);by_cases z:i=0 <;> simp[z]
 | str x=>
  obtain rfl:=r;have h:(if x.length<=DS.most then some (decide (x.length≠0))else none)=some k:=h;by_cases z:x.length<=DS.most
  ·rw[xb z]at h;have h:=xA h;subst h;refine⟨z,?_⟩;by_cases z:x.length=0 <;> simp[z]
  ·rw[xc z]at h;cases h
 | tup ds=>obtain⟨a,xs,rfl,t,rl⟩:=r;cases h;exact .inr (.inl ⟨xs,t.sq,zBn rl⟩)
 | ktup ds=>obtain⟨a,xs,rfl,t,rl⟩:=r;cases h;exact .inr (.inl ⟨xs,t.sq,zBn rl⟩)
 | klst ds=>obtain⟨a,xs,rfl,t,rl⟩:=r;cases h;exact .inl ⟨xs,t.sq,zBn rl⟩
 | lst ds=>obtain⟨a,xs,rfl,t,rl⟩:=r;cases h;exact .inl ⟨xs,t.sq,zBn rl⟩
 | ref n=>
  obtain⟨a,ea,rfl⟩:=r;obtain⟨c,ec,o,eo,rc⟩:=ha.at ea;have el:DS.look S (.ref n)=some c:=ec;unfold DS.truth at h;rw[el]at h;cases c with
  | lst ds=>cases h;obtain⟨xs,rfl,rl⟩:=rc;exact .inl ⟨xs,.inl (.inl eo),zBn rl⟩
  | dct _ ks vs=>cases h
  | _=>first|exact False.elim rc|(cases h;done)|(cases e;done)|(cases e1;done)|(cases ed;done)|(cases h;rcases hT with z|z|z <;> exact absurd z (by decide))
 | _=>cases h
theorem zZk(ha:DE X K E e m)(h:ntt e=true:=by rfl)(hK:X.K=K:=by rfl):DT X K E e (DS.tTru m):=by
 subst hK;exact⟨(qtruth' ha.h h).imp λσ H Q ⟨env,S,J,ha,he,q⟩=>⟨env,S,J,ha,he,q.bind.imp λd S1 J1 H1 _ a1 g1 q1 x rx=>by
  obtain⟨k,e,z⟩:=q1.lift;exact⟨k,zTg a1 rx e,z J1 H1 a1 .refl⟩⟩⟩
theorem RepE.set{env:DS.Env}{σ:St}{i:Nat}(h:RepE K J H env σ)(r:Rep K J H d v):RepE K J H (env.set i (some d)) (σ.set i (some v)):=by
 refine⟨by simp[h.len],λj d' e=>?_⟩;by_cases hj:i=j
 ·subst hj;have hi:i<env.length:=by
   have:=(xG.mp e).1;simpa using this
  rw[vG hi]at e;cases e;exact⟨v,vG (by rw[<- h.len];exact hi),r⟩
 ·rw[ve hj]at e;rw[ve hj];exact h.get j d' e
theorem zWd(hN:X.N.Nodup)(hi:X.N[j]?=some x)(hx:Loc X.env.scope x)(hf:X.fn x=true\/X.env.scope.names.lookup x=some .local:=by first|exact .inl rfl|exact .inr rfl|assumption):DG X K (.Name x pos) (DS.gName j):=
 ⟨(zQj hN hi hx hf).imp λv σ H Q hq3=>by
  obtain⟨env,S,J,d,env',ha,he,r,e,k⟩:=hq3;cases e;exact k _ (he.set r)⟩
theorem zWc:DGs X K [] []:=⟨pgs_nil'.imp λv σ H Q hq4=>by
 obtain⟨env,S,J,ds,env',ha,he,r,e,k⟩:=hq4;cases ds with
 | nil=>cases e;cases r;exact⟨rfl,k _ he⟩
 | cons d ds=>cases e⟩
theorem zRr(h1:DG X K tg g)(h2:DGs X K ts gs)(h:nst tg=true:=by rfl):DGs X K (tg::ts) (g::gs):=⟨(qgs' h1.h h2.h h).imp λv σ H Q hq5=>by
 obtain⟨env,S,J,ds,env',ha,he,r,e,k⟩:=hq5;cases ds with
 | nil=>cases e
 | cons d ds=>
  obtain⟨x,xs,rfl,rx,rl⟩:=r;unfold DS.gAll at e;cases e1:g S d env with
  | none=>rw[e1]at e;cases e
  | some env1=>
   rw[e1]at e;exact⟨x,xs,rfl,env,S,J,d,env1,ha,he,rx,e1,λσ' he'=>⟨env1,S,J,ds,env',ha,he',rl,e,k⟩⟩⟩
theorem zD3:∀{gs:List DS.GM}{S:Store}{ds:List D}{env env':DS.Env},DS.gAll gs S ds env=some env'->ds.length=gs.length
 | [],_,[],_,_,_=>rfl
 | [],_,_::_,_,_,e=>by cases e
 | _::_,_,[],_,_,e=>by cases e
 | g::gs,S,d::ds,env,env',e=>by
  unfold DS.gAll at e;cases e1:g S d env with
  | none=>rw[e1]at e;cases e
  | some env1=>rw[e1]at e;simp[zD3 e]
theorem SG.or{t u:TG}(h:SG X e t)(h':SG X e u):SG X e (λv σ H Q=>t v σ H Q\/u v σ H Q):=⟨λpins s σ H v w Q I r q=>by
 rcases q with q|q
 ·exact h.h pins s σ H v w Q I r q
 ·exact h'.h pins s σ H v w Q I r q⟩
theorem zZq{ts:List Expr}{gs:List DS.GM}(hc:X.calm=true)(h:DGs X K ts gs)(hn:ts.length=gs.length:=by rfl)(h1:ts.all nst=true:=by rfl)(hK:X.K=K:=by rfl):DG X K (.Tuple ts k pos) (DS.gTup gs):=by
 subst hK;refine⟨((qtup' hc h.h hn h1).or (qunl' hc h.h hn h1)).imp λv σ H Q hq1=>?_⟩;obtain⟨env,S,J,d,env',ha,he,r,e,k⟩:=hq1;unfold DS.gTup DS.items DS.look at e;cases d with
 | tup ds=>obtain⟨a,xs,rfl,t,rl⟩:=r;exact .inl ⟨a,xs,rfl,t.sq,by rw[<- rl.length];exact zD3 e,env,S,J,ds,env',ha,he,rl,e,k⟩
 | klst ds=>obtain⟨a,xs,rfl,t,rl⟩:=r;exact .inr ⟨a,xs,rfl,t.sq,by rw[<- rl.length];exact zD3 e,env,S,J,ds,env',ha,he,rl,e,k⟩
 | ktup ds=>obtain⟨a,xs,rfl,t,rl⟩:=r;exact .inl ⟨a,xs,rfl,t.sq,by rw[<- rl.length];exact zD3 e,env,S,J,ds,env',ha,he,rl,e,k⟩
 | lst ds=>obtain⟨a,xs,rfl,t,rl⟩:=r;exact .inr ⟨a,xs,rfl,t.sq,by rw[<- rl.length];exact zD3 e,env,S,J,ds,env',ha,he,rl,e,k⟩
 | ref n=>
  obtain⟨a,ea,rfl⟩:=r;obtain⟨c,ec,o,eo,rc⟩:=ha.at ea;simp only[ec]at e;cases c with
  | lst ds=>obtain⟨xs,rfl,rl⟩:=rc;exact .inr ⟨a,xs,rfl,.inl (.inl eo),by rw[<- rl.length];exact zD3 e,env,S,J,ds,env',ha,he,rl,e,k⟩
  | dct _ ks vs=>cases e
  | _=>first|exact False.elim rc|(cases h;done)|(cases e;done)|(cases e1;done)|(cases ed;done)|(cases h;rcases hT with z|z|z <;> exact absurd z (by decide))
 | _=>cases e
variable {st:Stmt}{sts:List Stmt}{ms mu' mv:DS.SM}
theorem zOj:DS1 X K E (.Break pos) DS.zMm:=⟨ps_break'.imp λD σ H hz4=>by obtain⟨env,S,J,ha,he,q⟩:=hz4;exact q J H σ ha .refl he⟩
theorem zW8:DSs X K E [] DS.zAl:=⟨pss_nil'.imp λD σ H hz5=>by obtain⟨env,S,J,ha,he,q⟩:=hz5;exact q J H σ ha .refl he⟩
theorem zFe(h:DS1 X K E st ms):DSs X K E [st] ms:=⟨zQ9 h.h⟩
theorem zKd(h:DS1 X K E st ms)(k:DSs X K E sts mv):DSs X K E (st::sts) (DS.sSeq ms mv):=⟨(zMu h.h k.h).imp λD σ H ⟨env,S,J,ha,he,q⟩=>⟨env,S,J,ha,he,by
 unfold DS.sSeq at q;cases e:ms env S with
 | nx e1 S1=>rw[e]at q;exact λJ' H' σ' h1 g1 h2=>⟨e1,S1,J',h1,h2,PostS.grow g1 q⟩
 | _=>rw[e]at q;exact q⟩⟩
theorem zW4{j:Nat}{x:Str}{pos':Pos}(hN:X.N.Nodup)(hi:X.N[j]?=some x)(hx:Loc X.env.scope x)(he:DE X K E e m)(hf:X.fn x=true\/X.env.scope.names.lookup x=some .local:=by first|exact .inl rfl|exact .inr rfl|assumption)(h:nco e=true:=by rfl):
  DS1 X K E (.Assign [.Name x pos'] e pos) (DS.sSet j m):=⟨(qset' hN hi hx he.h hf h).imp λD σ H hz6=>by obtain⟨env,S,J,ha,he,q⟩:=hz6;exact ⟨env,S,J,ha,he,q.then.imp λd S1 J1 H1 _ a1 g1 q1 v rv=>q1 J1 H1 _ a1 .refl ((he.grow g1).set rv)⟩⟩
theorem zS5 :∀D σ H,tsOf K E (DS.sUnp g m) D σ H->tAsg (tOf K E m) (gOf K g) D σ H:=λD σ H ⟨env,S,J,ha,he,q⟩=>⟨env,S,J,ha,he,q.then.imp λd S1 J1 H1 _ a1 g1 q1 v rv=>by
 cases e1:g S1 d env with
 | none=>rw[e1]at q1;exact False.elim q1
 | some env'=>rw[e1]at q1;exact⟨env,S1,J1,d,env',a1,he.grow g1,rv,e1,λσ' he'=>q1 J1 H1 σ' a1 .refl he'⟩⟩
theorem zW3(he:DE X K E e m)(hg:DG X K (.Tuple ts k tp) g)(h1:ntu e=true:=by rfl):DS1 X K E (.Assign [.Tuple ts k tp] e pos) (DS.sUnp g m):=⟨(qasgt' he.h hg.h h1).imp zS5⟩
theorem zRm(he:DE X K E e m)(hg:DG X K (.Tuple ts k tp) g)(hw:swappedStores [.Tuple ts k tp] e X.env=pure none:=by rfl):DS1 X K E (.Assign [.Tuple ts k tp] e pos) (DS.sUnp g m):=⟨(qasgn' he.h hg.h hw).imp zS5⟩
theorem zRp(he:DE X K E e m)(h:nco e=true:=by rfl):DS1 X K E (.Expr e pos) (DS.zD9 m):=⟨(qexpr' he.h h).imp λD σ H hz7=>by obtain⟨env,S,J,ha,he,q⟩:=hz7;exact ⟨env,S,J,ha,he,q.then.imp λd S1 J1 H1 _ a1 g1 q1 v rv=>q1 J1 H1 σ a1 .refl (he.grow g1)⟩⟩
theorem zOi(he:DE X K E e m):DS1 X K E (.Return (some e) pos) (DS.sRet m):=⟨(zU5 he.h).imp λD σ H hz8=>by obtain⟨env,S,J,ha,he,q⟩:=hz8;exact ⟨env,S,J,ha,he,q.then.imp λd S1 J1 H1 _ a1 g1 q1 v rv=>q1 J1 H1 v a1 .refl rv⟩⟩
theorem zT0{ba bb:List Stmt}(hc:DT X K E c mt)(ha:DSs X K E ba ms)(hb:DSs X K E bb mv):DS1 X K E (.If c ba bb pos) (DS.sIf mt ms mv):=⟨(zXn hc.h ha.h hb.h).imp λD σ H ⟨env,S,J,ha,he,q⟩=>⟨env,S,J,ha,he,q.then.imp λk S1 J1 H1 _ a1 g1 q1=>by
 cases k with
 | true=>exact⟨env,S1,J1,a1,he.grow g1,q1⟩
 | false=>exact⟨env,S1,J1,a1,he.grow g1,q1⟩⟩⟩
theorem zRo{x y:Str}{px py pt pt2:Pos}{kt k2 i j:Nat}{am:DS.AM}(hc:X.calm=true)(hN:X.N.Nodup)(hi:X.N[i]?=some x)(hj:X.N[j]?=some y)(hij:i≠j)
  (hx:X.env.scope.names.lookup x=some .local) (hy:X.env.scope.names.lookup y=some .local) (ha:DA X K E [a,b] am)
  (hw:swappedStores [.Tuple [.Name x px,.Name y py] kt pt] (.Tuple [a,b] k2 pt2) X.env=pure (some [x,y])):
  DS1 X K E (.Assign [.Tuple [.Name x px,.Name y py] kt pt] (.Tuple [a,b] k2 pt2) pos) (DS.sPar [i,j] am):=⟨(qpar' hc hN hi hj hij hx hy ha.h hw).imp λD σ H ⟨env,S,J,h,he,q⟩=>⟨env,S,J,h,he,q.then.imp λds S1 J1 H1 e1 a1 g1 q1 vs rv=>by
 have hl:=ha.len _ _ _ _ e1
 match ds,hl with
 | [d1,d2],_=>
  obtain⟨v1,r1,rfl,rv1,v2,r2,rfl,rv2,rfl⟩:=rv;exact⟨v1,v2,rfl,q1 J1 H1 _ a1 .refl (((he.grow g1).set rv1).set rv2)⟩⟩⟩
theorem zKe{α:Type}{l:List α}{i:Nat}(h:i<l.length):l.drop i=l[i]::l.drop (i+1):=List.drop_eq_getElem_cons h
theorem zW6{tg iter:Expr}{body:List Stmt}{im:DS.IM}{g:DS.GM}(hp:PassesOwn (model X.prog X.w) X.A X.env X.xe)(hc:X.calm=true)(hi:DI X K E tg iter im)(hg:DG X K tg g)(hb:DSs X K E body ms)(h:nse iter=true:=by rfl):
  DS1 X K E (.For tg iter body [] pos) (DS.sFor im g ms):=⟨(qfor' hp hc hi.h hg.h hb.h h).imp λD σ H ⟨env,S,J,ha,he,q⟩=>⟨env,S,J,ha,he,q.then.imp λw S1 J1 H1 _ a1 g1 q1 I ok=>by
 refine⟨λi m σ H=>m+i=w.its.length/\∃env S J,AbS K J S H/\Grow J1 H1 J H/\RepE K J H env σ/\PostS K E J H (DS.forL w.gd g ms (w.its.drop i) env S) D,⟨w.its.length,rfl,env,S1,J1,a1,.refl,he.grow g1,q1⟩,?_⟩;rintro i m σ H ⟨hm,env,S,J,ha,gr,he,q⟩;by_cases hi:i<w.its.length
 ·rw[zKe hi]at q;unfold DS.forL at q;by_cases gd:DS.gOk S w.gd
  ·rw[xb gd]at q;refine .inr ⟨ok.go i H J S ha gr gd hi,λσ H=>(m-1)+(i+1)=w.its.length/\∃env S J,AbS K J S H/\Grow J1 H1 J H/\RepE K J H env σ/\PostS K E J H (DS.forL w.gd g ms (w.its.drop (i+1)) env S) D,λσ' H' wq=>⟨m-1,by nofun,wq⟩,λx H' y=>?_⟩;obtain⟨a2,g2,rx⟩:=ok.yld i H J S x H' ha gr gd y _ (xu hi);cases eg:g S w.its[i] env with
   | none=>rw[eg]at q;exact False.elim q
   | some env'=>
    rw[eg]at q;refine⟨env,S,J,w.its[i],env',a2,he.grow g2,rx,eg,λσ2 he2=>⟨env',S,J,a2,he2,?_⟩⟩;simp only at q;cases e:ms env' S with
    | nx e1 S2=>rw[e]at q;exact λJ' H' σ' h1 g3 h2=>⟨by nofun,e1,S2,J',h1,gr.trans (g2.trans g3),h2,PostS.grow (g2.trans g3) q⟩
    | ct e1 S2=>rw[e]at q;exact λJ' H' σ' h1 g3 h2=>⟨by nofun,e1,S2,J',h1,gr.trans (g2.trans g3),h2,PostS.grow (g2.trans g3) q⟩
    | bk e1 S2=>rw[e]at q;exact λJ' H' σ' h1 g3 h2=>q J' H' σ' h1 (g2.trans g3) h2
    | rt e1 S2=>rw[e]at q;exact λJ' H' σ' h1 g3 h2=>q J' H' σ' h1 (g2.trans g3) h2
    | ex e1 S2=>rw[e]at q;exact λJ' H' h1 g3=>q J' H' h1 (g2.trans g3)
    | bad=>rw[e]at q;exact q
  ·rw[xc gd]at q;exact False.elim q
 ·have e0:w.its.drop i=[]:=List.drop_eq_nil_of_le (by nofun);rw[e0]at q;unfold DS.forL at q;by_cases gd:DS.gOk S w.gd
  ·rw[xb gd]at q;exact .inl ⟨ok.stop i H J S ha gr gd (by nofun),q J H σ ha .refl he⟩
  ·rw[xc gd]at q;exact False.elim q⟩⟩
theorem zLk{own:List Str}{ix:List Nat}(he:RepE K J H env σ):RepE K J H (DS.compEnv own.length ix env) (zDa own ix σ):=by
 refine⟨by simp[DS.compEnv,zDa],λi d e=>?_⟩;unfold DS.compEnv at e;unfold zDa;by_cases hi:i<own.length
 ·rw[xT (by simpa using hi),List.getElem?_replicate,xb hi]at e;cases e
 ·rw[xS (by simpa using hi),vp]at e;rw[xS (by simpa using hi),vp];simp only[List.length_replicate,xn]at e ⊢;cases ej:ix[i-own.length]? with
  | none=>rw[ej]at e;cases e
  | some j=>
   rw[ej]at e;simp only[ue,Option.some.injEq]at e ⊢;cases en:env[j]? with
   | none=>rw[en]at e;cases e
   | some o=>
    rw[en]at e;obtain⟨v,ev,r⟩:=he.get j d (by rw[en];exact congrArg some e);exact⟨v,by rw[ev];rfl,r⟩
theorem zGw{own:List Str}{ix:List Nat}:∀σ H Q,tOfF K E (DS.zB2 own.length ix im g mt m) σ H Q->zIi own ix (iOf K E im) (gOf K g) (ttOf K E mt) (tOf K E m) σ H Q:=by
 refine λσ H Q ⟨env,St,J,ha,hE,q⟩=>⟨env,St,J,ha,hE,q.bind.imp λw S1 J1 H1 _ a1 g1 q1 I ok=>?_⟩
 refine⟨λi k ys σ H=>k+i=w.its.length/\∃env S J ds,AbS K J S H/\Grow J1 H1 J H/\RepE K J H env σ/\RepL K J H ds ys/\Post K E J H (DS.zBq w.gd g mt m ys.length (w.its.drop i) env S) (λvs S2 J2 H2=>∀p o,H2 p=none->ObD K J2 H2 (.lst (ds++vs)) o->Q (.ref p) (upd H2 p o)),
  ⟨w.its.length,rfl,_,S1,J1,[],a1,.refl,zLk (hE.grow g1),rfl,q1.bind.imp λvs S2 J2 H2 _ a2 g2 q2=>q2 J2 H2 a2 .refl⟩,?_⟩
 rintro i k ys σ H ⟨hk,env,S,J,ds,ha,gr,hE,rl,q⟩;by_cases hi:i<w.its.length
 ·rw[zKe hi]at q;unfold DS.zBq at q;by_cases gd:DS.gOk S w.gd/\ys.length<DS.most
  ·rw[xb gd]at q;refine .inr ⟨ok.go i H J S ha gr gd.1 hi,gd.2,λys σ H=>(k-1)+(i+1)=w.its.length/\∃env S J ds,AbS K J S H/\Grow J1 H1 J H/\RepE K J H env σ/\RepL K J H ds ys/\Post K E J H (DS.zBq w.gd g mt m ys.length (w.its.drop (i+1)) env S) (λvs S2 J2 H2=>∀p o,H2 p=none->ObD K J2 H2 (.lst (ds++vs)) o->Q (.ref p) (upd H2 p o)),
    λzs σ' H' wq=>⟨k-1,by nofun,wq⟩,λx H' y=>?_⟩
   obtain⟨a2,g2,rx⟩:=ok.yld i H J S x H' ha gr gd.1 y _ (xu hi);cases eg:g S w.its[i] env with
   | none=>rw[eg]at q;exact False.elim q
   | some env'=>
    rw[eg]at q;refine⟨env,S,J,w.its[i],env',a2,hE.grow g2,rx,eg,λσ2 he2=>⟨env',S,J,a2,he2,(Post.grow g2 q).bind.imp λb S3 J3 H3 _ a3 g3 q3=>?_⟩⟩;cases b with
    | false=>exact⟨by nofun,env',S3,J3,ds,a3,gr.trans (g2.trans g3),he2.grow g3,RepL.grow (g2.trans g3) _ _ rl,q3⟩
    | true=>
     rw[xb rfl]at q3 ⊢;refine⟨env',S3,J3,a3,he2.grow g3,q3.bind.imp λd4 S4 J4 H4 _ a4 g4 q4 v rv=>?_⟩;have g24:=g2.trans (g3.trans g4);refine⟨by nofun,env',S4,J4,ds++[d4],a4,gr.trans g24,he2.grow (g3.trans g4),(RepL.grow g24 _ _ rl).snoc rv,?_⟩;rw[show(ys++[v]).length=ys.length+1 by simp];refine q4.bind.imp λvs S5 J5 H5 _ a5 g5 q5=>?_
     have:=q5 J5 H5 a5 .refl;rw[List.append_assoc];exact this
  ·rw[xc gd]at q;exact False.elim q
 ·have e0:w.its.drop i=[]:=List.drop_eq_nil_of_le (by nofun);rw[e0]at q;unfold DS.zBq at q;by_cases gd:DS.gOk S w.gd
  ·rw[xb gd]at q;have q2:∀(p:Addr) (o:HO),H p=none->ObD K J H (.lst (ds++[])) o->Q (.ref p) (upd H p o):=q J H ha .refl
   rw[vA]at q2;exact .inl ⟨ok.stop i H J S ha gr gd (by nofun),λp n=>q2 p (.lst ys) n ⟨ys,rfl,rl⟩⟩
  ·rw[xc gd]at q;exact False.elim q
theorem of_imp:∀σ H Q,tOf K E m σ H Q->tOfF K E m σ H Q:=λσ H Q hz9=>by obtain⟨env,S,J,ha,he,q⟩:=hz9;exact ⟨env,S,J,ha,he,q.map λd S' J' H' _ h1 g k p o n r=>k J' (upd H' p o) (h1.push n r.nt) (g.trans (.push n)) (.ref p) (r.rep h1 n)⟩
theorem zV3:∀σ H Q,tOf K E (DS.eNew m) σ H Q->tOfF K E m σ H Q:=λσ H Q ⟨env,S,J,ha,he,q⟩=>⟨env,S,J,ha,he,q.bind.map λd S' J' H' _ h1 g k p o n r=>
 k J' H' h1 g (J'++[p]) (upd H' p o) (h1.name n r) (.name n) (.ref p) ⟨p,by rw[<- h1.len,xS (xg _)];simp,rfl⟩⟩
theorem zMf :∀D σ H,tsOf K E (DS.sSet j m) D σ H->tOf K E m σ H (λx H1=>gName j x σ H1 D.nx):=λD σ H hz0=>by obtain⟨env,S,J,ha,he,q⟩:=hz0;exact ⟨env,S,J,ha,he,q.then.imp λd S1 J1 H1 _ a1 g1 q1 v rv=>q1 J1 H1 _ a1 .refl ((he.grow g1).set rv)⟩
theorem zWf{ix:List Nat}{n:Nat}{elt:Expr}{ifs:List Expr}{g:DS.GM}(hc:X.calm=true)(S:CompScope X own fre ix scope)(hi:DI X K E tg iter im)
  (hg:∀cl C s H fp,DG (zA9 X (own++fre) scope cl C s H fp) K tg g) (ht:∀cl C s H fp,DIf (zA9 X (own++fre) scope cl C s H fp) K E ifs mt) (he:∀cl C s H fp,DE (zA9 X (own++fre) scope cl C s H fp) K E elt m)
  (hn:own.length=n:=by rfl) (h:nse iter=true:=by rfl):DF X K E (.ListComp elt [⟨tg,iter,ifs,0⟩] scope pos) (DS.zB2 n ix im g mt m):=by
 subst hn;exact⟨(qlcomp' hc S hi.h (λ_ _ _ _ _=>(hg _ _ _ _ _).h) (λ_ _ _ _ _=>(ht _ _ _ _ _).h) (λ_ _ _ _ _=>(he _ _ _ _ _).h) h).imp zGw⟩
theorem zRn{own fre:List Str}{ix:List Nat}{n:Nat}{scope:Scope}{j:Nat}{cpos pos':Pos}{tg elt iter:Expr}{ifs:List Expr}{im:DS.IM}{g:DS.GM}(hN:X.N.Nodup)(hix:X.N[j]?=some x)(hx:Loc X.env.scope x)
  (hc:X.calm=true) (S:CompScope X own fre ix scope) (hi:DI X K E tg iter im)
  (hg:∀cl C s H fp,DG (zA9 X (own++fre) scope cl C s H fp) K tg g) (ht:∀cl C s H fp,DIf (zA9 X (own++fre) scope cl C s H fp) K E ifs mt) (he:∀cl C s H fp,DE (zA9 X (own++fre) scope cl C s H fp) K E elt m)
  (hsw:swapsWith (.ListComp elt [⟨tg,iter,ifs,0⟩] scope cpos) (some (.Name x pos')) pos.line X.env=pure true:=by rfl) (h:nse iter=true:=by rfl) (hf:X.fn x=true\/X.env.scope.names.lookup x=some .local:=by first|exact .inl rfl|exact .inr rfl|assumption) (hn:own.length=n:=by rfl):
  DS1 X K E (.Assign [.Name x pos'] (.ListComp elt [⟨tg,iter,ifs,0⟩] scope cpos) pos) (DS.sSet j (DS.zB2 n ix im g mt m)):=by
 subst hn;exact⟨(qsetc' hN hix hx hc S hi.h (λ_ _ _ _ _=>(hg _ _ _ _ _).h) (λ_ _ _ _ _=>(ht _ _ _ _ _).h) (λ_ _ _ _ _=>(he _ _ _ _ _).h) hsw h hf).imp λD σ H h=>zGw σ H _ (of_imp σ H _ (zMf D σ H h))⟩
theorem zOh{own fre:List Str}{ix:List Nat}{n:Nat}{scope:Scope}{j:Nat}{cpos pos':Pos}{tg elt iter:Expr}{ifs:List Expr}{im:DS.IM}{g:DS.GM}(hN:X.N.Nodup)(hix:X.N[j]?=some x)(hx:Loc X.env.scope x)
  (hc:X.calm=true) (S:CompScope X own fre ix scope) (hi:DI X K E tg iter im)
  (hg:∀cl C s H fp,DG (zA9 X (own++fre) scope cl C s H fp) K tg g) (ht:∀cl C s H fp,DIf (zA9 X (own++fre) scope cl C s H fp) K E ifs mt) (he:∀cl C s H fp,DE (zA9 X (own++fre) scope cl C s H fp) K E elt m)
  (hsw:swapsWith (.ListComp elt [⟨tg,iter,ifs,0⟩] scope cpos) (some (.Name x pos')) pos.line X.env=pure true:=by rfl) (h:nse iter=true:=by rfl) (hf:X.fn x=true\/X.env.scope.names.lookup x=some .local:=by first|exact .inl rfl|exact .inr rfl|assumption) (hn:own.length=n:=by rfl):
  DS1 X K E (.Assign [.Name x pos'] (.ListComp elt [⟨tg,iter,ifs,0⟩] scope cpos) pos) (DS.sSet j (DS.eNew (DS.zB2 n ix im g mt m))):=by
 subst hn;exact⟨(qsetc' hN hix hx hc S hi.h (λ_ _ _ _ _=>(hg _ _ _ _ _).h) (λ_ _ _ _ _=>(ht _ _ _ _ _).h) (λ_ _ _ _ _=>(he _ _ _ _ _).h) hsw h hf).imp λD σ H h=>zGw σ H _ (zV3 σ H _ (zMf D σ H h))⟩
end
section
variable {P:Program}{w:World}{K:PySem.W.Frag}{mg:Str->Option Value}{base:Heap}
theorem zI1{np:Nat}{ds:List D}{P:D->Store->Js->Hp->Prop}(h:Post K E J H (DS.zAc np nl b ds S) P):ds.length=np:=by
 unfold DS.zAc at h;by_cases e:ds.length=np
 ·exact e
 ·rw[xc e]at h;exact False.elim h
theorem zJr{ds:List D}{N:List Str}(r:RepL K J H ds vs):RepE K J H (ds.map some++List.replicate (N.length-ds.length) none) (start N vs):=by
 refine⟨by simp[start,r.length],λi d e=>?_⟩;unfold start;by_cases hi:i<ds.length
 ·rw[xT (by simpa using hi),vp]at e;rw[xT (by simpa[<- r.length]using hi),vp];cases ed:ds[i]? with
  | none=>rw[ed]at e;cases e
  | some d'=>
   rw[ed]at e;cases e;obtain⟨x,ex,rx⟩:=r.get ed;exact⟨x,by rw[ex];rfl,rx⟩
 ·rw[xS (by simpa using hi),List.getElem?_replicate]at e;split at e <;> cases e
theorem zWm{np:Nat}{N:List Str}{b:DS.SM}{Q:VK}(ha:AbS K J S H)(r:RepL K J H ds vs)
  (h:Post K XE0 J H (DS.zAc np N.length b ds S) (λd _ J' H'=>∀v,Rep K J' H' d v->Q v H')):tsOf K XE0 b { nx:=λ_ H'=>Q .non H',rt:=Q } (start N vs) H:=by
 have hl:=zI1 h;unfold DS.zAc at h;rw[xb hl,<- hl]at h;refine⟨_,S,J,ha,zJr r,?_⟩;have fin:∀d S' J' H' v,AbS K J' S' H'->Grow J H J' H'->Rep K J' H' d v->Post K XE0 J H (DS.fin S d S') (λd _ J' H'=>∀v,Rep K J' H' d v->Q v H')->Q v H':=λd S' J' H' v a1 g1 r1 q=>by
  cases e:DS.fin S d S' with
  | ok d2 S2=>
   obtain⟨J2,a2,g2,r2⟩:=zZ8 ha g1 a1 r1 e;rw[e]at q;exact q J2 H' a2 g2 v r2
  | ex x S2=>rw[e]at q;exact False.elim (q J' H' (by
    exfalso;unfold DS.fin at e;split at e <;> try cases e
    split at e <;> try cases e
    split at e <;> try cases e
    split at e <;> try cases e
    split at e <;> cases e) g1)
  | bad=>rw[e]at q;exact False.elim q
 cases e:b (ds.map some++List.replicate (N.length-ds.length) none) S with
 | nx e1 S1=>rw[e]at h;exact λJ' H' σ h1 g1 _=>fin .non S1 J' H' .non h1 g1 rfl h
 | rt d S1=>rw[e]at h;exact λJ' H' v h1 g1 r1=>fin d S1 J' H' v h1 g1 r1 h
 | bk e1 S1=>rw[e]at h;exact False.elim h
 | ct e1 S1=>rw[e]at h;exact False.elim h
 | ex x S1=>rw[e]at h;exact h
 | bad=>rw[e]at h;exact False.elim h
theorem fn_d{k:Nat}{x qual:Str}{st:Stmt}{f:Addr}{fd:FuncData}{N ps:List Str}{np nl:Nat}{b:DS.SM}(F:Fun K x qual st f fd)(Sc:zE8 N ps (zA7 st))(hnp:ps.length=np)(hnl:N.length=nl)
  (hb:∀(cdv:Value) (A:Around) (outer:List PySem.Env) (s:Shared) (H:Hp) (E:XK),Room k (A.deeper (envOfC qual (zA7 st) s.heap.objs.size f cdv))->DSs (cxOf CX0 P w K mg base N qual (zA7 st) f cdv A outer s H E).nox K XE0 (zAw st) b):
  FnOk P w K mg base CX0 (k+1) f fd ps (spOf K XE0 (DS.zAc np nl b)):=by
 subst hnp hnl;refine F.ok Sc (λvs H Q E h=>?_) (λcdv A outer s H vs Q E hr h=>?_)
 ·obtain⟨J,S,ds,ha,r,q⟩:=h;rw[<- r.length];exact zI1 q
 ·obtain⟨J,S,ds,ha,r,q⟩:=h;exact⟨_,(hb cdv A outer s H E hr).h.h,zWm ha r q⟩
theorem zRz{np:Nat}{N:List Str}{b:DS.SM}{ds:List D}{Q:VK}(hl:ds.length=np)(ha:AbS K J S H)(r:RepL K J H ds vs)
  (h:Post K XE0 J H (DS.zH0 np N.length b ds S) (λd _ J' H'=>∀v,Rep K J' H' d v->Q v H')):tsOf K XE0 b { nx:=λ_ H'=>Q .non H',rt:=Q } (start N vs) H:=by
 unfold DS.zH0 at h;rw[xb hl,<- hl]at h;refine⟨_,S,J,ha,zJr r,?_⟩;cases e:b (ds.map some++List.replicate (N.length-ds.length) none) S with
 | nx e1 S1=>rw[e]at h;exact λJ' H' σ h1 g1 _=>h J' H' h1 g1 .non rfl
 | rt d S1=>rw[e]at h;exact λJ' H' v h1 g1 r1=>h J' H' h1 g1 v r1
 | bk e1 S1=>rw[e]at h;exact False.elim h
 | ct e1 S1=>rw[e]at h;exact False.elim h
 | ex x S1=>rw[e]at h;exact h
 | bad=>rw[e]at h;exact False.elim h
theorem fn_r{k:Nat}{x qual:Str}{st:Stmt}{f:Addr}{fd:FuncData}{N ps:List Str}{np nl:Nat}{b:DS.SM}(F:Fun K x qual st f fd)(Sc:zE8 N ps (zA7 st))(hnp:ps.length=np)(hnl:N.length=nl)
  (hb:∀(cdv:Value) (A:Around) (outer:List PySem.Env) (s:Shared) (H:Hp) (E:XK),Room k (A.deeper (envOfC qual (zA7 st) s.heap.objs.size f cdv))->DSs (cxOf CX0 P w K mg base N qual (zA7 st) f cdv A outer s H E).nox K XE0 (zAw st) b):
  FnOk P w K mg base CX0 (k+1) f fd ps (spOf K XE0 (DS.zH0 np nl b)):=by
 subst hnp hnl;have cl:∀{J:Js}{H:Hp}{ds:List D}{S:Store}{P:D->Store->Js->Hp->Prop},Post K XE0 J H (DS.zH0 ps.length N.length b ds S) P->ds.length=ps.length:=λ{J H ds S P} h=>by
  unfold DS.zH0 at h;by_cases e:ds.length=ps.length
  ·exact e
  ·rw[xc e]at h;exact False.elim h
 refine F.ok Sc (λvs H Q E h=>?_) (λcdv A outer s H vs Q E hr h=>?_)
 ·obtain⟨J,S,ds,ha,r,q⟩:=h;rw[<- r.length];exact cl q
 ·obtain⟨J,S,ds,ha,r,q⟩:=h;exact⟨_,(hb cdv A outer s H E hr).h.h,zRz (cl q) ha r q⟩
end
end L2
namespace DS
open PySem (Str)
section
open Classical
noncomputable def big:Nat:=2 ^ 5000
def sm(x:Int):Prop:=x.natAbs<big
theorem zTo{x:Int}(h1:-(2 ^ 200)<x)(h2:x<2 ^ 200):sm x:=by
 have h:(2:Nat) ^ 200<=big:=uC (by decide) (by decide);have e:((2 ^ 200:Nat):Int)=2 ^ 200:=by norm_cast
 unfold sm
 omega
noncomputable def addD (S:Store) (x y:D):Option D:=match x,y with
 | .int a,.int b=>some (.int (a+b))
 | .str a,.str b=>if a.length+b.length<=most then some (.str (a++b))else none
 | .tup l,.tup m=>if l≠[]/\l.length+m.length<=most then some (.tup (l++m))else none
 | x,y=>match litems S x,litems S y with
  | some l,some m=>if l.length+m.length<=most then some (.lst (l++m))else none
  | _,_=>none
noncomputable def catD (S:Store) (x y:D):Option D:=match litems S x,litems S y with
 | some l,some m=>if l.length+m.length<=most then some (.lst (l++m))else none
 | _,_=>none
noncomputable def subD (_:Store) (x y:D):Option D:=match x,y with
 | .int a,.int b=>some (.int (a-b))
 | _,_=>none
noncomputable def mulD (S:Store) (x y:D):Option D:=match x,y with
 | .int a,.int b=>if sm a/\sm b then some (.int (a*b))else none
 | _,_=>none
noncomputable def zHs (_:Store) (x y:D):Option D:=match x,y with
 | .int a,.int b=>if b≠0/\sm b then some (.int (a.fdiv b))else none
 | _,_=>none
noncomputable def modD (_:Store) (x y:D):Option D:=match x,y with
 | .int a,.int b=>if 0<b then some (.int (a % b))else none
 | _,_=>none
noncomputable def powD (_:Store) (x y:D):Option D:=match x,y with
 | .int a,.int b=>if 0<=b/\b<=1000000/\a.natAbs<2 ^ 64 then some (.int (a ^ b.toNat))else none
 | _,_=>none
noncomputable def negD (_:Store) (x:D):Option D:=match x with
 | .int a=>some (.int (-a))
 | _=>none
def okL(l m:List D):Prop:=zC6 l=true/\zC6 m=true/\cmpL l m=true/\depL l<=60
noncomputable def eqO (S:Store) (x y:D):Option Bool:=match look S x,look S y with
 | some (.int a),some (.int b)=>some (decide (a=b))
 | some (.bl a),some (.bl b)=>some (decide (a=b))
 | some (.str a),some (.str b)=>some (decide (a=b))
 | some (.tup l),some (.tup m)=>if okL l m then some (decide (l=m))else none
 | some (.lst l),some (.lst m)=>if okL l m then some (decide (l=m))else none
 | _,_=>none
noncomputable def eqD (S:Store) (x y:D):Option D:=(eqO S x y).map D.bl
noncomputable def gtD (_:Store) (x y:D):Option D:=match x,y with
 | .int a,.int b=>some (.bl (decide (b<a)))
 | _,_=>none
noncomputable def geD (_:Store) (x y:D):Option D:=match x,y with
 | .int a,.int b=>some (.bl (decide (b<=a)))
 | _,_=>none
noncomputable def ixN (n:Nat) (i:Int):Option Nat:=if 0<=i then(if i<n then some i.toNat else none)else if -(n:Int)<=i then some (i+n).toNat else none
noncomputable def atL {α:Type}(xs:List α) (i:Int):Option α:=(ixN xs.length i).bind λj=>xs[j]?
noncomputable def look2 (ks vs:List D) (k:D):Option D:=match ks,vs with
 | a::r,v::t=>if a=k then some v else look2 r t k
 | _,_=>none
noncomputable def isKey:D->Bool
 | .int _=>true
 | .str _=>true
 | .tup l=>l.all λd=>match d with
  | .int _=>true
  | .str _=>true
  | _=>false
 | _=>false
noncomputable def zC4 (t:Bool) (k:D):Bool:=isKey k && (match k with
 | .tup _=>t
 | _=>!t)
noncomputable def ixD (S:Store) (x y:D):Option D:=match look S x,y with
 | some (.tup l),.int i=>atL l i
 | some (.lst l),.int i=>atL l i
 | some (.str z),.int i=>if z.length<=most then(atL z.cps.toList i).map λc=>.str ⟨#[c]⟩else none
 | some (.dct t ks vs),k=>if zC4 t k=true then look2 ks vs k else none
 | _,_=>none
noncomputable def sIx (n d:Nat):Option Int->Nat
 | none=>d
 | some v=>if v<0 then(v+(n:Int)).toNat else min v.toNat n
noncomputable def cutL {α:Type}(xs:List α) (lo hi:Option Int):List α:=(xs.drop (sIx xs.length 0 lo)).take (sIx xs.length xs.length hi-sIx xs.length 0 lo)
noncomputable def slD (S:Store) (x:D) (lo hi:Option Int):Option D:=match x with
 | .tup l=>some (.tup (cutL l lo hi))
 | .ktup l=>if sIx l.length 0 lo=0/\sIx l.length l.length hi=l.length then some (.ktup l)else some (.tup (cutL l lo hi))
 | x=>match look S x with
  | some (.lst l)=>some (.lst (cutL l lo hi))
  | _=>none
def okIn(x:D)(l:List D):Prop:=x.flat=true/\zC6 l=true/\depL l<=60/\∀d∈l,d.cmp x=true
noncomputable def inO (S:Store) (x y:D):Option Bool:=match look S y with
 | some (.tup l)=>if okIn x l then some (decide (x∈l))else none
 | some (.lst l)=>if okIn x l then some (decide (x∈l))else none
 | some (.dct t ks _)=>if zC4 t x=true then some (decide (x∈ks))else none
 | _=>none
noncomputable def inD (S:Store) (x y:D):Option D:=(inO S x y).map D.bl
noncomputable def zHk (S:Store) (x y:D):Option D:=(inO S x y).map λb=>.bl (!b)
noncomputable def repl2:List D->List D->D->D->List D
 | a::r,w::t,k,v=>(if a=k then v else w)::repl2 r t k v
 | _,_,_,_=>[]
noncomputable def put2 (ks vs:List D) (k v:D):List D × List D:=if k∈ks then(ks,repl2 ks vs k v)else(ks++[k],vs++[v])
noncomputable def putD (S:Store) (o k v:D):Option Store:=match o with
 | .ref n=>match S[n]? with
  | some (.lst l)=>(match k with
   | .int i=>(ixN l.length i).map λj=>S.set n (.lst (l.set j v))
   | _=>none)
  | some (.dct t ks vs)=>if zC4 t k=true/\ks.length<most then some (S.set n (.dct t (put2 ks vs k v).1 (put2 ks vs k v).2))else none
  | _=>none
 | _=>none
noncomputable def lenB (S:Store):List D->Option D
 | [d]=>match look S d with
  | some (.tup l)=>some (.int l.length)
  | some (.lst l)=>some (.int l.length)
  | some (.dct _ ks _)=>some (.int ks.length)
  | some (.str x)=>if x.length<=most then some (.int x.length)else none
  | _=>none
 | _=>none
noncomputable def zBv (S:Store):List D->Option D
 | [d]=>match d with
  | .tup l=>some (.tup l)
  | .ktup l=>some (.ktup l)
  | d=>(litems S d).map D.tup
 | _=>none
noncomputable def max2B (_:Store):List D->Option D
 | [.int i,.int j]=>some (.int (if j > i then j else i))
 | _=>none
noncomputable def min2B (_:Store):List D->Option D
 | [.int i,.int j]=>some (.int (if j<i then j else i))
 | _=>none
noncomputable def absB (_:Store):List D->Option D
 | [.int i]=>some (.int (if i<0 then -i else i))
 | _=>none
noncomputable def kinds:List String:=["int","bool","str","tuple","list","NoneType"]
noncomputable def zVk (U T:String):Bool:=U == T || (U == "bool" && T == "int")
noncomputable def isiB (S:Store):List D->Option D
 | [d,.ty T]=>match d with
  | .ktup _=>none
  | .klst _=>none
  | d=>match tyD S d with
   | some U=>if U∈kinds/\T∈kinds then some (.bl (zVk U T))else none
   | none=>none
 | _=>none
noncomputable def zDj (S:Store) (o:D) (xs:List D):Option (D × Store):=match o,xs with
 | .ref n,[v]=>match S[n]? with
  | some (.lst l)=>if l.length<most then some (.non,S.set n (.lst (l++[v])))else none
  | _=>none
 | _,_=>none
noncomputable def zB8 (S:Store) (o:D) (xs:List D):Option (D × Store):=match o,xs with
 | .ref n,[d]=>if d=.ref n then none else match S[n]?,litems S d with
  | some (.lst l),some m=>if l.length+m.length<=most then some (.non,S.set n (.lst (l++m)))else none
  | _,_=>none
 | _,_=>none
end
end DS
namespace L2
open PySem PySem.Spec PyProof.Rows
open DS (D Store Exn Rs SR)
section
variable {X:Cx}{K:PySem.W.Frag}{E:XE}{J:Js}{S:Store}{H:Hp}{d d1 d2:D}{v:V}
theorem Inv.lstR{s:Shared}{xs:List V}(I:Inv X pins σ H s)(hH:Rd H l (.lst xs)):xs.length<=sizeLine/\∃(its:List Value) (n:Nat),Vals xs its/\xs.length=its.length/\s.heap.get? l=some { cls:=.type "list",data:=.seq its.toArray n }:=by obtain⟨z,its,n,r,e⟩:=hH.ok I.hok;exact⟨z,its,n,r,r.length,e⟩
theorem zDn(ha:AbS K J S H)(r:Rep K J H d v)(e:DS.litems S d=some l):∃a xs,v=.ref a/\Rd H a (.lst xs)/\RepL K J H l xs:=by
 cases d with
 | lst ds=>cases e;obtain⟨a,xs,rfl,t,rl⟩:=r;exact⟨a,xs,rfl,.inl t.1,rl⟩
 | ref n=>
  obtain⟨a,ea,rfl⟩:=r;obtain⟨c,ec,o,eo,rc⟩:=ha.at ea;unfold DS.litems DS.look at e;simp only[ec]at e;cases c with
  | lst ds=>cases e;obtain⟨xs,rfl,rl⟩:=rc;exact⟨a,xs,rfl,.inl eo,rl⟩
  | dct _ ks vs=>cases e
  | _=>first|exact False.elim rc|(cases h;done)|(cases e;done)|(cases e1;done)|(cases ed;done)|(cases h;rcases hT with z|z|z <;> exact absurd z (by decide))
 | _=>cases e
theorem zDp(ha:AbS K J S H)(r:Rep K J H d v)(e:DS.items S d=some l):∃a xs,v=.ref a/\(SqL K H a xs\/SqT K H a xs)/\RepL K J H l xs:=by
 cases d with
 | tup ds=>cases e;obtain⟨a,xs,rfl,t,rl⟩:=r;exact⟨a,xs,rfl,.inr t.sq,rl⟩
 | ktup ds=>cases e;obtain⟨a,xs,rfl,t,rl⟩:=r;exact⟨a,xs,rfl,.inr t.sq,rl⟩
 | klst ds=>cases e;obtain⟨a,xs,rfl,t,rl⟩:=r;exact⟨a,xs,rfl,.inl t.sq,rl⟩
 | lst ds=>cases e;obtain⟨a,xs,rfl,t,rl⟩:=r;exact⟨a,xs,rfl,.inl t.sq,rl⟩
 | ref n=>
  obtain⟨a,ea,rfl⟩:=r;obtain⟨c,ec,o,eo,rc⟩:=ha.at ea;unfold DS.items DS.look at e;simp only[ec]at e;cases c with
  | lst ds=>cases e;obtain⟨xs,rfl,rl⟩:=rc;exact⟨a,xs,rfl,.inl (.inl (.inl eo)),rl⟩
  | dct _ ks vs=>cases e
  | _=>first|exact False.elim rc|(cases h;done)|(cases e;done)|(cases e1;done)|(cases ed;done)|(cases h;rcases hT with z|z|z <;> exact absurd z (by decide))
 | _=>cases e
theorem zUq:OpR X (binaryOp .Sub) (r2Of K DS.subD):=by
 intro pins s σ H x y v u Q I rx ry hq6;obtain⟨J,S,d1,d2,d,ha,r1,r2,e,k⟩:=hq6;unfold DS.subD at e;split at e
 ·cases e;obtain rfl:=r1;obtain rfl:=r2;exact zY8 pins s σ H _ _ v u Q I rx ry ⟨_,_,rfl,rfl,k _ H ha .refl rfl⟩
 ·cases e
theorem zUu:OpR X (binaryOp .Mult) (r2Of K DS.mulD):=by
 intro pins s σ H x y v u Q I rx ry hq7;obtain⟨J,S,d1,d2,d,ha,r1,r2,e,k⟩:=hq7;unfold DS.mulD at e;split at e
 ·split at e
  ·rename_i h;cases e;obtain rfl:=r1;obtain rfl:=r2;exact zUt pins s σ H _ _ v u Q I rx ry ⟨_,_,rfl,rfl,h,k _ H ha .refl rfl⟩
  ·cases e
 ·cases e
theorem zQu:OpR X (binaryOp .FloorDiv) (r2Of K DS.zHs):=by
 intro pins s σ H x y v u Q I rx ry hq8;obtain⟨J,S,d1,d2,d,ha,r1,r2,e,k⟩:=hq8;unfold DS.zHs at e;split at e
 ·split at e
  ·rename_i h;cases e;obtain rfl:=r1;obtain rfl:=r2;exact zQt pins s σ H _ _ v u Q I rx ry ⟨_,_,rfl,rfl,h,k _ H ha .refl rfl⟩
  ·cases e
 ·cases e
theorem zUv:OpR X (binaryOp .Mod) (r2Of K DS.modD):=by
 intro pins s σ H x y v u Q I rx ry hq9;obtain⟨J,S,d1,d2,d,ha,r1,r2,e,k⟩:=hq9;unfold DS.modD at e;split at e
 ·split at e
  ·rename_i h;cases e;obtain rfl:=r1;obtain rfl:=r2;exact zYb pins s σ H _ _ v u Q I rx ry ⟨_,_,rfl,rfl,h,k _ H ha .refl rfl⟩
  ·cases e
 ·cases e
theorem zUr:OpR X (binaryOp .Pow) (r2Of K DS.powD):=by
 intro pins s σ H x y v u Q I rx ry hq10;obtain⟨J,S,d1,d2,d,ha,r1,r2,e,k⟩:=hq10;unfold DS.powD at e;split at e
 ·split at e
  ·rename_i h;cases e;obtain rfl:=r1;obtain rfl:=r2;exact zY9 pins s σ H _ _ v u Q I rx ry ⟨_,_,rfl,rfl,h,k _ H ha .refl rfl⟩
  ·cases e
 ·cases e
theorem zTd:UnR X (unaryOp .USub) (r1Of K DS.negD):=by
 intro pins s σ H x v Q I rx hq11;obtain⟨J,S,d1,d,ha,r1,e,k⟩:=hq11;unfold DS.negD at e;split at e
 ·cases e;obtain rfl:=r1;exact zX1 pins s σ H _ v Q I rx ⟨_,rfl,k _ H ha .refl rfl⟩
 ·cases e
theorem zP8{xs ys:List V}{Q:VK}(I:Inv X pins σ H s)(h1:Rd H a (.lst xs))(h2:Rd H b (.lst ys))(hz:xs.length+ys.length<=sizeLine)(q:∀p,H p=none->Q (.ref p) (upd H p (.lst (xs++ys)))):
  wpAny (model X.prog X.w) X.A (binaryOp .Add (.ref a) (.ref b)) (EP X pins σ Q) X.xe s:=by
 obtain⟨z,its,n,r,hl,e⟩:=I.lstR h1;obtain⟨z2,its2,n2,r2,hl2,e2⟩:=I.lstR h2;refine PySem.P.add_list e e2 ?_ (by rw[xq,xq,<- hl,<- hl2];exact hz);rw[show its.toArray++its2.toArray=(its++its2).toArray by simp];exact⟨.ref _,_,I.lnew (r.append r2) (by rw[xE];exact hz),rfl,q _ I.fresh⟩
theorem zQv:OpR X (binaryOp .Add) (yAq K DS.catD):=by
 intro pins s σ H x y v u Q I rx ry hq12;obtain⟨J,S,d1,d2,d,ha,r1,r2,e,k⟩:=hq12;unfold DS.catD at e;split at e
 ·rename_i l m e1 e2;split at e
  ·rename_i h;cases e;obtain⟨a,xs,rfl,h1,q1⟩:=zDn ha r1 e1;obtain⟨b,ys,rfl,h2,q2⟩:=zDn ha r2 e2;cases rx;cases ry;exact zP8 I h1 h2 (by rw[<- q1.length,<- q2.length];exact h) λp n=>k p _ H ha .refl n ⟨_,rfl,q1.append q2⟩
  ·cases e
 ·cases e
theorem zNa(hK:X.K=K:=by rfl):OpR X (binaryOp .Add) (r2Of K DS.addD):=by
 subst hK;intro pins s σ H x y v u Q I rx ry hq13;obtain⟨J,S,d1,d2,d,ha,r1,r2,e,k⟩:=hq13;unfold DS.addD at e;split at e
 ·cases e;obtain rfl:=r1;obtain rfl:=r2;exact zYd pins s σ H _ _ v u Q I rx ry ⟨_,_,rfl,rfl,k _ H ha .refl rfl⟩
 ·split at e
  ·rename_i h;cases e;obtain rfl:=r1;obtain rfl:=r2;exact zKz pins s σ H _ _ v u Q I rx ry ⟨_,_,rfl,rfl,h,k _ H ha .refl rfl⟩
  ·cases e
 ·split at e
  ·rename_i l m h;cases e;obtain⟨a,xs,rfl,t1,q1⟩:=r1;obtain⟨b,ys,rfl,t2,q2⟩:=r2;have e1:=q1.length;have e2:=q2.length;refine zUz pins s σ H _ _ v u Q I rx ry ⟨a,b,xs,ys,rfl,rfl,t1.sq,t2.sq,λz=>h.1 (by subst z;exact List.eq_nil_of_length_eq_zero e1),by rw[<- e1,<- e2];exact h.2,λz=>?_,λz p n=>?_⟩
   ·subst z;obtain rfl:m=[]:=List.eq_nil_of_length_eq_zero e2;rw[vA]at k;exact k _ H ha .refl ⟨a,xs,rfl,t1,q1⟩
   ·exact k _ _ (ha.push n) (.push n) ⟨p,_,rfl,⟨zAm,ha.out n⟩,RepL.grow (.push n) _ _ (q1.append q2)⟩
  ·cases e
 ·exact zQv pins s σ H _ _ v u Q I rx ry ⟨J,S,d1,d2,d,ha,r1,r2,e,λp o H' a1 g1 n r=>k _ _ (a1.push n r.nt) (g1.trans (.push n)) (r.rep a1 n)⟩
mutual
def toDv:D->Dv
 | .non=>.non
 | .bl b=>.bl b
 | .int i=>.int i
 | .str x=>.str x
 | .tup l=>.tup (zD6 l)
 | .lst l=>.lst (zD6 l)
 | .dct _ _ _=>.non
 | .ktup _=>.non
 | .klst _=>.non
 | .st _=>.non
 | .ty _=>.non
 | .ref _=>.non
def zD6:List D->List Dv
 | []=>[]
 | d::r=>toDv d::zD6 r
end
mutual
theorem zCy:∀(d:D) (v:V),d.flat=true->Rep K J H d v->Den K H (toDv d) v
 | .non,_,_,r=>r
 | .bl _,_,_,r=>r
 | .int _,_,_,r=>r
 | .str _,_,_,r=>r
 | .tup l,v,f,⟨a,xs,e,t,rl⟩=>⟨a,xs,e,t.sq,zC2 l xs f rl⟩
 | .lst l,v,f,⟨a,xs,e,t,rl⟩=>⟨a,xs,e,t.sq,zC2 l xs f rl⟩
 | .dct _ _ _,_,f,_=>by cases f
 | .ktup _,_,f,_=>by cases f
 | .klst _,_,f,_=>by cases f
 | .st _,_,f,_=>by cases f
 | .ty _,_,f,_=>by cases f
 | .ref _,_,f,_=>by cases f
theorem zC2:∀(l:List D) (xs:List V),DS.zC6 l=true->RepL K J H l xs->DenL K H (zD6 l) xs
 | [],_,_,r=>r
 | d::l,xs,f,⟨x,r,e,h,t⟩=>by
  have f:(d.flat && DS.zC6 l)=true:=f;rw[xi]at f;exact⟨x,r,e,zCy d x f.1 h,zC2 l r f.2 t⟩
end
mutual
theorem zG8:∀(d e:D),d.flat=true->e.flat=true->toDv d=toDv e->d=e
 | .non,e,_,f,h=>by cases e <;> first|rfl|(exact Bool.noConfusion (show false=true from f))|(cases h;done)
 | .bl _,e,_,f,h=>by cases e <;> first|(cases h;rfl)|exact nomatch h|exact nomatch f
 | .int _,e,_,f,h=>by cases e <;> first|(cases h;rfl)|exact nomatch h|exact nomatch f
 | .str _,e,_,f,h=>by cases e <;> first|(cases h;rfl)|exact nomatch h|exact nomatch f
 | .tup l,e,f,f',h=>by
  cases e with
  | tup m=>exact congrArg D.tup (zDk l m f f' (Dv.tup.inj h))
  | _=>first|exact nomatch h|exact nomatch f'
 | .lst l,e,f,f',h=>by
  cases e with
  | lst m=>exact congrArg D.lst (zDk l m f f' (Dv.lst.inj h))
  | _=>first|exact nomatch h|exact nomatch f'
 | .dct _ _ _,_,f,_,_=>by cases f
 | .ktup _,_,f,_,_=>by cases f
 | .klst _,_,f,_,_=>by cases f
 | .st _,_,f,_,_=>by cases f
 | .ty _,_,f,_,_=>by cases f
 | .ref _,_,f,_,_=>by cases f
theorem zDk:∀(l m:List D),DS.zC6 l=true->DS.zC6 m=true->zD6 l=zD6 m->l=m
 | [],[],_,_,_=>rfl
 | [],_::_,_,_,h=>by cases h
 | _::_,[],_,_,h=>by cases h
 | d::l,e::m,f,f',h=>by
  have f:(d.flat && DS.zC6 l)=true:=f;have f':(e.flat && DS.zC6 m)=true:=f';rw[xi]at f f';have h:=List.cons.inj (h);rw[zG8 d e f.1 f'.1 h.1,zDk l m f.2 f'.2 h.2]
end
mutual
theorem zG9:∀(d e:D),d.cmp e=true->(toDv d).cmp (toDv e)=true
 | .non,e,h=>by cases e <;> first|rfl|cases h
 | .bl _,e,h=>by cases e <;> first|rfl|cases h
 | .int _,e,h=>by cases e <;> first|rfl|cases h
 | .str _,e,h=>by cases e <;> first|rfl|cases h
 | .tup l,e,h=>by
  cases e with
  | tup m=>exact zBl l m h
  | _=>cases h
 | .lst l,e,h=>by
  cases e with
  | lst m=>exact zBl l m h
  | _=>cases h
 | .dct _ _ _,e,h=>by cases e <;> cases h
 | .ktup _,e,h=>by cases e <;> cases h
 | .klst _,e,h=>by cases e <;> cases h
 | .st _,e,h=>by cases e <;> cases h
 | .ty _,e,h=>by cases e <;> cases h
 | .ref _,e,h=>by cases e <;> cases h
theorem zBl:∀(l m:List D),DS.cmpL l m=true->L2.cmpL (zD6 l) (zD6 m)=true
 | [],[],_=>rfl
 | [],_::_,_=>rfl
 | _::_,[],_=>rfl
 | d::l,e::m,h=>by
  have h:(d.cmp e && DS.cmpL l m)=true:=h;rw[xi]at h;show((toDv d).cmp (toDv e) && L2.cmpL (zD6 l) (zD6 m))=true;rw[zG9 d e h.1,zBl l m h.2];rfl
end
mutual
theorem zJn:∀(d:D),(toDv d).dep<=d.dep
 | .tup l=>Nat.succ_le_succ (zCo l)
 | .lst l=>Nat.succ_le_succ (zCo l)
 | .non=>xg _
 | .bl _=>xg _
 | .int _=>xg _
 | .str _=>xg _
 | .dct _ _ _=>xg _
 | .ktup _=>xg _
 | .klst _=>xg _
 | .st _=>xg _
 | .ty _=>xg _
 | .ref _=>xg _
theorem zCo:∀(l:List D),L2.depL (zD6 l)<=DS.depL l
 | []=>xg _
 | d::l=>by
  show max (toDv d).dep (L2.depL (zD6 l))<=max d.dep (DS.depL l);have:=zJn d;have:=zCo l;lia
end
open Classical in
theorem zEp(f:DS.zC6 l=true)(f':DS.zC6 m=true):eqvL (zD6 l) (zD6 m)=decide (l=m):=by
 by_cases e:l=m
 ·subst e;rw[xk rfl];exact(zCg _ _).mpr rfl
 ·rw[xj e];cases q:eqvL (zD6 l) (zD6 m)with
  | false=>rfl
  | true=>exact absurd (zDk l m f f' ((zCg _ _).mp q)) e
theorem zEk{c:D}(ha:AbS K J S H)(r:Rep K J H d v)(e:DS.look S d=some c)(f:c.flat=true):Den K H (toDv c) v:=by
 cases d with
 | ref n=>
  obtain⟨a,ea,rfl⟩:=r;obtain⟨c',ec,o,eo,rc⟩:=ha.at ea;have e:S[n]?=some c:=e;rw[ec]at e;cases e;cases c with
  | lst ds=>obtain⟨xs,rfl,rl⟩:=rc;exact⟨a,xs,rfl,.inl (.inl eo),zC2 _ _ f rl⟩
  | dct _ ks vs=>cases f
  | st ds=>cases f
  | _=>first|exact False.elim rc|(cases h;done)|(cases e;done)|(cases e1;done)|(cases ed;done)|(cases h;rcases hT with z|z|z <;> exact absurd z (by decide))
 | ktup l=>cases e;obtain⟨a,xs,rfl,t,rl⟩:=r;exact⟨a,xs,rfl,t.sq,zC2 _ _ f rl⟩
 | klst l=>cases e;obtain⟨a,xs,rfl,t,rl⟩:=r;exact⟨a,xs,rfl,t.sq,zC2 _ _ f rl⟩
 | _=>cases e;exact zCy _ _ f r
open Classical in
theorem zZa{Q:VK}(neg:Bool)(hu:X.A.units+64<cLine)(I:Inv X pins σ H s)(rx:RelV x u)(ry:RelV y w)(ha:AbS X.K J S H)(r1:Rep X.K J H d1 x)(r2:Rep X.K J H d2 y)(e:DS.eqO S d1 d2=some b)
  (k:Q (.bl (if neg then !b else b)) H):wpAny (model X.prog X.w) X.A (compareOp (if neg then .NotEq else .Eq) u w) (EP X pins σ Q) X.xe s:=by
 unfold DS.eqO at e;have sc:∀(c1 c2:D) (v1 v2:V),DS.look S d1=some c1->DS.look S d2=some c2->(∀z,c1≠.lst z)->((∀z z' z2,c1≠.dct z z' z2)/\∀z,c1≠.st z)->(∀z,c1≠.tup z)->(∀z,c2≠.lst z)->((∀z z' z2,c2≠.dct z z' z2)/\∀z,c2≠.st z)->(∀z,c2≠.tup z)->Rep X.K J H c1 x/\Rep X.K J H c2 y:=λc1 c2 _ _ e1 e2 n1 n2 n1' n3 n4 n3'=>by
  have key:∀(d c:D) (v:V),Rep X.K J H d v->DS.look S d=some c->(∀z,c≠.lst z)->((∀z z' z2,c≠.dct z z' z2)/\∀z,c≠.st z)->(∀z,c≠.tup z)->Rep X.K J H c v:=λd c v r e n n' n2=>by
   cases d with
   | ref n0=>
    obtain⟨a,ea,rfl⟩:=r;obtain⟨c',ec,o,eo,rc⟩:=ha.at ea;have e:S[n0]?=some c:=e;rw[ec]at e;cases e;cases c with
    | lst ds=>exact absurd rfl (n ds)
    | dct t ks vs=>exact absurd rfl (n'.1 t ks vs)
    | st ds=>exact absurd rfl (n'.2 ds)
    | _=>first|exact False.elim rc|(cases h;done)|(cases e;done)|(cases e1;done)|(cases ed;done)|(cases h;rcases hT with z|z|z <;> exact absurd z (by decide))
   | ktup l=>cases e;exact absurd rfl (n2 l)
   | klst l=>cases e;exact absurd rfl (n l)
   | _=>cases e;exact r
  exact⟨key _ _ _ r1 e1 n1 n2 n1',key _ _ _ r2 e2 n3 n4 n3'⟩
 split at e
 ·rename_i a b e1 e2;obtain⟨q1,q2⟩:=sc _ _ x y e1 e2 (λ_ z=>nomatch z) ⟨(λ_ _ _ z=>nomatch z),(λ_ z=>nomatch z)⟩ (λ_ z=>nomatch z) (λ_ z=>nomatch z) ⟨(λ_ _ _ z=>nomatch z),(λ_ z=>nomatch z)⟩ (λ_ z=>nomatch z);obtain rfl:=q1;obtain rfl:=q2;cases e;have ed:decide (V.int a=V.int b)=decide (a=b):=by
   by_cases z:a=b
   ·subst z;simp
   ·rw[xj z,xj λq=>z (V.int.inj q)]
  cases neg with
  | true=>exact zUs pins s σ H _ _ u w Q I rx ry ⟨rfl,by rw[ed];exact k⟩
  | false=>exact zUy pins s σ H _ _ u w Q I rx ry ⟨rfl,by rw[ed];exact k⟩
 ·rename_i a b e1 e2;obtain⟨q1,q2⟩:=sc _ _ x y e1 e2 (λ_ z=>nomatch z) ⟨(λ_ _ _ z=>nomatch z),(λ_ z=>nomatch z)⟩ (λ_ z=>nomatch z) (λ_ z=>nomatch z) ⟨(λ_ _ _ z=>nomatch z),(λ_ z=>nomatch z)⟩ (λ_ z=>nomatch z);obtain rfl:=q1;obtain rfl:=q2;cases e;have ed:decide (V.bl a=V.bl b)=decide (a=b):=by
   by_cases z:a=b
   ·subst z;simp
   ·rw[xj z,xj λq=>z (V.bl.inj q)]
  cases neg with
  | true=>exact zUs pins s σ H _ _ u w Q I rx ry ⟨rfl,by rw[ed];exact k⟩
  | false=>exact zUy pins s σ H _ _ u w Q I rx ry ⟨rfl,by rw[ed];exact k⟩
 ·rename_i a b e1 e2;obtain⟨q1,q2⟩:=sc _ _ x y e1 e2 (λ_ z=>nomatch z) ⟨(λ_ _ _ z=>nomatch z),(λ_ z=>nomatch z)⟩ (λ_ z=>nomatch z) (λ_ z=>nomatch z) ⟨(λ_ _ _ z=>nomatch z),(λ_ z=>nomatch z)⟩ (λ_ z=>nomatch z);obtain rfl:=q1;obtain rfl:=q2;cases e;have ed:decide (V.str a=V.str b)=decide (a=b):=by
   by_cases z:a=b
   ·subst z;simp
   ·rw[xj z,xj λq=>z (V.str.inj q)]
  cases neg with
  | true=>exact zUs pins s σ H _ _ u w Q I rx ry ⟨rfl,by rw[ed];exact k⟩
  | false=>exact zUy pins s σ H _ _ u w Q I rx ry ⟨rfl,by rw[ed];exact k⟩
 ·rename_i l m e1 e2;split at e
  ·rename_i h;cases e;have q1:=zEk ha r1 e1 h.1;have q2:=zEk ha r2 e2 h.2.1;have hd:=xm (zCo l) h.2.2.2;cases neg with
   | true=>exact zSf hu pins s σ H _ _ u w Q I rx ry (.inl ⟨_,_,q1,q2,zBl _ _ h.2.2.1,hd,by rw[zEp h.1 h.2.1];exact k⟩)
   | false=>exact zSj hu pins s σ H _ _ u w Q I rx ry (.inl ⟨_,_,q1,q2,zBl _ _ h.2.2.1,hd,by rw[zEp h.1 h.2.1];exact k⟩)
  ·cases e
 ·rename_i l m e1 e2;split at e
  ·rename_i h;cases e;have q1:=zEk ha r1 e1 h.1;have q2:=zEk ha r2 e2 h.2.1;have hd:=xm (zCo l) h.2.2.2;cases neg with
   | true=>exact zSf hu pins s σ H _ _ u w Q I rx ry (.inr ⟨_,_,q1,q2,zBl _ _ h.2.2.1,hd,by rw[zEp h.1 h.2.1];exact k⟩)
   | false=>exact zSj hu pins s σ H _ _ u w Q I rx ry (.inr ⟨_,_,q1,q2,zBl _ _ h.2.2.1,hd,by rw[zEp h.1 h.2.1];exact k⟩)
  ·cases e
 ·cases e
theorem zUx(hu:X.A.units+64<cLine)(hK:X.K=K:=by rfl):OpR X (compareOp .Eq) (r2Of K DS.eqD):=by
 subst hK;intro pins s σ H x y v u Q I rx ry hq14;obtain⟨J,S,d1,d2,d,ha,r1,r2,e,k⟩:=hq14;unfold DS.eqD at e;cases e1:DS.eqO S d1 d2 with
 | none=>rw[e1]at e;cases e
 | some b=>rw[e1]at e;cases e;exact zZa false hu I rx ry ha r1 r2 e1 (k _ H ha .refl rfl)
end
section
variable {X:Cx}{K:PySem.W.Frag}{E:XE}{J:Js}{S:Store}{H:Hp}{d d1 d2:D}{v:V}
theorem zSg:OpR X (compareOp .Gt) (r2Of K DS.gtD):=by
 intro pins s σ H x y v u Q I rx ry hq15;obtain⟨J,S,d1,d2,d,ha,r1,r2,e,k⟩:=hq15;unfold DS.gtD at e;split at e
 ·cases e;obtain rfl:=r1;obtain rfl:=r2;exact yAz pins s σ H _ _ v u Q I rx ry ⟨_,_,rfl,rfl,k _ H ha .refl (congrArg V.bl (by congr))⟩
 ·cases e
theorem zSh:OpR X (compareOp .GtE) (r2Of K DS.geD):=by
 intro pins s σ H x y v u Q I rx ry hq16;obtain⟨J,S,d1,d2,d,ha,r1,r2,e,k⟩:=hq16;unfold DS.geD at e;split at e
 ·cases e;obtain rfl:=r1;obtain rfl:=r2;exact yB0 pins s σ H _ _ v u Q I rx ry ⟨_,_,rfl,rfl,k _ H ha .refl (congrArg V.bl (by congr))⟩
 ·cases e
theorem yAa{α β:Type}{l:List α}{xs:List β}{i:Int}{a:α}(hl:l.length=xs.length)(e:DS.atL l i=some a):∃j:Nat,l[j]?=some a/\∀b,xs[j]?=some b->atI xs i=some b:=by
 unfold DS.atL at e;unfold atI;rw[show DS.ixN l.length i=L2.ixN xs.length i by rw[hl];rfl]at e;cases e1:L2.ixN xs.length i with
 | none=>rw[e1]at e;cases e
 | some j=>rw[e1]at e;exact⟨j,e,λb eb=>eb⟩
theorem zGm(h:keyD k=keyD k'):k=k':=by cases k <;> cases k' <;> first|(cases h;rfl)|cases h
theorem zGl(r:Rep K J H (keyD k) v):v=kV k:=by cases k <;> exact r
theorem zFy:∀{l m:List Key},l.map keyD=m.map keyD->l=m
 | [],[],_=>rfl
 | [],_::_,h=>by cases h
 | _::_,[],h=>by cases h
 | a::l,b::m,h=>by
  have h:=List.cons.inj h;rw[zGm h.1,zFy h.2]
theorem zEv(h:zKt k=zKt k'):k=k':=zFy (D.tup.inj h)
theorem zJu(h:DS.isKey d=true)(n:∀l,d≠.tup l):∃k,d=keyD k:=by
 cases d with
 | int i=>exact⟨.inl i,rfl⟩
 | str x=>exact⟨.inr x,rfl⟩
 | tup l=>exact absurd rfl (n l)
 | _=>cases h
theorem zGk:∀{l:List D},(l.all λd=>match d with
  | .int _=>true
  | .str _=>true
  | _=>false)=true->∃k:List Key,l=k.map keyD
 | [],_=>⟨[],rfl⟩
 | d::l,h=>by
  rw[vj,xi]at h;obtain⟨k,rfl⟩:=zGk h.2;cases d with
  | int i=>exact⟨.inl i::k,rfl⟩
  | str x=>exact⟨.inr x::k,rfl⟩
  | _=>cases h.1
theorem zEn:∀{k:List Key}{xs:List V},RepL K J H (k.map keyD) xs->xs=k.map kV
 | [],_,h=>h
 | a::k,_,⟨x,r,e,h,t⟩=>by subst e;rw[zGl h,zEn t];rfl
open Classical in
theorem zIv{κ:Type}[DecidableEq κ]{f:κ->D}(fi:∀a b,f a=f b->a=b)(k:κ):∀{kvs:List (κ × V)}{vs:List D},RepL K J H vs (kvs.map (·.2))->
  (valV kvs k=none/\f k ∉ kvs.map (λp=>f p.1)/\DS.look2 (kvs.map λp=>f p.1) vs (f k)=none)\/∃w dv,valV kvs k=some w/\f k∈kvs.map (λp=>f p.1)/\DS.look2 (kvs.map λp=>f p.1) vs (f k)=some dv/\Rep K J H dv w
 | [],vs,r=>.inl ⟨rfl,by simp,by cases vs <;> rfl⟩
 | p::kvs,[],r=>by have h:p.2::kvs.map (·.2)=[]:=r;cases h
 | p::kvs,dv::vs,⟨x,t,e,h,rl⟩=>by
  have e:=List.cons.inj (e);obtain⟨rfl,rfl⟩:=e;by_cases z:p.1=k
  ·refine .inr ⟨p.2,dv,zEe z,by simp[z],?_,h⟩;unfold DS.look2;rw[xt];exact xb (by rw[z])
  ·have zf:f p.1≠f k:=λq=>z (fi _ _ q)
   have e1:DS.look2 ((p::kvs).map λp=>f p.1) (dv::vs) (f k)=DS.look2 (kvs.map λp=>f p.1) vs (f k):=by
    rw[xt]
    conv=>lhs;unfold DS.look2
    exact xc zf
   rw[zEf z,e1];rcases zIv fi k rl with⟨a1,a2,a3⟩|⟨w,dv',a1,a2,a3,a4⟩
   ·exact .inl ⟨a1,by simp[a2,xD zf] <;> simpa using a2,a3⟩
   ·exact .inr ⟨w,dv',a1,by rw[xt];exact xN _ a2,a3,a4⟩
theorem zOm(he:Rd H a o)(ht:DOb o t ks xs)(rl:RepL K J H vs xs)(ry:Rep K J H d y)(hk:DS.zC4 t d=true):
  (DGet H a y none/\d ∉ ks/\DS.look2 ks vs d=none)\/∃w dv,DGet H a y (some w)/\d∈ks/\DS.look2 ks vs d=some dv/\Rep K J H dv w:=by
 unfold DS.zC4 at hk;rw[xi]at hk;rcases ht with⟨rfl,kvs,rfl,rfl,rfl⟩|⟨rfl,kvs,rfl,rfl,rfl⟩
 ·obtain⟨k,rfl⟩:=zJu hk.1 λl z=>by subst z;cases hk.2
  obtain rfl:=zGl ry;rcases zIv (λa b=>zGm) k rl with⟨a1,a2,a3⟩|⟨w,dv,a1,a2,a3,a4⟩
  ·exact .inl ⟨.inl ⟨kvs,k,he,rfl,a1.symm⟩,a2,a3⟩
  ·exact .inr ⟨w,dv,.inl ⟨kvs,k,he,rfl,a1.symm⟩,a2,a3,a4⟩
 ·cases d with
  | tup l=>
   obtain⟨k,rfl⟩:=zGk (hk.1);obtain⟨b,zs,rfl,tb,rz⟩:=ry;obtain rfl:=zEn rz;rcases zIv (λa b=>zEv) k rl with⟨a1,a2,a3⟩|⟨w,dv,a1,a2,a3,a4⟩
   ·exact .inl ⟨.inr ⟨kvs,k,b,he,rfl,tb.1,a1.symm⟩,a2,a3⟩
   ·exact .inr ⟨w,dv,.inr ⟨kvs,k,b,he,rfl,tb.1,a1.symm⟩,a2,a3,a4⟩
  | _=>cases hk.2
theorem zOr(ha:AbS K J S H)(r:Rep K J H d v)(e:DS.look S d=some (.dct t ks vs)):∃a o xs,v=.ref a/\Rd H a o/\DOb o t ks xs/\RepL K J H vs xs:=by
 cases d with
 | dct t ks vs=>cases e;obtain⟨a,o,xs,rfl,_,h,q,rl⟩:=r;exact⟨a,o,xs,rfl,h,q,rl⟩
 | ref n=>
  obtain⟨a,ea,rfl⟩:=r;obtain⟨c,ec,o,eo,rc⟩:=ha.at ea;have e:S[n]?=_:=e;rw[ec]at e;cases e;obtain⟨xs,q,rl⟩:=rc;exact⟨a,o,xs,rfl,.inl eo,q,rl⟩
 | _=>cases e
theorem zM5(ha:AbS K J S H)(r:Rep K J H d v)(e:DS.look S d=some (.str x)):v=.str x:=by
 cases d with
 | str x=>cases e;exact r
 | ref n=>
  obtain⟨a,ea,rfl⟩:=r;obtain⟨c,ec,o,eo,rc⟩:=ha.at ea;have e:S[n]?=_:=e;rw[ec]at e;cases e;exact False.elim rc
 | _=>cases e
theorem zBj(e:DS.look S d=some (.tup l)\/DS.look S d=some (.lst l)):DS.items S d=some l:=by unfold DS.items;rcases e with e|e <;> rw[e]
theorem ix_D(hu:X.A.units+1<cLine)(hK:X.K=K:=by rfl):IxR X (r2Of K DS.ixD):=by
 subst hK;intro value slice pins s σ H x y v u Q I rx ry hq17 hs;obtain⟨J,S,d1,d2,d,ha,r1,r2,e,k⟩:=hq17;have seq:∀(l:List D) (i:Int),DS.items S d1=some l->d2=.int i->DS.atL l i=some d->wpAny (model X.prog X.w) X.A (subscriptTail value slice v u) (EP X pins σ Q) X.xe s:=λl i e1 e2 e3=>by
  subst e2;obtain rfl:=r2;obtain⟨a,xs,rfl,hq,rl⟩:=zDp ha r1 e1;obtain⟨j,ej,h⟩:=yAa rl.length e3;obtain⟨w,ew,rw'⟩:=rl.get ej;rcases hq with hq|hq
  ·exact zVh value slice pins s σ H _ _ v u Q I rx ry ⟨a,xs,i,w,rfl,rfl,hq,h w ew,k w H ha .refl rw'⟩ hs
  ·exact zYw value slice pins s σ H _ _ v u Q I rx ry ⟨a,xs,i,w,rfl,rfl,hq,h w ew,k w H ha .refl rw'⟩ hs
 unfold DS.ixD at e;split at e
 ·rename_i l i e1;exact seq l i (zBj (.inl e1)) rfl e
 ·rename_i l i e1;exact seq l i (zBj (.inr e1)) rfl e
 ·rename_i z i e1;split at e
  ·rename_i hz;cases e2:DS.atL z.cps.toList i with
   | none=>rw[e2]at e;cases e
   | some c=>
    rw[e2]at e;cases e;obtain rfl:=zM5 ha r1 e1;obtain rfl:=r2;exact zYx value slice pins s σ H _ _ v u Q I rx ry ⟨z,i,c,rfl,rfl,hz,by unfold DS.atL at e2;unfold atI;exact e2,k _ H ha .refl rfl⟩ hs
  ·cases e
 ·rename_i t ks vs kk e1;split at e
  ·rename_i hk;obtain⟨a,o,xs,rfl,he,q,rl⟩:=zOr ha r1 e1;rcases zOm he q rl r2 hk with⟨_,_,h⟩|⟨w,dv,g,_,h,rw'⟩
   ·rw[h]at e;cases e
   ·rw[h]at e;cases e;obtain rfl:v=Value.ref a:=rx;exact tail_any (zIx I g) PySem.F.slot_dict_getitem.lookup (zOv hu I g ry λw' s3 I3 rw2=>⟨w,H,I3,rw2,k w H ha .refl rw'⟩) hs
  ·cases e
 ·cases e
theorem zBp{prog:Program}{w:World}{A:Around}{E:Value->Shared->Prop}{s:Shared}{lo hi:Option Int}{Q:Value->Shared->Prop}(ht:IsTup s.heap t items)(hs:s.heap.IsSliceOf sl vl vu .none)(pl:IsPart vl lo)(pu:IsPart vu hi)
  (hw:HT.sIx items.size 0 lo=0/\HT.sIx items.size items.size hi=items.size) (h:Q (.ref t) s):wpAny (model prog w) A (getItem (.ref t) (.ref sl)) Q E s:=by
 obtain⟨os,hos,hcs,hds⟩:=id hs;have hTs:s.TypeIs (.ref sl) "slice":=⟨os,hos,hcs⟩;unfold getItem
 try with_reducible refine xI ?_
 first|refine xa (xf ?_)|skip
 refine xa (wpAny_sequenceKey ht.typeIs (by decide) ?_);refine xa (ui ht.typeIs vT (vq vT ht.typeIs entry_tuple_getitem ?_ (args_tuple_getitem _ _)));show wpAny _ _ (Builtin.Tuple.tupleItemsOf (.ref t) >>= _) _ _ s;refine xa (tupleItemsOf_ ht ?_);refine xa (vK hTs ?_);rw[xb (by decide)];refine xa (HT.sliceApplied_gen hs pl pu ?_);show wpAny _ _ (if(((HT.sIx items.size 0 lo:Nat):Int) == 0 && (1:Int) == 1 && (HT.sIx items.size items.size hi-HT.sIx items.size 0 lo) == items.size)=true then _ else _) _ _ s;rw[xb (by rw[hw.1,hw.2];simp)];have tex:∀{Q:Bool->Shared->Prop},Q true s->wpAny (model prog w) A.in1 (Builtin.Tuple.tupleIsExact (.ref t)) Q E s:=λ{Q} q=>by
  unfold Builtin.Tuple.tupleIsExact;refine xa (vK ht.typeIs (xf ?_));exact q
 refine xa (tex ?_);rw[xb rfl];refine xa (vz ?_);exact xf ⟨_,rfl,xf h⟩
theorem zIy(rl:RepL K J H l xs)(lo hi:Option Int):RepL K J H (DS.cutL l lo hi) (cutV xs lo hi):=by unfold DS.cutL cutV;rw[show DS.sIx l.length 0 lo=HT.sIx xs.length 0 lo by rw[rl.length];rfl,show DS.sIx l.length l.length hi=HT.sIx xs.length xs.length hi by rw[rl.length];rfl];exact(rl.drop _).take _
theorem zOx{xs:List V}{lo hi:Option Int}(rl:RepL K J H l xs)(hw:HT.sIx xs.length 0 lo=0/\HT.sIx xs.length xs.length hi=xs.length):DS.cutL l lo hi=l:=by unfold DS.cutL;rw[show DS.sIx l.length 0 lo=HT.sIx xs.length 0 lo by rw[rl.length];rfl,show DS.sIx l.length l.length hi=HT.sIx xs.length xs.length hi by rw[rl.length];rfl,hw.1,hw.2,<- rl.length];simp
theorem zSo(ha:AbS K J S H)(r:Rep K J H d v)(e:DS.look S d=some (.lst l)):∃a xs,v=.ref a/\SqL K H a xs/\RepL K J H l xs:=by
 cases d with
 | lst l=>cases e;obtain⟨a,xs,rfl,t,rl⟩:=r;exact⟨a,xs,rfl,t.sq,rl⟩
 | klst l=>cases e;obtain⟨a,xs,rfl,t,rl⟩:=r;exact⟨a,xs,rfl,t.sq,rl⟩
 | ref n=>
  obtain⟨a,ea,rfl⟩:=r;obtain⟨c,ec,o,eo,rc⟩:=ha.at ea;have e:S[n]?=_:=e;rw[ec]at e;cases e;obtain⟨xs,rfl,rl⟩:=rc;exact⟨a,xs,rfl,.inl (.inl eo),rl⟩
 | _=>cases e
theorem sl_D(hK:X.K=K:=by rfl):SlR X (slOf K DS.slD):=by
 subst hK;intro pins s σ H x v vl vu lo hi sl Q I rx hs pl pu hq18;obtain⟨J,S,d1,d,ha,r1,e,k⟩:=hq18;unfold DS.slD at e;split at e
 ·rename_i l;cases e;have r0:=r1;obtain⟨a,xs,rfl,t,rl⟩:=r1;by_cases hw:HT.sIx xs.length 0 lo=0/\HT.sIx xs.length xs.length hi=xs.length
  ·cases rx;obtain⟨its,r,ht,hz⟩:=I.tuple t.sq;have hlen:its.toArray.size=xs.length:=by rw[xq];exact r.length.symm
   refine⟨"tuple",_,vT.lookup,ht.typeIs,zBp ht hs pl pu (by rw[hlen];exact hw) ⟨.ref a,H,I,rfl,k _ H ha .refl ?_⟩⟩;rw[zOx rl hw];exact r0
  ·exact zS9 pins s σ H _ v vl vu lo hi sl Q I rx hs pl pu ⟨a,xs,rfl,t.sq,hw,λp n=>k _ _ (ha.push n) (.push n) ⟨p,_,rfl,⟨zAm,ha.out n⟩,RepL.grow (.push n) _ _ (zIy rl lo hi)⟩⟩
 ·rename_i l;have r0:=r1;obtain⟨a,xs,rfl,t,rl⟩:=r1;split at e
  ·rename_i hw;cases e;have hw:HT.sIx xs.length 0 lo=0/\HT.sIx xs.length xs.length hi=xs.length:=by rw[<- rl.length];exact hw
   cases rx;obtain⟨its,r,ht,hz⟩:=I.tuple (t.sq);have hlen:its.toArray.size=xs.length:=by rw[xq];exact r.length.symm
   exact⟨"tuple",_,vT.lookup,ht.typeIs,zBp ht hs pl pu (by rw[hlen];exact hw) ⟨.ref a,H,I,rfl,k _ H ha .refl r0⟩⟩
  ·rename_i hw;cases e;have hw:¬ (HT.sIx xs.length 0 lo=0/\HT.sIx xs.length xs.length hi=xs.length):=by rw[<- rl.length];exact hw
   exact zS9 pins s σ H _ v vl vu lo hi sl Q I rx hs pl pu ⟨a,xs,rfl,t.sq,hw,λp n=>k _ _ (ha.push n) (.push n) ⟨p,_,rfl,⟨zAm,ha.out n⟩,RepL.grow (.push n) _ _ (zIy rl lo hi)⟩⟩
 ·split at e
  ·rename_i l e1;cases e;obtain⟨a,xs,rfl,t,rl⟩:=zSo ha r1 e1;exact zTp pins s σ H _ v vl vu lo hi sl Q I rx hs pl pu ⟨a,xs,rfl,t,λp n=>k _ _ (ha.push n) (.push n) ⟨p,_,rfl,⟨zAm,ha.out n⟩,RepL.grow (.push n) _ _ (zIy rl lo hi)⟩⟩
  ·cases e
theorem RelV.one(h:RelV x u)(h':RelV y u):x=y:=by
 have inv:∀{z:V},RelV z u->absV u=some z:=λ{z} q=>by
  cases z with
  | non=>obtain rfl:u=Value.none:=q;rfl
  | bl b=>obtain rfl:u=Value.bool b:=q;rfl
  | int i=>obtain⟨t,rfl⟩:=q;rfl
  | str i=>obtain⟨t,rfl⟩:=q;rfl
  | byt i=>obtain⟨t,rfl⟩:=q;rfl
  | flt i=>obtain⟨t,rfl⟩:=q;rfl
  | ref a=>obtain rfl:u=Value.ref a:=q;rfl
  | ty n=>obtain rfl:u=Value.type n:=q;rfl
 exact xA ((inv h).symm.trans (inv h'))
theorem zHr:∀{l:List D}{i:Nat}{d:D},DS.zC6 l=true->l[i]?=some d->d.flat=true
 | [],_,_,_,e=>by simp at e
 | a::l,0,_,f,e=>by
  have f:(a.flat && DS.zC6 l)=true:=f;rw[xi]at f;simp at e;subst e;exact f.1
 | a::l,i+1,d,f,e=>by
  have f:(a.flat && DS.zC6 l)=true:=f;rw[xi]at f;exact zHr f.2 (by simpa using e)
theorem zOn:∀{l:List D}{i:Nat}{d:D},l[i]?=some d->d.dep<=DS.depL l
 | [],_,_,e=>by simp at e
 | a::l,0,_,e=>by
  simp at e;subst e;show a.dep<=max a.dep (DS.depL l);lia
 | a::l,i+1,d,e=>by
  have:=zOn (by simpa using e);show d.dep<=max a.dep (DS.depL l);lia
open Classical in
theorem zV6(hu:X.A.units+64<cLine)(I:Inv X pins σ H s)(rx:RelV x u)(r1:Rep X.K J H d1 x)(rl:RepL X.K J H l xs)(h:DS.okIn d1 l)(us:List Value)(rv:Vals xs us):
  ∃g:Value->Bool,(∀z∈us,SeqAt.EqAt X.A.in1 s z u (g z))/\us.any g=decide (d1∈l):=by
 obtain⟨f1,f2,hd,hc⟩:=h;have hxl:=rv.length;have hl:=rl.length;refine⟨λz=>decide (∃i:Nat,us[i]?=some z/\l[i]?=some d1),λz hz=>?_,?_⟩
 ·obtain⟨i,ei⟩:=uo.mp hz;have hi:=(xG.mp ei).1;have hx:xs[i]?=some xs[i]:=xu (by nofun);obtain⟨d,ed,rd⟩:=rl.get' hx;obtain⟨z',ez,rz⟩:=rv.get hx;rw[ei]at ez;cases ez;have fd:=zHr f2 ed;have cd:=hc d (vS ed);have e:=zSy I 60 (toDv d) (toDv d1) (xm (zJn d) (xm (zOn ed) hd)) X.A.in1 xs[i] x z u (by show X.A.units+1+60<cLine;lia) (zCy _ _ fd rd) (zCy _ _ f1 r1) rz rx (zG9 _ _ cd);have eb:(toDv d).eqv (toDv d1)=decide (∃i:Nat,us[i]?=some z/\l[i]?=some d1):=by
   by_cases q:d=d1
   ·subst q;rw[xk ⟨i,ei,ed⟩];exact(Dv.eqv_iff _ _).mpr rfl
   ·have n1:¬ ∃i:Nat,us[i]?=some z/\l[i]?=some d1:=by
     rintro⟨j,ej,dj⟩;obtain⟨x',ex,rj⟩:=rl.get dj;obtain⟨z'',ez,rz'⟩:=rv.get ex;rw[ej]at ez;cases ez;have:=RelV.one rz rz';subst this;exact q (zG8 _ _ fd f1 (Den.inj I _ _ _ (zCy _ _ fd rd) (zCy _ _ f1 rj) (zG9 _ _ cd)))
    rw[xj n1];cases qq:(toDv d).eqv (toDv d1)with
    | false=>rfl
    | true=>exact absurd (zG8 _ _ fd f1 ((Dv.eqv_iff _ _).mp qq)) q
  show SeqAt.EqAt X.A.in1 s z u (decide (∃i:Nat,us[i]?=some z/\l[i]?=some d1));rw[<- eb];exact e
 ·rw[vR];simp only[List.any_eq_true,uf];constructor
  ·rintro⟨z,_,i,_,e⟩;exact vS e
  ·intro hm;obtain⟨i,e⟩:=uo.mp hm;have hi:i<us.length:=by rw[<- hxl,<- hl];exact(xG.mp e).1
   exact⟨us[i],List.getElem_mem hi,i,xu hi,e⟩
open Classical in
theorem zSu{Q:VK}(neg:Bool)(hu:X.A.units+64<cLine)(I:Inv X pins σ H s)(rx:RelV x u)(ry:RelV y w)(ha:AbS X.K J S H)(r1:Rep X.K J H d1 x)(r2:Rep X.K J H d2 y)(e:DS.inO S d1 d2=some b)
  (k:Q (.bl (if neg then !b else b)) H):wpAny (model X.prog X.w) X.A (compareOp (if neg then .NotIn else .In) u w) (EP X pins σ Q) X.xe s:=by
 have hu1:X.A.units+1<cLine:=by nofun
 have seq:∀(l:List D),DS.items S d2=some l->DS.okIn d1 l->b=decide (d1∈l)->wpAny (model X.prog X.w) X.A (compareOp (if neg then .NotIn else .In) u w) (EP X pins σ Q) X.xe s:=λl e1 ⟨f1,f2,hd,hc⟩ eb=>by
  obtain⟨a,xs,rfl,hq,rl⟩:=zDp ha r2 e1;cases ry;have all:=zV6 hu I rx r1 rl ⟨f1,f2,hd,hc⟩;rcases hq with hq|hq
  ·obtain⟨its,r,pl,hz⟩:=I.list hq;obtain⟨g,hg,ea⟩:=all its r;have ea2:its.toArray.any g=b:=by rw[eb,<- ea];simp
   cases neg with
   | true=>exact SeqAt.notIn_listAt g pl.isList (λz hz=>hg z (by simpa using hz)) ⟨.bl _,H,I,rfl,by rw[ea2];exact k⟩
   | false=>exact SeqAt.in_listAt g pl.isList (λz hz=>hg z (by simpa using hz)) ⟨.bl _,H,I,rfl,by rw[ea2];exact k⟩
  ·obtain⟨its,r,pl,hz⟩:=I.tuple hq;obtain⟨g,hg,ea⟩:=all its r;have ea2:its.toArray.any g=b:=by rw[eb,<- ea];simp
   cases neg with
   | true=>exact SeqAt.notIn_tupleAt g pl (λz hz=>hg z (by simpa using hz)) ⟨.bl _,H,I,rfl,by rw[ea2];exact k⟩
   | false=>exact SeqAt.in_tupleAt g pl (λz hz=>hg z (by simpa using hz)) ⟨.bl _,H,I,rfl,by rw[ea2];exact k⟩
 unfold DS.inO at e;split at e
 ·rename_i l e1;split at e
  ·rename_i h;cases e;exact seq l (zBj (.inl e1)) h rfl
  ·cases e
 ·rename_i l e1;split at e
  ·rename_i h;cases e;exact seq l (zBj (.inr e1)) h rfl
  ·cases e
 ·rename_i t ks vs e1;split at e
  ·rename_i hk;cases e;obtain⟨a,o,xs,rfl,he,q,rl⟩:=zOr ha r2 e1;cases ry;rcases zOm he q rl r1 hk with⟨g,h,_⟩|⟨w,dv,g,h,_⟩
   ·rw[xj h]at k;cases neg with
    | true=>exact zOu hu1 I g rx λs' I'=>⟨.bl _,H,I',rfl,k⟩
    | false=>exact d_in hu1 I g rx λs' I'=>⟨.bl _,H,I',rfl,k⟩
   ·rw[xk h]at k;cases neg with
    | true=>exact zOu hu1 I g rx λs' I'=>⟨.bl _,H,I',rfl,k⟩
    | false=>exact d_in hu1 I g rx λs' I'=>⟨.bl _,H,I',rfl,k⟩
  ·cases e
 ·cases e
theorem zN9(hu:X.A.units+64<cLine)(hK:X.K=K:=by rfl):OpR X (compareOp .In) (r2Of K DS.inD):=by
 subst hK;intro pins s σ H x y v u Q I rx ry hq19;obtain⟨J,S,d1,d2,d,ha,r1,r2,e,k⟩:=hq19;unfold DS.inD at e;cases e1:DS.inO S d1 d2 with
 | none=>rw[e1]at e;cases e
 | some b=>rw[e1]at e;cases e;exact zSu false hu I rx ry ha r1 r2 e1 (k _ H ha .refl rfl)
theorem zKy(hu:X.A.units+64<cLine)(hK:X.K=K:=by rfl):OpR X (compareOp .NotIn) (r2Of K DS.zHk):=by
 subst hK;intro pins s σ H x y v u Q I rx ry hq20;obtain⟨J,S,d1,d2,d,ha,r1,r2,e,k⟩:=hq20;unfold DS.zHk at e;cases e1:DS.inO S d1 d2 with
 | none=>rw[e1]at e;cases e
 | some b=>rw[e1]at e;cases e;exact zSu true hu I rx ry ha r1 r2 e1 (k _ H ha .refl rfl)
noncomputable def pOf (K:PySem.W.Frag) (g:Store->D->D->D->Option Store):TSet:=λo i v H Q=>∃J S d1 d2 d3 S',AbS K J S H/\Rep K J H d1 o/\Rep K J H d2 i/\Rep K J H d3 v/\g S d1 d2 d3=some S'/\∀H',AbS K J S' H'->Grow J H J H'->Q H'
open Classical in
theorem zMs{κ:Type}[DecidableEq κ]{f:κ->D}(fi:∀a b,f a=f b->a=b){k:κ}{dv:D}{w:V}{kvs:List (κ × V)}{vs:List D}(r:RepL K J H vs (kvs.map (·.2)))(rv:Rep K J H dv w):
  (DS.put2 (kvs.map λp=>f p.1) vs (f k) dv).1=(putK kvs k w).map (λp=>f p.1)/\RepL K J H (DS.put2 (kvs.map λp=>f p.1) vs (f k) dv).2 ((putK kvs k w).map (·.2)):=by
 have any_iff:(kvs.any λkv=>decide (kv.1=k))=true <-> f k∈kvs.map λp=>f p.1:=by
  simp only[List.any_eq_true,uf,xw];constructor
  ·rintro⟨p,hp,e⟩;exact⟨p,hp,by rw[e]⟩
  ·rintro⟨p,hp,e⟩;exact⟨p,hp,fi _ _ e⟩
 unfold DS.put2 putK;by_cases hm:f k∈kvs.map λp=>f p.1
 ·rw[xb hm,xb (any_iff.mpr hm)];refine⟨?_,?_⟩
  ·rw[vD];refine List.map_congr_left λp _=>?_
   show f p.1=f (if p.1=k then(p.1,w)else p).1;split <;> rfl
  ·clear hm any_iff
   induction kvs generalizing vs with
   | nil=>cases vs <;> rfl
   | cons p kvs ih=>
    cases vs with
    | nil=>cases r
    | cons dw vs=>
     obtain⟨x,t,e,h,rl⟩:=r;have e:=List.cons.inj (e);obtain⟨rfl,rfl⟩:=e;refine⟨(if p.1=k then(p.1,w)else p).2,_,rfl,?_,ih rl⟩;by_cases z:p.1=k
     ·rw[xb z,xb (show f p.1=f k by rw[z])];exact rv
     ·rw[xc z,xc λq=>z (fi _ _ q)];exact h
 ·rw[xc hm,xc (λz=>hm (any_iff.mp z))];refine⟨by simp,?_⟩;rw[vw];exact r.snoc rv
theorem yAl(hu:X.A.units+1<cLine):PSet X (pOf K DS.putD):=by
 intro pins s σ H o i v ov iv u Q I ro ri rv hq21;obtain⟨J,S,d1,d2,d3,S',ha,r1,r2,r3,e,k⟩:=hq21;unfold DS.putD at e;split at e
 ·rename_i n;obtain⟨a,ea,rfl⟩:=r1;obtain⟨c,ec,ob,eo,rc⟩:=ha.at ea;split at e
  ·rename_i l es;rw[ec]at es;cases es;obtain⟨xs,rfl,rl⟩:=rc;cases d2 with
   | int i'=>
    obtain rfl:=r2;simp only at e;cases ej:DS.ixN l.length i' with
    | none=>rw[ej]at e;cases e
    | some j=>
     rw[ej]at e;cases e;refine set_list pins s σ H _ _ v ov iv u Q I ro ri rv ⟨a,xs,i',j,rfl,rfl,eo,by rw[<- rl.length];exact ej,?_⟩;exact k _ (ha.write ea ⟨_,rfl,rl.set j r3⟩) (.write ea)
   | _=>cases e
  ·rename_i t ks vs es;rw[ec]at es;cases es;obtain⟨xs,q,rl⟩:=rc;split at e
   ·rename_i hk;cases e;cases ro;have fin:∀H',DPut H a i v H'->AbS K J (S.set n (.dct t (DS.put2 ks vs d2 d3).1 (DS.put2 ks vs d2 d3).2)) H'->Grow J H J H'->wpAny (model X.prog X.w) X.A (setItem (.ref a) iv u) (λ_ s'=>∃H',Inv X pins σ H' s'/\Q H') X.xe s:=λH' g a1 g1=>
     zOt hu I g ri rv λs' I'=>⟨H',I',k H' a1 g1⟩
    have hk1:=hk.1;unfold DS.zC4 at hk1;rw[xi]at hk1;rcases q with⟨rfl,kvs,rfl,rfl,rfl⟩|⟨rfl,kvs,rfl,rfl,rfl⟩
    ·obtain⟨kk,rfl⟩:=zJu hk1.1 λl z=>by subst z;cases hk1.2
     obtain rfl:=zGl r2;obtain⟨p1,p2⟩:=zMs (λa b=>zGm) rl r3;refine fin _ (.inl ⟨kvs,kk,eo,rfl,by have:=hk.2;rw[xn]at this;exact this,rfl⟩) (ha.write ea ⟨_,.inl ⟨rfl,_,rfl,p1,rfl⟩,p2⟩) (.write ea)
    ·cases d2 with
     | tup l=>
      obtain⟨kk,rfl⟩:=zGk (hk1.1);obtain⟨b,zs,rfl,tb,rz⟩:=r2;obtain rfl:=zEn rz;obtain⟨p1,p2⟩:=zMs (λa b=>zEv) rl r3;refine fin _ (.inr ⟨kvs,kk,b,eo,rfl,tb.1,by have:=hk.2;rw[xn]at this;exact this,rfl⟩) (ha.write ea ⟨_,.inr ⟨rfl,_,rfl,p1,rfl⟩,p2⟩) (.write ea)
     | _=>cases hk1.2
   ·cases e
  ·cases e
 ·cases e
theorem zW5{o i e:Expr}{mo mi m:DS.EM}{sp2 pos:Pos}{g:Store->D->D->D->Option Store}(hs:PSet X (pOf K g))(ho:DE X K E o mo)(hi:DE X K E i mi)(he:DE X K E e m)(h:nsl i=true:=by rfl)(h2:nco e=true:=by rfl):DS1 X K E (.Assign [.Subscript o i sp2] e pos) (DS.sPut g mo mi m):=
 ⟨(qasgs' he.h (zUa ho.h hi.h hs h) h2).imp λD σ H ⟨env,S,J,ha,he,q⟩=>⟨env,S,J,ha,he,q.then.imp λdv S1 J1 H1 _ a1 g1 q1 v rv=>⟨env,S1,J1,a1,he.grow g1,q1.then.imp λdx S2 J2 H2 _ a2 g2 q2 x rx=>
  ⟨env,S2,J2,a2,he.grow (g1.trans g2),q2.then.imp λdi S3 J3 H3 _ a3 g3 q3 y ry=>by
   cases e1:g S3 dx di dv with
   | none=>rw[e1]at q3;exact False.elim q3
   | some S4=>
    rw[e1]at q3;exact⟨J3,S3,dx,di,dv,S4,a3,Rep.grow g3 _ _ rx,ry,Rep.grow (g2.trans g3) _ _ rv,e1,λH' h1 h2=>q3 J3 H' σ h1 h2 (he.grow (g1.trans (g2.trans (g3.trans h2))))⟩⟩⟩⟩⟩
theorem zDl{ds:List D}(r:RepL K J H [d] xs):∃x,xs=[x]/\Rep K J H d x:=by obtain⟨x,t,rfl,h,rfl⟩:=r;exact⟨x,rfl,h⟩
theorem yA2{kvs:List (List Key × V)}{Q:Value->Shared->Prop}{E:Value->Shared->Prop}(I:Inv X pins σ H s)(e:Rd H a (.dT kvs))(h:∀t s',Inv X pins σ H s'->Q (.int kvs.length t) s'):wpAny (model X.prog X.w) A (call (.builtin "len") [.ref a]) Q E s:=by
 obtain⟨z,hd,xs,rel,dd⟩:=zLh I.hok e;have hT:=dd.typeIs;obtain⟨o,es,ep,ho,hx,hdat,hes,hall,hn⟩:=dd;have hsz:es.size=kvs.length:=by rw[<- vx,hes,xn,<- v3 rel]
 rw[vf]at z;have mt:MeetsIn X.prog X.w (Builtin.«dict.__len__» ⟨[.ref a],[]⟩) (λ_ R s'=>s'=s/\R (.ok (.ret (.int kvs.length s'.toks))) { s' with toks:=s'.toks+1 }):=.of_wp λA R s' hq22=>by
  obtain⟨e,h⟩:=hq22;subst e;show wpAny _ _ (dictSize a >>= _) _ _ s';unfold dictSize;refine xa (xa (wpAny_dictEntries ho hdat (xf ?_)));show wpAny _ _ (Builtin.Dict.pendingCount a >>= _) _ _ s';refine xa (wpAny_pendingCount_other hd ?_);refine wpAny_ret_mkInt ?_;rw[Nat.add_zero,hsz];exact h
 refine Calls.call_function_entry kind_len plain_len entry_len (args_len1 _) ?_
 unfold Builtin.«len»;refine xa (xf ?_);refine xa (ui hT PySem.F.slot_dict_len (call_meetsIn PySem.F.slot_dict_len hT PySem.F.entry_dict_len (PySem.F.args_dict_len_1 _) mt ⟨rfl,?_⟩));show wpAny _ _ _ _ _ { s with toks:=s.toks+1 };refine xa (xI (xf ?_));refine xa (wpAny_letGo ?_);show wpAny _ _ (if((kvs.length:Nat):Int)<0 then _ else _) _ _ _;rw[xc (by nofun)];show wpAny _ _ (if((kvs.length:Nat):Int) >= 2 ^ 63 then _ else _) _ _ _;rw[xc (by nofun)];exact xa (wpAny_mkInt (xf ⟨_,rfl,h _ _ (I.tok _)⟩))
theorem zLo(hK:X.K=K:=by rfl):zBa X (.builtin "len") (cOf K DS.lenB):=by
 subst hK;intro pins s σ H xs us Q I r hq23;obtain⟨J,S,ds,d,ha,rl,e,k⟩:=hq23;unfold DS.lenB at e;split at e
 ·rename_i d0;obtain⟨x,rfl,rx⟩:=zDl (ds:=[]) rl;have seq:∀l,DS.items S d0=some l->d=.int l.length->wpAny (model X.prog X.w) X.A (call (.builtin "len") us) (EP X pins σ Q) X.xe s:=λl e1 e2=>by
   subst e2;obtain⟨a,ys,rfl,hq,q⟩:=zDp ha rx e1;exact zI0 pins s σ H _ us Q I r ⟨a,ys,rfl,hq,k _ H ha .refl (by rw[q.length];rfl)⟩
  split at e
  ·rename_i l e1;cases e;exact seq l (zBj (.inl e1)) rfl
  ·rename_i l e1;cases e;exact seq l (zBj (.inr e1)) rfl
  ·rename_i t ks vs e1;cases e;obtain⟨a,o,ys,rfl,he,q,_⟩:=zOr ha rx e1;obtain⟨u,rfl,ru⟩:=vals1 r;cases ru;rcases q with⟨rfl,kvs,rfl,rfl,rfl⟩|⟨rfl,kvs,rfl,rfl,rfl⟩
   ·exact yBz I he λt s' I'=>⟨.int kvs.length,H,I',⟨t,rfl⟩,k _ H ha .refl (by rw[xn];rfl)⟩
   ·exact yA2 I he λt s' I'=>⟨.int kvs.length,H,I',⟨t,rfl⟩,k _ H ha .refl (by rw[xn];rfl)⟩
  ·rename_i z e1;split at e
   ·rename_i hz;cases e;obtain rfl:=zM5 ha rx e1;exact zHz pins s σ H _ us Q I r ⟨z,rfl,hz,k _ H ha .refl rfl⟩
   ·cases e
  ·cases e
 ·cases e
theorem zHy(hK:X.K=K:=by rfl):zBa X (.type "tuple") (cOf K DS.zBv):=by
 subst hK;intro pins s σ H xs us Q I r hq24;obtain⟨J,S,ds,d,ha,rl,e,k⟩:=hq24;unfold DS.zBv at e;split at e
 ·rename_i d0;obtain⟨x,rfl,rx⟩:=zDl (ds:=[]) rl;split at e
  ·rename_i l;cases e;have r0:=rx;obtain⟨a,ys,rfl,t,q⟩:=rx;exact zCj pins s σ H _ us Q I r ⟨a,ys,rfl,.inr ⟨t.sq,k _ H ha .refl r0⟩⟩
  ·rename_i l;cases e;have r0:=rx;obtain⟨a,ys,rfl,t,q⟩:=rx;exact zCj pins s σ H _ us Q I r ⟨a,ys,rfl,.inr ⟨t.sq,k _ H ha .refl r0⟩⟩
  ·cases e1:DS.litems S d0 with
   | none=>rw[e1]at e;cases e
   | some l=>
    rw[e1]at e;cases e;obtain⟨a,ys,rfl,hq,q⟩:=zDn ha rx e1;exact zCj pins s σ H _ us Q I r ⟨a,ys,rfl,.inl ⟨.inl hq,λp n=>k _ _ (ha.push n) (.push n) ⟨p,ys,rfl,⟨zAm,ha.out n⟩,RepL.grow (.push n) _ _ q⟩⟩⟩
 ·cases e
theorem zIg(r:RepL K J H [d1,d2] xs):∃x y,xs=[x,y]/\Rep K J H d1 x/\Rep K J H d2 y:=by obtain⟨x,t,rfl,h,y,t',rfl,h',rfl⟩:=r;exact⟨x,y,rfl,h,h'⟩
theorem zLn(hc:X.calm=true):zBa X (.builtin "max") (cOf K DS.max2B):=by
 intro pins s σ H xs us Q I r hq25;obtain⟨J,S,ds,d,ha,rl,e,k⟩:=hq25;unfold DS.max2B at e;split at e
 ·obtain⟨x,y,rfl,rx,ry⟩:=zIg rl;obtain rfl:=rx;obtain rfl:=ry;cases e;exact zPa hc pins s σ H _ us Q I r ⟨_,_,rfl,k _ H ha .refl (congrArg V.int (by congr))⟩
 ·cases e
theorem zLm(hc:X.calm=true):zBa X (.builtin "min") (cOf K DS.min2B):=by
 intro pins s σ H xs us Q I r hq26;obtain⟨J,S,ds,d,ha,rl,e,k⟩:=hq26;unfold DS.min2B at e;split at e
 ·obtain⟨x,y,rfl,rx,ry⟩:=zIg rl;obtain rfl:=rx;obtain rfl:=ry;cases e;exact zP9 hc pins s σ H _ us Q I r ⟨_,_,rfl,k _ H ha .refl (congrArg V.int (by congr))⟩
 ·cases e
theorem zPc:zBa X (.builtin "abs") (cOf K DS.absB):=by
 intro pins s σ H xs us Q I r hq27;obtain⟨J,S,ds,d,ha,rl,e,k⟩:=hq27;unfold DS.absB at e;split at e
 ·obtain⟨x,rfl,rx⟩:=zDl (ds:=[]) rl;obtain rfl:=rx;cases e;exact zRw pins s σ H _ us Q I r ⟨_,rfl,k _ H ha .refl (congrArg V.int (by congr))⟩
 ·cases e
theorem zL1:MtR X "list.append" (mOf K DS.zDj):=by
 intro pins s σ H x xs v us Q I rx rs hq28;obtain⟨J,S,d1,ds,d,S',ha,r1,rl,e,k⟩:=hq28;unfold DS.zDj at e;split at e
 ·rename_i n dv;obtain⟨a,ea,rfl⟩:=r1;obtain⟨c,ec,ob,eo,rc⟩:=ha.at ea;obtain⟨y,rfl,ry⟩:=zDl (ds:=[]) rl;split at e
  ·rename_i l es;rw[ec]at es;cases es;obtain⟨ys,rfl,rl⟩:=rc;split at e
   ·rename_i hz;cases e;exact zNh pins s σ H _ _ v us Q I rx rs ⟨a,ys,y,rfl,rfl,eo,by rw[<- rl.length];exact hz,k _ _ (ha.write ea ⟨_,rfl,rl.snoc ry⟩) (.write ea) rfl⟩
   ·cases e
  ·cases e
 ·cases e
theorem zL0:MtR X "list.extend" (mOf K DS.zB8):=by
 intro pins s σ H x xs v us Q I rx rs hq29;obtain⟨J,S,d1,ds,d,S',ha,r1,rl,e,k⟩:=hq29;unfold DS.zB8 at e;split at e
 ·rename_i n dv;obtain⟨a,ea,rfl⟩:=r1;obtain⟨c,ec,ob,eo,rc⟩:=ha.at ea;obtain⟨y,rfl,ry⟩:=zDl (ds:=[]) rl;split at e
  ·cases e
  ·split at e
   ·rename_i l m es em;rw[ec]at es;cases es;obtain⟨ys,rfl,rl'⟩:=rc;obtain⟨b,zs,rfl,hq,q⟩:=zDn ha ry em;split at e
    ·rename_i hz;cases e;cases rx;obtain⟨u,rfl,ru⟩:=rs.one;cases ru;obtain⟨z,its,n,r,hl,e⟩:=I.lstM eo;obtain⟨z2,its2,n2,r2,hl2,e2⟩:=I.lstR hq;have hsz:its.toArray.size+its2.toArray.size<=sizeLine:=by rw[xq,xq,<- hl,<- hl2,<- rl'.length,<- q.length];exact hz
     have hlong:¬ (!its.toArray.isEmpty && Builtin.List.listTooLong (its.toArray.size+its2.toArray.size))=true:=by rw[zQx hsz,Bool.and_false];exact xP
     refine call_meets F.slot_list_extend ⟨_,e,rfl⟩ F.entry_list_extend (F.args_list_extend_2 _ _) (AutoSeq1.list_extend_list_list_0 a its.toArray n b its2.toArray n2 hlong (by rw[xq];lia) (by nofun)) ⟨e,e2,?_⟩;exact⟨.non,_,I.lset eo e (by simp) (r.append r2) (by rw[xE,<- rl'.length,<- q.length];exact hz),rfl,k _ _ (ha.write ea ⟨_,rfl,rl'.append q⟩) (.write ea) rfl⟩
    ·cases e
   ·cases e
 ·cases e
theorem zNw{tg:Expr}{pins:List (Addr × Obj)}{s1:Shared}{σ:St}{H1:Hp}{R:It->Hp->Prop}{a:Addr}{xs:List V}(I1:Inv X pins σ H1 s1)(hq:SqL X.K H1 a xs)(q:R (Itl X.K a) H1):wpAny (model X.prog X.w) X.A (pyIter (.ref a)) (PIE X pins σ tg R) X.xe s1:=by
 obtain⟨its,rv,p,hz⟩:=I1.list hq;refine wpAny_pyIter_list p.isList ?_;refine⟨s1.heap.objs.size,[s1.heap.objs.size],_,_,H1,rfl,I1.kept λb o e=>xp _ e,zM1 a _,⟨_,xy _ rfl,rfl,rfl⟩,λb hb=>?_,q⟩;have e:b=s1.heap.objs.size:=by simpa using hb
 subst e;exact I1.fpOk (xg _) (I1.hok.fresh (xg _))
theorem zR8{tg:Expr}{pins:List (Addr × Obj)}{s1:Shared}{σ:St}{H1:Hp}{R:It->Hp->Prop}{a:Addr}{xs:List V}(I1:Inv X pins σ H1 s1)(hq:SqT X.K H1 a xs)(q:R (Itt X.K a) H1):wpAny (model X.prog X.w) X.A (pyIter (.ref a)) (PIE X pins σ tg R) X.xe s1:=by
 obtain⟨its,rv,p,hz⟩:=I1.tuple hq;refine wpAny_pyIter_tuple (p) ?_;refine⟨s1.heap.objs.size,[s1.heap.objs.size],_,_,H1,rfl,I1.kept λb o e=>xp _ e,zKr a _,⟨_,xy _ rfl,rfl,rfl⟩,λb hb=>?_,q⟩;have e:b=s1.heap.objs.size:=by simpa using hb
 subst e;exact I1.fpOk (xg _) (I1.hok.fresh (xg _))
theorem zR9{R:It->Hp->Prop}{z:Str}(I1:Inv X pins σ H1 s1)(ha:z.cps.all (·<128)=true)(q:R (Its z) H1):wpAny (model X.prog X.w) X.A (pyIter (.str z t)) (PIE X pins σ tg R) X.xe s1:=by
 refine wpAny_pyIter_ascii ha ?_;refine⟨s1.heap.objs.size,[s1.heap.objs.size],_,Its z,H1,rfl,I1.kept λb o e=>xp _ e,zPr s1.heap.objs.size z t,⟨xC _,_,xy _ rfl,rfl,rfl⟩,λb hb=>?_,q⟩;have e:b=s1.heap.objs.size:=by simpa using hb
 subst e;exact I1.fpOk (xg _) (I1.hok.fresh (xg _))
theorem stays_list(ha:AbS K J S H)(r:Rep K J H d v)(e:DS.look S d=some (.lst l)):∃a xs,v=.ref a/\SqL K H a xs/\∀J' H' S',Grow J H J' H'->AbS K J' S' H'->DS.gOk S' (DS.gdOf S d)->∃ys,SqL K H' a ys/\RepL K J' H' l ys:=by
 cases d with
 | lst l=>cases e;obtain⟨a,xs,rfl,t,rl⟩:=r;exact⟨a,xs,rfl,t.sq,λJ' H' S' g _ _=>⟨xs,(t.grow g).sq,RepL.grow g _ _ rl⟩⟩
 | klst l=>cases e;obtain⟨a,xs,rfl,t,rl⟩:=r;exact⟨a,xs,rfl,t.sq,λJ' H' S' g _ _=>⟨xs,(t.grow g).sq,RepL.grow g _ _ rl⟩⟩
 | ref n=>
  obtain⟨a,ea,rfl⟩:=r;obtain⟨c,ec,o,eo,rc⟩:=ha.at ea;have e:S[n]?=_:=e;rw[ec]at e;cases e;obtain⟨xs,rfl,rl⟩:=rc;refine⟨a,xs,rfl,.inl (.inl eo),λJ' H' S' g ha' gd=>?_⟩;have e':=gd (n,.lst l) (by simp[DS.gdOf,ec]);obtain⟨o',eo',rc'⟩:=ha'.ob n a _ (g.pre n a ea) e';obtain⟨ys,rfl,rl'⟩:=rc';exact⟨ys,.inl (.inl eo'),rl'⟩
 | _=>cases e
theorem stays_tup(ha:AbS K J S H)(r:Rep K J H d v)(e:DS.look S d=some (.tup l)):∃a xs,v=.ref a/\SqT K H a xs/\∀J' H',Grow J H J' H'->SqT K H' a xs/\RepL K J' H' l xs:=by
 cases d with
 | tup l=>cases e;obtain⟨a,xs,rfl,t,rl⟩:=r;exact⟨a,xs,rfl,t.sq,λJ' H' g=>⟨(t.grow g).sq,RepL.grow g _ _ rl⟩⟩
 | ktup l=>cases e;obtain⟨a,xs,rfl,t,rl⟩:=r;exact⟨a,xs,rfl,t.sq,λJ' H' g=>⟨(t.grow g).sq,RepL.grow g _ _ rl⟩⟩
 | ref n=>
  obtain⟨a,ea,rfl⟩:=r;obtain⟨c,ec,o,eo,rc⟩:=ha.at ea;have e:S[n]?=_:=e;rw[ec]at e;cases e;exact False.elim rc
 | _=>cases e
theorem zVi{gd:List (Nat × D)}(h:∀J' H' S',Grow J H J' H'->AbS K J' S' H'->DS.gOk S' gd->∃ys,SqL K H' a ys/\RepL K J' H' l ys):ItOk K J H ⟨l,gd⟩ (Itl K a) where
 go:=λi H' J' S' ha g gd hi=>by
  obtain⟨ys,q,rl⟩:=h J' H' S' g ha gd;exact⟨ys,ys[i]'(by rw[<- rl.length];exact hi),q,xu _⟩
 yld:=λi H' J' S' x H'' ha g gd y d ed=>by
  obtain⟨rfl,y⟩:=y;obtain⟨ys,q,rl⟩:=h J' H'' S' g ha gd;obtain⟨x',ex,rx⟩:=rl.get ed;rw[y ys q]at ex;cases ex;exact⟨ha,.refl,rx⟩
 stop:=λi H' J' S' ha g gd hi=>by
  obtain⟨ys,q,rl⟩:=h J' H' S' g ha gd;exact⟨ys,q,by rw[<- rl.length];exact hi⟩
theorem zYy{gd:List (Nat × D)}(h:∀J' H',Grow J H J' H'->SqT K H' a xs/\RepL K J' H' l xs):ItOk K J H ⟨l,gd⟩ (Itt K a) where
 go:=λi H' J' S' ha g gd hi=>by
  obtain⟨q,rl⟩:=h J' H' g;exact⟨xs,xs[i]'(by rw[<- rl.length];exact hi),q,xu _⟩
 yld:=λi H' J' S' x H'' ha g gd y d ed=>by
  obtain⟨rfl,y⟩:=y;obtain⟨q,rl⟩:=h J' H'' g;obtain⟨x',ex,rx⟩:=rl.get ed;rw[y xs q]at ex;cases ex;exact⟨ha,.refl,rx⟩
 stop:=λi H' J' S' ha g gd hi=>by
  obtain⟨q,rl⟩:=h J' H' g;exact⟨xs,q,by rw[<- rl.length];exact hi⟩
theorem zYz :ItOk K J H ⟨DS.chars x,[]⟩ (Its x) where
 go:=λi H' J' S' ha g gd hi=>by
  have:(DS.chars x).length=x.cps.size:=by simp[DS.chars]
  show i<x.cps.size;rw[<- this];exact hi
 yld:=λi H' J' S' y H'' ha g gd yl d ed=>by
  obtain⟨rfl,c,ec,rfl⟩:=yl;have e:(DS.chars x)[i]?=some (D.str ⟨#[c]⟩):=by unfold DS.chars;rw[vp,uL,ec];rfl
  rw[e]at ed;cases ed;exact⟨ha,.refl,rfl⟩
 stop:=λi H' J' S' ha g gd hi=>by
  have:(DS.chars x).length=x.cps.size:=by simp[DS.chars]
  show x.cps.size<=i;rw[<- this];exact hi
theorem zZp(he:DE X K E e m)(hK:X.K=K:=by rfl):DI X K E tg e (DS.iVal m):=by
 subst hK;refine⟨⟨λpins s σ H R I hq1=>?_⟩⟩;obtain⟨env,S,J,ha,hE,q⟩:=hq1;refine thn (he.h.h pins s σ H (λx H1=>∃J1 S1 d w,AbS X.K J1 S1 H1/\Rep X.K J1 H1 d x/\DS.zFp S1 d=some w/\∀It,ItOk X.K J1 H1 w It->R It H1) I ⟨env,S,J,ha,hE,q.bind.imp λd S1 J1 H1 _ a1 g1 q1 x rx=>?_⟩) λv s1 hq1=>?_
 ·obtain⟨w,ew,k⟩:=q1.lift;exact⟨J1,S1,d,w,a1,rx,ew,k J1 H1 a1 .refl⟩
 ·obtain⟨x,H1,I1,r1,J1,S1,d,w,a1,rx,ew,k⟩:=hq1;unfold DS.zFp at ew;split at ew
  ·rename_i l el;cases ew;obtain⟨a,xs,rfl,hq,st⟩:=stays_tup a1 rx el;cases r1;exact zR8 I1 hq (k _ (zYy st))
  ·rename_i l el;cases ew;obtain⟨a,xs,rfl,hq,st⟩:=stays_list a1 rx el;cases r1;exact zNw I1 hq (k _ (zVi st))
  ·rename_i z ez;split at ew
   ·rename_i hz;cases ew;obtain rfl:=zM5 a1 rx ez;obtain⟨t,rfl⟩:=r1;exact zR9 I1 hz (k _ zYz)
   ·cases ew
  ·cases ew
theorem zRb{lo:Int}:ItOk K J H ⟨(List.range n).map fun(k:Nat)=>D.int (lo+k),[]⟩ (Itr lo n) where
 go:=λi H' J' S' ha g gd hi=>by show i<n;simpa using hi
 yld:=λi H' J' S' y H'' ha g gd yl d ed=>by
  obtain⟨rfl,rfl⟩:=yl;rw[vp]at ed;by_cases hi:i<n
  ·rw[List.getElem?_range hi]at ed;cases ed;exact⟨ha,.refl,rfl⟩
  ·rw[vk (by simpa using hi)]at ed;cases ed
 stop:=λi H' J' S' ha g gd hi=>by show n<=i;simpa using hi
theorem fits_of{i:Int}(h:DS.fits62 i=true):-(2 ^ 62)<=i/\i<2 ^ 62:=ur h
theorem zOl(hg:Gl X "range")(hm:X.mg "range"=none)(ha:DA X K E [a] am)(h:nst a=true:=by rfl):DI X K E tg (.Call (.Name "range" p) [a] [] pos) (DS.zBo am):=
 ⟨(qrange1' hg hm ha.h h).imp λσ H R ⟨env,S,J,h,hE,q⟩=>⟨env,S,J,h,hE,q.bind.imp λds S1 J1 H1 e1 a1 g1 q1 xs rx=>by
  obtain⟨w,ew,k⟩:=q1.lift;have hl:=ha.len _ _ _ _ e1
  match ds,hl with
  | [d],_=>
   obtain⟨x,rfl,r⟩:=zDl (ds:=[]) rx;cases d with
   | int j=>
    unfold DS.zGe at ew;simp only at ew;by_cases hf:DS.fits62 j=true
    ·rw[xb hf]at ew;cases ew;obtain rfl:=r;refine⟨j,rfl,(fits_of hf).1,(fits_of hf).2,k J1 H1 a1 .refl _ ?_⟩;have e:DS.zFv 0 j=(List.range j.toNat).map fun(k:Nat)=>D.int (0+k):=by unfold DS.zFv;rw[Int.sub_zero]
     rw[e];exact zRb
    ·rw[xc hf]at ew;cases ew
   | _=>cases ew⟩⟩
theorem zVe(K:PySem.W.Frag)(hU:U∈DS.kinds)(hT:T∈DS.kinds):PySem.W.kitOne K (.type U) (.type T)=some (DS.zVk U T):=by
 unfold DS.kinds at hU hT;simp only[xh,uw,or_false]at hU hT;rcases hU with rfl|rfl|rfl|rfl|rfl|rfl <;> rcases hT with rfl|rfl|rfl|rfl|rfl|rfl <;> first
  | rfl
  | (unfold PySem.W.kitOne;rfl)
  | (unfold PySem.W.kitOne;simp;rfl)
theorem zPq(ha:AbS K J S H)(r:Rep K J H d v)(h:DS.tyD S d=some U)(hn:∀l,d≠.ktup l)(hn':∀l,d≠.klst l)(hU:U≠"set")(hD:U≠"dict"):TyOf K H v (.type U):=by
 cases d with
 | non=>obtain rfl:=r;cases h;exact .non
 | bl b=>obtain rfl:=r;cases h;exact .bl b
 | int b=>obtain rfl:=r;cases h;exact .int b
 | str b=>obtain rfl:=r;cases h;exact .str b
 | tup l=>obtain⟨a,xs,rfl,t,_⟩:=r;cases h;exact .tup t.1
 | lst l=>
  obtain⟨a,xs,rfl,t,_⟩:=r;cases h;exact .lst t.1
 | dct t ks vs=>
  cases h;exact absurd rfl hD
 | ktup l=>exact absurd rfl (hn l)
 | klst l=>exact absurd rfl (hn' l)
 | ref n=>
  obtain⟨a,ea,rfl⟩:=r;obtain⟨c,ec,o,eo,rc⟩:=ha.at ea;have el:DS.look S (.ref n)=some c:=ec;unfold DS.tyD at h;rw[el]at h;cases c with
  | lst ds=>cases h;obtain⟨xs,rfl,_⟩:=rc;exact .lst eo
  | dct _ ks vs=>
   cases h;exact absurd rfl hD
  | st l=>cases h;exact absurd rfl hU
  | _=>first|exact False.elim rc|(cases h;done)|(cases e;done)|(cases e1;done)|(cases ed;done)|(cases h;rcases hT with z|z|z <;> exact absurd z (by decide))
 | st l=>cases h;exact absurd rfl hU
 | ty n=>cases h
theorem zPb(hK:X.K=K:=by rfl):zBa X (.builtin "isinstance") (cOf K DS.isiB):=by
 subst hK;intro pins s σ H xs us Q I r hq30;obtain⟨J,S,ds,d,ha,rl,e,k⟩:=hq30;unfold DS.isiB at e;split at e
 ·rename_i d0 T;obtain⟨x,y,rfl,rx,ry⟩:=zIg rl;obtain rfl:=ry;split at e
  ·cases e
  ·cases e
  ·rename_i n1 n2;cases e1:DS.tyD S d0 with
   | none=>rw[e1]at e;cases e
   | some U=>
    rw[e1]at e;simp only at e;split at e
    ·rename_i h;cases e;have hs:U≠"set":=λz=>by subst z;exact absurd h.1 (by decide)
     exact zRv _ pins s σ H _ us Q I r ⟨x,_,rfl,zPq ha rx e1 (λl z=>n1 l z) (λl z=>n2 l z) hs (λz=>by have h1:=h.1;rw[z]at h1;exact absurd h1 (by decide)),zVe _ h.1 h.2,k _ H ha .refl rfl⟩
    ·cases e
 ·cases e
end
theorem len0{α:Type}:∀{l:List α},l.length=0->l=[]
 | [],_=>rfl
 | _::_,h=>nomatch h
theorem lenS{α:Type}{n:Nat}{l:List α}(h:l.length=n+1):∃a r,l=a::r/\r.length=n:=by
 cases l with
 | nil=>cases h
 | cons a r=>exact⟨a,r,rfl,Nat.succ.inj h⟩
theorem len1{α:Type}{l:List α}(h:l.length=1):∃a,l=[a]:=by obtain⟨a,r,e,q⟩:=lenS h;exact⟨a,by rw[e,len0 q]⟩
theorem len2{α:Type}{l:List α}(h:l.length=2):∃a b,l=[a,b]:=by obtain⟨a,r,e,q⟩:=lenS h;obtain⟨b,e2⟩:=len1 q;exact⟨a,b,by rw[e,e2]⟩
theorem len3{α:Type}{l:List α}(h:l.length=3):∃a b c,l=[a,b,c]:=by obtain⟨a,r,e,q⟩:=lenS h;obtain⟨b,c,e2⟩:=len2 q;exact⟨a,b,c,by rw[e,e2]⟩
theorem len4{α:Type}{l:List α}(h:l.length=4):∃a b c d,l=[a,b,c,d]:=by obtain⟨a,r,e,q⟩:=lenS h;obtain⟨b,c,d,e2⟩:=len3 q;exact⟨a,b,c,d,by rw[e,e2]⟩
theorem len5{α:Type}{l:List α}(h:l.length=5):∃a b c d e,l=[a,b,c,d,e]:=by obtain⟨a,r,e1,q⟩:=lenS h;obtain⟨b,c,d,e,e2⟩:=len4 q;exact⟨a,b,c,d,e,by rw[e1,e2]⟩
theorem zMk{K:PySem.W.Frag}{F:DS.Fn}{H:Hp}{a:Addr}{ns:List Int}{XX:XK}(h:∃S,F [.klst (ns.map D.int)] []=.ok (.bl true) S)(hS:SqL K H a (ns.map V.int))(hT:TabsOk K H):spOf K XE0 F [.ref a] H (λv _=>v=.bl true) XX:=by
 obtain⟨S,e⟩:=h;refine⟨[],[],[.klst (ns.map D.int)],⟨rfl,hT,ua,λi a d e _=>by simp at e⟩,⟨.ref a,[],rfl,⟨a,ns.map V.int,rfl,?_,.ints⟩,rfl⟩,?_⟩
 ·rcases hS with h|h
  ·exact .inl ⟨h,by simp⟩
  ·exact .inr h
 ·rw[e];exact λJ' H' _ _ v r=>r
end L2
namespace TM
open PySem PyProof.Rows
noncomputable def dk:Keyed:=(Value.none,Value.none)
def Cm(prog:Program)(w:World)(A:Around)(s:Shared)(κ:SortKind)(rk:Keyed->Nat)(Gd:Keyed->Prop):Prop:=
 ∀x y,Gd x->Gd y->∀(Q:Bool->Shared->Prop) (E':Value->Shared->Prop),Q (decide (rk x<rk y)) s->wpAny (model prog w) A (keyLt' κ x.1 y.1) Q E' s
structure SB (κ:SortKind) (a₀:Array Keyed) (st:SortSt):Prop where
 perm:(arrOf st).Perm a₀
 kind:kindOf st=κ
 failed:failedOf st=none
section
variable {κ:SortKind}{a₀:Array Keyed}{st:SortSt}{rk:Keyed->Nat}
theorem SB.size(h:SB κ a₀ st):(arrOf st).size=a₀.size:=h.perm.size_eq
theorem SB.set(h:SB κ a₀ st){xs:Array Keyed}(hp:xs.Perm (arrOf st)):SB κ a₀ (setArr st xs):=⟨hp.trans h.perm,h.kind,h.failed⟩
noncomputable def ky (rk:Keyed->Nat) (xs:Array Keyed) (i:Nat):Nat:=rk (xs.getD i dk)
def So(rk:Keyed->Nat)(xs:Array Keyed)(a b:Nat):Prop:=∀i j,a<=i->i<=j->j<b->ky rk xs i<=ky rk xs j
def Fa(rk:Keyed->Nat)(xs:Array Keyed)(a b:Nat):Prop:=∀i j,a<=i->i<=j->j<b->ky rk xs j<=ky rk xs i
def Out(a b:Nat)(xs ys:Array Keyed):Prop:=∀k,k<a\/b<=k->ys[k]?=xs[k]?
theorem Out.refl :Out a b xs xs:=λ_ _=>rfl
theorem Out.trans(h:Out a b xs ys)(h':Out a b ys zs):Out a b xs zs:=λk hk=>(h' k hk).trans (h k hk)
theorem Out.mono{a b a' b':Nat}(h:Out a b xs ys)(h1:a'<=a)(h2:b<=b'):Out a' b' xs ys:=λk hk=>h k (by nofun)
theorem zVr{xs ys:Array Keyed}(h:xs[i]?=ys[j]?):xs.getD i dk=ys.getD j dk:=by rw[vd,vd,h]
theorem zLa{i j:Nat}(h:xs[i]?=ys[j]?):ky rk xs i=ky rk ys j:=by unfold ky;rw[zVr h]
theorem Out.ky{a b k:Nat}(h:Out a b xs ys)(hk:k<a\/b<=k):TM.ky rk ys k=TM.ky rk xs k:=zLa (h k hk)
theorem So.out{a b c d:Nat}(h:So rk xs c d)(o:Out a b xs ys)(hd:d<=a\/b<=c):So rk ys c d:=λi j h1 h2 h3=>by
 rw[o.ky (by nofun),o.ky (by nofun)];exact h i j h1 h2 h3
theorem zNr{xs:Array Keyed}{i j:Nat}(hj:j<=xs.size)(k:Nat):ky rk (mirror xs i j ((j-i) / 2)) k=if i<=k/\k<j then ky rk xs (i+j-1-k)else ky rk xs k:=by
 have e:=getElem?_mirror_all (i:=i) hj k;split at e <;> rename_i h1
 ·rw[xb h1];exact zLa e
 ·rw[xc h1];exact zLa e
theorem zCt{xs:Array Keyed}{i j:Nat}(hj:j<=xs.size)(he:∀k,i<=k->k<j->ky rk xs k=ky rk xs (j-1))(k:Nat):ky rk (mirror xs i j ((j-i) / 2)) k=ky rk xs k:=by
 rw[zNr hj];split
 ·rw[he _ (by omega) (by omega),he k (by omega) (by omega)]
 ·rfl
theorem zUo{xs:Array Keyed}{i j:Nat}(hj:j<=xs.size):Out i j xs (mirror xs i j ((j-i) / 2)):=λk hk=>by
 rw[getElem?_mirror_all hj,xc (by nofun)]
theorem zSs{xs:Array Keyed}{src d:Nat}(hs:src<xs.size)(hd:d<=src)(k:Nat):ky rk (bubble xs src d) k=if k=src-d then ky rk xs src else if src-d<k/\k<=src then ky rk xs (k-1)else ky rk xs k:=by
 have e:=getElem?_bubble hs d hd k;split at e <;> rename_i h1
 ·rw[xb h1];exact zLa e
 ·rw[xc h1];split at e <;> rename_i h2
  ·rw[xb h2];exact zLa e
  ·rw[xc h2];exact zLa e
theorem zUp{xs:Array Keyed}{src d:Nat}(hs:src<xs.size)(hd:d<=src):Out (src-d) (src+1) xs (bubble xs src d):=λk hk=>by
 rw[getElem?_bubble hs d hd,xc (by omega),xc (by omega)]
end
section
variable {prog:Program}{w:World}{A:Around}{E:Value->Shared->Prop}{s:Shared}{κ:SortKind}{a₀:Array Keyed}{rk:Keyed->Nat}{Gd:Keyed->Prop}
theorem yA9{xs:Array Keyed}(hp:xs.Perm a₀)(hg:∀x∈a₀,Gd x){i:Nat}(hi:i<a₀.size):xs[i]?=some (xs.getD i dk)/\Gd (xs.getD i dk):=by
 have hi':i<xs.size:=by rw[hp.size_eq];exact hi
 have e:xs.getD i dk=xs[i]:=by simp[Array.getD,hi']
 refine⟨by rw[e];exact getElem?_pos _ i hi',?_⟩;rw[e];exact hg _ (hp.mem_iff.mp (Array.getElem_mem hi'))
theorem w_lt(C:Cm prog w A s κ rk Gd){st:SortSt}{Q:Option Bool->SortSt->Prop}(hk:kindOf st=κ)(hx:Gd x)(hy:Gd y)(h:Q (some (decide (rk x<rk y))) st):wpS (model prog w) A E s (lt' x y) Q st:=by rw[lt'_eq];refine xx (wpS_get ?_);rw[hk];exact xx (wpS_lift (wpAny_attempt (C x y hx hy _ _ ⟨rfl,xF h⟩)))
theorem zS4{st:SortSt}{i:Nat}{Q:Keyed->SortSt->Prop}(e:xs[i]?=some x)(h:Q x st):wpS (model prog w) A E s (elem' xs i) Q st:=by rw[elem'_eq,e];exact xF h
theorem w_at(C:Cm prog w A s κ rk Gd)(hg:∀x∈a₀,Gd x){st:SortSt}{i j:Nat}{Q:Option Bool->SortSt->Prop}(B:SB κ a₀ st)(hi:i<a₀.size)(hj:j<a₀.size)
  (h:Q (some (decide (ky rk (arrOf st) i<ky rk (arrOf st) j))) st):wpS (model prog w) A E s (ltAt' i j) Q st:=by
 obtain⟨e1,g1⟩:=yA9 B.perm hg hi;obtain⟨e2,g2⟩:=yA9 B.perm hg hj;rw[ltAt'_eq];refine xx (wpS_get ?_);exact xx (zS4 e1 (xx (zS4 e2 (w_lt C B.kind g1 g2 h))))
noncomputable def ascL (lo a nrem:Nat):StateT SortSt Sem AscSt:=forIn [a:nrem] ((none,a):AscSt) λ_ z=>do
 let x <- ltAt' (lo+z.snd) (lo+z.snd-1)
 match x with
 | some smaller=>if smaller=true then pure (ForInStep.done (none,z.snd))else pure (ForInStep.yield (none,z.snd+1))
 | _=>pure (ForInStep.done (some none,z.snd))
noncomputable def zM2 (lo n nrem:Nat):StateT SortSt Sem (Option Nat):=do
 reverseSlice' lo (lo+n)
 let z <- ascL lo n nrem
 match z.fst with
 | some r=>pure r
 | none=>pure (some z.snd)
noncomputable def zRs (lo n nrem:Nat):StateT SortSt Sem DescSt:=forIn [n:nrem] ((none,n,0):DescSt) λ_ z=>do
 let x <- ltAt' (lo+z.snd.fst) (lo+z.snd.fst-1)
 match x with
 | some smaller=>
  if smaller=true then
   if z.snd.snd > 0 then do
    reverseSlice' (lo+z.snd.fst-(z.snd.snd+1)) (lo+z.snd.fst)
    pure (ForInStep.yield (none,z.snd.fst+1,0))
   else pure (ForInStep.yield (none,z.snd.fst+1,0))
  else do
   let x <- ltAt' (lo+z.snd.fst-1) (lo+z.snd.fst)
   match x with
   | some larger=>if larger=true then pure (ForInStep.done (none,z.snd.fst,z.snd.snd))else pure (ForInStep.yield (none,z.snd.fst+1,z.snd.snd+1))
   | _=>pure (ForInStep.done (some none,z.snd.fst,z.snd.snd))
 | _=>pure (ForInStep.done (some none,z.snd.fst,z.snd.snd))
noncomputable def zN5 (lo n nrem:Nat):StateT SortSt Sem (Option Nat):=do
 liftM (rule "list.sort.descending-run")
 let z <- zRs lo (n+1) nrem
 match z.fst with
 | some r=>pure r
 | none=>
  if z.snd.snd > 0 then do
   reverseSlice' (lo+z.snd.fst-(z.snd.snd+1)) (lo+z.snd.fst)
   zM2 lo z.snd.fst nrem
  else zM2 lo z.snd.fst nrem
theorem count_eq(lo nrem:Nat):countRun' lo nrem=(do
  let z <- ascL lo 1 nrem
  match z.fst with
  | some r=>pure r
  | none=>
   if(z.snd == nrem)=true then pure (some z.snd)
   else if z.snd > 1 then do
    let x <- ltAt' lo (lo+z.snd-1)
    match x with
    | some rose=>if rose=true then pure (some z.snd)else do
      reverseSlice' lo (lo+z.snd)
      zN5 lo z.snd nrem
    | _=>pure none
   else zN5 lo z.snd nrem):=by
 rw[countRun'_eq];unfold zN5 zM2 zRs ascL;refine congrArg (Bind.bind _) ?_
 funext z
 obtain⟨r,n⟩:=z;cases r with
 | some r=>rfl
 | none=>
  dsimp only;split
  ·rfl
  ·split
   ·congr 1;funext x
    cases x with
    | none=>rfl
    | some rose=>
     dsimp only;split
     ·rfl
     ·congr 1;funext _r
      congr 1;funext _u;congr 1;congr 1;funext s2;obtain⟨r2,n2,q2⟩:=s2
      cases r2 with
      | some r2=>rfl
      | none=>
       dsimp only;split
       ·congr 1;funext _v;congr 1;funext _w;congr 1;funext s3;obtain⟨r3,n3⟩:=s3;cases r3 <;> rfl
       ·congr 1;funext _w;congr 1;funext s3;obtain⟨r3,n3⟩:=s3;cases r3 <;> rfl
   ·congr 1;funext _u;congr 1;congr 1;funext s2;obtain⟨r2,n2,q2⟩:=s2
    cases r2 with
    | some r2=>rfl
    | none=>
     dsimp only;split
     ·congr 1;funext _v;congr 1;funext _w;congr 1;funext s3;obtain⟨r3,n3⟩:=s3;cases r3 <;> rfl
     ·congr 1;funext _w;congr 1;funext s3;obtain⟨r3,n3⟩:=s3;cases r3 <;> rfl
structure Ran (κ:SortKind) (a₀:Array Keyed) (lo hi:Nat) (st st':SortSt):Prop where
 b:SB κ a₀ st'
 pend:pendingOf st'=pendingOf st
 out:Out lo hi (arrOf st) (arrOf st')
theorem Ran.refl{lo hi:Nat}{st:SortSt}(B:SB κ a₀ st):Ran κ a₀ lo hi st st:=⟨B,rfl,.refl⟩
theorem Ran.trans{lo hi:Nat}{st st1 st2:SortSt}(a:Ran κ a₀ lo hi st st1)(b:Ran κ a₀ lo hi st1 st2):Ran κ a₀ lo hi st st2:=⟨b.b,b.pend.trans a.pend,a.out.trans b.out⟩
theorem Ran.mono{lo hi lo' hi':Nat}{st st1:SortSt}(a:Ran κ a₀ lo hi st st1)(h1:lo'<=lo)(h2:hi<=hi'):Ran κ a₀ lo' hi' st st1:=⟨a.b,a.pend,a.out.mono h1 h2⟩
theorem w_rev{st:SortSt}{i j:Nat}{Q:Unit->SortSt->Prop}(h:Q () (setArr st (mirror (arrOf st) i j ((j-i) / 2)))):wpS (model prog w) A E s (reverseSlice' i j) Q st:=by rw[reverseSlice'_eq];exact wpS_modify h
theorem zGf{st:SortSt}{i j:Nat}(B:SB κ a₀ st)(hj:j<=a₀.size):Ran κ a₀ i j st (setArr st (mirror (arrOf st) i j ((j-i) / 2))):=⟨B.set (mirror_perm _ _ _ _),rfl,zUo (by rw[B.size];exact hj)⟩
theorem zWy(C:Cm prog w A s κ rk Gd)(hg:∀x∈a₀,Gd x){st:SortSt}{lo a nrem:Nat}{Q:AscSt->SortSt->Prop}(hn:lo+nrem<=a₀.size)(ha:1<=a)(han:a<=nrem)(B:SB κ a₀ st)(hs:So rk (arrOf st) lo (lo+a))
  (h:∀n,a<=n->n<=nrem->So rk (arrOf st) lo (lo+n)->(n=nrem\/ky rk (arrOf st) (lo+n)<ky rk (arrOf st) (lo+n-1))->Q (none,n) st):wpS (model prog w) A E s (ascL lo a nrem) Q st:=by
 unfold ascL;refine wpS_forRange (I:=λx c st'=>st'=st/\c=(none,x)/\So rk (arrOf st) lo (lo+x)) ?step ?fin ⟨rfl,rfl,hs⟩
 case fin=>
  rintro c st' ⟨rfl,rfl,hs'⟩;rw[show max a nrem=nrem by nofun]at hs' ⊢;exact h nrem han (xg _) hs' (.inl rfl)
 case step=>
  rintro x c st' hax hxn ⟨rfl,rfl,hs'⟩;dsimp only;refine xx (w_at C hg B (by nofun) (by nofun) ?_);by_cases q:ky rk (arrOf st') (lo+x)<ky rk (arrOf st') (lo+x-1)
  ·rw[xk q];exact xF (h x hax (by nofun) hs' (.inr q))
  ·rw[xj q];refine xF ⟨rfl,rfl,λi j h1 hij hj=>?_⟩;by_cases hjx:j<lo+x
   ·exact hs' i j h1 hij hjx
   ·obtain rfl:j=lo+x:=by nofun
    by_cases hi':i=lo+x
    ·rw[hi'];exact xg _
    ·exact xm (hs' i (lo+x-1) h1 (by nofun) (by nofun)) (Nat.not_lt.mp q)
theorem zS2(C:Cm prog w A s κ rk Gd)(hg:∀x∈a₀,Gd x){st:SortSt}{lo n nrem:Nat}{Q:Option Nat->SortSt->Prop}(hn:lo+nrem<=a₀.size)(h1:1<=n)(hnn:n<=nrem)(B:SB κ a₀ st)(hs:Fa rk (arrOf st) lo (lo+n))
  (h:∀m st',Ran κ a₀ lo (lo+nrem) st st'->1<=m->m<=nrem->So rk (arrOf st') lo (lo+m)->Q (some m) st'):wpS (model prog w) A E s (zM2 lo n nrem) Q st:=by
 unfold zM2;have R:=zGf (i:=lo) (j:=lo+n) B (by omega);have hsz:lo+n<=(arrOf st).size:=by rw[B.size];omega
 refine xx (w_rev (xx (zWy C hg hn h1 hnn R.b ?_ λm hm1 hm2 hsm _=>xF (h m _ (R.mono (xg _) (by omega)) (by omega) hm2 hsm))));intro i j h0 hij hj;show ky rk (mirror (arrOf st) lo (lo+n) ((lo+n-lo) / 2)) i<=ky rk (mirror (arrOf st) lo (lo+n) ((lo+n-lo) / 2)) j;rw[zNr hsz,zNr hsz,xb (by omega),xb (by omega)];exact hs _ _ (by omega) (by omega) (by omega)
theorem zWx(C:Cm prog w A s κ rk Gd)(hg:∀x∈a₀,Gd x){st:SortSt}{lo n nrem:Nat}{Q:DescSt->SortSt->Prop}(hn:lo+nrem<=a₀.size)(h1:1<=n)(hnn:n<=nrem)(B:SB κ a₀ st)(hs:Fa rk (arrOf st) lo (lo+n))
  (h:∀m neq st',Ran κ a₀ lo (lo+nrem) st st'->n<=m->m<=nrem->Fa rk (arrOf st') lo (lo+m)->neq+1<=m->(∀i,lo+m-(neq+1)<=i->i<lo+m->ky rk (arrOf st') i=ky rk (arrOf st') (lo+m-1))->Q (none,m,neq) st'):
  wpS (model prog w) A E s (zRs lo n nrem) Q st:=by
 unfold zRs;refine wpS_forRange (I:=λx c st'=>∃neq,c=(none,x,neq)/\Ran κ a₀ lo (lo+nrem) st st'/\Fa rk (arrOf st') lo (lo+x)/\neq+1<=x/\(∀i,lo+x-(neq+1)<=i->i<lo+x->ky rk (arrOf st') i=ky rk (arrOf st') (lo+x-1))) ?step ?fin
  ⟨0,rfl,.refl B,hs,by nofun,λi h1 h2=>by congr 1;lia⟩
 case fin=>
  rintro c st' ⟨neq,rfl,R,hs',hq,he⟩;rw[show max n nrem=nrem by nofun]at hs' hq he ⊢;exact h nrem neq st' R hnn (xg _) hs' hq he
 case step=>
  rintro x c st' hax hxn ⟨neq,rfl,R,hs',hq,he⟩;dsimp only;have hsz:lo+x<=(arrOf st').size:=by rw[R.b.size];lia
  refine xx (w_at C hg R.b (by nofun) (by nofun) ?_);by_cases q:ky rk (arrOf st') (lo+x)<ky rk (arrOf st') (lo+x-1)
  ·rw[xk q];simp only[xB];have st1:∀xs:Array Keyed,(∀k,ky rk xs k=ky rk (arrOf st') k)->Fa rk xs lo (lo+(x+1)):=λxs hk i j h0 hij hj=>by
    rw[hk,hk];by_cases hjx:j<lo+x
    ·exact hs' i j h0 hij hjx
    ·obtain rfl:j=lo+x:=by nofun
     by_cases hi':i=lo+x
     ·rw[hi'];exact xg _
     ·exact xm (x4 q) (hs' i (lo+x-1) h0 (by nofun) (by nofun))
   by_cases hneq:neq > 0
   ·rw[xb hneq];have R2:=zGf (i:=lo+x-(neq+1)) (j:=lo+x) R.b (by nofun);exact xx (w_rev (xF ⟨0,rfl,R.trans (R2.mono (by nofun) (by nofun)),st1 _ (zCt hsz he),by nofun,λi h1 h2=>by congr 1;lia⟩))
   ·rw[xc hneq];exact xF ⟨0,rfl,R,st1 _ (λ_=>rfl),by nofun,λi h1 h2=>by congr 1;lia⟩
  ·rw[xj q];simp only[xQ,xM];refine xx (w_at C hg R.b (by nofun) (by nofun) ?_);by_cases ql:ky rk (arrOf st') (lo+x-1)<ky rk (arrOf st') (lo+x)
   ·rw[xk ql];exact xF (h x neq st' R hax (by nofun) hs' hq he)
   ·rw[xj ql];have ex:ky rk (arrOf st') (lo+x)=ky rk (arrOf st') (lo+x-1):=by nofun
    refine xF ⟨neq+1,rfl,R,λi j h0 hij hj=>?_,by nofun,λi h1 h2=>?_⟩
    ·by_cases hjx:j<lo+x
     ·exact hs' i j h0 hij hjx
     ·obtain rfl:j=lo+x:=by nofun
      by_cases hi':i=lo+x
      ·rw[hi'];exact xg _
      ·rw[ex];exact hs' i (lo+x-1) h0 (by nofun) (by nofun)
    ·rw[show lo+(x+1)-1=lo+x by nofun];by_cases hix:i=lo+x
     ·rw[hix]
     ·rw[ex];exact he i (by nofun) (by nofun)
theorem zS3(C:Cm prog w A s κ rk Gd)(hg:∀x∈a₀,Gd x){st:SortSt}{lo n nrem:Nat}{Q:Option Nat->SortSt->Prop}(hn:lo+nrem<=a₀.size)(hnn:n+1<=nrem)(B:SB κ a₀ st)(hs:Fa rk (arrOf st) lo (lo+(n+1)))
  (h:∀m st',Ran κ a₀ lo (lo+nrem) st st'->1<=m->m<=nrem->So rk (arrOf st') lo (lo+m)->Q (some m) st'):wpS (model prog w) A E s (zN5 lo n nrem) Q st:=by
 unfold zN5;refine xx (wpS_lift (vz ⟨rfl,xx (zWx C hg hn (by nofun) hnn B hs λm neq st' R hm1 hm2 hs' hq he=>?_)⟩));dsimp only;have hsz:lo+m<=(arrOf st').size:=by rw[R.b.size];lia
 by_cases hneq:neq > 0
 ·rw[xb hneq];have R2:=zGf (i:=lo+m-(neq+1)) (j:=lo+m) R.b (by nofun);refine xx (w_rev (zS2 C hg hn (by nofun) hm2 R2.b (λi j h0 hij hj=>?_) λm' st'' R3 a1 a2 a3=>h m' st'' ((R.trans (R2.mono (by nofun) (by nofun))).trans R3) a1 a2 a3));show ky rk (mirror (arrOf st') _ _ _) j<=ky rk (mirror (arrOf st') _ _ _) i;rw[zCt hsz he,zCt hsz he];exact hs' i j h0 hij hj
 ·rw[xc hneq];exact zS2 C hg hn (by nofun) hm2 R.b hs' λm' st'' R3 a1 a2 a3=>h m' st'' (R.trans R3) a1 a2 a3
theorem w_count(C:Cm prog w A s κ rk Gd)(hg:∀x∈a₀,Gd x){st:SortSt}{lo nrem:Nat}{Q:Option Nat->SortSt->Prop}(hn:lo+nrem<=a₀.size)(h1:1<=nrem)(B:SB κ a₀ st)
  (h:∀m st',Ran κ a₀ lo (lo+nrem) st st'->1<=m->m<=nrem->So rk (arrOf st') lo (lo+m)->Q (some m) st'):wpS (model prog w) A E s (countRun' lo nrem) Q st:=by
 rw[count_eq];refine xx (zWy C hg hn (xg 1) h1 B (λi j h0 hij hj=>Nat.le_of_eq (congrArg _ (show i=j by nofun))) λn hn1 hn2 hsn hor=>?_);dsimp only;by_cases hnn:n=nrem
 ·rw[xb (by simpa using hnn)];exact xF (h n st (.refl B) hn1 hn2 hsn)
 ·rw[xc (by simpa using hnn)];have hlt:=hor.resolve_left hnn;by_cases hgt:n > 1
  ·rw[xb hgt];refine xx (w_at C hg B (by nofun) (by nofun) ?_);by_cases hr:ky rk (arrOf st) lo<ky rk (arrOf st) (lo+n-1)
   ·rw[xk hr];exact xF (h n st (.refl B) hn1 hn2 hsn)
   ·rw[xj hr];have hsz:lo+n<=(arrOf st).size:=by rw[B.size];lia
    have hall:∀k,lo<=k->k<lo+n->ky rk (arrOf st) k=ky rk (arrOf st) (lo+n-1):=λk hk0 hk=>by
     have a1:=hsn lo k (xg _) hk0 hk;have a2:=hsn k (lo+n-1) hk0 (by nofun) (by nofun);lia
    have R2:=zGf (i:=lo) (j:=lo+n) B (by nofun);refine xx (w_rev (zS3 C hg hn (by nofun) R2.b (λi j h0 hij hj=>?_) λm' st'' R3 a1 a2 a3=>h m' st'' ((R2.mono (xg _) (by nofun)).trans R3) a1 a2 a3));show ky rk (mirror (arrOf st) _ _ _) j<=ky rk (mirror (arrOf st) _ _ _) i;rw[zCt hsz hall,zCt hsz hall];by_cases hjn:j<lo+n
    ·rw[hall i (by nofun) (by nofun),hall j (by nofun) hjn];exact xg _
    ·obtain rfl:j=lo+n:=by nofun
     by_cases hi':i=lo+n
     ·rw[hi'];exact xg _
     ·rw[hall i (by nofun) (by nofun)];exact x4 hlt
  ·rw[xc hgt];obtain rfl:n=1:=by nofun
   refine zS3 C hg hn (by nofun) B (λi j h0 hij hj=>?_) h;by_cases hi':i=j
   ·rw[hi'];exact xg _
   ·obtain rfl:i=lo:=by nofun
    obtain rfl:j=i+1:=by nofun
    exact x4 hlt
theorem yAg(C:Cm prog w A s κ rk Gd)(hg:∀x∈a₀,Gd x){st:SortSt}{lo n ok:Nat}{Q:Bool->SortSt->Prop}(hn:lo+n<=a₀.size)(hok:ok<=n)(B:SB κ a₀ st)(hs:So rk (arrOf st) lo (lo+ok))
  (h:∀st',Ran κ a₀ lo (lo+n) st st'->So rk (arrOf st') lo (lo+n)->Q true st'):wpS (model prog w) A E s (binarySort' lo n ok) Q st:=by
 rw[binarySort'_eq];refine xx (wpS_mono (wpS_forRange (I:=λk c st'=>c=(none,())/\Ran κ a₀ lo (lo+n) st st'/\So rk (arrOf st') lo (lo+min k n)) (Q:=λc st'=>c=(none,())/\Ran κ a₀ lo (lo+n) st st'/\So rk (arrOf st') lo (lo+n)) ?step ?fin ?init) ?post)
 case post=>
  rintro c st' ⟨rfl,R,hs'⟩;exact xF (h st' R hs')
 case init=>
  refine⟨rfl,.refl B,λi j h0 hij hj=>?_⟩;by_cases h1:ok=0
  ·exact Nat.le_of_eq (congrArg _ (show i=j by nofun))
  ·exact hs i j h0 hij (by nofun)
 case fin=>
  rintro c st' ⟨hc,R,hs'⟩;rw[show min (max (max ok 1) n) n=n by nofun]at hs';exact⟨hc,R,hs'⟩
 case step=>
  rintro k c st' hak hkn ⟨rfl,R,hs'⟩;rw[show min k n=k by nofun]at hs';have hk:lo+k<a₀.size:=by nofun
  refine xx (wpS_mono (wpS_forRange (I:=λx c st''=>st''=st'/\∃l r,c=(none,l,r)/\l<=r/\r<=k/\r-l<=k-x/\(∀i,i<l->ky rk (arrOf st') (lo+i)<=ky rk (arrOf st') (lo+k))/\(∀i,r<=i->i<k->ky rk (arrOf st') (lo+k)<ky rk (arrOf st') (lo+i)))
   (Q:=λc st''=>st''=st'/\∃l r,c=(none,l,r)/\l<=k/\(∀i,i<l->ky rk (arrOf st') (lo+i)<=ky rk (arrOf st') (lo+k))/\(∀i,l<=i->i<k->ky rk (arrOf st') (lo+k)<ky rk (arrOf st') (lo+i))) ?istep ?ifin ?iinit) ?ipost)
  case iinit=>exact⟨rfl,0,k,rfl,by nofun,by nofun,by nofun,λi hi=>by nofun,λi h1 h2=>by nofun⟩
  case ifin=>
   rintro c st'' ⟨rfl,l,r,rfl,hlr,hrk,hm,hlo,hhi⟩;obtain rfl:l=r:=by nofun
   exact⟨rfl,l,l,rfl,hrk,hlo,hhi⟩
  case istep=>
   rintro x c st'' _ hxk ⟨rfl,l,r,rfl,hlr,hrk,hm,hlo,hhi⟩;dsimp only;by_cases hge:l >= r
   ·rw[xb hge];obtain rfl:l=r:=by nofun
    exact xF ⟨rfl,l,l,rfl,hrk,hlo,hhi⟩
   ·rw[xc hge];refine xx (w_at C hg R.b hk (by nofun) ?_);by_cases q:ky rk (arrOf st'') (lo+k)<ky rk (arrOf st'') (lo+(l+r) / 2)
    ·rw[xk q];exact xF ⟨rfl,l,(l+r) / 2,rfl,by nofun,by nofun,by nofun,hlo,λi h1 h2=>xv q (hs' _ _ (by nofun) (by nofun) (by nofun))⟩
    ·rw[xj q];exact xF ⟨rfl,(l+r) / 2+1,r,rfl,by nofun,by nofun,by nofun,λi h1=>xm (hs' (lo+i) (lo+(l+r) / 2) (by nofun) (by nofun) (by nofun)) (Nat.not_lt.mp q),hhi⟩
  case ipost=>
   rintro c st'' ⟨rfl,l,r,rfl,hlk,hlo,hhi⟩;show wpS _ _ _ _ (do moveDown' (lo+k) (lo+l);pure (ForInStep.yield (none,()))) _ _;rw[moveDown'_eq];have hks:lo+k<(arrOf st'').size:=by rw[R.b.size];exact hk
   have ob:=zUp (d:=lo+k-(lo+l)) hks (by nofun);refine xx (wpS_modify (xF ⟨rfl,R.trans ⟨R.b.set (bubble_perm _ _ _),rfl,ob.mono (by nofun) (by nofun)⟩,?_⟩));rw[show min (k+1) n=k+1 by nofun];intro i j h0 hij hj;show ky rk (bubble (arrOf st'') (lo+k) (lo+k-(lo+l))) i<=ky rk (bubble (arrOf st'') (lo+k) (lo+k-(lo+l))) j;rw[zSs hks (by nofun),zSs hks (by nofun),show lo+k-(lo+k-(lo+l))=lo+l by nofun];have lo':∀i,lo<=i->i<lo+l->ky rk (arrOf st'') i<=ky rk (arrOf st'') (lo+k):=λi h1 h2=>by
    have:=hlo (i-lo) (by nofun)
    rwa[show lo+(i-lo)=i by nofun]at this
   have hi':∀i,lo+l<=i->i<lo+k->ky rk (arrOf st'') (lo+k)<=ky rk (arrOf st'') i:=λi h1 h2=>by
    have:=hhi (i-lo) (by nofun) (by nofun);rw[show lo+(i-lo)=i by nofun]at this;exact x4 this
   repeat' split
   all_goals first
    | (exfalso;lia)
    | exact xg _
    | exact lo' _ (by nofun) (by nofun)
    | exact hi' _ (by nofun) (by nofun)
    | exact hs' _ _ (by nofun) (by nofun) (by nofun)
end
section
variable {rk:Keyed->Nat}
abbrev Pw(rk:Keyed->Nat)(l:List Keyed):Prop:=l.Pairwise λx y=>rk x<=rk y
theorem getD_list(a:Array Keyed)(i:Nat)(h:i<a.size):a.getD i dk=a.toList[i]'(by simpa using h):=by simp[Array.getD,h]
theorem So.pw{a:Array Keyed}(h:So rk a 0 a.size):Pw rk a.toList:=by
 rw[Pw,List.pairwise_iff_getElem];intro i j hi hj hij;have:=h i j (by nofun) (by nofun) (by simpa using hj);unfold ky at this
 rwa[getD_list a i (by simpa using hi),getD_list a j (by simpa using hj)]at this
variable {a b out:Array Keyed}{ia ib k:Nat}
variable {na nb:Nat}
end
section
variable {prog:Program}{w:World}{A:Around}{E:Value->Shared->Prop}{s:Shared}{κ:SortKind}{a₀:Array Keyed}{rk:Keyed->Nat}{Gd:Keyed->Prop}
theorem zQy(n:Nat)(h:n<64):minRun' n n 0=n:=by
 match n,h with
 | 0,_=>rfl
 | n+1,h=>
  show(if n+1<64 then n+1+0 else minRun' n ((n+1) / 2) (max 0 ((n+1) % 2)))=n+1;rw[xb h]
theorem zTc{γ:Type}{c:Prop}[Decidable c]{st:SortSt}{m n:StateT SortSt Sem γ}{Q:γ->SortSt->Prop}(h1:c->wpS (model prog w) A E s m Q st)(h2:¬ c->wpS (model prog w) A E s n Q st):wpS (model prog w) A E s (if c then m else n) Q st:=by
 split
 ·exact h1 ‹_›
 ·exact h2 ‹_›
theorem w_sr(C:Cm prog w A s κ rk Gd)(hz:a₀.size<=63)(hg:∀x∈a₀,Gd x){st:SortSt}{Q:Unit->SortSt->Prop}(B:SB κ a₀ st)(hp:pendingOf st=#[])
  (h:∀st',SB κ a₀ st'->So rk (arrOf st') 0 a₀.size->Q () st'):wpS (model prog w) A E s sortRuns' Q st:=by
 rw[sortRuns'_eq];refine xx (wpS_get ?_);dsimp only;rw[B.size,zQy _ (by nofun)];refine xx (wpS_mono (wpS_forRange (I:=λx c st'=>∃lo p,c=(none,lo)/\SB κ a₀ st'/\pendingOf st'=List.toArray p/\((lo=0/\p=[]/\x<=lo)\/(lo=a₀.size/\p.length<=1/\So rk (arrOf st') 0 a₀.size)))
  (Q:=λc st'=>∃p lo,c=(none,lo)/\SB κ a₀ st'/\pendingOf st'=List.toArray p/\p.length<=1/\So rk (arrOf st') 0 a₀.size) ?step ?fin ?init) ?post)
 case init=>exact⟨0,[],rfl,B,hp,.inl ⟨rfl,rfl,by nofun⟩⟩
 case fin=>
  rintro c st' ⟨lo,p,rfl,B',hp',q⟩;rcases q with⟨rfl,rfl,q⟩|⟨rfl,q1,q2⟩
  ·exact⟨[],_,rfl,B',hp',by simp,λi j h1 h2 h3=>by nofun⟩
  ·exact⟨p,_,rfl,B',hp',q1,q2⟩
 case post=>
  rintro c st' ⟨p,lo,rfl,B',hp',hl,hs⟩;dsimp only;refine xx (wpS_mono (wpS_forRange (I:=λx c st2=>c=(none,())/\SB κ a₀ st2/\pendingOf st2=List.toArray p/\So rk (arrOf st2) 0 a₀.size)
   (Q:=λc st2=>c=(none,())/\SB κ a₀ st2/\So rk (arrOf st2) 0 a₀.size) ?s2 ?f2 ?i2) ?p2)
  case i2=>exact⟨rfl,B',hp',hs⟩
  case f2=>
   rintro c st2 ⟨rfl,B2,hp2,hs2⟩;exact⟨rfl,B2,hs2⟩
  case p2=>
   rintro c st2 ⟨rfl,B2,hs2⟩;exact xF (h st2 B2 hs2)
  case s2=>
   rintro x c st2 _ hx ⟨rfl,B2,hp2,hs2⟩;refine xx (wpS_get ?_);rw[hp2];refine zTc (λq=>?_) λq=>?_
   ·exact xF ⟨rfl,B2,hs2⟩
   ·exact absurd hl (by simpa using q)
 case step=>
  rintro x c st' _ hx ⟨lo,p,rfl,B',hp',q⟩;dsimp only;refine zTc (λq1=>?_) λq1=>?_
  ·rcases q with⟨rfl,rfl,q⟩|⟨rfl,q3,q4⟩
   ·exact xF ⟨[],_,rfl,B',hp',by simp,λi j h1 h2 h3=>by nofun⟩
   ·exact xF ⟨p,_,rfl,B',hp',q3,q4⟩
  obtain⟨rfl,rfl,q⟩:lo=0/\p=[]/\x<=lo:=by
   rcases q with q|⟨rfl,_⟩
   ·exact q
   ·lia
  refine xx (w_count C hg (by nofun) (by nofun) B' λm st2 R2 hm1 hm2 hs2=>?_);dsimp only;have B2:=R2.b;have hp2:pendingOf st2=#[]:=R2.pend.trans hp';refine zTc (λq2=>?_) λq2=>?_
  ·refine xx (wpS_lift (vz ⟨rfl,?_⟩));refine xx (yAg C hg (by nofun) (by nofun) B2 hs2 λst3 R3 hs3=>?_);have B3:=R3.b;have hp3:pendingOf st3=#[]:=R3.pend.trans hp2;rw[xc (by decide)];refine xx (wpS_get ?_);rw[hp3];refine xx (wpS_modify (xF ⟨_,[(0,min (a₀.size-0) a₀.size,0)],rfl,⟨B3.perm,B3.kind,B3.failed⟩,?_,.inr ⟨by nofun,by simp,?_⟩⟩))
   ·show(pendingOf st3).push _=_;rw[hp3];rfl
   ·have:0+min (a₀.size-0) a₀.size=a₀.size:=by nofun
    rw[this]at hs3;exact hs3
  ·refine xx (wpS_get ?_);rw[hp2];refine xx (wpS_modify (xF ⟨_,[(0,m,0)],rfl,⟨B2.perm,B2.kind,B2.failed⟩,?_,.inr ⟨by nofun,by simp,?_⟩⟩))
   ·show(pendingOf st2).push _=_;rw[hp2];rfl
   ·have:0+m=a₀.size:=by nofun
    rw[this]at hs2;exact hs2
end
end TM
namespace EK
open PySem
open DS (D)
inductive A2 {α β:Type}(R:α->β->Prop):List α->List β->Prop where
 | nil:A2 R [] []
 | cons {a:α}{b:β}{l:List α}{m:List β}:R a b->A2 R l m->A2 R (a::l) (b::m)
theorem A2.length{α β:Type}{R:α->β->Prop}{l:List α}{m:List β}(h:A2 R l m):l.length=m.length:=by
 induction h with
 | nil=>rfl
 | cons _ _ ih=>simp[ih]
theorem A2.imp{α β:Type}{R R':α->β->Prop}{l:List α}{m:List β}(h:A2 R l m)(k:∀a b,R a b->R' a b):A2 R' l m:=by
 induction h with
 | nil=>exact .nil
 | cons h _ ih=>exact .cons (k _ _ h) ih
def Ek(h:Heap):Nat->D->Value->Prop
 | 0,d,v=>∃i t,d=.int i/\v=.int i t
 | n+1,d,v=>∃ds a o items k,d=.tup ds/\v=.ref a/\h.get? a=some o/\o.cls=.type "tuple"/\o.data=.seq items k/\A2 (Ek h n) ds items.toList
theorem Ek.kept{h h':Heap}:∀{n:Nat}{d:D}{v:Value},Ek h n d v->(∀a o,h.get? a=some o->o.cls=.type "tuple"->h'.get? a=some o)->Ek h' n d v
 | 0,_,_,x,_=>x
 | n+1,_,_,⟨ds,a,o,items,k,e1,e2,h1,h2,h3,r⟩,kp=>⟨ds,a,o,items,k,e1,e2,kp a o h1 h2,h2,h3,r.imp λ_ _ q=>Ek.kept q kp⟩
theorem A2.inj{α β:Type}{R R':α->β->Prop}{l l':List α}{m:List β}(h:A2 R l m)(h':A2 R' l' m)(k:∀a a' b,R a b->R' a' b->a=a'):l=l':=by
 induction h generalizing l' with
 | nil=>cases h';rfl
 | cons h _ ih=>
  cases h' with
  | cons q r=>rw[k _ _ _ h q,ih r]
theorem Ek.inj :∀{n:Nat}{d d':D}{v:Value},Ek h n d v->Ek h n d' v->d=d'
 | 0,_,_,_,⟨i,t,e1,e2⟩,⟨j,u,e3,e4⟩=>by subst e1 e2 e3;cases e4;rfl
 | n+1,_,_,_,⟨ds,a,o,items,k,e1,e2,h1,h2,h3,r⟩,⟨ds',a',o',items',k',e1',e2',h1',h2',h3',r'⟩=>by
  subst e1 e2 e1';cases e2';obtain rfl:o=o':=xA (h1.symm.trans h1');rw[h3]at h3';injection h3' with q _
  subst q;rw[r.inj r' λ_ _ _ x y=>Ek.inj x y]
mutual
def hD:D->Int
 | .int i=>hashInt i
 | .tup l=>reduceHash (Builtin.Tuple.tupleHashOf (hL l))
 | _=>0
def hL:List D->List Int
 | []=>[]
 | d::r=>hD d::hL r
end
theorem zSv:∀(l m:List D),hL (l++m)=hL l++hL m
 | [],_=>rfl
 | d::l,m=>by simp[hL,zSv l m]
section
variable {prog:Program}{w:World}{s:Shared}
theorem Ek.typeIs{n:Nat}(h:Ek s.heap (n+1) d (.ref a)):s.TypeIs (.ref a) "tuple":=by obtain⟨ds,a',o,items,k,e1,e2,h1,h2,h3,r⟩:=h;cases e2;exact⟨o,h1,h2⟩
theorem zOe:∀(n:Nat) {d:D}{v:Value}{A:Around}{E:Value->Shared->Prop}{s:Shared}{Q:Int->Shared->Prop},Ek s.heap n d v->A.units+n<cLine->(∀tk,s.toks<=tk->Q (hD d) { s with toks:=tk })->wpAny (model prog w) A (pyHash v) Q E s
 | 0,_,_,A,E,s,Q,⟨i,t,e1,e2⟩,_,h=>by subst e1 e2;exact wpAny_pyHash_int (h _ (Nat.le_add_right _ _))
 | n+1,_,_,A,E,s,Q,hk,hu,h=>by
  have hk0:=hk;obtain⟨ds,a,o,items,k,rfl,rfl,ho,hc,hd,r⟩:=hk;have hT:=hk0.typeIs;unfold pyHash;first|unfold pyHashByItsType|skip
  first|refine xa (wpAny_cRoomFor_or (.inr (by nofun)) ?_)|skip
  refine xa (ud hT uD.lookup ?_);show wpAny _ _ (if(some (Value.builtin "tuple.__hash__") == some Value.none)=true then _ else _) Q E s;rw[xc (by rw[beq_builtin_none];exact xP)];refine xa (ud hT uD.lookup ?_);show wpAny _ _ (callSpecialIfBoundUnlessNone? (.ref a) "__hash__" _ >>= _) Q E s;refine xa (wpAny_callSpecialIfBoundUnlessNone?_slot hT uD (vq uD hT F.entry_tuple_hash ?_ (F.args_tuple_hash_1 _)));show wpAny _ _ (Builtin.Tuple.tupleItemsOf (.ref a) >>= _) _ _ s;refine xa (uE ho hd (xa ?_));rw[<- Array.forIn_toList];refine vX _ (λrest (b:Array Int) s'=>∃fst left tk,ds=fst++left/\s.toks<=tk/\A2 (Ek s.heap n) left rest/\b.toList=hL fst/\s'={ s with toks:=tk }) _ ?_ ?_ _ _ ⟨[],ds,s.toks,rfl,xg _,r,rfl,rfl⟩
  ·rintro x rest b s' ⟨fst,left,tk,rfl,ht,hl,hb,rfl⟩;cases hl with
   | @cons k' _ ks' _ h1 hl'=>
    refine xa (zOe n h1 (by show A.units+1+n<cLine;lia) λtk2 ht2=>?_);exact xf ⟨fst++[k'],ks',tk2,by simp,xm ht ht2,hl',by rw[zSv];simp[hb,hL],rfl⟩
  ·rintro b s' ⟨fst,left,tk,rfl,ht,hl,hb,rfl⟩;cases hl;rw[vA]at h;show wpAny _ _ (retInt (Builtin.Tuple.tupleHashOf b.toList)) _ _ _;rw[hb];refine wpAny_ret_mkInt ?_;show wpAny _ _ (if(decide (-(2:Int) ^ 63<=Builtin.Tuple.tupleHashOf (hL fst)) && decide (Builtin.Tuple.tupleHashOf (hL fst)<2 ^ 63))=true then _ else _) Q E _;have h':=h (tk+1) (Nat.le_succ_of_le ht);unfold hD reduceHash at h';by_cases hr:(decide (-(2:Int) ^ 63<=Builtin.Tuple.tupleHashOf (hL fst)) && decide (Builtin.Tuple.tupleHashOf (hL fst)<2 ^ 63))=true
   ·rw[xb hr];rw[xb hr]at h';exact xf h'
   ·rw[xc hr];rw[xc hr]at h';exact xa (vz (xf h'))
theorem zGu:∀(n f:Nat) {d:D}{v:Value}{A:Around}{E:Value->Shared->Prop}{s:Shared}{Q:Bool->Shared->Prop},Ek s.heap n d v->n<=f->Q false s->wpAny (model prog w) A (ofAClassStatement f v) Q E s
 | 0,f,_,_,A,E,s,Q,⟨i,t,e1,e2⟩,_,h=>by subst e1 e2;exact wpAny_of_eq (show ofAClassStatement f (.int i t)=pure false by cases f <;> rfl) h
 | n+1,0,_,_,A,E,s,Q,hk,hf,h=>by nofun
 | n+1,f+1,_,_,A,E,s,Q,hk,hf,h=>by
  have hk0:=hk;obtain⟨ds,a,o,items,k,rfl,rfl,ho,hc,hd,r⟩:=hk;have hT:=hk0.typeIs;unfold ofAClassStatement;refine xa (vK hT ?_);dsimp only;rw[xb (by decide)];refine xa (xf ?_);rw[xc (by decide)];refine xa (wpAny_seqItems ho hd (xa ?_));show wpAny _ _ (forIn items _ _) _ _ s;rw[<- Array.forIn_toList];refine vX _ (λrest r s'=>r.1=none/\s'=s/\∃l,A2 (Ek s.heap n) l rest) _ ?_ ?_ _ _ ⟨rfl,rfl,_,r⟩
  ·rintro v rest r s' ⟨hr,rfl,l,al⟩;cases al with
   | cons q al=>
    refine xa (zGu n f q (by nofun) ?_);rw[xc (by decide)];exact xf ⟨rfl,rfl,_,al⟩
  ·rintro⟨r1,r2⟩ s' ⟨hr,rfl,_⟩;simp only at hr;subst hr;exact xf h
theorem zKc:∀(n f:Nat) {d:D}{v:Value}{A:Around}{E:Value->Shared->Prop}{s:Shared}{Q:Bool->Shared->Prop},Ek s.heap n d v->n<=f->Q true s->wpAny (model prog w) A (hashByValue f v) Q E s
 | 0,f,_,_,A,E,s,Q,⟨i,t,e1,e2⟩,_,h=>by subst e1 e2;exact wpAny_of_eq (show hashByValue f (.int i t)=pure true by cases f <;> rfl) h
 | n+1,0,_,_,A,E,s,Q,hk,hf,h=>by nofun
 | n+1,f+1,_,_,A,E,s,Q,hk,hf,h=>by
  have hk0:=hk;obtain⟨ds,a,o,items,k,rfl,rfl,ho,hc,hd,r⟩:=hk;have hT:=hk0.typeIs;unfold hashByValue;refine xa (ud hT uD.lookup ?_);dsimp only;refine xa (wpAny_seqItems ho hd (xa ?_));show wpAny _ _ (forIn items _ _) _ _ s;rw[<- Array.forIn_toList];refine vX _ (λrest r s'=>r.1=none/\s'=s/\∃l,A2 (Ek s.heap n) l rest) _ ?_ ?_ _ _ ⟨rfl,rfl,_,r⟩
  ·rintro v rest r s' ⟨hr,rfl,l,al⟩;cases al with
   | cons q al=>
    refine xa (zKc n f q (by nofun) ?_);rw[xc (by decide)];exact xf ⟨rfl,rfl,_,al⟩
  ·rintro⟨r1,r2⟩ s' ⟨hr,rfl,_⟩;simp only at hr;subst hr;exact xf h
theorem zGt:∀(n f:Nat) {d:D}{v:Value}{A:Around}{E:Value->Shared->Prop}{s:Shared}{Q:Bool->Shared->Prop},Ek s.heap n d v->n<=f->Q true s->wpAny (model prog w) A (eqIsQuiet f v) Q E s
 | 0,f,_,_,A,E,s,Q,⟨i,t,e1,e2⟩,_,h=>by subst e1 e2;rw[eqIsQuiet_byValue _ (by rfl)];exact xf h
 | n+1,0,_,_,A,E,s,Q,hk,hf,h=>by nofun
 | n+1,f+1,_,_,A,E,s,Q,hk,hf,h=>by
  have hk0:=hk;obtain⟨ds,a,o,items,k,rfl,rfl,ho,hc,hd,r⟩:=hk;have hT:=hk0.typeIs;unfold eqIsQuiet;refine xa (ud hT F.slot_tuple_eq.lookup ?_);show wpAny _ _ (isInstance (.ref a) (.type "tuple") >>= _) _ _ s;refine xa (uB hT isSubtype_tuple_tuple ?_);simp only[vY,xQ,xM];refine xa (wpAny_seqItems ho hd (xa ?_));show wpAny _ _ (forIn items _ _) _ _ s;rw[<- Array.forIn_toList];refine vX _ (λrest r s'=>r.1=none/\s'=s/\∃l,A2 (Ek s.heap n) l rest) _ ?_ ?_ _ _ ⟨rfl,rfl,_,r⟩
  ·rintro v rest r s' ⟨hr,rfl,l,al⟩;cases al with
   | cons q al=>
    refine xa (zGt n f q (by nofun) ?_);simp only[vY,xQ,xM];exact xf ⟨rfl,rfl,_,al⟩
  ·rintro⟨r1,r2⟩ s' ⟨hr,rfl,_⟩;simp only at hr;subst hr;exact xf h
open Classical in
theorem zOf:∀(n:Nat) {d d':D}{v v':Value}{A:Around}{E:Value->Shared->Prop}{s:Shared}{Q:Bool->Shared->Prop},Ek s.heap n d v->Ek s.heap n d' v'->A.units+n<cLine->Q (decide (d=d')) s->wpAny (model prog w) A (eqBool v v') Q E s
 | 0,_,_,_,_,A,E,s,Q,⟨i,t,e1,e2⟩,⟨j,u,e3,e4⟩,_,h=>by
  subst e1 e2 e3 e4;refine wpAny_eqBool_int ?_;have:(i == j)=decide (D.int i=D.int j):=by
   by_cases q:i=j
   ·subst q;simp
   ·rw[xj (λz=>q (by cases z;rfl))];simpa using q
  rw[this];exact h
 | n+1,_,_,_,_,A,E,s,Q,hx,hy,hu,h=>by
  have hx0:=hx;have hy0:=hy;obtain⟨ds,a,oa,xs,ka,rfl,rfl,hoa,hca,hda,ra⟩:=hx;obtain⟨es,b,ob,ys,kb,rfl,rfl,hob,hcb,hdb,rb⟩:=hy;unfold eqBool
  try with_reducible refine xI ?_
  show wpAny _ _ (if(Value.ref a == Value.ref b)=true then _ else _) Q E s;by_cases hab:(Value.ref a == Value.ref b)=true
  ·rw[xb hab];have e:a=b:=by have:=eq_of_beq hab;injection this
   subst e;have e2:=hx0.inj hy0;rw[xk e2]at h;exact xa (vz (xf h))
  ·rw[xc hab]
   suffices hc:wpAny (model prog w) A (call (.builtin "tuple.__eq__") [.ref a,.ref b]) (λv s'=>v=.bool (decide (D.tup ds=D.tup es))/\s'=s) E s from
    xa (wpAny_richCompare_same_room hx0.typeIs hy0.typeIs F.slot_tuple_eq (xV hc (λv s' q=>by
     obtain⟨rfl,rfl⟩:=q;exact⟨(λe=>nomatch e),vQ h⟩) λ_ _ x=>x) (by nofun))
   refine vq F.slot_tuple_eq hx0.typeIs F.entry_tuple_eq ?_ (F.args_tuple_eq_2 _ _);have fin:∀c:Bool,c=decide (D.tup ds=D.tup es)->∃v,(PySem.Fin.done (.ret (.bool c)):PySem.Fin)=.done (.ret v)/\v=.bool (decide (D.tup ds=D.tup es))/\s=s:=λc hc=>⟨_,rfl,by rw[hc],rfl⟩
   show wpAny _ _ (isInstance (.ref b) (.type "tuple") >>= _) _ _ s;refine xa (uB hy0.typeIs isSubtype_tuple_tuple ?_);simp only[vY,xQ,xM];refine xa (uE hoa hda (xa (uE hob hdb (xa ?_))));refine vX _ (λrest r s'=>r.1=none/\s'=s/\∃(x' y':List D) (xs' ys':List Value),rest=List.zip xs' ys'/\A2 (Ek s.heap n) x' xs'/\A2 (Ek s.heap n) y' ys'/\(x'=y' <-> ds=es)/\(xs'.length == ys'.length)=(xs.size == ys.size)) _ ?_ ?_ _ _ ⟨rfl,rfl,ds,es,xs.toList,ys.toList,rfl,ra,rb,Iff.rfl,by simp⟩
   ·rintro⟨u,v⟩ rest r s' ⟨hr,rfl,x',y',xs',ys',hz,hx',hy',hdec,hlen⟩;cases hx' with
    | nil=>simp at hz
    | @cons k1 u' x'' xs'' h1 hx''=>
     cases hy' with
     | nil=>simp at hz
     | @cons k2 v' y'' ys'' h2 hy''=>
      simp only[vW,List.cons.injEq,Prod.mk.injEq]at hz;obtain⟨⟨rfl,rfl⟩,rfl⟩:=hz;refine xa (zOf n h1 h2 (by show A.units+1+n<cLine;lia) ?_);by_cases hk:k1=k2
      ·subst hk;rw[xk rfl];simp only[vY,xQ,xM];refine xf ⟨rfl,rfl,x'',y'',xs'',ys'',rfl,hx'',hy'',?_,by simpa using hlen⟩;rw[<- hdec];simp
      ·rw[xj hk];simp only[Bool.not_false,xB];have hf:¬ ds=es:=λz=>hk (by have:=hdec.mpr z;cases this;rfl)
       exact xa (xf (xf (xf (fin false (by rw[xj];intro z;cases z;exact hf rfl)))))
   ·rintro⟨r1,r2⟩ s' ⟨hr,rfl,x',y',xs',ys',hz,hx',hy',hdec,hlen⟩;simp only at hr;subst hr;refine xf ?_;have hfin:(xs.size == ys.size)=decide (D.tup ds=D.tup es):=by
     have e3:decide (D.tup ds=D.tup es)=decide (x'=y'):=x3.mpr (by rw[D.tup.injEq];exact hdec.symm);rw[e3,<- hlen];cases hx' with
     | nil=>
      cases hy' with
      | nil=>simp
      | cons _ _=>simp
     | cons _ _=>
      cases hy' with
      | nil=>simp
      | cons _ _=>simp at hz
    exact fin _ hfin
end
end EK
namespace DS
open PySem (Str)
section
open Classical
mutual
def blt:D->D->Bool
 | .int a,.int b=>decide (a<b)
 | .tup l,.tup m=>bltL l m
 | _,_=>false
def bltL:List D->List D->Bool
 | [],[]=>false
 | [],_::_=>true
 | _::_,[]=>false
 | a::r,b::t=>if a=b then bltL r t else blt a b
end
def lv:Nat->D->Prop
 | 0,d=>∃i,d=.int i
 | n+1,d=>∃l,d=.tup l/\∀x∈l,lv n x
theorem zBr(a b:D)(r t:List D):bltL (a::r) (b::t)=if a=b then bltL r t else blt a b:=by rw[bltL]
theorem zKn:∀(l:List D),bltL l l=false
 | []=>by rw[bltL]
 | a::r=>by rw[zBr,xb rfl];exact zKn r
theorem zJb{n:Nat}(h:lv n d):blt d d=false:=by
 cases n with
 | zero=>obtain⟨i,rfl⟩:=h;rw[blt];simp
 | succ n=>obtain⟨l,rfl,_⟩:=h;rw[blt];exact zKn l
theorem zJa:∀(n:Nat) {a b:D},lv n a->lv n b->a≠b->blt a b=true\/blt b a=true
 | 0,_,_,⟨i,e⟩,⟨j,e'⟩,h=>by
  subst e e';rw[blt,blt];have:i≠j:=λz=>h (by rw[z])
  simp only[uf];lia
 | n+1,_,_,⟨l,e,hl⟩,⟨m,e',hm⟩,h=>by
  subst e e';rw[blt,blt];have hlm:l≠m:=λz=>h (by rw[z])
  clear h
  induction l generalizing m with
  | nil=>
   cases m with
   | nil=>exact absurd rfl hlm
   | cons b t=>left;rw[bltL]
  | cons a r ih=>
   cases m with
   | nil=>right;rw[bltL]
   | cons b t=>
    rw[zBr,zBr];by_cases q:a=b
    ·subst q;rw[xb rfl,xb rfl];exact ih (λx hx=>hl x (.tail _ hx)) t (λx hx=>hm x (.tail _ hx)) λz=>hlm (by rw[z])
    ·rw[xc q,xc (xD q)];exact zJa n (hl a (.head _)) (hm b (.head _)) q
theorem zKm:∀(n:Nat) {a b c:D},lv n a->lv n b->lv n c->blt a b=true->blt b c=true->blt a c=true
 | 0,_,_,_,⟨i,e⟩,⟨j,e'⟩,⟨k,e''⟩,h,h'=>by
  subst e e' e'';rw[blt]at h h' ⊢;simp only[uf]at *;lia
 | n+1,_,_,_,⟨l,e,hl⟩,⟨m,e',hm⟩,⟨k,e'',hk⟩,h,h'=>by
  subst e e' e'';rw[blt]at h h' ⊢;induction l generalizing m k with
  | nil=>
   cases k with
   | nil=>cases m with
    | nil=>exact h
    | cons b t=>rw[bltL]at h';cases h'
   | cons c u=>rw[bltL]
  | cons a r ih=>
   cases m with
   | nil=>rw[bltL]at h;cases h
   | cons b t=>
    cases k with
    | nil=>rw[bltL]at h';cases h'
    | cons c u=>
     rw[zBr]at h h' ⊢;by_cases q:a=b
     ·subst q;rw[xb rfl]at h;by_cases q2:a=c
      ·subst q2;rw[xb rfl]at h' ⊢;exact ih (λx hx=>hl x (.tail _ hx)) t (λx hx=>hm x (.tail _ hx)) u (λx hx=>hk x (.tail _ hx)) h h'
      ·rw[xc q2]at h' ⊢;exact h'
     ·rw[xc q]at h;by_cases q2:b=c
      ·subst q2;rw[xc q];exact h
      ·rw[xc q2]at h';have t1:=zKm n (hl a (.head _)) (hm b (.head _)) (hk c (.head _)) h h';rw[xc (λz=>by subst z;rw[zJb (hl _ (.head _))]at t1;cases t1)];exact t1
theorem zWn{n:Nat}(ha:lv n a)(hb:lv n b)(h:blt a b=true):blt b a=false:=by
 cases e:blt b a with
 | false=>rfl
 | true=>have:=zKm n ha hb ha h e;rw[zJb ha]at this;cases this
def dle(a b:D):Prop:=blt b a=false
theorem zT1{n:Nat}(ha:lv n a)(hb:lv n b)(hc:lv n c)(h:dle a b)(h':dle b c):dle a c:=by
 unfold dle at *;cases e:blt c a with
 | false=>rfl
 | true=>
  by_cases q:a=b
  ·subst q;rw[h']at e;cases e
  ·rcases zJa n ha hb q with z|z
   ·have:=zKm n hc ha hb e z;rw[h']at this;cases this
   ·rw[h]at z;cases z
theorem zRq{n:Nat}(ha:lv n a)(hb:lv n b)(h:dle a b)(h':dle b a):a=b:=by
 apply Classical.byContradiction;intro q;rcases zJa n ha hb q with z|z
 ·rw[show blt a b=false from h']at z;cases z
 ·rw[show blt b a=false from h]at z;cases z
noncomputable def ins (x:D):List D->List D
 | []=>[x]
 | y::l=>if blt y x=true then y::ins x l else x::y::l
noncomputable def srt:List D->List D
 | []=>[]
 | x::l=>ins x (srt l)
theorem ins_perm(x:D):∀l,(ins x l).Perm (x::l)
 | []=>.refl _
 | y::l=>by
  unfold ins;split
  ·exact((ins_perm x l).cons y).trans (List.Perm.swap ..)
  ·exact .refl _
theorem zCa:∀l,(srt l).Perm l
 | []=>.refl _
 | x::l=>(ins_perm x _).trans ((zCa l).cons x)
abbrev Up(l:List D):Prop:=l.Pairwise dle
theorem ins_up{n:Nat}:∀{l:List D},lv n x->(∀y∈l,lv n y)->Up l->Up (ins x l)
 | [],_,_,_=>List.pairwise_singleton _ _
 | y::l,hx,hl,h=>by
  have h':=vC.mp h;unfold ins;split
  ·rename_i q;refine vC.mpr ⟨λz hz=>?_,ins_up hx (λz hz=>hl z (.tail _ hz)) h'.2⟩;rcases xh.mp ((ins_perm x l).mem_iff.mp hz)with rfl|hz
   ·exact zWn (hl y (.head _)) hx q
   ·exact h'.1 z hz
  ·rename_i q;refine vC.mpr ⟨λz hz=>?_,h⟩;rcases xh.mp hz with rfl|hz
   ·exact vB.mpr q
   ·exact zT1 hx (hl y (.head _)) (hl z (.tail _ hz)) (vB.mpr q) (h'.1 z hz)
theorem zM9{n:Nat}:∀{l:List D},(∀y∈l,lv n y)->Up (srt l)
 | [],_=>.nil
 | x::l,h=>ins_up (h x (.head _)) (λy hy=>h y (.tail _ ((zCa l).mem_iff.mp hy))) (zM9 λy hy=>h y (.tail _ hy))
theorem up_eq{n:Nat}:∀{l m:List D},(∀y∈l,lv n y)->l.Perm m->Up l->Up m->l=m
 | [],m,_,p,_,_=>by rw[List.nil_perm.mp p]
 | a::l,[],_,p,_,_=>by have:=p.length_eq;simp at this
 | a::l,b::m,hv,p,h,h'=>by
  have ha:=vC.mp h;have hb:=vC.mp h';have e:a=b:=by
   by_cases z:a=b
   ·exact z
   ·have m1:b∈l:=by
     rcases xh.mp (p.mem_iff.mpr (xK))with q|q
     ·exact absurd q.symm z
     ·exact q
    have m2:a∈m:=by
     rcases xh.mp (p.mem_iff.mp (xK))with q|q
     ·exact absurd q z
     ·exact q
    exact zRq (hv a (.head _)) (hv b (.tail _ m1)) (ha.1 b m1) (hb.1 a m2)
  subst e;rw[up_eq (λy hy=>hv y (.tail _ hy)) (List.Perm.cons_inv p) ha.2 hb.2]
theorem zM0{n:Nat}{l:List D}(hv:∀y∈l,lv n y)(p:l.Perm m)(h:Up l):l=srt m:=up_eq hv (p.trans (zCa m).symm) h (zM9 λy hy=>hv y (p.mem_iff.mpr hy))
noncomputable def rkD (l:List D) (d:D):Nat:=(l.filter λe=>blt e d).length
theorem zVt{p q:D->Bool}:∀(l:List D),(∀x∈l,p x=true->q x=true)->(l.filter p).length<=(l.filter q).length
 | [],_=>xg _
 | x::l,h=>by
  have ih:=zVt l λy hy=>h y (.tail _ hy)
  by_cases c:p x=true
  ·rw[vZ c,vZ (h x (.head _) c)];simpa using ih
  ·rw[uF c];by_cases c2:q x=true
   ·rw[vZ c2,xo];lia
   ·rw[uF c2];exact ih
theorem zZ7{p q:D->Bool}(hy:p y=false)(hy':q y=true):∀(l:List D),y∈l->(∀x∈l,p x=true->q x=true)->(l.filter p).length<(l.filter q).length
 | x::l,hm,h=>by
  rcases xh.mp hm with e|hm
  ·subst e;rw[uF (by rw[hy];decide),vZ hy',xo];have:=zVt l λz hz=>h z (.tail _ hz)
   lia
  ·have ih:=zZ7 hy hy' l hm λz hz=>h z (.tail _ hz)
   by_cases c:p x=true
   ·rw[vZ c,vZ (h x (.head _) c)];simpa using ih
   ·rw[uF c];by_cases c2:q x=true
    ·rw[vZ c2,xo];lia
    ·rw[uF c2];exact ih
theorem zTu{n:Nat}(hl:∀x∈l,lv n x)(ha:a∈l)(hb:b∈l):decide (rkD l a<rkD l b)=blt a b:=by
 cases e:blt a b with
 | true=>exact xk (zZ7 (p:=λe=>blt e a) (zJb (hl a ha)) e l ha λx hx q=>zKm n (hl x hx) (hl a ha) (hl b hb) q e)
 | false=>
  refine xj (Nat.not_lt.mpr (zVt l λx hx q=>?_));cases e2:blt x a with
  | true=>rfl
  | false=>exact absurd q (by rw[show blt x b=false from zT1 (hl b hb) (hl a ha) (hl x hx) e e2];decide)
noncomputable def dedup:List D->List D
 | []=>[]
 | x::l=>if x∈l then dedup l else x::dedup l
theorem mem_dedup :∀{l:List D},x∈dedup l <-> x∈l
 | []=>Iff.rfl
 | y::l=>by
  unfold dedup;split
  ·rename_i h;rw[mem_dedup];constructor
   ·exact λq=>.tail _ q
   ·intro q;rcases xh.mp q with rfl|q
    ·exact h
    ·exact q
  ·rw[xh,xh,mem_dedup]
theorem zEr:∀{l:List D},(dedup l).Nodup
 | []=>.nil
 | y::l=>by
  unfold dedup;split
  ·exact zEr
  ·rename_i h;exact vh.mpr ⟨λq=>h (mem_dedup.mp q),zEr⟩
theorem zNf{l m:List D}(h:l.Nodup)(h':m.Nodup)(e:∀x,x∈l <-> x∈m):l.Perm m:=by
 induction l generalizing m with
 | nil=>
  cases m with
  | nil=>exact .refl _
  | cons b t=>exact absurd ((e b).mpr (.head _)) (by simp)
 | cons a l ih=>
  have ha:=(e a).mp (.head _);obtain⟨u,v,rfl⟩:=List.append_of_mem ha;have hn:=vh.mp h;have h2:=(uq.nodup_iff).mp h';have hm:=vh.mp h2;refine(List.Perm.cons a (ih hn.2 hm.2 λx=>?_)).trans uq.symm;constructor
  ·intro hx;have:=(e x).mp (.tail _ hx);rcases xh.mp ((uq).mem_iff.mp this)with rfl|q
   ·exact absurd hx hn.1
   ·exact q
  ·intro hx;have:=(e x).mpr ((uq).mem_iff.mpr (.tail _ hx));rcases xh.mp this with rfl|q
   ·exact absurd hx hm.1
   ·exact q
end
end DS
namespace EK
open PySem PyProof.Rows PySem.W
open DS (D blt bltL zBr)
open Classical
section
variable {prog:Program}{w:World}
theorem zG3{n:Nat}(ih:∀{d d':D}{v v':Value}{A:Around}{E:Value->Shared->Prop}{s:Shared}{Q:Value->Shared->Prop},Ek s.heap n d v->Ek s.heap n d' v'->A.units+n<cLine->Q (.bool (blt d d')) s->wpAny (model prog w) A (richCompare .Lt v v') Q E s)
  {d d':D}{a b:Addr}{A:Around}{E:Value->Shared->Prop}{s:Shared}{Q:Value->Shared->Prop}(hx:Ek s.heap (n+1) d (.ref a)) (hy:Ek s.heap (n+1) d' (.ref b)) (hu:A.units+(n+1)<cLine) (h:Q (.bool (blt d d')) s):wpAny (model prog w) A (call (.builtin "tuple.__lt__") [.ref a,.ref b]) Q E s:=by
 have hx0:=hx;have hy0:=hy;obtain⟨ds,a',oa,xs,ka,rfl,ea,hoa,hca,hda,ra⟩:=hx;cases ea;obtain⟨es,b',ob,ys,kb,rfl,eb,hob,hcb,hdb,rb⟩:=hy;cases eb;refine vq PySem.F.slot_tuple_lt hx0.typeIs PySem.F.entry_tuple_lt ?_ (PySem.F.args_tuple_lt_2 _ _);rw[blt]at h;show wpAny _ _ (isInstance (.ref b) (.type "tuple") >>= _) _ _ s;refine xa (uB hy0.typeIs isSubtype_tuple_tuple ?_);simp only[vY,xQ,xM];refine xa (uE hoa hda (xa (uE hob hdb (xa ?_))));refine vX _ (λrest r s'=>r.1=none/\s'=s/\∃(x' y':List D) (xs' ys':List Value),rest=List.zip xs' ys'/\A2 (Ek s.heap n) x' xs'/\A2 (Ek s.heap n) y' ys'/\bltL x' y'=bltL ds es/\decide (xs'.length<ys'.length)=decide (xs.size<ys.size)) _ ?_ ?_ _ _ ⟨rfl,rfl,ds,es,xs.toList,ys.toList,rfl,ra,rb,rfl,by simp⟩
 ·rintro⟨u,v⟩ rest r s' ⟨hr,rfl,x',y',xs',ys',hz,hx',hy',hdec,hlen⟩;cases hx' with
  | nil=>simp at hz
  | @cons k1 u' x'' xs'' h1 hx''=>
   cases hy' with
   | nil=>simp at hz
   | @cons k2 v' y'' ys'' h2 hy''=>
    simp only[vW,List.cons.injEq,Prod.mk.injEq]at hz;obtain⟨⟨rfl,rfl⟩,rfl⟩:=hz;refine xa (zOf n h1 h2 (by show A.units+1+n<cLine;lia) ?_);rw[zBr]at hdec;by_cases hk:k1=k2
    ·subst hk;rw[xb rfl]at hdec;rw[xk rfl];simp only[vY,xQ,xM];exact xf ⟨rfl,rfl,x'',y'',xs'',ys'',rfl,hx'',hy'',hdec,by simpa using hlen⟩
    ·rw[xc hk]at hdec;rw[xj hk];simp only[Bool.not_false,xB];refine xa (vz (xa (ih h1 h2 (by show A.units+1+n<cLine;lia) ?_)));refine xa (xf (xf (xf ⟨_,rfl,?_⟩)));rw[hdec];exact h
 ·rintro⟨r1,r2⟩ s' ⟨hr,rfl,x',y',xs',ys',hz,hx',hy',hdec,hlen⟩;simp only at hr;subst hr;have hfin:bltL ds es=decide (xs.size<ys.size):=by
   rw[<- hdec,<- hlen];cases hx' with
   | nil=>
    cases hy' with
    | nil=>rw[bltL];rfl
    | cons _ _=>rw[bltL];simp
   | cons _ _=>
    cases hy' with
    | nil=>rw[bltL];simp
    | cons _ _=>simp at hz
  rw[hfin]at h;exact xf ⟨_,rfl,h⟩
theorem zRj:∀(n:Nat) {d d':D}{v v':Value}{A:Around}{E:Value->Shared->Prop}{s:Shared}{Q:Value->Shared->Prop},Ek s.heap n d v->Ek s.heap n d' v'->A.units+n<cLine->Q (.bool (blt d d')) s->wpAny (model prog w) A (richCompare .Lt v v') Q E s
 | 0,_,_,_,_,A,E,s,Q,⟨i,t,e1,e2⟩,⟨j,u,e3,e4⟩,_,h=>by
  subst e1 e2 e3 e4;rw[blt]at h;exact(lt_int h:wpAny (model prog w) A (compareOp .Lt (.int i t) (.int j u)) Q E s)
 | n+1,_,_,_,_,A,E,s,Q,hx,hy,hu,h=>by
  have hx0:=hx;have hy0:=hy;obtain⟨ds,a,oa,xs,ka,rfl,rfl,hoa,hca,hda,ra⟩:=hx;obtain⟨es,b,ob,ys,kb,rfl,rfl,hob,hcb,hdb,rb⟩:=hy;exact wpAny_richCompare_same_room hx0.typeIs hy0.typeIs PySem.F.slot_tuple_lt (zG3 (λ{d d' v v' A E s Q}=>zRj n) hx0 hy0 hu ⟨(λe=>nomatch e),h⟩) (by nofun)
theorem zNb(n:Nat){A:Around}{E:Value->Shared->Prop}{s:Shared}{Q:Bool->Shared->Prop}(hx:Ek s.heap n d v)(hy:Ek s.heap n d' v')(hu:A.units+n<cLine)(h:Q (blt d d') s)(b:Bool):wpAny (model prog w) A (oneLt' b v v') Q E s:=by
 rw[oneLt'_eq];cases b with
 | false=>
  simp only[xQ,xM];exact xa (zRj n hx hy hu (vQ h))
 | true=>
  simp only[xB];refine xa (wpAny_cRoomFor_or (.inr (by nofun)) ?_);cases n with
  | zero=>
   obtain⟨i,t,rfl,rfl⟩:=hx;obtain⟨j,u,rfl,rfl⟩:=hy;rw[blt]at h;exact xa (wpAny_callSpecialIfBound?_slot (typeIs_int s i t) slot_int_lt (call_int_lt (vQ h)))
  | succ n=>
   have hx0:=hx;have hy0:=hy;obtain⟨ds,a,oa,xs,ka,rfl,rfl,hoa,hca,hda,ra⟩:=hx;obtain⟨es,b,ob,ys,kb,rfl,rfl,hob,hcb,hdb,rb⟩:=hy;exact xa (wpAny_callSpecialIfBound?_slot hx0.typeIs PySem.F.slot_tuple_lt (zG3 (λ{d d' v v' A E s Q}=>zRj n) hx0 hy0 hu (vQ h)))
theorem zSr{n:Nat}{A:Around}{s:Shared}{Q:Bool->Shared->Prop}(hu:A.units+n<cLine):∀{ds es:List D}{xs ys:List Value}(i:Nat),A2 (Ek s.heap n) ds xs->A2 (Ek s.heap n) es ys->fin=decide (ds.length<es.length)->Q (bltL ds es) s->KatLex prog w A b fin Q (xs.zip ys) i s
 | _,_,_,_,i,.nil,.nil,hf,h=>by rw[bltL]at h;rw[hf];exact h
 | _,_,_,_,i,.nil,.cons _ _,hf,h=>by rw[bltL]at h;rw[List.zip_nil_left,hf];exact kat_nil (by simpa using h)
 | _,_,_,_,i,.cons _ _,.nil,hf,h=>by rw[bltL]at h;rw[List.zip_nil_right,hf];exact kat_nil (by simpa using h)
 | _,_,_,_,i,.cons (a:=d) h1 r1,.cons (a:=e) h2 r2,hf,h=>by
  rw[zBr]at h;rw[vW];refine kat_cons (zOf n h1 h2 hu ?_);by_cases q:d=e
  ·rw[xb q]at h;rw[xk q];exact kat_yes (zSr hu (i+1) r1 r2 (by rw[hf];simp) h)
  ·rw[xc q]at h;rw[xj q];exact kat_no (zNb n h1 h2 hu h _)
inductive Kd:SortKind->Nat->Prop where
 | gen {n:Nat}:Kd general' n
 | one {n:Nat}:Kd oneType' n
 | tup {n:Nat}{b:Bool}:Kd (tuples' b) (n+1)
theorem zYu{κ:SortKind}{n:Nat}(hκ:Kd κ n){A:Around}{E:Value->Shared->Prop}{s:Shared}{Q:Bool->Shared->Prop}(hx:Ek s.heap n d v)(hy:Ek s.heap n d' v')(hu:A.units+n<cLine)(h:Q (blt d d') s):wpAny (model prog w) A (keyLt' κ v v') Q E s:=by
 cases hκ with
 | gen=>exact(zNb n hx hy hu h false:wpAny (model prog w) A (oneLt' false v v') Q E s)
 | one=>rw[keyLt'_oneType];exact zNb n hx hy hu h true
 | @tup n b=>
  obtain⟨ds,a,oa,xs,ka,rfl,rfl,hoa,hca,hda,ra⟩:=hx;obtain⟨es,c,ob,ys,kb,rfl,rfl,hob,hcb,hdb,rb⟩:=hy;rw[blt]at h;exact kat_lt hoa hda hob hdb (zSr (by nofun) 0 ra rb (by rw[ra.length,rb.length];simp) h)
end
open TM
open DS (lv srt rkD zTu zM0 Up dle)
theorem Ek.lv :∀{n:Nat}{d:D}{v:Value},Ek h n d v->lv n d
 | 0,_,_,⟨i,t,e1,e2⟩=>⟨i,e1⟩
 | n+1,_,_,⟨ds,a,o,items,k,e1,e2,h1,h2,h3,r⟩=>⟨ds,e1,by
  clear e1 h3
  generalize items.toList=vs at r;induction r with
  | nil=>intro x hx;cases hx
  | cons q _ ih=>
   intro x hx;rcases xh.mp hx with rfl|hx
   ·exact Ek.lv q
   ·exact ih x hx⟩
section
variable {prog:Program}{w:World}{A:Around}{E:Value->Shared->Prop}{s:Shared}{n:Nat}{ds:List D}{vs:List Value}
noncomputable def ekTy:Nat->Value
 | 0=>.type "int"
 | _+1=>.type "tuple"
theorem zGh(h:Ek s.heap n d v):Looks M s.heap (typeOf v) (ekTy n):=by
 cases n with
 | zero=>obtain⟨i,t,rfl,rfl⟩:=h;exact .now
 | succ n=>
  obtain⟨ds,a,o,items,k,rfl,rfl,ho,hc,hd,r⟩:=h;have:Looks M s.heap (typeOf (.ref a)) o.cls:=(Looks.ld ho).andThen .now;rw[hc]at this;exact this
theorem A2.mem_r{α β:Type}{R:α->β->Prop}{l:List α}{m:List β}(h:A2 R l m):∀b∈m,∃a∈l,R a b:=by
 induction h with
 | nil=>intro b hb;cases hb
 | cons q _ ih=>
  intro b hb;rcases xh.mp hb with rfl|hb
  ·exact⟨_,.head _,q⟩
  ·obtain⟨a,ha,r⟩:=ih b hb;exact⟨a,.tail _ ha,r⟩
theorem A2.mem_l{α β:Type}{R:α->β->Prop}{l:List α}{m:List β}(h:A2 R l m):∀a∈l,∃b∈m,R a b:=by
 induction h with
 | nil=>intro b hb;cases hb
 | cons q _ ih=>
  intro b hb;rcases xh.mp hb with rfl|hb
  ·exact⟨_,.head _,q⟩
  ·obtain⟨a,ha,r⟩:=ih b hb;exact⟨a,.tail _ ha,r⟩
theorem zSk{vs:List Value}{Q:Option Value->Shared->Prop}(hT:∀v∈vs,Looks M s.heap (typeOf v) T)(h:∀r,Q r s):wpAny M A (oneTypeOnly' vs.toArray) Q E s:=by
 rw[oneTypeOnly'_eq,List.mapM_toArray,map_eq_pure_bind];refine xa (xa (kas_mapM _ (λv hv Q' hq=>(hT v hv).here hq) (xf ?_)));split
 ·exact xf (h _)
 ·exact xf (h _)
theorem firsts :∀{ds:List D}{vs:List Value}{Q:List (Option Value)->Shared->Prop},A2 (Ek s.heap n) ds vs->(∀fs:List (Option Value),fs.length=vs.length->(n=0->∀f∈fs,f=none)->(∀f∈fs,∀v,f=some v->∃m d,n=m+1/\Ek s.heap m d v)->Q fs s)->wpAny M A (vs.mapM firstOfTuple') Q E s
 | _,_,Q,.nil,h=>by rw[List.mapM_nil];exact xf (h [] rfl (λ_ f hf=>nomatch hf) λf hf=>nomatch hf)
 | _,_,Q,.cons (b:=v) (m:=vs) q r,h=>by
  rw[List.mapM_cons];refine xa ?_;have go:∀f:Option Value,(n=0->f=none)->(∀v,f=some v->∃m d,n=m+1/\Ek s.heap m d v)->wpAny M A (vs.mapM firstOfTuple' >>= λbs=>pure (f::bs)) Q E s:=λf h0 h1=>
   xa (firsts r λfs hl hz hs=>xf (h (f::fs) (by simp[hl]) (λz g hg=>by
    rcases xh.mp hg with rfl|hg
    ·exact h0 z
    ·exact hz z g hg) λg hg=>by
    rcases xh.mp hg with rfl|hg
    ·exact h1
    ·exact hs g hg))
  have lk:=zGh (M:=M) q;rw[kas_first_eq];cases n with
  | zero=>
   obtain⟨i,t,rfl,rfl⟩:=q;refine xa (Looks.here (show Looks M s.heap (typeOf (.int i t)) (.type "int")from .now) ?_);rw[xb (by decide)];exact xf (go none (λ_=>rfl) λv e=>nomatch e)
  | succ n=>
   obtain⟨ds,a,o,items,k,rfl,rfl,ho,hc,hd,r'⟩:=q;refine xa (lk.here ?_);rw[show ekTy (n+1)=.type "tuple" from rfl,xc (by decide)];refine xa (listItems_at ho hd (xf (go _ (λz=>nomatch z) λv e=>?_)));obtain⟨d,hd',rr⟩:=r'.mem_r v (by obtain⟨z,e⟩:=xU.mp e;rw[<- e];simp);exact⟨n,d,rfl,rr⟩
theorem zVf{Q:SortKind->Shared->Prop}(h:A2 (Ek s.heap n) ds vs)(hne:vs≠[])(hQ:∀κ,Kd κ n->Q κ s):wpAny (model prog w) A (keyKind' vs.toArray) Q E s:=by
 rw[kat_kind_eq,List.mapM_toArray,map_eq_pure_bind];refine xa (xa (firsts h λfs hl hz hs=>xf ?_));by_cases q:(fs.toArray.all λx=>x.isSome)=true
 ·rw[xb q];have hn:∃m,n=m+1:=by
   cases n with
   | succ m=>exact⟨m,rfl⟩
   | zero=>
    exfalso
    match fs,hl with
    | [],hl=>exact hne (List.length_eq_zero_iff.mp hl.symm)
    | f::fs,hl=>
     have:=hz rfl f (.head _);subst this;simp at q
  obtain⟨m,rfl⟩:=hn;refine xa (vz ?_);have e:fs.toArray.filterMap id=(fs.filterMap id).toArray:=by simp
  rw[e];refine xa (zSk (T:=ekTy m) (λv hv=>?_) λr=>xf (hQ _ .tup));obtain⟨f,hf,e2⟩:=v5.mp hv;obtain⟨m',d,e3,hk⟩:=hs f hf v e2;cases e3;exact zGh hk
 ·rw[xc q];split
  ·exact xf (hQ _ .gen)
  ·refine xa (zSk (T:=ekTy n) (λv hv=>?_) λr=>?_)
   ·obtain⟨d,_,hk⟩:=h.mem_r v hv;exact zGh hk
   ·split
    ·exact xf (hQ _ .one)
    ·exact xf (hQ _ .gen)
noncomputable def kd (h:Heap) (n:Nat) (v:Value):D:=if z:∃d,Ek h n d v then choose z else .non
theorem zIt(q:Ek h n d v):kd h n v=d:=by
 have z:∃d,Ek h n d v:=⟨d,q⟩
 unfold kd;rw[dif_pos z];exact(choose_spec z).inj q
theorem zYv(r:A2 (Ek h n) ds vs):vs.map (kd h n)=ds:=by
 induction r with
 | nil=>rfl
 | cons q _ ih=>rw[xt,zIt q,ih]
theorem yC4{vs:List Value}(al:∀v∈vs,∃d,Ek h n d v):A2 (Ek h n) (vs.map (kd h n)) vs:=by
 induction vs with
 | nil=>exact .nil
 | cons v vs ih=>
  obtain⟨d,q⟩:=al v (.head _);exact .cons (by rw[zIt q];exact q) (ih λu hu=>al u (.tail _ hu))
theorem zJj:∀(l:List Value),l.zip l=l.map λv=>(v,v)
 | []=>rfl
 | x::l=>by rw[vW,zJj l];rfl
theorem zPv{κ:SortKind}(hκ:Kd κ n)(hz:vs.length<=63)(h:A2 (Ek s.heap n) ds vs)(hu:A.units+n<cLine){Q:SortSt->Shared->Prop}
  (hQ:∀(st:SortSt) (vs':List Value),vs'.Perm vs->A2 (Ek s.heap n) (srt ds) vs'->failedOf st=none->(arrOf st).map (·.2)=vs'.toArray->Q st s):
  wpAny (model prog w) A ((sortRuns').run (SortSt.mk' κ (vs.toArray.zip vs.toArray) #[] 7 none)) (λr s'=>Q r.2 s') E s:=by
 have za:(vs.toArray.zip vs.toArray).toList=vs.map λv=>(v,v):=by rw[Array.toList_zip];exact zJj vs
 have mem:∀x∈vs.toArray.zip vs.toArray,∃v∈vs,x=(v,v):=λx hx=>by
  have:x∈vs.map λv=>(v,v):=by rw[<- za];exact uJ.mpr hx
  obtain⟨v,hv,e⟩:=xw.mp this;exact⟨v,hv,e.symm⟩
 have C:Cm prog w A s κ (λx=>rkD ds (kd s.heap n x.1)) (λx=>x∈vs.toArray.zip vs.toArray):=λx y hx hy Q E' q=>by
  obtain⟨v,hv,rfl⟩:=mem x hx;obtain⟨u,hu',rfl⟩:=mem y hy;obtain⟨d,hd,k1⟩:=h.mem_r v hv;obtain⟨e,he,k2⟩:=h.mem_r u hu';refine zYu hκ k1 k2 hu ?_;have hl:∀x∈ds,lv n x:=λx hx=>by obtain⟨b,_,r⟩:=h.mem_l x hx;exact r.lv
  have q2:Q (decide (rkD ds (kd s.heap n v)<rkD ds (kd s.heap n u))) s:=q;rw[zIt k1,zIt k2,zTu hl hd he]at q2;exact q2
 refine xV (w_sr (Q:=λ_ st=>∃vs':List Value,vs'.Perm vs/\A2 (Ek s.heap n) (srt ds) vs'/\failedOf st=none/\(arrOf st).map (·.2)=vs'.toArray) C (by simpa using hz) (λx hx=>hx) ⟨.refl _,rfl,rfl⟩ rfl λst' B so=>?_) (λr s' q=>?_) λ_ _ e=>e
 ·have pm:(arrOf st').toList.Perm (vs.map λv=>(v,v)):=by rw[<- za];exact Array.perm_iff_toList_perm.mp B.perm
  have p2:((arrOf st').toList.map (·.2)).Perm vs:=by
   have:=pm.map (·.2);rw[vD]at this
   rwa[show vs.map ((λx:Value × Value=>x.2) ∘ λv=>(v,v))=vs from List.map_id' vs]at this
  have al:∀v∈(arrOf st').toList.map (·.2),∃d,Ek s.heap n d v:=λv hv=>by
   obtain⟨d,_,q⟩:=h.mem_r v (p2.mem_iff.mp hv);exact⟨d,q⟩
  have a2:=yC4 al;refine⟨_,p2,?_,B.failed,by apply Array.toList_inj.mp;rw[Array.toList_map]⟩;have pd:(((arrOf st').toList.map (·.2)).map (kd s.heap n)).Perm ds:=by
   have:=p2.map (kd s.heap n)
   rwa[zYv h]at this
  have up:Up (((arrOf st').toList.map (·.2)).map (kd s.heap n)):=by
   have hl:∀x∈ds,lv n x:=λx hx=>by obtain⟨b,_,r⟩:=h.mem_l x hx;exact r.lv
   have sz:=B.size;rw[<- sz]at so;have pw:=so.pw;rw[vD];refine List.pairwise_map.mpr (pw.imp_of_mem λ{x y} hx hy q=>?_);have ex:∀x∈(arrOf st').toList,x.1=x.2/\kd s.heap n x.2∈ds:=λx hx=>by
    obtain⟨v,hv,rfl⟩:=xw.mp (pm.mem_iff.mp hx);obtain⟨d,hd,k⟩:=h.mem_r v hv;exact⟨rfl,by show kd s.heap n v∈ds;rw[zIt k];exact hd⟩
   obtain⟨e1,m1⟩:=ex x hx;obtain⟨e2,m2⟩:=ex y hy;dsimp only at q;rw[e1,e2]at q;show blt (kd s.heap n y.2) (kd s.heap n x.2)=false;rw[<- zTu hl m2 m1];exact xj (by nofun)
  rw[<- zM0 (λy hy=>by obtain⟨b,_,r⟩:=a2.mem_l y hy;exact r.lv) pd up];exact a2
 ·obtain⟨rfl,vs',a,b,c,d⟩:=q;exact hQ _ vs' a b c d
theorem Ek.kept'{h h':Heap}{o₀:Obj}(ho:h.get? a=some o₀)(hc:o₀.cls≠.type "tuple")(k:∀b o,b≠a->h.get? b=some o->h'.get? b=some o)(x:Ek h n d v):Ek h' n d v:=
 x.kept λb o e ec=>k b o (λz=>by subst z;rw[ho]at e;cases e;exact hc ec) e
theorem zMb{P:PySem.Fin->Shared->Prop}(ho:s.heap.get? a=some (seqObj "list" vs.toArray c₀))(hk:A2 (Ek s.heap n) ds vs)(hz:vs.length<=63)(hu:A.units+n<cLine)
  (h:∀(vs':List Value) (c:Nat) (h':Heap),vs'.Perm vs->A2 (Ek h' n) (srt ds) vs'->(∀b o,b≠a->s.heap.get? b=some o->h'.get? b=some o)->h'.get? a=some (seqObj "list" vs'.toArray c)->P (.done (.ret .none)) { s with heap:=h' }):
  wpAny (model prog w) A (Builtin.«list.sort» ⟨[.ref a],[]⟩) P E s:=by
 have lz:vs.length<=sizeLine:=by rw[vf];lia
 rw[list_sort_plain];refine xa (listItems_at ho rfl (xa (listUpdate_at ho rfl ?_ (by simpa using lz) (xC _))));obtain⟨e1,ho1⟩:∃e1,(s.heap.update a (Obj.mapSeq λ_=>(#[]:Array Value))).get? a=some (seqObj "list" #[] e1):=⟨_,get?_update_seq ho λ_=>#[]⟩
 have k1:∀b o,b≠a->s.heap.get? b=some o->(s.heap.update a (Obj.mapSeq λ_=>(#[]:Array Value))).get? b=some o:=λb o hb e=>(uk _ _ (xD hb)).trans e
 generalize s.heap.update a (Obj.mapSeq λ_=>(#[]:Array Value))=g1 at ho1 k1 ⊢;refine xa (seqEpoch_at ho1 rfl (xa (wpAny_newTuple (xa (wpAny_newList (xI ?_) (xC _))) (by simpa using lz))));have ho2:=xp (seqObj "list" #[] 0) (xp (seqObj "tuple" vs.toArray 0) ho1);have k2:∀b o,b≠a->s.heap.get? b=some o->((g1.push (seqObj "tuple" vs.toArray 0)).push (seqObj "list" #[] 0)).get? b=some o:=λb o hb e=>xp _ (xp _ (k1 b o hb e))
 show wpAny (model prog w) A _ P E { s with heap:=(g1.push (seqObj "tuple" vs.toArray 0)).push (seqObj "list" #[] 0) };generalize (g1.push (seqObj "tuple" vs.toArray 0)).push (seqObj "list" #[] 0)=g2 at ho2 k2 ⊢;dsimp only;have hk2:=hk.imp λ_ _ q=>q.kept' ho (show Value.type "list"≠Value.type "tuple" by decide) k2
 have fin:∀(st:SortSt) (vs':List Value),vs'.Perm vs->A2 (Ek g2 n) (srt ds) vs'->failedOf st=none->(arrOf st).map (·.2)=vs'.toArray->
   wpAny (model prog w) A (do
    let touched:=(<- seqEpoch a) != e1
    Builtin.List.listUpdate (.ref a) λ_=>(arrOf st).map (·.2)
    if let some e:=failedOf st then rule "list.sort.comparison-raised";throw e
    if touched then rule "list.sort.modified";raiseError "ValueError" "list modified during sort"
    ret .none) P E { s with heap:=g2 }:=λst vs' pm a2 hf ha=>by
  refine xa (seqEpoch_at ho2 rfl ?_);rw[ha];refine xa (listUpdate_at ho2 rfl ?_ (xC _) (by simp;rw[pm.length_eq];exact Nat.le_succ_of_le lz));rw[hf];simp only[bne_self_eq_false,xQ,xM];obtain⟨c,hc⟩:∃c,(g2.update a (Obj.mapSeq λ_=>vs'.toArray)).get? a=some (seqObj "list" vs'.toArray c):=⟨_,get?_update_seq ho2 λ_=>vs'.toArray⟩
  have k3:∀b o,b≠a->g2.get? b=some o->(g2.update a (Obj.mapSeq λ_=>vs'.toArray)).get? b=some o:=λb o hb e=>(uk _ _ (xD hb)).trans e
  exact xf (h vs' c _ pm (a2.imp λ_ _ q=>q.kept' ho2 (show Value.type "list"≠Value.type "tuple" by decide) k3) (λb o hb e=>k3 b o hb (k2 b o hb e)) hc)
 by_cases c2:vs.toArray.size<2
 ·rw[xb c2,xb c2];refine xa (xf ?_);rw[StateT.run_pure];refine xa (xf ?_);refine fin (SortSt.mk' general' (vs.toArray.zip vs.toArray) #[] 7 none) vs (.refl _) ?_ rfl ?_
  ·have:srt ds=ds:=by
    have hl:ds.length<2:=by rw[hk.length];simpa using c2
    match ds,hl with
    | [],_=>rfl
    | [d],_=>rfl
   rw[this];exact hk2
  ·show((vs.toArray.zip vs.toArray)).map (·.2)=_;apply Array.toList_inj.mp;simp[List.map_snd_zip]
 ·rw[xc c2,xc c2];refine xa (zVf hk2 (λz=>by subst z;simp at c2) λκ hκ=>?_);refine xa (xV (zPv (Q:=λst s'=>s'={ s with heap:=g2 }/\∃vs',vs'.Perm vs/\A2 (Ek g2 n) (srt ds) vs'/\failedOf st=none/\(arrOf st).map (·.2)=vs'.toArray) hκ hz hk2 hu λst vs' a b c d=>⟨rfl,vs',a,b,c,d⟩) ?_ λ_ _ e=>e);rintro⟨⟨⟩,st⟩ s' ⟨rfl,vs',a1,a2,a3,a4⟩;exact fin st vs' a1 a2 a3 a4
theorem zEw{r:Value}{m:Nat}{G:List D->List Value->Prop}{Q:Value->Shared->Prop}(hu:A.units+2+n<cLine)
  (hcol:∀R:List Value->Shared->Prop,(∀(h':Heap) (tk:Nat) (ds:List D) (vs:List Value),m<=h'.objs.size->(∀b o,s.heap.get? b=some o->h'.get? b=some o)->A2 (Ek h' n) ds vs->vs.length<=63->G ds vs->R vs { s with heap:=h',toks:=tk })->wpAny (model prog w) A.in1 (collect r) R E s)
  (h:∀(ds:List D) (vs vs':List Value) (c tk:Nat) (h':Heap) (L:Addr),G ds vs->vs.length<=63->vs'.Perm vs->A2 (Ek h' n) (srt ds) vs'->m<=L->(∀b o,s.heap.get? b=some o->h'.get? b=some o)->h'.get? L=some (seqObj "list" vs'.toArray c)->Q (.ref L) { s with heap:=h',toks:=tk }):
  wpAny (model prog w) A (call (.builtin "sorted") [r]) Q E s:=by
 refine Calls.call_function_entry kind_sorted plain_sorted entry_sorted (args_sorted1 _) ?_
 unfold Builtin.«sorted»;refine xa (xf (xa (hcol _ λh' tk ds vs sz kp hk hz hg=>?_)));have lz:vs.length<=sizeLine:=by rw[vf];lia
 refine xa (wpAny_newList ?_ (by simpa using lz));have hoL:(h'.push (seqObj "list" vs.toArray 0)).get? h'.objs.size=some (seqObj "list" vs.toArray 0):=xy _ rfl;have k0:∀b o,h'.get? b=some o->(h'.push (seqObj "list" vs.toArray 0)).get? b=some o:=λb o e=>xp _ e
 refine xa (xI (vq slot_list_sort ⟨_,hoL,rfl⟩ entry_list_sort (zMb hoL (hk.imp λ_ _ q=>q.kept λb o e _=>k0 b o e) hz (by show A.units+1+1+n<cLine;lia) λvs' c h2 pm a2 k2 hD=>⟨_,rfl,?_⟩) (args_list_sort _)));exact xf ⟨_,rfl,h ds vs vs' c tk h2 _ hg hz pm a2 sz (λb o e=>k2 b o (xr (xl (kp b o e))) (k0 b o (kp b o e))) hD⟩
theorem zWk{o:Obj}{R:List Value->Shared->Prop}(ho:s.heap.get? l=some o)(hc:o.cls=.type T)(hT:T="list"\/T="tuple")(hd:o.data=.seq vs.toArray k)(hz:vs.length<=sizeLine)
  (h:∀h':Heap,s.heap.objs.size<=h'.objs.size->(∀b o,s.heap.get? b=some o->h'.get? b=some o)->R vs { s with heap:=h' }):wpAny (model prog w) A (collect (.ref l)) R E s:=by
 have kp:∀b o,s.heap.get? b=some o->((s.heap.push (seqObj "list" #[] 0)).update s.heap.objs.size (Obj.mapSeq (·++vs.toArray))).get? b=some o:=λb o e=>(uk _ _ (xD (xr (xl e)))).trans (xp _ e)
 have hq:=h _ (by rw[Heap.size_update,size_push'];lia) kp;unfold collect;refine xa (wpAny_runValue (vE entry_proto_collect' (show wpAny _ _ (newList [] >>= λx=>again (.builtin "list.__iadd__" ⟨[x,.ref l],[]⟩)) _ _ s from xa (wpAny_newList (xf ⟨Code.quiet_builtin _ (by decide +kernel),vE entry_list_iadd' ?_⟩)))));have q1:∀x y:Value,Builtin.«list.__iadd__» ⟨[x,y],[]⟩=Builtin.List.listExtendWith x y x:=λx y=>rfl
 rw[q1];unfold Builtin.List.listExtendWith;have ho':(s.heap.push (seqObj "list" #[] 0)).get? l=some o:=xp _ ho;refine xa (vK (T:=T) ⟨o,ho',hc⟩ ?_);rw[xb (by rcases hT with rfl|rfl <;> simp[show(Value.type "list" == Value.type "list")=true from rfl,show(Value.type "tuple" == Value.type "tuple")=true from rfl])];refine xa (listItems_at ho' hd (xa (listItems_at (xs:=#[]) (n:=0) (xy _ rfl) rfl ?_)));rw[xc (by simp)];refine xa (listUpdate_at (xs:=#[]) (n:=0) (xy _ rfl) rfl (xf ?_) (xC _) (by show(#[]++vs.toArray).size<=sizeLine+1;simp only[Array.size_append,xq,vJ];lia));refine(show wpAny (model prog w) A (load s.heap.objs.size >>= λo=>match o.data with|.seq xs _=>pure xs.toList|_=>unsupported "internal:collect") R E _ from xa (wpAny_load (get?_update_seq (xy _ rfl) _) ?_));show wpAny _ _ (pure ((#[]:Array Value)++vs.toArray).toList) R E _;rw[show((#[]:Array Value)++vs.toArray).toList=vs by simp];exact xf hq
end
end EK
namespace TU
open PySem TB EK TS
open TS (sObj Tab.ft TabP.ft gate adr)
open DS (D)
open Classical
section
variable {prog:Program}{w:World}{A:Around}{E:Value->Shared->Prop}{s:Shared}{dp:Nat}
abbrev EA(h:Heap)(dp:Nat)(k:D)(a:Addr):Prop:=Ek h (dp+1) k (.ref a)
theorem unseen(hdp:dp+1<=8){Q:Bool->Shared->Prop}(hk:EA s.heap dp ks a)(hl:∀v∈l,∃b ls,v=.ref b/\EA s.heap dp ls b)(h:Q false s):
  wpAny (model prog w) A (searchCouldBeSeen (.ref a) l) Q E s:=by
 unfold searchCouldBeSeen;refine xa (vX _ (λrest r s'=>r.1=none/\s'=s/\∀v∈rest,∃b ls,v=.ref b/\EA s.heap dp ls b) _ ?_ ?_ _ _ ⟨rfl,rfl,hl⟩)
 ·rintro v rest r s' ⟨hr,rfl,al⟩;obtain⟨b,ls,rfl,hb⟩:=al v xK;have rest':∀v∈rest,∃b ls,v=.ref b/\EA s'.heap dp ls b:=λu hu=>al u (xN _ hu)
  dsimp only;split
  ·exact xf ⟨rfl,rfl,rest'⟩
  ·refine xa (zGt (dp+1) 8 hk hdp ?_);rw[xc (by decide)];refine xa (zGt (dp+1) 8 hb hdp ?_);rw[xc (by decide)];refine xa (zGu (dp+1) 8 hk hdp ?_);rw[xc (by decide)];refine xa (zGu (dp+1) 8 hb hdp ?_);rw[xc (by decide)];exact xf ⟨rfl,rfl,rest'⟩
 ·rintro⟨r1,r2⟩ s' ⟨hr,rfl,_⟩;simp only at hr;subst hr;exact xf h
noncomputable def kv (κ:Addr->D) (e:Int × Value):D:=κ (adr e.2)
def Els(dp:Nat)(κ:Addr->D)(h:Heap)(es:Array (Int × Value)):Prop:=∀e∈es.toList,∃b,e.2=.ref b/\EA h dp (κ b) b/\e.1=hD (κ b)
theorem search{κ:Addr->D}{x:Addr}{es:Array (Int × Value)}{Q:SetFound->Shared->Prop}(hdp:dp+1<=8)(hu:A.units+(dp+1)<cLine)(ho:s.heap.get? S=some (sObj es ep t))(T:Tab t es.size b)
  (hk:EA s.heap dp (κ x) x) (he:Els dp κ s.heap es) (h1:(∃e∈es.toList,kv κ e=κ x)->Q (.there none) s)
  (h2:∀M,t.slot (adv t M (t.probeStart (hD (κ x)))).j=.empty->(∀m',m'<M->∃i,∃hi:i<es.size,t.slot (adv t m' (t.probeStart (hD (κ x)))).j=.live i/\(es[i].1≠hD (κ x)\/kv κ es[i]≠κ x))->Q (.free (adv t M (t.probeStart (hD (κ x)))).j false) s):
  ∀(f m c:Nat) (st:Option SetTable.Probe),m<f->m<10*SetTable.turns t.mask->st.getD (t.probeStart (hD (κ x)))=adv t c (t.probeStart (hD (κ x)))->
   (∀m',m'<c->∃i,∃hi:i<es.size,t.slot (adv t m' (t.probeStart (hD (κ x)))).j=.live i/\(es[i].1≠hD (κ x)\/kv κ es[i]≠κ x))->
   Far t (adv t c (t.probeStart (hD (κ x)))) m->wpAny (model prog w) A (setSearchFrom S (.ref x) (hD (κ x)) true f st) Q E s:=by
 generalize ehx:hD (κ x)=hx at h2 ⊢;have lv:∀{j i:Nat},t.slot j=.live i->i<es.size:=λ{j i} hj=>by
  obtain⟨z,_⟩:=xU.mp (zIq T hj);rw[T.size]at z;exact z
 intro f;induction f with
 | zero=>intro m c st hm;lia
 | succ f ih=>
  intro m c st hm hm2 est seen fr;unfold setSearchFrom;refine xa (vO ho rfl (Tab.ft T) ?_);dsimp only;rw[T.way];rw[xc (by decide)];unfold SetTable.probe;rw[est];have more:∀d,(∀d',d'<d->∃i,t.slot (adv t d' (adv t c (t.probeStart hx))).j=.live i/\(((es[i]?.map (·.1)).getD 0 == hx)=false))->∀m',m'<c+d->∃i,∃hi:i<es.size,t.slot (adv t m' (t.probeStart hx)).j=.live i/\(es[i].1≠hx\/kv κ es[i]≠κ x):=λd hd m' hm'=>by
   rcases x8 m' c with z|z
   ·exact seen m' z
   ·obtain⟨d',rfl⟩:∃d',m'=c+d':=⟨m' - c,by nofun⟩
    obtain⟨i,e1,e2⟩:=hd d' (by nofun);rw[<- zCn]at e1;have hi:=lv e1;refine⟨i,hi,e1,.inl λz=>?_⟩;rw[xY hi]at e2;have:(es[i].1 == hx)=false:=e2;rw[z]at this;simp at this
  rcases zFw T.nod _ m _ hm2 fr with⟨d,_,e,hj,hd⟩|⟨d,i,hlt,e,hj,hd,fr'⟩
  ·rw[e];dsimp only;rw[<- zCn]at hj ⊢;exact xf (h2 (c+d) hj (more d hd))
  ·rw[e];dsimp only;have hi:=lv hj;have ei:=xY hi;obtain⟨y,ey,hy,eyh⟩:=he es[i] (by simp);have e2:es[i]?=some (es[i].1,.ref y):=by rw[ei,<- ey]
   have ky:kv κ es[i]=κ y:=by unfold kv;rw[ey];rfl
   rw[e2];dsimp only;refine gate (λQ' hq=>unseen hdp hk (λv hv=>?_) hq) ?_
   ·obtain⟨e',he',rfl⟩:=xw.mp hv;obtain⟨b',q1,q2,_⟩:=he e' (by
     have:=Array.mem_filter.mp (uJ.mp he');exact uJ.mpr this.1)
    exact⟨b',_,q1,q2⟩
   refine xa (xI (zOf (dp+1) hy hk hu ?_));refine xa (vO ho rfl (Tab.ft T) ?_);dsimp only;by_cases cc:κ y=κ x
   ·rw[xk cc];exact xf (h1 ⟨es[i],by simp,ky.trans cc⟩)
   ·rw[xj cc];rw[xc (by decide)];have em:t.sameMemory t.moves t.mask=some true:=by unfold SetTable.sameMemory;simp
    rw[em];dsimp only;rw[xb rfl,hj];dsimp only;rw[e2];dsimp only;refine xa (wpAny_isSame_ref_self ?_);rw[xb rfl];refine xa (xf ?_);dsimp only;rw[xc (by decide)];refine ih (m-(d+1)) (c+(d+1)) _ (by nofun) (by nofun) (zCn t c (d+1) _).symm ?_ (by rw[zCn];exact fr');intro m' hm';rcases x8 m' (c+d)with z|z
    ·exact more d hd m' z
    ·have:m'=c+d:=by nofun
     subst this;rw[<- zCn]at hj;exact⟨i,hi,hj,.inr (by rw[ky];exact cc)⟩
def IsS(dp:Nat)(κ:Addr->D)(h:Heap)(S:Addr)(es:Array (Int × Value))(b:Bool):Prop:=∃ep t,h.get? S=some (sObj es ep t)/\Tab t es.size b/\Els dp κ h es/\Chs t (es.toList.map (·.1))/\(es.toList.map (kv κ)).Nodup
def IsW(dp:Nat)(κ:Addr->D)(h:Heap)(S:Addr)(es:Array (Int × Value))(b:Bool):Prop:=∃ep t,h.get? S=some (sObj es ep t)/\TabW t es.size b/\Els dp κ h es/\(es.toList.map (kv κ)).Nodup
theorem IsS.wk{κ:Addr->D}{es:Array (Int × Value)}(i:IsS dp κ h S es b):IsW dp κ h S es b:=by obtain⟨ep,t,ho,T,he,_,nd⟩:=i;exact⟨ep,t,ho,T.w,he,nd⟩
theorem Els.keeps{κ:Addr->D}{h:Heap}{es es':Array (Int × Value)}{ep:Nat}(he:Els dp κ h es)(ho:h.get? S=some (sObj es' ep t))(hs:Heap.SameBut S h h'):Els dp κ h' es:=λe hm=>by
 obtain⟨b,e1,q,e2⟩:=he e hm;refine⟨b,e1,q.kept λc o ec et=>(hs.2 c λz=>?_).trans ec,e2⟩;subst z;rw[ho]at ec;cases ec;exact absurd (show Value.type "set"=Value.type "tuple" from et) (by decide)
theorem zO7{κ:Addr->D}{es:Array (Int × Value)}{t:SetTable}{M:Nat}(T:Tab t es.size b)(he:Els dp κ h es)(C:Chs t (es.toList.map (·.1)))(hM:t.slot (adv t M (t.probeStart (hD (κ x)))).j=.empty)
  (seen:∀m',m'<M->∃i,∃hi:i<es.size,t.slot (adv t m' (t.probeStart (hD (κ x)))).j=.live i/\(es[i].1≠hD (κ x)\/kv κ es[i]≠κ x)):κ x ∉ es.toList.map (kv κ):=by
 intro hm;obtain⟨e,hem,ek⟩:=xw.mp hm;obtain⟨i,hi,rfl⟩:=vV.mp hem;have hi':i<es.size:=by simpa using hi
 obtain⟨y,ey,_,eh⟩:=he _ hem;have ky:κ y=κ x:=by
  have:kv κ es.toList[i]=κ y:=by unfold kv;rw[ey];rfl
  rw[<- this,ek]
 rw[ky]at eh;have hp:i<t.place.size:=by rw[T.size];exact hi'
 obtain⟨m,em,al⟩:=C (t.place[i],es.toList[i].1) (vV.mpr ⟨i,by have:=Nat.lt_min.mpr ⟨hp,hi'⟩;simpa using this,by simp⟩);dsimp only at em al;rw[eh]at em al;rcases Nat.lt_trichotomy m M with z|z|z
 ·obtain⟨i',hi2,q1,q2⟩:=seen m z;rw[em]at q1;have q3:=zIq T q1;obtain⟨z3,e3⟩:=xU.mp q3;have:=zWz T.up (by simpa using z3) (by simpa using hp) (by simpa using e3);subst this;rcases q2 with q2|q2
  ·exact q2 (by simpa using eh)
  ·exact q2 (by simpa using ek)
 ·subst z;rw[em]at hM;exact(zHt T _).mp hM (by simp)
 ·exact(zHt T _).mp hM (al M z)
theorem zPi{κ:Addr->D}{es:Array (Int × Value)}{Q:Bool->Shared->Prop}(hdp:dp+1<=8)(hu:A.units+(dp+1)<cLine)(hS:IsS dp κ s.heap S es b)(hk:EA s.heap dp (κ x) x)(hn:es.size<1200)
  (h1:(∃e∈es.toList,kv κ e=κ x)->Q false s) (h2:∀h' es',Heap.SameBut S s.heap h'->IsS dp κ h' S es' b->es'.toList.Perm ((hD (κ x),.ref x)::es.toList)->Q true { s with heap:=h' }):
  ∀f,wpAny (model prog w) A (setAddHashedIn S (.ref x) (hD (κ x)) (f+1)) Q E s:=by
 intro f;obtain⟨ep,t,ho,T,he,C,nd⟩:=hS;unfold setAddHashedIn;refine xa (vO ho rfl (Tab.ft T) ?_);dsimp only;have eb:byScan (.ref x) es=false:=by unfold byScan;rfl
 rw[eb];rw[xc (by decide)];obtain⟨m,hm,fr⟩:=T.start (hD (κ x));refine xa (search hdp hu ho T hk he (λq=>?_) (λM hM seen=>?_) 100000 m 0 none (x6 hm T.turns) hm rfl (λm' h=>by nofun) fr)
 ·exact xf (h1 q)
 ·have fk:=zO7 T he C hM seen;have alM:∀m',m'<M->(adv t m' (t.probeStart (hD (κ x)))).j∈t.place.toList:=λm' h=>by
   obtain⟨i,_,q,_⟩:=seen m' h;exact zV9 T q
  obtain⟨C1,ep2⟩:=zTz T (by simp) C hM rfl alM;have TP:=T.put hM;generalize (adv t M (t.probeStart (hD (κ x)))).j=j at TP C1 ep2 ⊢;dsimp only;refine xa (vO ho rfl (Tab.ft T) ?_);dsimp only;generalize ePT:t.put j=PT at TP C1 ep2;obtain⟨t1,p⟩:=PT;dsimp only at TP C1 ep2 ⊢;rw[TP.plain];rw[xb rfl];refine xa (zKc (dp+1) 8 hk hdp ?_);rw[xb rfl];generalize ehx:hD (κ x)=hx at C1 h2 ⊢;have pm:=ins_perm es p (hx,Value.ref x);have sz:=zK6 es p (hx,Value.ref x);have C2:Chs t1 ((SetTable.insertAt es p (hx,Value.ref x)).toList.map (·.1)):=by rw[zEo,vw,xt,List.map_take,List.map_drop];exact C1
  generalize SetTable.insertAt es p (hx,Value.ref x)=es1 at pm sz C2 ⊢;have nd1:(es1.toList.map (kv κ)).Nodup:=by refine(pm.map (kv κ)).nodup_iff.mpr ?_;rw[xt];exact vh.mpr ⟨fk,nd⟩
  refine xa (wpAny_storeSet_of ho rfl ?_ (by rw[sz,vf];lia));have hg:=uj (Obj.putSet es1 t1) ho rfl;have sb:=uA s.heap S (Obj.putSet es1 t1);have he1:Els dp κ (s.heap.update S (Obj.putSet es1 t1)) es1:=λe hm=>by
   rcases xh.mp (pm.mem_iff.mp hm)with rfl|hm
   ·exact Els.keeps (es:=#[(hx,Value.ref x)]) (λe hm=>by
     have:e=(hx,Value.ref x):=by simpa using hm
     subst this;exact⟨x,rfl,hk,ehx.symm⟩) ho sb _ (by simp)
   ·exact Els.keeps he ho sb e hm
  rw[<- sz]at TP;by_cases c:t1.tooFull=true
  ·rw[xb (by rw[c];rfl)];unfold setRelay;refine xa (xa (vO hg rfl (TabP.ft TP) ?_));dsimp only;obtain⟨hl,t2,order,er,T2,po,C3⟩:=zMp TP c (by nofun) (es1.map (·.1)) (by simp);rw[<- sz];rw[xc (by simpa using hl)];rw[er];have pe:(order.filterMap (es1[·]?)).toList.Perm es1.toList:=by
    rw[Array.toList_filterMap];refine(po.filterMap _).trans ?_;have:=filterMap_getElem?_range es1;rw[this]
   have zz:(order.filterMap (es1[·]?)).size=es1.size:=by rw[<- vx,pe.length_eq,vx]
   have C4:Chs t2 ((order.filterMap (es1[·]?)).toList.map (·.1)):=by
    have e5:(order.filterMap (es1[·]?)).toList.map (·.1)=order.toList.map λk=>(es1.map (·.1)).toList.getD k 0:=by
     rw[Array.toList_filterMap];have al:∀k∈order.toList,k<es1.size:=λk hk=>vF.mp (po.mem_iff.mp hk)
     clear C3 po er pe zz
     generalize order.toList=l at al;induction l with
     | nil=>rfl
     | cons k l ih=>
      have hk:=al k (.head _);rw[vP,xY hk];simp only[xt];rw[ih λk hk=>al k (.tail _ hk)];congr 1;simp[hk]
    rw[e5];exact C3
   refine xa ?_;show wpAny _ _ (if((order.filterMap (es1[·]?)).size != es1.size)=true then _ else pure (order.filterMap (es1[·]?),t2)) _ _ _;rw[xc (by simp[zz])];refine xf ?_;dsimp only;generalize order.filterMap (es1[·]?)=es2 at pe zz C4 ⊢;refine wpAny_storeSet_of hg rfl ?_ (by rw[zz,sz,vf];lia);have hg2:=uj (Obj.putSet es2 t2) hg rfl;have sb2:=uA (s.heap.update S (Obj.putSet es1 t1)) S (Obj.putSet es2 t2);refine xf (h2 _ es2 (sb.trans sb2) ⟨_,_,hg2,by rw[zz];exact T2,?_,C4,(pe.map (kv κ)).nodup_iff.mpr nd1⟩ (pe.trans pm));exact Els.keeps (λe hm=>he1 e (pe.mem_iff.mp hm)) hg sb2
  ·rw[xc (by simpa using c)];exact xf (h2 _ es1 sb ⟨_,_,hg,TP.tab (by simpa using c),he1,C2,nd1⟩ pm)
theorem add{κ:Addr->D}{es:Array (Int × Value)}{Q:Bool->Shared->Prop}(hdp:dp+1<=8)(hu:A.units+(dp+1)<cLine)(hS:IsS dp κ s.heap S es b)(hk:EA s.heap dp (κ x) x)(hn:es.size<1200)
  (h1:∀tk,s.toks<=tk->(∃e∈es.toList,kv κ e=κ x)->Q false { s with toks:=tk }) (h2:∀h' es' tk hx,s.toks<=tk->Heap.SameBut S s.heap h'->IsS dp κ h' S es' b->es'.toList.Perm ((hx,.ref x)::es.toList)->Q true { s with heap:=h',toks:=tk }):wpAny (model prog w) A (setAdd S (.ref x)) Q E s:=by
 unfold setAdd;refine xI (xa (zOe (dp+1) hk hu λtk htk=>?_));unfold setAddHashed;refine xI ?_;exact zPi (s:={ s with toks:=tk }) hdp hu hS hk hn (λq=>h1 _ htk q) (λh' es' sb i p=>h2 h' es' _ _ htk sb i p) 99999
end
open TS (nObj zE1 zEi)
section
variable {prog:Program}{w:World}{A:Around}{R:Result->Shared->Prop}{I:Addr}{fp wr:List Addr}{G:Array GenState->Array GenState->Prop}{n:Nat}{P:Nat->Value->Prop}{St:Nat->Shared->Prop}{dp:Nat}
def Met(n:Nat)(P:Nat->Value->Prop)(es:Array (Int × Value)):Prop:=∀e∈es.toList,∃j,j<n/\P j e.2
theorem IsS.moved{κ:Addr->D}{h h':Heap}{S:Addr}{es:Array (Int × Value)}{b:Bool}{bad:List Addr}(i:IsS dp κ h S es b)(hS:S ∉ bad)(k:∀c o,c ∉ bad->h.get? c=some o->h'.get? c=some o)(hb:∀c∈bad,∀o,h.get? c=some o->o.cls≠.type "tuple"):IsS dp κ h' S es b:=by obtain⟨ep,t,ho,T,he,C,nd⟩:=i;refine⟨ep,t,k _ _ hS ho,T,λe hm=>?_,C,nd⟩;obtain⟨c,e1,q,e2⟩:=he e hm;exact⟨c,e1,q.kept λb o eb et=>k _ _ (λz=>hb b z o eb et) eb,e2⟩
def Cov(κ:Addr->D)(n:Nat)(P:Nat->Value->Prop)(es:Array (Int × Value)):Prop:=∀j v,j<n->P j v->∃e∈es.toList,kv κ e=κ (adr v)
theorem loop{κ:Addr->D}(W:WalksS prog w A.in1 I fp wr G n P St)(S:Addr)(hSf:S ∉ fp)(hdp:dp+1<=8)(hu:A.in1.units+(dp+1)<cLine)(h0:Heap)(hP:∀i v,P i v->∃a,v=.ref a/\EA h0 dp (κ a) a)(hbad:∀c∈S::wr,∀o,h0.get? c=some o->o.cls≠.type "tuple")(hPf:∀i v v',P i v->P i v'->v=v')(hn:∀es:Array (Int × Value),(es.toList.map (kv κ)).Nodup->Met n P es->es.size<1200){led:Bool}
  (hwr:∀i s,St i s->∀c∈wr,∀o,s.heap.get? c=some o->o.cls≠.type "tuple"):
  ∀(k i:Nat) (s:Shared) (es:Array (Int × Value)),n-i=k->i<=n->St i s->IsS dp κ s.heap S es led->es.size<=i->Met n P es->Cov κ i P es->(∀c o,c ∉ S::wr->h0.get? c=some o->s.heap.get? c=some o)->
   (∀s' es',Moved (S::wr) G s s'->IsS dp κ s'.heap S es' led->es'.size<=n->Met n P es'->Cov κ n P es'->R (.ok (.ret .none)) s')->
   codeAny (model prog w) A (.builtin "set.update.loop" ⟨[.ref S,.ref I],[]⟩) R s:=by
 have hSw:S ∉ wr:=λh=>hSf (W.sub _ h)
 have sub:∀b∈wr,b∈S::wr:=λb hb=>.tail _ hb
 intro k;induction k with
 | zero=>
  intro i s es hk hi hst hS hz hM hC hkp hR;obtain rfl:i=n:=by nofun
  refine vE PyProof.Rows.F.entry_set_update_loop ?_;rw[uy uM _];show wpAny _ A.in1 (pyNext (.ref I) >>= _) _ _ s;refine xa (W.done s _ _ hst λs' hm=>?_);show wpAny _ A.in1 (ret Value.none) _ _ s';exact xf (hR s' es (hm.mono sub) (IsS.moved hS hSw hm.heap (hwr _ _ hst)) hz hM hC)
 | succ k ih=>
  intro i s es hk hi hst hS hz hM hC hkp hR;have hlt:i<n:=by nofun
  refine vE PyProof.Rows.F.entry_set_update_loop ?_;rw[uy uM _];show wpAny _ A.in1 (pyNext (.ref I) >>= _) _ _ s;refine xa (W.item i s _ _ hlt hst λv s' hp hst' hm=>?_);obtain⟨a,rfl,hq⟩:=hP i v hp;have hk':=hq.kept λb o eb et=>by
   have hb:b ∉ S::wr:=λz=>hbad b z o eb et
   exact hm.heap b o (λz=>hb (sub b z)) (hkp b o hb eb)
  have hS':=IsS.moved hS hSw hm.heap (hwr _ _ hst);show wpAny _ A.in1 (holding [Value.ref a] (setAdd S (.ref a)) >>= _) _ _ s';refine xa (xI (add hdp hu hS' hk' (hn es (let ⟨_,_,_,_,_,_,nd⟩:=hS';nd) hM) (λtk htk there=>?_) (λh' es' tk hx htk sb i' pm=>?_)))
  ·refine xf ⟨plainId_quiet uM _,ih (i+1) { s' with toks:=tk } es (by nofun) hlt (W.frame _ s' s'.heap tk hst' htk λ_ _ _ e=>e) hS' (by nofun) hM (λj v' hj hv'=>?_) (λc o hc e=>hm.heap c o (λz=>hc (sub c z)) (hkp c o hc e)) λs2 es2 m2 i2 z2 w2 c2=>?_⟩
   ·rcases x8 j i with z|z
    ·exact hC j v' z hv'
    ·have:j=i:=by nofun
     subst this;rw[hPf _ _ _ hv' hp];exact there
   ·exact hR s2 es2 (Moved.trans W.gtrans ((hm.mono sub).then_heap htk λ_ _ _ e=>e) m2) i2 z2 w2 c2
  ·have hsz:es'.size=es.size+1:=by have:=pm.length_eq;simpa using this
   refine xf ⟨plainId_quiet uM _,ih (i+1) { s' with heap:=h',toks:=tk } es' (by nofun) hlt (W.frame _ s' h' tk hst' htk λc hc o e=>?_) i' (by nofun) (λe he=>?_) (λj v' hj hv'=>?_) (λc o hc e=>?_) λs2 es2 m2 i2 z2 w2 c2=>?_⟩
   ·rw[sb.2 c λz=>hSf (z ▸ hc)];exact e
   ·rcases xh.mp (pm.mem_iff.mp he)with rfl|he
    ·exact⟨i,hlt,hp⟩
    ·exact hM e he
   ·rcases x8 j i with z|z
    ·obtain⟨e,he,ek⟩:=hC j v' z hv';exact⟨e,pm.mem_iff.mpr (xN _ he),ek⟩
    ·have:j=i:=by nofun
     subst this;rw[hPf _ _ _ hv' hp];exact⟨(hx,.ref a),pm.mem_iff.mpr xK,rfl⟩
   ·rw[sb.2 c λz=>hc (z ▸ xK)];exact hm.heap c o (λz=>hc (sub c z)) (hkp c o hc e)
   ·refine hR s2 es2 (Moved.trans W.gtrans ((hm.mono sub).then_heap htk λc o hc e=>?_) m2) i2 z2 w2 c2;rw[sb.2 c λz=>hc (z ▸ xK)];exact e
end
section
variable {prog:Program}{w:World}{A:Around}{E:Value->Shared->Prop}{s:Shared}{dp:Nat}
theorem zPy{κ:Addr->D}{items:Array Value}{Q:Value->Shared->Prop}(hh:A.handled=none)(hl:s.heap.IsList l items)(hdp:dp+1<=8)(hu:A.units+20<cLine)(hn:∀es:Array (Int × Value),(es.toList.map (kv κ)).Nodup->(∀e∈es.toList,e.2∈items.toList)->es.size<1200)
  (hk:∀v∈items.toList,∃a,v=.ref a/\EA s.heap dp (κ a) a)
  (h:∀(h':Heap) (tk:Nat) (es:Array (Int × Value)),IsS dp κ h' s.heap.objs.size es (zE1 w)->es.size<=items.size->(∀e∈es.toList,e.2∈items.toList)->(∀v∈items.toList,∃e∈es.toList,kv κ e=κ (adr v))->
   (∀b o,b<s.heap.objs.size->s.heap.get? b=some o->h'.get? b=some o)->Q (.ref s.heap.objs.size) { s with heap:=h',toks:=tk }):
  wpAny (model prog w) A (call (.type "set") [.ref l]) Q E s:=by
 obtain⟨cc,tl,hmro⟩:=xO.mro;have hmade:=xO.made;have hsub:=xO.sub;refine wpAny_call (codeAny_of_tree (?_));refine xf ⟨Code.quiet_builtin _ (by decide +kernel),vE F.entry_type_call ?_⟩;rw[Around.under_plain (weight_type_call_type "set" [.ref l] []) rfl];have h1:=xO.notType;have h2:=xO.canCreate;have hct:=F.typeCall_set_1 (.ref l)
 repeat (any_goals (first|assumption|wp_step))
 refine vH (zEi (.ref l) (E:=E) (Q₁:=λobj s₁=>obj=.ref s.heap.objs.size/\s₁={ s with heap:=s.heap.push (nObj w) }) ⟨rfl,rfl⟩) λr s₁ hr=>?_
 cases r with
 | error e=>exact hr
 | ok fl=>
  cases fl with
  | ret obj=>
   obtain⟨rfl,rfl⟩:=hr;have hS:(s.heap.push (nObj w)).get? s.heap.objs.size=some (nObj w):=xy _ rfl;have hT:Shared.TypeIs { s with heap:=s.heap.push (nObj w) } (.ref s.heap.objs.size) "set":=⟨_,hS,rfl⟩;have hli:=xO.init.lookup;have hbi:=xO.init.bind (.ref s.heap.objs.size)
   repeat (any_goals (first|assumption|wp_step))
   refine vH (codeAny_call_builtin (R:=wants (λr s₂=>r=.none/\∃h' tk es,s₂={ s with heap:=h',toks:=tk }/\IsS dp κ h' s.heap.objs.size es (zE1 w)/\es.size<=items.size/\(∀e∈es.toList,e.2∈items.toList)/\(∀v∈items.toList,∃e∈es.toList,kv κ e=κ (adr v)) /\
     (∀b o,b<s.heap.objs.size->s.heap.get? b=some o->h'.get? b=some o)) E) xO.init.plain F.entry_set_init (check_set_init_1 hT ?_)) λr₂ s₂ hr₂=>?_
   ·have hlt:l<s.heap.objs.size:=by obtain⟨o,ho,_⟩:=hl;exact xl ho
    have hl1:(s.heap.push (nObj w)).IsList l items:=hl.push _;have hTl:Shared.TypeIs { s with heap:=s.heap.push (nObj w) } (.ref l) "list":=by obtain⟨o,ho,hc,_⟩:=hl1;exact⟨o,ho,hc⟩
    have q1:=F.sub_list_set;have q2:=F.sub_list_frozenset;have q3:(Value.type "list" == Value.type "dict")=false:=by decide
    unfold Builtin.«set.__init__» noKeywords Builtin.Frozenset.updateFrom;generalize hPI:pyIter=PI
    wp_walk
    subst hPI;refine wpAny_pyIter_list hl1 (xa (wpAny_runValue ?_));have hs2:(s.heap.push (nObj w)).objs.size=s.heap.objs.size+1:=by rw[vn]
    have hneI:l≠(s.heap.push (nObj w)).objs.size:=by rw[hs2];exact xr (vU hlt)
    have hh3:A.in1.in1.in1.handled=none:=by simp[hh]
    have key:∀(i:Nat) (v:Value),items[i]?=some v->∃a,v=.ref a/\EA s.heap dp (κ a) a:=λi v hv=>hk v (by obtain⟨z,e⟩:=xU.mp hv;rw[<- e];simp)
    have bad:∀c∈s.heap.objs.size::[(s.heap.push (nObj w)).objs.size],∀o,s.heap.get? c=some o->o.cls≠.type "tuple":=λc hc o e=>by
     have:=xl e;rw[hs2]at hc;rcases xh.mp hc with rfl|hc
     ·exact absurd this (xR _)
     ·rw[xZ.mp hc]at this;exact absurd this (Nat.not_lt.mpr (Nat.le_succ _))
    have kp:∀c o,s.heap.get? c=some o->((s.heap.push (nObj w)).push { cls:=.type "list_iterator",data:=.fields #[.ref l,.int 0 0] }).get? c=some o:=λc o e=>xp _ (xp _ e)
    refine loop (h0:=s.heap) ((Walks.list hh3 _ l hneI items).toS) s.heap.objs.size ?nA hdp (by show A.units+1+1+1+(dp+1)<cLine;lia) key bad (λi v v' q q'=>xA (q.symm.trans q')) (λes nd m=>hn es nd λe he=>by
     obtain⟨j,_,hp⟩:=m e he;obtain⟨z,e2⟩:=xU.mp hp;rw[<- e2];simp) ?nB (items.size-0) 0 _ #[] (by nofun) (xC _) ⟨⟨_,xy _ rfl,rfl,rfl⟩,hl1.push _⟩
     ⟨0,_,xp _ hS,zHq _,(λe he=>by cases he),(λq hq=>by cases hq),ua⟩ (xC _) (λe he=>by cases he) (λj v hj=>by nofun) (λc o _ e=>kp c o e) ?nD
    case nA=>
     rw[hs2];simp;exact Nat.ne_of_gt hlt
    case nB=>
     rintro i s' ⟨⟨o,ho,hc,_⟩,_⟩ c hcm o' ho';have:c=(s.heap.push (nObj w)).objs.size:=by simpa using hcm
     subst this;rw[ho]at ho';cases ho';rw[hc];decide
    case nD=>
     intro s' es' mv i' z' m' c';obtain⟨h',g',d',tk',os'⟩:=s';have eg:=mv.gens;have ed:=mv.drawn;have eo:=mv.os;subst eg ed eo;refine xf (xf ⟨rfl,h',tk',es',rfl,i',z',λe he=>?_,λv hv=>?_,λb o hb e=>?_⟩)
     ·obtain⟨j,hj,hp⟩:=m' e he;obtain⟨z,e2⟩:=xU.mp hp;rw[<- e2];simp
     ·obtain⟨j,hj,e2⟩:=vV.mp hv;exact c' j v (by simpa using hj) (by rw[<- e2];simp)
     ·refine mv.heap b o ?_ (kp b o e);rw[hs2];simp only[xh,uw,or_false,not_or];exact⟨xr hb,xr (vU hb)⟩
   ·cases r₂ with
    | error e=>exact hr₂
    | ok fl₂=>
     cases fl₂ with
     | ret r=>
      obtain⟨rfl,h',tk,es,rfl,i1,i2,i3,i4,i5⟩:=hr₂
      repeat (any_goals (first|assumption|wp_step))
      exact h _ _ _ i1 i2 i3 i4 i5
     | _=>exact hr₂.elim
  | _=>exact hr.elim
theorem zFn:isSubtype (.type "tuple") (.type "set")=pure false:=by rw[isSubtype_type];kernel_rfl
theorem zD7:isSubtype (.type "tuple") (.type "frozenset")=pure false:=by rw[isSubtype_type];kernel_rfl
theorem zMh{κ:Addr->D}{items:Array Value}{Q:Value->Shared->Prop}(hh:A.handled=none)(hl:s.heap.IsTuple l items)(hdp:dp+1<=8)(hu:A.units+20<cLine)(hn:∀es:Array (Int × Value),(es.toList.map (kv κ)).Nodup->(∀e∈es.toList,e.2∈items.toList)->es.size<1200)
  (hk:∀v∈items.toList,∃a,v=.ref a/\EA s.heap dp (κ a) a)
  (h:∀(h':Heap) (tk:Nat) (es:Array (Int × Value)),IsS dp κ h' s.heap.objs.size es (zE1 w)->es.size<=items.size->(∀e∈es.toList,e.2∈items.toList)->(∀v∈items.toList,∃e∈es.toList,kv κ e=κ (adr v))->
   (∀b o,b<s.heap.objs.size->s.heap.get? b=some o->h'.get? b=some o)->Q (.ref s.heap.objs.size) { s with heap:=h',toks:=tk }):
  wpAny (model prog w) A (call (.type "set") [.ref l]) Q E s:=by
 obtain⟨cc,tl,hmro⟩:=xO.mro;have hmade:=xO.made;have hsub:=xO.sub;refine wpAny_call (codeAny_of_tree (?_));refine xf ⟨Code.quiet_builtin _ (by decide +kernel),vE F.entry_type_call ?_⟩;rw[Around.under_plain (weight_type_call_type "set" [.ref l] []) rfl];have h1:=xO.notType;have h2:=xO.canCreate;have hct:=F.typeCall_set_1 (.ref l)
 repeat (any_goals (first|assumption|wp_step))
 refine vH (zEi (.ref l) (E:=E) (Q₁:=λobj s₁=>obj=.ref s.heap.objs.size/\s₁={ s with heap:=s.heap.push (nObj w) }) ⟨rfl,rfl⟩) λr s₁ hr=>?_
 cases r with
 | error e=>exact hr
 | ok fl=>
  cases fl with
  | ret obj=>
   obtain⟨rfl,rfl⟩:=hr;have hS:(s.heap.push (nObj w)).get? s.heap.objs.size=some (nObj w):=xy _ rfl;have hT:Shared.TypeIs { s with heap:=s.heap.push (nObj w) } (.ref s.heap.objs.size) "set":=⟨_,hS,rfl⟩;have hli:=xO.init.lookup;have hbi:=xO.init.bind (.ref s.heap.objs.size)
   repeat (any_goals (first|assumption|wp_step))
   refine vH (codeAny_call_builtin (R:=wants (λr s₂=>r=.none/\∃h' tk es,s₂={ s with heap:=h',toks:=tk }/\IsS dp κ h' s.heap.objs.size es (zE1 w)/\es.size<=items.size/\(∀e∈es.toList,e.2∈items.toList)/\(∀v∈items.toList,∃e∈es.toList,kv κ e=κ (adr v)) /\
     (∀b o,b<s.heap.objs.size->s.heap.get? b=some o->h'.get? b=some o)) E) xO.init.plain F.entry_set_init (check_set_init_1 hT ?_)) λr₂ s₂ hr₂=>?_
   ·have hlt:l<s.heap.objs.size:=by obtain⟨o,ho,_⟩:=hl;exact xl ho
    have hl1:(s.heap.push (nObj w)).IsTuple l items:=hl.push _;have hTl:Shared.TypeIs { s with heap:=s.heap.push (nObj w) } (.ref l) "tuple":=by obtain⟨o,ho,hc,_⟩:=hl1;exact⟨o,ho,hc⟩
    have q1:=zFn;have q2:=zD7;have q3:(Value.type "tuple" == Value.type "dict")=false:=by decide
    unfold Builtin.«set.__init__» noKeywords Builtin.Frozenset.updateFrom;generalize hPI:pyIter=PI
    wp_walk
    subst hPI;refine wpAny_pyIter_tuple hl1 (xa (wpAny_runValue ?_));have hs2:(s.heap.push (nObj w)).objs.size=s.heap.objs.size+1:=by rw[vn]
    have hneI:l≠(s.heap.push (nObj w)).objs.size:=by rw[hs2];exact xr (vU hlt)
    have hh3:A.in1.in1.in1.handled=none:=by simp[hh]
    have key:∀(i:Nat) (v:Value),items[i]?=some v->∃a,v=.ref a/\EA s.heap dp (κ a) a:=λi v hv=>hk v (by obtain⟨z,e⟩:=xU.mp hv;rw[<- e];simp)
    have bad:∀c∈s.heap.objs.size::[(s.heap.push (nObj w)).objs.size],∀o,s.heap.get? c=some o->o.cls≠.type "tuple":=λc hc o e=>by
     have:=xl e;rw[hs2]at hc;rcases xh.mp hc with rfl|hc
     ·exact absurd this (xR _)
     ·rw[xZ.mp hc]at this;exact absurd this (Nat.not_lt.mpr (Nat.le_succ _))
    have kp:∀c o,s.heap.get? c=some o->((s.heap.push (nObj w)).push { cls:=.type "tuple_iterator",data:=.fields #[.ref l,.int 0 0] }).get? c=some o:=λc o e=>xp _ (xp _ e)
    refine loop (h0:=s.heap) (led:=zE1 w) ((Walks.tuple hh3 _ l hneI items).toS) s.heap.objs.size ?nA hdp (by show A.units+1+1+1+(dp+1)<cLine;lia) key bad (λi v v' q q'=>xA (q.symm.trans q')) (λes nd m=>hn es nd λe he=>by
     obtain⟨j,_,hp⟩:=m e he;obtain⟨z,e2⟩:=xU.mp hp;rw[<- e2];simp) ?nB (items.size-0) 0 _ #[] (by nofun) (xC _) ⟨⟨_,xy _ rfl,rfl,rfl⟩,hl1.push _⟩
     ⟨0,_,xp _ hS,zHq _,(λe he=>by cases he),(λq hq=>by cases hq),ua⟩ (xC _) (λe he=>by cases he) (λj v hj=>by nofun) (λc o _ e=>kp c o e) ?nD
    case nA=>
     rw[hs2];simp;exact Nat.ne_of_gt hlt
    case nB=>
     rintro i s' ⟨⟨o,ho,hc,_⟩,_⟩ c hcm o' ho';have:c=(s.heap.push (nObj w)).objs.size:=by simpa using hcm
     subst this;rw[ho]at ho';cases ho';rw[hc];decide
    case nD=>
     intro s' es' mv i' z' m' c';obtain⟨h',g',d',tk',os'⟩:=s';have eg:g'=s.gens:=mv.gens;have ed:d'=s.drawn:=mv.drawn;have eo:os'=s.os:=mv.os;subst eg ed eo;refine xf (show wpAny _ _ (ret Value.none) _ _ _ from xf ⟨rfl,h',tk',es',rfl,i',z',λe he=>?_,λv hv=>?_,λb o hb e=>?_⟩)
     ·obtain⟨j,hj,hp⟩:=m' e he;obtain⟨z,e2⟩:=xU.mp hp;rw[<- e2];simp
     ·obtain⟨j,hj,e2⟩:=vV.mp hv;exact c' j v (by simpa using hj) (by rw[<- e2];simp)
     ·refine mv.heap b o ?_ (kp b o e);rw[hs2];simp only[xh,uw,or_false,not_or];exact⟨xr hb,xr (vU hb)⟩
   ·cases r₂ with
    | error e=>exact hr₂
    | ok fl₂=>
     cases fl₂ with
     | ret r=>
      obtain⟨rfl,h',tk,es,rfl,i1,i2,i3,i4,i5⟩:=hr₂
      repeat (any_goals (first|assumption|wp_step))
      exact h _ _ _ i1 i2 i3 i4 i5
     | _=>exact hr₂.elim
  | _=>exact hr.elim
end
end TU
namespace DS
open PySem (Str)
section
open Classical
def sortable(l:List D):Prop:=l.length<=63/\∃n,n<=6/\∀x∈l,lv n x
noncomputable def zPw (S:Store):List D->Option D
 | [d]=>match items S d with
  | some l=>if sortable l then some (.lst (srt l))else none
  | none=>none
 | _=>none
def setable(l:List D):Prop:=(l.length<=100000/\(dedup l).length<=min 1198 (63))/\∃n,n+1<=6/\∀x∈l,lv (n+1) x
noncomputable def ssL (S:Store) (d:D):Option D:=match items S d with
 | some l=>if setable l then some (.lst (srt (dedup l)))else none
 | none=>none
noncomputable def ltN (S:Store) (x y:D):Option D:=match x,y with
 | .int a,.int b=>some (.bl (decide (a<b)))
 | .str a,.str b=>some (.bl (decide (a.cps.toList<b.cps.toList)))
 | .tup l,.tup m=>if ∃n,n+1<=6/\lv (n+1) (.tup l)/\lv (n+1) (.tup m)then some (.bl (blt (.tup l) (.tup m)))else none
 | _,_=>none
end
end DS
namespace L2
open PySem PySem.Spec PyProof.Rows EK
open DS (D Store Exn Rs SR lv srt)
section
variable {X:Cx}{K:PySem.W.Frag}{E:XE}{J:Js}{S:Store}{H:Hp}{d d1 d2:D}{v:V}{pins:List (Addr × Obj)}{σ:St}{s:Shared}
theorem zHu(I:Inv X pins σ H s):∀(n:Nat) {d:D}{v:V}{u:Value},lv n d->Rep K J H d v->RelV v u->Ek s.heap n d u
 | 0,_,v,u,⟨i,e⟩,r,q=>by
  subst e;obtain rfl:v=.int i:=r;obtain⟨t,rfl⟩:=q;exact⟨i,t,rfl,rfl⟩
 | n+1,_,v,u,⟨l,e,hl⟩,r,q=>by
  subst e;obtain⟨a,xs,rfl,t,rl⟩:=r;cases q;obtain⟨_,its,rv,o,ho,hc,k,hd⟩:=(I.hok _ _ t.1);refine⟨l,a,o,_,k,rfl,rfl,ho,hc,hd,?_⟩;have go:∀(l:List D) (xs:List V) (its:List Value),(∀x∈l,lv n x)->RepL K J H l xs->Vals xs its->A2 (Ek s.heap n) l its:=by
   intro l;induction l with
   | nil=>intro xs its _ rl rv;obtain rfl:xs=[]:=rl;cases rv;exact .nil
   | cons d l ih=>
    intro xs its hl rl rv;obtain⟨x,r,rfl,h,rl⟩:=rl;cases rv with
    | cons q rv=>exact .cons (zHu I n (hl d (.head _)) h q) (ih _ _ (λy hy=>hl y (.tail _ hy)) rl rv)
  simpa using go l xs its hl rl rv
theorem zOd(I:Inv X pins σ H s){n:Nat}:∀{l:List D}{xs:List V}{us:List Value},(∀x∈l,lv n x)->RepL K J H l xs->Vals xs us->A2 (Ek s.heap n) l us
 | [],xs,us,_,rl,rv=>by obtain rfl:xs=[]:=rl;cases rv;exact .nil
 | d::l,_,_,hl,⟨x,r,e,h,rl⟩,rv=>by
  subst e;cases rv with
  | cons q rv=>exact .cons (zHu I n (hl d (.head _)) h q) (zOd I (λy hy=>hl y (.tail _ hy)) rl rv)
theorem zMo(rl:RepL K J H l xs)(rv:Vals xs us):∀u∈us,∃d x,d∈l/\Rep K J H d x/\RelV x u:=by
 induction l generalizing xs us with
 | nil=>obtain rfl:xs=[]:=rl;cases rv;intro u hu;cases hu
 | cons d l ih=>
  obtain⟨x,r,rfl,h,rl⟩:=rl;cases rv with
  | cons q rv=>
   intro u hu;rcases xh.mp hu with rfl|hu
   ·exact⟨d,x,.head _,h,q⟩
   ·obtain⟨d',x',m,r1,r2⟩:=ih rl rv u hu;exact⟨d',x',.tail _ m,r1,r2⟩
theorem back{h h':Heap}(hk:A2 (Ek h n) l us)(kp:∀b o,h.get? b=some o->h'.get? b=some o)(rl:RepL K J H l xs)(rv:Vals xs us)
  (hl:∀x∈l,lv n x) (ek:∀d x u,d∈l->Rep K J H d x->RelV x u->Ek h n d u):∀{m:List D}{vs:List Value},A2 (Ek h' n) m vs->(∀u∈vs,u∈us)->∃ys,RepL K J H m ys/\Vals ys vs
 | [],_,.nil,_=>⟨[],rfl,.nil⟩
 | d::m,_,.cons (b:=u) q r,hm=>by
  obtain⟨ys,r1,r2⟩:=back hk kp rl rv hl ek r λu hu=>hm u (.tail _ hu)
  obtain⟨d',x,mem,rx,rq⟩:=zMo rl rv u (hm u (.head _));have e:=((ek d' x u mem rx rq).kept λb o e _=>kp b o e).inj q;subst e;exact⟨x::ys,⟨x,ys,rfl,rx,r1⟩,.cons rq r2⟩
theorem zGz(hu:X.A.units+64<cLine)(hK:X.K=K:=by rfl):zBa X (.builtin "sorted") (cOfF K DS.zPw):=by
 subst hK;intro pins s σ H xs us Q I r hq31;obtain⟨J,S,ds,d,ha,rl,e,k⟩:=hq31;unfold DS.zPw at e;split at e
 ·rename_i d0;obtain⟨x,rfl,rx⟩:=zDl (ds:=[]) rl;cases e1:DS.items S d0 with
  | none=>rw[e1]at e;cases e
  | some l=>
   rw[e1]at e;dsimp only at e;split at e
   ·rename_i hs;cases e;obtain⟨hz,n,hn,hl⟩:=hs;obtain⟨a,ys,rfl,hq,q⟩:=zDp ha rx e1;obtain⟨u,rfl,ru⟩:=vals1 r;cases ru;have src:∃(o:Obj) (its:List Value) (c:Nat) (T:String),s.heap.get? a=some o/\o.cls=.type T/\(T="list"\/T="tuple")/\o.data=.seq its.toArray c/\Vals ys its/\its.length<=sizeLine:=by
     rcases hq with hq|hq
     ·obtain⟨its,rv',pl,hz'⟩:=I.list hq;obtain⟨o,ho,hc,c,hd⟩:=pl.isList;exact⟨o,its,c,"list",ho,hc,.inl rfl,hd,rv',by rw[<- Vals.length rv'];exact hz'⟩
     ·obtain⟨its,rv',pl,hz'⟩:=I.tuple hq;obtain⟨o,ho,hc,c,hd⟩:=pl;exact⟨o,its,c,"tuple",ho,hc,.inr rfl,hd,rv',by rw[<- Vals.length rv'];exact hz'⟩
    obtain⟨o,its,c,T,ho,hc,hT,hd,rv',hz'⟩:=src;have hk:=zOd I hl q rv';refine EK.zEw (G:=λds vs=>ds=l/\vs=its) (by nofun) (λR hR=>zWk ho hc hT hd hz' λh' sz kp=>hR h' s.toks l its sz kp (hk.imp λ_ _ z=>z.kept λb o e _=>kp b o e) (by rw[<- hk.length];exact hz) ⟨rfl,rfl⟩) λds vs vs' c tk h' L hg hz2 pm a2 hL kp hD=>?_
    obtain⟨rfl,rfl⟩:=hg;obtain⟨zs,r1,r2⟩:=back hk kp q rv' hl (λd x u m rx ru=>zHu I n (hl d m) rx ru) a2 λu hu=>pm.mem_iff.mp hu
    have len:zs.length<=sizeLine:=by rw[Vals.length r2,pm.length_eq];exact hz'
    exact⟨.ref L,_,I.laid kp hL (show ObjOk X.prog X.w _ h' _ (.lst zs)from⟨len,_,c,r2,hD⟩),rfl,k L _ H ha .refl (I.hok.fresh hL) ⟨zs,rfl,r1⟩⟩
   ·cases e
 ·cases e
end
end L2
namespace DS
open PySem (Str)
section
open Classical
theorem zG0{n:Nat}:∀(S:Store),keeps n S S
 | []=>trivial
 | _::r=>⟨.inl rfl,zG0 r⟩
theorem zRg{S:Store}{d:D}(h:d.low S.length=true):fin S d S=.ok d S:=by unfold fin;rw[xb (zG0 S),xb h,uG]
theorem atN{i:Int}{k:Nat}(h:i=(k:Int))(e:l[k]?=some d):atL l i=some d:=by obtain⟨hk,_⟩:=xG.mp e;unfold atL ixN;rw[xb (by nofun),xb (by nofun)];show l[i.toNat]?=some d;rw[show i.toNat=k by nofun];exact e
theorem atL0 :atL (d::l) 0=some d:=atN rfl rfl
theorem atL1 :atL (d::e::l) 1=some e:=atN rfl rfl
theorem atL2 :atL (d::e::f::l) 2=some f:=atN rfl rfl
theorem atL3 :atL (d::e::f::g::l) 3=some g:=atN rfl rfl
theorem ixT{i:Int}:ixD S (.tup l) (.int i)=atL l i:=rfl
theorem ixL{i:Int}:ixD S (.lst l) (.int i)=atL l i:=rfl
theorem zNx :items S (.tup l)=some l:=rfl
theorem zNy :items S (.lst l)=some l:=rfl
theorem zR2 :look S (.tup l)=some (.tup l):=rfl
theorem zR3 :look S (.lst l)=some (.lst l):=rfl
theorem zR4{i:Int}:look S (.int i)=some (.int i):=rfl
theorem zV8 :look S (.bl b)=some (.bl b):=rfl
theorem zDm{a b:Int}(h:sm a/\sm b):mulD S (.int a) (.int b)=some (.int (a*b)):=xb h
end
end DS
local macro_rules | `(tactic| simp_arith [$ls,*]) => `(tactic| simp only [DS.sSeq, DS.sSet, DS.sRet, DS.yAm, DS.zAl, DS.sIf, DS.sUnp, DS.zD9, DS.sPar, DS.zMi, DS.eVar, DS.eC, DS.eOp, DS.eUn, DS.aNil, DS.zA0, DS.eTup, DS.eLst, DS.eCB, DS.zA3, DS.eSl, DS.pNo, DS.pYes, DS.asI, DS.asB, DS.tB, DS.tAnd, DS.tOr, DS.tNot, DS.tYes, DS.eAnd, DS.eOr, DS.eNot, DS.eIf, DS.Rs.bind_ok, DS.Rs.then_ok, DS.zF4, DS.zL7, DS.gName, DS.gTup, DS.gAll, DS.zNx, DS.zNy, DS.zR2, DS.zR3, DS.zR4, DS.zV8, ue, Option.map_none, uu, List.getElem?_cons_succ, List.set_cons_zero, List.set_cons_succ, xo, vJ, xt, xX, List.replicate, List.cons_append, uv, vt, Nat.reduceAdd, Nat.reduceSub, Nat.reduceLT, Nat.reduceEqDiff, xB, xM, DS.addD, DS.subD, DS.ixT, DS.ixL, DS.atL0, DS.atL1, DS.atL2, DS.atL3, vY, Bool.not_false, xQ, reduceIte, $ls,*])
namespace DS
noncomputable def eqI (_:Store) (x y:D):Option D:=match x,y with
 | .int a,.int b=>some (.bl (decide (a=b)))
 | _,_=>none
theorem zCi{a b:Int}:eqI S (.int a) (.int b)=some (.bl (decide (a=b))):=rfl
open PySem (Str)
section
open Classical
noncomputable abbrev yB5:D:=.str (Str.ofString "seed")
noncomputable abbrev kNum:D:=.str (Str.ofString "number")
noncomputable abbrev yB6:D:=.str (Str.ofString "left")
noncomputable def yBm (seed num:Int) (m:Nat):D:=.dct false [yB5,kNum,yB6] [.int seed,.int num,.ref m]
structure yC5 (S:Store) (n m:Nat) (seed num:Int) (left:List Int):Prop where
 d:S[n]?=some (yBm seed num m)
 l:S[m]?=some (.lst (left.map D.int))
 ne:n≠m
 lo:0<=seed
 hi:seed<2147483647
section
variable {S:Store}{n m:Nat}{seed num:Int}{left:List Int}
structure Only (n m:Nat) (S S':Store):Prop where
 len:S'.length=S.length
 at_:∀k,k≠n->k≠m->S'[k]?=S[k]?
theorem Only.refl:Only n m S S:=⟨rfl,λ_ _ _=>rfl⟩
theorem Only.trans(a:Only n m S S')(b:Only n m S' S''):Only n m S S'':=⟨b.len.trans a.len,λk h1 h2=>(b.at_ k h1 h2).trans (a.at_ k h1 h2)⟩
theorem Only.set1(d:D):Only n m S (S.set n d):=⟨by simp,λk h1 _=>ve (xD h1)⟩
theorem zD8{x:Int}(h1:0<=x)(h2:x<2147483648):sm x:=zTo (by nofun) (by nofun)
theorem zOb{a b:Int}(hb:0<b)(hs:sm b):zHs S (.int a) (.int b)=some (.int (a.fdiv b)):=xb ⟨by nofun,hs⟩
theorem zCs{a b:Int}(hb:0<b):modD S (.int a) (.int b)=some (.int (a % b)):=xb hb
end
structure AtJ (env:Env) (j:Nat) (d:D) (env':Env):Prop where
 len:env'.length=env.length
 at_:env'[j]?=some (some d)
 o:∀i:Nat,i≠j->env'[i]?=env[i]?
theorem zAz :gOk S []:=λ_ h=>nomatch h
def BB(k:Nat)(x:Int):Prop:=x.natAbs<2 ^ k
theorem BB.mul{i j:Nat}{x y:Int}(h:BB i x)(h':BB j y):BB (i+j) (x*y):=by unfold BB at *;rw[Int.natAbs_mul,Nat.pow_add];exact Nat.mul_lt_mul_of_lt_of_le h (x4 h') (Nat.two_pow_pos j)
theorem BB.mono{i j:Nat}{x:Int}(h:BB i x)(k:i<=j):BB j x:=xv h (uC (by decide) k)
theorem BB.add{j:Nat}{x y:Int}(h:BB i x)(h':BB j y):BB (max i j+1) (x+y):=by unfold BB at *;refine vL (Int.natAbs_add_le x y) ?_;rw[Nat.pow_succ,Nat.mul_two];exact Nat.add_lt_add (xv h (uC (by decide) (Nat.le_max_left _ _))) (xv h' (uC (by decide) (Nat.le_max_right _ _)))
theorem BB.sm{i:Nat}{x:Int}(h:BB i x)(k:i<=4000):sm x:=xv h (uC (by decide) (by nofun))
theorem BB.lit{x:Int}(h:Nat.ble (x.natAbs+1) (2 ^ k)=true):BB k x:=Nat.le_of_ble_eq_true h
theorem zHl{i j:Nat}{x y:Int}(h:BB i x)(h':BB j y)(hi:i<=4000:=by decide)(hj:j<=4000:=by decide):mulD S (.int x) (.int y)=some (.int (x*y)):=zDm ⟨h.sm hi,h'.sm hj⟩
theorem zAk{np nl:Nat}{b:SM}{ds:List D}{S:Store}{d:D}(hl:ds.length=np)(h:b (ds.map some++List.replicate (nl-np) none) S=.rt d S)(hd:d.low S.length=true):zAc np nl b ds S=.ok d S:=by unfold zAc;rw[xb hl,h];exact zRg hd
structure Grow (n m:Nat) (S S':Store):Prop where
 len:S.length<=S'.length
 at_:∀k,k<S.length->k≠n->k≠m->S'[k]?=S[k]?
section
variable {n m:Nat}{S S' S'':Store}
theorem Grow.trans(a:Grow n m S S')(b:Grow n m S' S''):Grow n m S S'':=⟨xm a.len b.len,λk h h1 h2=>(b.at_ k (xv h a.len) h1 h2).trans (a.at_ k h h1 h2)⟩
theorem Only.grow(a:Only n m S S'):Grow n m S S':=⟨by rw[a.len];exact xg _,λk _ h1 h2=>a.at_ k h1 h2⟩
theorem Grow.app(T:Store):Grow n m S (S++T):=⟨by simp,λk h _ _=>xT h⟩
theorem Grow.set{c:Nat}(a:Grow n m S S')(h:S.length<=c):Grow n m S (S'.set c d):=⟨by simpa using a.len,λk hk h1 h2=>by rw[ve (by nofun)];exact a.at_ k hk h1 h2⟩
theorem zCu{n:Nat}:∀{S S':Store},S.length<=S'.length->(∀(i:Nat) (d:D),i<S.length->S'[i]?=some d->S[i]?=some d\/d.low n=true)->keeps n S S'
 | [],_,_,_=>trivial
 | a::r,[],e,_=>by simp at e
 | a::r,b::t,e,h=>⟨by
   rcases h 0 b (by simp) rfl with q|q
   ·exact .inl (by simpa using q)
   ·exact .inr q,zCu (by simpa using e) λi d hi q=>by simpa using h (i+1) d (by simpa using hi) (by simpa using q)⟩
end
theorem zQ2{k:Int}(h0:0<=k)(h:k<1000000):zGe [.int k]=some ⟨(List.range k.toNat).map fun(i:Nat)=>.int (i:Int),[]⟩:=by show(if fits62 k=true then some (Walk.mk (zFv 0 k) [])else none)=_;rw[xb (by unfold fits62;exact xk ⟨by nofun,by nofun⟩)];unfold zFv;simp
theorem zSl{α:Type}[BEq α][LawfulBEq α]:∀{l m:List α},l.Nodup->(∀x∈l,x∈m)->l.length<=m.length
 | [],_,_,_=>xC _
 | a::l,m,h,hm=>by
  have hn:=vh.mp h;have am:=hm a (.head _);have:=zSl hn.2 λx hx=>(List.mem_erase_of_ne λz=>hn.1 (by subst z;exact hx)).mpr (hm x (.tail _ hx))
  rw[List.length_erase_of_mem am]at this;have:=List.length_pos_of_mem am;rw[xo];lia
end
end DS
namespace L2
open PySem PySem.Spec PyProof.Rows EK TU
open TS (sObj zE1 adr ordW zF0 zCr zMa Tab.ft)
open DS (D Store Exn Rs SR lv srt dedup)
section
variable {X:Cx}{K:PySem.W.Frag}{E:XE}{J:Js}{S:Store}{H:Hp}{d d1 d2:D}{v:V}{pins:List (Addr × Obj)}{σ:St}{s:Shared}
theorem zXa(I:Inv X pins σ H s)(hq:SqL X.K H a ys\/SqT X.K H a ys):∃(o:Obj) (its:List Value) (c:Nat) (T:String),s.heap.get? a=some o/\o.cls=.type T/\(T="list"\/T="tuple")/\o.data=.seq its.toArray c/\Vals ys its/\its.length<=sizeLine:=by
 rcases hq with hq|hq
 ·obtain⟨its,rv',pl,hz'⟩:=I.list hq;obtain⟨o,ho,hc,c,hd⟩:=pl.isList;exact⟨o,its,c,"list",ho,hc,.inl rfl,hd,rv',by rw[<- Vals.length rv'];exact hz'⟩
 ·obtain⟨its,rv',pl,hz'⟩:=I.tuple hq;obtain⟨o,ho,hc,c,hd⟩:=pl;exact⟨o,its,c,"tuple",ho,hc,.inr rfl,hd,rv',by rw[<- Vals.length rv'];exact hz'⟩
structure SGood (K:PySem.W.Frag) (J:Js) (H:Hp) (κ:Addr->D) (es:Array (Int × Value)) (l:List D):Prop where
 mem:∀d,d∈es.toList.map (kv κ) <-> d∈l
 rep:∀e∈es.toList,∃x,Rep K J H (kv κ e) x/\RelV x e.2
theorem zYh{A:Around}{EE:Value->Shared->Prop}{dp:Nat}{Q:Value->Shared->Prop}(I:Inv X pins σ H s)(hh:A.handled=none)(hu:A.units+20<cLine)(hq:SqL X.K H a ys\/SqT X.K H a ys)(rl:RepL K J H l ys)(hdp:dp+1<=6)(hl:∀x∈l,lv (dp+1) x)(hz:(dedup l).length<=1198)
  (h:∀(h':Heap) (tk:Nat) (es:Array (Int × Value)) (κ:Addr->D),IsS dp κ h' s.heap.objs.size es (zE1 X.w)->es.size<=l.length->SGood K J H κ es l->(∀b o,s.heap.get? b=some o->h'.get? b=some o)->Q (.ref s.heap.objs.size) { s with heap:=h',toks:=tk }):
  wpAny (model X.prog X.w) A (call (.type "set") [.ref a]) Q EE s:=by
 obtain⟨o,its,c,T,ho,hc,hT,hd,rv,_⟩:=zXa I hq;have hk:=zOd I hl rl rv;have key:∀u∈its,∃b d x,u=.ref b/\d∈l/\kd s.heap (dp+1) (.ref b)=d/\Ek s.heap (dp+1) d (.ref b)/\Rep K J H d x/\RelV x u:=λu hm=>by
  obtain⟨d,x,md,rx,rq⟩:=zMo rl rv u hm;have q:=zHu I (dp+1) (hl d md) rx rq;have q0:=q;obtain⟨ds,b,ob,items,k,rfl,rfl,_⟩:=q;exact⟨b,_,x,rfl,md,zIt q0,q0,rx,rq⟩
 have post:∀(h':Heap) (tk:Nat) (es:Array (Int × Value)),IsS dp (λb=>kd s.heap (dp+1) (.ref b)) h' s.heap.objs.size es (zE1 X.w)->es.size<=its.toArray.size->(∀e∈es.toList,e.2∈its.toArray.toList)->(∀v∈its.toArray.toList,∃e∈es.toList,kv (λb=>kd s.heap (dp+1) (.ref b)) e=(λb=>kd s.heap (dp+1) (.ref b)) (adr v))->
   (∀b o,b<s.heap.objs.size->s.heap.get? b=some o->h'.get? b=some o)->Q (.ref s.heap.objs.size) { s with heap:=h',toks:=tk }:=λh' tk es i1 z1 m1 cv k1=>by
  refine h h' tk es _ i1 (by rw[hk.length];simpa using z1) ⟨λd=>?_,λe he=>?_⟩ λb o e=>k1 b o (xl e) e
  ·constructor
   ·intro hm;obtain⟨e,he,rfl⟩:=xw.mp hm;obtain⟨b,d,x,eb,md,ek,_,_,_⟩:=key e.2 (by simpa using m1 e he);unfold kv;rw[eb];show kd s.heap (dp+1) (.ref b)∈l;rw[ek];exact md
   ·intro hm;obtain⟨u,hu',q⟩:=hk.mem_l d hm;obtain⟨e,he,ek⟩:=cv u (by simpa using hu');refine xw.mpr ⟨e,he,ek.trans ?_⟩;have q0:=q;obtain⟨ds,b,ob,items,k,rfl,rfl,_⟩:=q;exact zIt q0
  ·obtain⟨b,d,x,eb,md,ek,_,rx,rq⟩:=key e.2 (by simpa using m1 e he);refine⟨x,?_,rq⟩;unfold kv;rw[eb];show Rep K J H (kd s.heap (dp+1) (.ref b)) x;rw[ek];exact rx
 have kk:∀v∈its.toArray.toList,∃b,v=.ref b/\EA s.heap dp (kd s.heap (dp+1) (.ref b)) b:=λv hv=>by
  obtain⟨b,d,x,eb,md,ek,q,_,_⟩:=key v (by simpa using hv);exact⟨b,eb,by rw[ek];exact q⟩
 have sz:∀es:Array (Int × Value),(es.toList.map (kv λb=>kd s.heap (dp+1) (.ref b))).Nodup->(∀e∈es.toList,e.2∈its.toArray.toList)->es.size<1200:=λes nd m=>by
  letI:DecidableEq DS.D:=λa b=>Classical.propDecidable _
  letI:BEq DS.D:=instBEqOfDecidableEq
  have:=DS.zSl nd (m:=dedup l) λd hd=>by
   obtain⟨e,he,rfl⟩:=xw.mp hd;obtain⟨b,d,x,eb,md,ek,_,_,_⟩:=key e.2 (by simpa using m e he);unfold kv;rw[eb];show kd s.heap (dp+1) (.ref b)∈_;rw[ek];exact DS.mem_dedup.mpr md
  rw[xn,vx]at this;lia
 rcases hT with rfl|rfl
 ·exact zPy hh ⟨o,ho,hc,c,hd⟩ (by nofun) hu sz kk post
 ·exact zMh hh ⟨o,ho,hc,c,hd⟩ (by nofun) hu sz kk post
theorem zWj{prog:Program}{A:Around}{EE:Value->Shared->Prop}{κ:Addr->D}{es:Array (Int × Value)}{R:List Value->Shared->Prop}(hh:A.handled=none)(hS:IsW dp κ s.heap T es (zE1 w))(hz:es.size<=sizeLine)
  (h:∀(h':Heap) (tk:Nat) (vs:List Value),(∀b o,s.heap.get? b=some o->h'.get? b=some o)->vs.Perm (es.toList.map (·.2))->A2 (Ek h' (dp+1)) (vs.map λv=>κ (adr v)) vs->R vs { s with heap:=h',toks:=tk }):wpAny (model prog w) A (collect (.ref T)) R EE s:=by
 obtain⟨ep,t,ho,Tb,he,nd⟩:=hS;refine PySem.W.kdu_collect (zMa Tb) hh ho hz λh' tk acc kp it=>?_
 have ea:acc.toList=((ordW w T ep es).map (·.2)).toList:=by
  refine List.ext_getElem? λi=>?_
  rcases x8 i acc.size with z|z
  ·have e1:=it.2 i acc[i] (xY z);rw[uL,xY z,uL,e1]
  ·rw[vk (by simpa using z),vk (by simp[zCr];rw[<- it.1];exact z)]
 have pm:acc.toList.Perm (es.toList.map (·.2)):=by rw[ea,Array.toList_map];exact(zF0 w T ep es).map _
 refine h h' tk acc.toList kp pm ?_;have al:∀v∈acc.toList,∃b,v=.ref b/\EA s.heap dp (κ b) b:=λv hv=>by
  obtain⟨e,hm,rfl⟩:=xw.mp (pm.mem_iff.mp hv);obtain⟨b,e1,q,_⟩:=he e hm;exact⟨b,e1,q⟩
 generalize acc.toList=vs at al
 clear pm ea
 induction vs with
 | nil=>exact .nil
 | cons v vs ih=>
  obtain⟨b,rfl,q⟩:=al v (.head _);exact .cons (Ek.kept q λb o e _=>kp b o e) (ih λu hu=>al u (.tail _ hu))
theorem zTl{A:Around}{EE:Value->Shared->Prop}{dp:Nat}{κ:Addr->D}{es:Array (Int × Value)}{l:List D}{Q:VK}(I:Inv X pins σ H s1)(hh:A.handled=none)(hu:A.units+20<cLine)(hS:IsW dp κ s.heap T es (zE1 X.w))(hdp:dp+1<=6)
  (k1:∀b o,s1.heap.get? b=some o->s.heap.get? b=some o) (e1:s={ s1 with heap:=s.heap,toks:=s.toks }) (hT:s1.heap.objs.size<=T) (hy:(dedup l).length<=63) (g:SGood K J H κ es l) (hl:∀x∈l,lv (dp+1) x)
  (h:∀(L:Addr) (zs:List V),H L=none->RepL K J H (srt (dedup l)) zs->Q (.ref L) (upd H L (.lst zs))):wpAny (model X.prog X.w) A (call (.builtin "sorted") [.ref T]) (EP X pins σ Q) EE s:=by
 have nd:=hS;obtain⟨_,_,hoT,_,he,nd⟩:=nd;have hz:es.size<=63:=by have:=(DS.zNf nd DS.zEr λx=>by rw[g.mem,DS.mem_dedup]).length_eq;rw[xn,vx]at this;lia
 refine EK.zEw (G:=λds vs=>vs.Perm (es.toList.map (·.2))/\ds=vs.map λv=>κ (adr v)) (by nofun) (λR hR=>zWj hh hS (by rw[vf];lia) λh' tk vs kp pm a2=>hR h' tk _ vs (xl (kp T _ hoT)) kp a2 (by rw[pm.length_eq];simpa using hz) ⟨pm,rfl⟩) λds vs vs' c tk h' L hg hz2 pm a2 hL kp hD=>?_
 obtain⟨pv,rfl⟩:=hg;have pd:(vs.map λv=>κ (adr v)).Perm (dedup l):=by
  have p1:(vs.map λv=>κ (adr v)).Perm (es.toList.map (kv κ)):=by
   have:=pv.map λv=>κ (adr v)
   rw[vD]at this;exact this
  refine p1.trans (DS.zNf nd DS.zEr λx=>?_);rw[g.mem,DS.mem_dedup]
 have es1:srt (vs.map λv=>κ (adr v))=srt (dedup l):=by
  have lv1:∀y∈vs.map (λv=>κ (adr v)),lv (dp+1) y:=λy hy=>hl y (DS.mem_dedup.mp (pd.mem_iff.mp hy))
  exact DS.zM0 (λy hy=>lv1 y ((DS.zCa _).mem_iff.mp hy)) ((DS.zCa _).trans pd) (DS.zM9 lv1)
 rw[es1]at a2;have src:∀u∈vs',∃d x,Rep K J H d x/\RelV x u/\Ek h' (dp+1) d u:=λu hm=>by
  obtain⟨e,he',rfl⟩:=xw.mp (pv.mem_iff.mp (pm.mem_iff.mp hm));obtain⟨x,rx,rq⟩:=g.rep e he';obtain⟨b,eb,q,_⟩:=he e he';refine⟨kv κ e,x,rx,rq,?_⟩;unfold kv;rw[eb];exact q.kept λb o e _=>kp b o e
 have bk:∀{m:List D}{vs:List Value},A2 (Ek h' (dp+1)) m vs->(∀u∈vs,u∈vs')->∃ys,RepL K J H m ys/\Vals ys vs:=by
  intro m vs a2;induction a2 with
  | nil=>exact λ_=>⟨[],rfl,.nil⟩
  | @cons d u m vs q _ ih=>
   intro hm;obtain⟨ys,r1,r2⟩:=ih λu hu=>hm u (.tail _ hu)
   obtain⟨d',x,rx,rq,q'⟩:=src u (hm u (.head _));have e:=q'.inj q;subst e;exact⟨x::ys,⟨x,ys,rfl,rx,r1⟩,.cons rq r2⟩
 obtain⟨zs,r1,r2⟩:=bk a2 λu hu=>hu
 have len:zs.length<=sizeLine:=by rw[Vals.length r2,pm.length_eq,pv.length_eq,vf];simp;lia
 have hL':=xm hT (Nat.le_of_succ_le hL);have I':=I.laid (t':=tk) (λb o e=>kp b o (k1 b o e)) hL' (show ObjOk X.prog X.w _ h' _ (.lst zs)from⟨len,_,c,r2,hD⟩);rw[e1];exact⟨.ref L,_,I',rfl,h L zs (I.hok.fresh hL') r1⟩
end
section
variable {X:Cx}{K:PySem.W.Frag}{E:XE}
theorem yBj{p p2 pos pos2:Pos}(hc:X.calm=true)(hu:X.A.units+64<cLine)(he:DE X K E e m)(hgs:Gl X "sorted")(hms:X.mg "sorted"=none)(hgt:Gl X "set")(hmt:X.mg "set"=none)(h:nst e=true:=by rfl)(hK:X.K=K:=by rfl):
  DF X K E (.Call (.Name "sorted" p) [.Call (.Name "set" p2) [e] [] pos2] [] pos) (DS.eUn DS.ssL m):=by
 subst hK;refine⟨⟨λpins s σ H Q I hq1=>?_⟩⟩;obtain⟨env,S,J,ha,hE,q⟩:=hq1;have hs:starEach [e] X.env=[(false,eval e X.env)]:=zBm h;have hs2:starEach [Expr.Call (.Name "set" p2) [e] [] pos2] X.env=[(false,eval (.Call (.Name "set" p2) [e] [] pos2) X.env)]:=rfl;refine v7 (zFz I hgs hms PyProof.Rows.boot_sorted (PyProof.Rows.callWith_builtin1 ?_ hs2 rfl));rw[hs2];refine(Calls.spliced_cons ?_);refine v7 (zFz I hgt hmt PyProof.Rows.boot_set (uO ?_ hs rfl));rw[hs];refine(Calls.spliced_cons ?_);refine thn (he.h.h pins s σ H (λx H1=>∃J1 S1 d0 d,AbS X.K J1 S1 H1/\Rep X.K J1 H1 d0 x/\DS.ssL S1 d0=some d/\∀p o,H1 p=none->ObD X.K J1 H1 d o->Q (.ref p) (upd H1 p o)) I ⟨env,S,J,ha,hE,q.bind.imp λd0 S1 J1 H1 _ a1 g1 q1 x rx=>?_⟩) λv s1 hq1=>?_
 ·obtain⟨c,ec,k⟩:=q1.lift;exact⟨J1,S1,d0,c,a1,rx,ec,k J1 H1 a1 .refl⟩
 ·obtain⟨x,H1,I1,r1,J1,S1,d0,d,a1,rx,ed,k⟩:=hq1;refine Calls.spliced_nil ?_;unfold DS.ssL at ed;cases e1:DS.items S1 d0 with
  | none=>rw[e1]at ed;cases ed
  | some l=>
   rw[e1]at ed;dsimp only at ed;split at ed
   ·rename_i hs;cases ed;obtain⟨⟨hz,hy⟩,n,hn,hl⟩:=hs;obtain⟨a,ys,rfl,hq,q⟩:=zDp a1 rx e1;cases r1;refine zYh I1 (I.ok.hd hc) (by nofun) hq q hn hl (by nofun) λh1 tk1 es κ i1 z1 g1 k1=>Calls.spliced_nil ?_
    refine zTl I1 (I.ok.hd hc) (by nofun) i1.wk hn k1 rfl (xg _) (by nofun) g1 hl λL zs hL r=>k L _ hL ⟨zs,rfl,r⟩
   ·cases ed
end
section
variable {X:Cx}{K:PySem.W.Frag}{E:XE}{J:Js}{S:Store}{H:Hp}{d d1 d2:D}{v:V}{pins:List (Addr × Obj)}{σ:St}{s:Shared}
theorem zUw(hu:X.A.units+64<cLine):OpR X (compareOp .Lt) (r2Of K DS.ltN):=by
 intro pins s σ H x y a b Q I rx ry hq32;obtain⟨J,S,d1,d2,d,ha,r1,r2,e,k⟩:=hq32;unfold DS.ltN at e;split at e
 ·cases e;obtain rfl:=r1;obtain rfl:=r2;exact yAy pins s σ H _ _ a b Q I rx ry ⟨_,_,rfl,rfl,k _ H ha .refl rfl⟩
 ·cases e;obtain rfl:=r1;obtain rfl:=r2;exact zN8 pins s σ H _ _ a b Q I rx ry ⟨_,_,rfl,rfl,k _ H ha .refl rfl⟩
 ·split at e
  ·rename_i hs;cases e;obtain⟨n,hn,h1,h2⟩:=hs;have q1:=zHu I (n+1) h1 r1 rx;have q2:=zHu I (n+1) h2 r2 ry;exact(zRj (n+1) q1 q2 (by nofun) ⟨.bl (DS.blt (.tup _) (.tup _)),H,I,rfl,k _ H ha .refl rfl⟩:wpAny (model X.prog X.w) X.A (richCompare .Lt a b) (EP X pins σ Q) X.xe s)
  ·cases e
 ·cases e
end
noncomputable def locB (o:Option NameKind):Bool:=o == some .local || o == some .cell
noncomputable def visB (o:Option NameKind):Bool:=locB o || o == some .free
theorem zK1(h:locB o=true):o=some .local\/o=some .cell:=by simpa[locB]using h
theorem zPp(h:visB o=true):o=some .local\/o=some .cell\/o=some .free:=by simpa[visB,locB,or_assoc]using h
noncomputable def ndB:List Str->Bool
 | []=>true
 | x::r=>!(r.contains x) && ndB r
theorem zGg:∀{l:List Str},ndB l=true->l.Nodup
 | [],_=>ua
 | x::r,h=>by
  simp only[ndB,xi,uH,List.contains_eq_mem,decide_eq_false_iff_not]at h;exact vh.mpr ⟨h.1,zGg h.2⟩
noncomputable def varB (X:Cx) (i:Nat) (x:Str):Bool:=X.N[i]? == some x && (visB (X.env.scope.names.lookup x) && (!(x == ("__debug__":Str)) && !(x == ("__classdict__":Str))))
noncomputable def setB (X:Cx) (j:Nat) (x:Str):Bool:=ndB X.N && (X.N[j]? == some x && (locB (X.env.scope.names.lookup x) && (X.fn x || X.env.scope.names.lookup x == some .local)))
noncomputable def tgN:Expr->List Str
 | .Name x _=>[x]
 | .Tuple ts _ _=>ts.flatMap fun
  | .Name x _=>[x]
  | .Tuple us _ _=>us.flatMap fun
   | .Name x _=>[x]
   | _=>[]
  | _=>[]
 | _=>[]
noncomputable def freN (N:List Str) (ix:List Nat):List Str:=ix.map λi=>N.getD i ""
noncomputable def cmpB (X:Cx) (tg iter:Expr) (n:Nat) (ix:List Nat) (scope:Scope):Bool:=X.calm && (nse iter && ((tgN tg).length == n && zP0 X.env.scope X.N (tgN tg) (freN X.N ix) ix scope))
section
variable {X:Cx}{K:PySem.W.Frag}{E:XE}{e a b c:Expr}{es:List Expr}{p pos:Pos}{m ma mb mc:DS.EM}{mt mu:DS.TM}
theorem zZe(h:varB X i x=true):DE X K E (.Name x pos) (DS.eVar i):=by simp only[varB,xi,uH]at h;exact zZs i (by simpa using h.1) (zPp h.2.1) h.2.2.1 h.2.2.2
theorem zEj(h:setB X j x=true):X.N.Nodup/\X.N[j]?=some x/\Loc X.env.scope x/\(X.fn x=true\/X.env.scope.names.lookup x=some .local):=by simp only[setB,xi,Bool.or_eq_true]at h;exact⟨zGg h.1,by simpa using h.2.1,zK1 h.2.2.1,by simpa using h.2.2.2⟩
theorem zZg(h:(setB X j x && nco e)=true)(he:DE X K E e m):DS1 X K E (.Assign [.Name x pos'] e pos) (DS.sSet j m):=by rw[xi]at h;have z:=zEj h.1;exact zW4 z.1 z.2.1 z.2.2.1 he z.2.2.2 h.2
theorem zW0(h:setB X j x=true):DG X K (.Name x pos) (DS.gName j):=
 have z:=zEj h
 zWd z.1 z.2.1 z.2.2.1 z.2.2.2
theorem zGx{n:Nat}{ix:List Nat}(h:cmpB X tg iter n ix scope=true):X.calm=true/\nse iter=true/\(tgN tg).length=n/\CompScope X (tgN tg) (freN X.N ix) ix scope:=by simp only[cmpB,xi]at h;exact⟨h.1,h.2.1,by simpa using h.2.2.1,.mk' rfl rfl h.2.2.2⟩
section
variable {ix:List Nat}{n:Nat}{scope:Scope}{j:Nat}{x:Str}{cpos pos':Pos}{tg elt iter:Expr}{ifs:List Expr}{im:DS.IM}{g:DS.GM}
theorem zW1(h:cmpB X tg iter n ix scope=true)(hi:DI X K E tg iter im)
  (hg:∀cl C s H fp,DG (zA9 X (tgN tg++freN X.N ix) scope cl C s H fp) K tg g) (ht:∀cl C s H fp,DIf (zA9 X (tgN tg++freN X.N ix) scope cl C s H fp) K E ifs mt) (he:∀cl C s H fp,DE (zA9 X (tgN tg++freN X.N ix) scope cl C s H fp) K E elt m):
  DF X K E (.ListComp elt [⟨tg,iter,ifs,0⟩] scope pos) (DS.zB2 n ix im g mt m):=
 have z:=zGx h
 zWf z.1 z.2.2.2 hi hg ht he z.2.2.1 z.2.1
theorem zVz(hsw:swapsWith (.ListComp elt [⟨tg,iter,ifs,0⟩] scope cpos) (some (.Name x pos')) pos.line X.env=pure true)(h1:setB X j x=true)(h:cmpB X tg iter n ix scope=true)(hi:DI X K E tg iter im)
  (hg:∀cl C s H fp,DG (zA9 X (tgN tg++freN X.N ix) scope cl C s H fp) K tg g) (ht:∀cl C s H fp,DIf (zA9 X (tgN tg++freN X.N ix) scope cl C s H fp) K E ifs mt) (he:∀cl C s H fp,DE (zA9 X (tgN tg++freN X.N ix) scope cl C s H fp) K E elt m):
  DS1 X K E (.Assign [.Name x pos'] (.ListComp elt [⟨tg,iter,ifs,0⟩] scope cpos) pos) (DS.sSet j (DS.zB2 n ix im g mt m)):=
 have z:=zGx h;have y:=zEj h1
 zRn y.1 y.2.1 y.2.2.1 z.1 z.2.2.2 hi hg ht he hsw z.2.1 y.2.2.2 z.2.2.1
theorem zRk(hsw:swapsWith (.ListComp elt [⟨tg,iter,ifs,0⟩] scope cpos) (some (.Name x pos')) pos.line X.env=pure true)(h1:setB X j x=true)(h:cmpB X tg iter n ix scope=true)(hi:DI X K E tg iter im)
  (hg:∀cl C s H fp,DG (zA9 X (tgN tg++freN X.N ix) scope cl C s H fp) K tg g) (ht:∀cl C s H fp,DIf (zA9 X (tgN tg++freN X.N ix) scope cl C s H fp) K E ifs mt) (he:∀cl C s H fp,DE (zA9 X (tgN tg++freN X.N ix) scope cl C s H fp) K E elt m):
  DS1 X K E (.Assign [.Name x pos'] (.ListComp elt [⟨tg,iter,ifs,0⟩] scope cpos) pos) (DS.sSet j (DS.eNew (DS.zB2 n ix im g mt m))):=
 have z:=zGx h;have y:=zEj h1
 zOh y.1 y.2.1 y.2.2.1 z.1 z.2.2.2 hi hg ht he hsw z.2.1 y.2.2.2 z.2.2.1
end
noncomputable def glB (X:Cx) (x:Str):Bool:=X.env.kindOf x == some .globalImplicit
theorem zO4(h:glB X x=true):Gl X x:=by simpa[glB,Gl]using h
noncomputable def zJ3 (X:Cx) (x:Str) (es:List Expr):Bool:=glB X x && (!(x == ("__debug__":Str)) && (!(x == ("__name__":Str)) && es.all nst))
theorem zCv(h:zJ3 X x es=true):Gl X x/\(x == ("__debug__":Str))=false/\x≠"__name__"/\es.all nst=true:=by simp only[zJ3,xi,uH]at h;exact⟨zO4 h.1,h.2.1,by simpa using h.2.2.1,h.2.2.2⟩
theorem zW2(C:Cal X.prog X.w X.K X.mg X.base x k ps (spOf K E F))(hr:Room k X.A)(h:zJ3 X x (e::es)=true)(ha:DA X K E (e::es) am):DE X K E (.Call (.Name x p) (e::es) [] pos) (DS.zA3 F am):=
 have z:=zCv h
 zWg C hr z.1 ha z.2.1 z.2.2.2
theorem yBf{g:Store->List D->Option D}(hc:zBa X (.builtin iq) (cOf K g))(hv:bootBuiltins x=some (.builtin iq))(hm:X.mg x=none)(h:zJ3 X x (e::es)=true)(ha:DA X K E (e::es) am):DE X K E (.Call (.Name x p) (e::es) [] pos) (DS.eCB g am):=
 have z:=zCv h
 yBx hc z.1 hm hv ha z.2.2.1 z.2.1 z.2.2.2
theorem yBe{g:Store->List D->Option D}(hc:zBa X (.type T) (cOf K g))(hv:bootBuiltins x=some (.type T))(hm:X.mg x=none)(h:zJ3 X x (e::es)=true)(ha:DA X K E (e::es) am):DE X K E (.Call (.Name x p) (e::es) [] pos) (DS.eCB g am):=
 have z:=zCv h
 yBw hc z.1 hm hv ha z.2.2.1 z.2.1 z.2.2.2
theorem yBd{g:Store->List D->Option D}(hc:zBa X (.builtin iq) (cOfF K g))(hv:bootBuiltins x=some (.builtin iq))(hm:X.mg x=none)(h:zJ3 X x (e::es)=true)(ha:DA X K E (e::es) am):DF X K E (.Call (.Name x p) (e::es) [] pos) (DS.eCB g am):=
 have z:=zCv h
 yBl hc z.1 hm hv ha z.2.2.1 z.2.1 z.2.2.2
theorem yBc{g:Store->List D->Option D}(hc:zBa X (.type T) (cOfF K g))(hv:bootBuiltins x=some (.type T))(hm:X.mg x=none)(h:zJ3 X x (e::es)=true)(ha:DA X K E (e::es) am):DF X K E (.Call (.Name x p) (e::es) [] pos) (DS.eCB g am):=
 have z:=zCv h
 yBk hc z.1 hm hv ha z.2.2.1 z.2.1 z.2.2.2
theorem zZf(h:ntu e=true)(he:DE X K E e m)(hg:DG X K (.Tuple ts k tp) g):DS1 X K E (.Assign [.Tuple ts k tp] e pos) (DS.sUnp g m):=zW3 he hg h
structure MtS (T:String) (x:Str) (iq:String):Prop where
 pa:PlainAttrs T
 sl:Slot T x iq
 ty:typeOf (.builtin iq)=pure (.type "method_descriptor")
 hT:T="str"\/T="list"\/T="dict"
theorem zQ0:MtS "list" "append" "list.append":=⟨PySem.F.plainAttrs_list,PySem.F.slot_list_append,PySem.F.type_list_append,.inr (.inl rfl)⟩
theorem zPz:MtS "list" "extend" "list.extend":=⟨PySem.F.plainAttrs_list,PySem.F.slot_list_extend,PySem.F.type_list_extend,.inr (.inl rfl)⟩
noncomputable def mtB (o:Expr) (es:List Expr) (apos cpos:Pos):Bool:=nba o && (es.all nst && (decide (es.length+0+0<30) && (apos.endLine == cpos.line)))
theorem zZi{g:Store->D->List D->Option (D × Store)}(S:MtS T x iq)(hm:MtR X iq (mOf K g))(h:mtB o (e::es) apos cpos=true)(hK:X.K=K)(ho:DE X K E o mo)(ha:DA X K E (e::es) am):
  DE X K E (.Call (.Attribute o x apos) (e::es) [] cpos) (DS.eMt T g mo am):=by
 simp only[mtB,xi]at h;exact yBs S.pa S.sl S.ty hm S.hT ho ha h.1 h.2.1 h.2.2.1 h.2.2.2 hK
end
noncomputable def scB (N ps:List Str) (sc:Scope):Bool:=sc.kind == .function && (!sc.isCoroutine && (!sc.isGenerator && (ndB N && (N.take ps.length == ps && (ps.all (λx=>locB (sc.names.lookup x)) && sc.names.all λy=>y.2 != .free)))))
theorem zEz(h:scB N ps sc=true):zE8 N ps sc:=by simp only[scB,xi,uH,vi]at h;obtain⟨h1,h2,h3,h4,h5,h6,h7⟩:=h;exact⟨by simpa using h1,h2,h3,zGg h4,by simpa using h5,λx hx=>zK1 (h6 x hx),λy hy=>by simpa using h7 y hy⟩
structure Gd (K:PySem.W.Frag) (mg:Str->Option Value):Prop where
 a:∀x v,PySem.W.nsIn K mainGlobals x=some (some v)->mg x=some v
 z:∀x,PySem.W.nsIn K mainGlobals x=some none->mg x=none
section
variable {P:Program}{w:World}{K:PySem.W.Frag}{mg:Str->Option Value}{base:Heap}
theorem zO6(l:K.lookup f=some (fO x tq pm cd))(c:PySem.W.codeIn K (.ref cd) x=true)(kp:PySem.W.keepIn K (.ref f)=true):Fun K x x tq f (PySem.W.fnOf x x (zBg tq) (zAw tq) (zA7 tq) .none .none .none pm none (.ref cd) .none):=zO5 l c kp
theorem zBb(G:Gd K mg)(f cd:Addr)(tq:Stmt)(pm:Value)(N:List Str){x:Str}{ps:List Str}{k:Nat}{b:DS.SM}
  (hb:∀(cdv:Value) (A:Around) (outer:List PySem.Env) (s:Shared) (H:Hp) (E:XK),Room k (A.deeper (envOfC x (zA7 tq) s.heap.objs.size f cdv))->DSs (cxOf CX0 P w K mg base N x (zA7 tq) f cdv A outer s H E).nox K XE0 (zAw tq) b)
  (l:K.lookup f=some (fO x tq pm cd)) (c:(PySem.W.codeIn K (.ref cd) x && (PySem.W.keepIn K (.ref f) && scB N ps (zA7 tq)))=true) (hm:PySem.W.nsIn K mainGlobals x=some (some (.ref f)))
  (bd:∀(kV doc pm:Value) (an:Option Addr) (cdv ct:Value) (us:List Value),us.length=ps.length->bindArgs (PySem.W.fnOf x x (zBg tq) (zAw tq) (zA7 tq) .none kV doc pm an cdv ct) ⟨us,[]⟩=pure (ps.zip us)):Cal P w K mg base x (k+1) ps (spOf K XE0 (DS.zAc ps.length N.length b)):=by
 rw[xi,xi]at c;have F:=zO6 l c.1 c.2.1;exact⟨_,_,fn_d F (zEz c.2.2) rfl rfl hb,G.a _ _ hm,F.kp,F.binds bd⟩
theorem yC0(G:Gd K mg)(f cd:Addr)(tq:Stmt)(pm:Value)(N:List Str){x:Str}{ps:List Str}{k:Nat}{b:DS.SM}
  (hb:∀(cdv:Value) (A:Around) (outer:List PySem.Env) (s:Shared) (H:Hp) (E:XK),Room k (A.deeper (envOfC x (zA7 tq) s.heap.objs.size f cdv))->DSs (cxOf CX0 P w K mg base N x (zA7 tq) f cdv A outer s H E).nox K XE0 (zAw tq) b)
  (l:K.lookup f=some (fO x tq pm cd)) (c:(PySem.W.codeIn K (.ref cd) x && (PySem.W.keepIn K (.ref f) && scB N ps (zA7 tq)))=true) (hm:PySem.W.nsIn K mainGlobals x=some (some (.ref f)))
  (bd:∀(kV doc pm:Value) (an:Option Addr) (cdv ct:Value) (us:List Value),us.length=ps.length->bindArgs (PySem.W.fnOf x x (zBg tq) (zAw tq) (zA7 tq) .none kV doc pm an cdv ct) ⟨us,[]⟩=pure (ps.zip us)):Cal P w K mg base x (k+1) ps (spOf K XE0 (DS.zH0 ps.length N.length b)):=by
 rw[xi,xi]at c;have F:=zO6 l c.1 c.2.1;exact⟨_,_,fn_r F (zEz c.2.2) rfl rfl hb,G.a _ _ hm,F.kp,F.binds bd⟩
end
end L2
namespace DS
noncomputable def addE (S:Store) (x y:D):Option D:=match x,y with
 | .tup [],.tup m=>some (.tup m)
 | x,y=>addD S x y
theorem zKq{l m:List D}(h:l.length+m.length<=most):addE S (.tup l) (.tup m)=some (.tup (l++m)):=by
 cases l with
 | nil=>rfl
 | cons a r=>show(if a::r≠[]/\(a::r).length+m.length<=most then some (D.tup (a::r++m))else none)=_;rw[xb ⟨by simp,h⟩]
section
open Classical
noncomputable def neB (_:Store) (x y:D):Option D:=match x,y with
 | .bl a,.bl b=>some (.bl (!decide (a=b)))
 | _,_=>none
noncomputable def pairsOf:List D->Option (List (D × D))
 | []=>some []
 | .tup [k,v]::l=>if zC4 true k=true then(pairsOf l).map ((k,v)::·)else none
 | _=>none
noncomputable def putAll (a:List D × List D) (ps:List (D × D)):List D × List D:=ps.foldl (λa p=>put2 a.1 a.2 p.1 p.2) a
noncomputable def zOk (S:Store):List D->Option D
 | [d]=>match(match look S d with|some (.lst l)=>pairsOf l|_=>none)with
  | some ps=>if ps.length<=most then some (.dct true (putAll ([],[]) ps).1 (putAll ([],[]) ps).2)else none
  | none=>none
 | _=>none
end
noncomputable def fldL (f:PySem.Str):List D->Option D
 | .str g::d::l=>if f == g then some d else fldL f l
 | _=>none
noncomputable def inC (l:List Nat) (c:Int):Bool:=l.any fun(n:Nat)=>c == (n:Int)
section
open Classical
def yB3(x y:D):Prop:=(∃a b,x=.str a/\y=.str b)\/∃n,n<=5/\lv n x/\lv n y
end
open PySem (Str)
section
open Classical
def zYl(x y:D):Prop:=(∃a b,x=.bl a/\y=.bl b)\/yB3 x y
noncomputable def eqY (_:Store) (x y:D):Option D:=match x,y with
 | .str a,.str b=>some (.bl (decide (a=b)))
 | .tup l,.tup m=>if ∀p∈l.zip m,zYl p.1 p.2 then some (.bl (decide (l=m)))else none
 | _,_=>none
noncomputable def insX (S:Store) (d:D):Option (Int × List D):=match look S d with
 | some (.st (.bl true::.int c::l))=>some (c,l)
 | _=>none
noncomputable def attX (okC:Int->Bool) (f:PySem.Str) (S:Store) (d:D):Option D:=match insX S d with
 | some (c,l)=>if okC c=true then fldL f l else none
 | none=>none
noncomputable def putL (f:PySem.Str) (d:D):List D->List D
 | .str g::x::l=>if g=f then .str g::d::l else .str g::x::putL f d l
 | _=>[.str f,d]
noncomputable def sAtt (okC:Int->Bool) (f:PySem.Str) (o v:EM):SM:=λenv S=>(v env S).then λy S1=>(o env S1).then λx S2=>match x with
 | .ref n=>(match S2[n]? with
  | some (.st (.bl true::.int c::l))=>if okC c=true/\l.length<1000 then .nx env (S2.set n (.st (.bl true::.int c::putL f y l)))else .bad
  | _=>.bad)
 | _=>.bad
noncomputable def mthX (T:List (Nat × Fn)) (m:PySem.Str) (S:Store) (d:D):Option Fn:=match insX S d with
 | some (c,l)=>if fldL m l=none then(T.find? λp=>c == (p.1:Int)).map (·.2)else none
 | none=>none
noncomputable def eMth (T:List (Nat × Fn)) (m:PySem.Str) (o:EM) (a:AM):EM:=λenv S=>(o env S).bind λx S1=>match mthX T m S1 x with
 | some F=>(a env S1).bind λxs S2=>F (x::xs) S2
 | none=>.bad
noncomputable def eMk (C:Nat) (F:Fn) (a:AM):EM:=λenv S=>(a env S).bind λxs S1=>(F (.ref S1.length::xs) (S1++[.st [.bl true,.int C]])).bind λd S2=>if d=.non then .ok (.ref S1.length) S2 else .bad
end
end DS
namespace DP
open DS
section
noncomputable def zJd:SM:=
  (sRet (eOp addD (eOp mulD (eOp ixD (eVar 0) (eC (.int 0))) (eOp ixD (eVar 1) (eC (.int 0)))) (eOp mulD (eOp ixD (eVar 0) (eC (.int 1))) (eOp ixD (eVar 1) (eC (.int 1))))))
noncomputable def zFc:Fn:=zAc 2 2 zJd
noncomputable def zIb:SM:=
  (sRet (eTup (zA0 (eOp addD (eOp ixD (eVar 0) (eC (.int 0))) (eOp ixD (eVar 1) (eC (.int 0)))) (zA0 (eOp addD (eOp ixD (eVar 0) (eC (.int 1))) (eOp ixD (eVar 1) (eC (.int 1)))) aNil))))
noncomputable def zC7:Fn:=zAc 2 2 zIb
noncomputable def zJe:SM:=
  (sRet (eCB zOk (zA0 (zB2 1 [] (iVal (eVar 0)) (gName 0) tYes (eTup (zA0 (eVar 0) (zA0 (eC (.bl true)) aNil)))) aNil)))
noncomputable def zCc:Fn:=zAc 1 1 zJe
noncomputable def zD5:SM:=
  (sSeq (sIf (tB (eOp eqY (eOp ixD (eVar 0) (eC (.int 0))) (eC (.str (PySem.Str.ofString "least"))))) (sRet (eOp ixD (eVar 0) (eC (.int 1)))) zAl)
  (sRet (eIf (tB (eOp eqY (eOp ixD (eVar 0) (eC (.int 0))) (eC (.str (PySem.Str.ofString "any"))))) (eC (.int 1)) (eCB lenB (zA0 (eOp ixD (eVar 0) (eC (.int 1))) aNil)))))
noncomputable def zE4:Fn:=zAc 1 1 zD5
noncomputable def zLt:SM:=
  (sSeq (sSet 1 (eOp ixD (eVar 0) (eC (.int 0))))
  (sSeq (sIf (tB (eOp inD (eVar 1) (eTup (zA0 (eC (.str (PySem.Str.ofString "cell"))) (zA0 (eC (.str (PySem.Str.ofString "name"))) aNil))))) (sRet (eTup aNil)) zAl)
  (sSeq (sIf (tB (eOp inD (eVar 1) (eTup (zA0 (eC (.str (PySem.Str.ofString "all"))) (zA0 (eC (.str (PySem.Str.ofString "any"))) (zA0 (eC (.str (PySem.Str.ofString "least"))) aNil)))))) (sRet (eOp ixD (eVar 0) (eUn negD (eC (.int 1))))) zAl)
  (sRet (eIf (tB (eOp eqY (eVar 1) (eC (.str (PySem.Str.ofString "then"))))) (eSl slD (eVar 0) (pYes (eC (.int 1))) pNo) (eSl slD (eVar 0) (pYes (eUn negD (eC (.int 1)))) pNo))))))
noncomputable def zE3:Fn:=zAc 1 2 zLt
noncomputable def zJg:SM:=
  (sSeq (sSet 2 (eOp addD (eOp mulD (eC (.int 7901)) (eVar 1)) (eC (.int 24697))))
  (sSeq (sIf (tB (eOp ltN (eVar 1) (eCB lenB (zA0 (eVar 0) aNil)))) (sSet 2 (eOp ixD (eVar 0) (eVar 1))) (sIf (tB (eOp gtD (eCB lenB (zA0 (eVar 0) aNil)) (eC (.int 0)))) (sSet 2 (eOp addD (eOp mulD (eOp modD (eOp ixD (eVar 0) (eOp modD (eVar 1) (eCB lenB (zA0 (eVar 0) aNil)))) (eC (.int 2147483629))) (eC (.int 31))) (eOp mulD (eC (.int 7901)) (eVar 1)))) zAl))
  (sSeq (sSet 3 (eC (.int 0)))
  (sSeq (sIf (tB (eOp geD (eVar 2) (eOp powD (eC (.int 10)) (eC (.int 18))))) (sSet 3 (eVar 2)) zAl)
  (sRet (eNew (eLst (zA0 (eVar 3) (zA0 (eOp addD (eOp modD (eOp powD (eOp addD (eOp mulD (eOp modD (eVar 2) (eC (.int 2147483629))) (eC (.int 48271))) (eOp mulD (eC (.int 40692)) (eVar 1))) (eC (.int 5))) (eC (.int 2147483629))) (eC (.int 1))) aNil)))))))))
noncomputable def zCf:Fn:=zH0 2 4 zJg
noncomputable def zJf:SM:=
  (sSeq (sIf (tB (eOp gtD (eOp ixD (eVar 0) (eC (.int 0))) (eC (.int 0)))) (sSeq (sSet 2 (eOp modD (eOp ixD (eVar 0) (eC (.int 0))) (eVar 1)))
  (sSeq (sPut putD (eVar 0) (eC (.int 0)) (eOp zHs (eOp ixD (eVar 0) (eC (.int 0))) (eVar 1)))
  (sRet (eVar 2)))) zAl)
  (sSeq (sSet 3 (eOp modD (eOp mulD (eOp ixD (eVar 0) (eC (.int 1))) (eC (.int 69623))) (eC (.int 2147483647))))
  (sSeq (sPut putD (eVar 0) (eC (.int 1)) (eOp addD (eOp modD (eOp addD (eOp mulD (eVar 3) (eC (.int 48271))) (eC (.int 30103))) (eC (.int 2147483629))) (eC (.int 1))))
  (sRet (eOp modD (eOp zHs (eOp addD (eOp mulD (eVar 3) (eC (.int 2147483647))) (eOp ixD (eVar 0) (eC (.int 1)))) (eC (.int 8191))) (eVar 1))))))
noncomputable def zA4:Fn:=zAc 2 4 zJf
noncomputable def zG6:SM:=
  (sRet (eTup (zA0 (eOp addD (eOp mulD (eOp ixD (eVar 0) (eC (.int 0))) (eOp ixD (eVar 1) (eC (.int 0)))) (eOp mulD (eOp ixD (eVar 0) (eC (.int 1))) (eOp ixD (eVar 1) (eC (.int 1))))) (zA0 (eOp addD (eOp mulD (eOp ixD (eVar 0) (eC (.int 2))) (eOp ixD (eVar 1) (eC (.int 0)))) (eOp mulD (eOp ixD (eVar 0) (eC (.int 3))) (eOp ixD (eVar 1) (eC (.int 1))))) aNil))))
noncomputable def zAr:Fn:=zAc 2 2 zG6
noncomputable def zDb:SM:=
  (sRet (eTup (zA0 (eOp addD (eOp ixD (eVar 0) (eC (.int 0))) (eOp ixD (eVar 1) (eC (.int 0)))) (zA0 (eOp addD (eOp ixD (eVar 0) (eC (.int 1))) (eOp ixD (eVar 1) (eC (.int 1)))) aNil))))
noncomputable def zA8:Fn:=zAc 2 2 zDb
noncomputable def zIc:SM:=
  (sRet (eAnd (eCB isiB (zA0 (eVar 0) (zA0 (eC (.ty "bool")) aNil))) (eOp eqD (eVar 0) (eVar 1))))
noncomputable def zAn:Fn:=zAc 2 2 zIc
noncomputable def zCm:SM:=
  (sRet (eOp inD (eVar 1) (eUn (attX (inC [65]) (PySem.Str.ofString "places")) (eVar 0))))
noncomputable def zAh:Fn:=zAc 2 2 zCm
noncomputable def yA7:SM:=
  (sRet (eTup (zA0 (zA3 zFc (zA0 (eSl slD (eVar 0) pNo (pYes (eC (.int 2)))) (zA0 (eVar 1) aNil))) (zA0 (zA3 zFc (zA0 (eSl slD (eVar 0) (pYes (eC (.int 2))) pNo) (zA0 (eVar 1) aNil))) aNil))))
noncomputable def zGs:Fn:=zAc 2 2 yA7
noncomputable def zDi:SM:=
  (sSeq (sSet 1 (eOp ixD (eLst (zA0 (eC (.int 2)) (zA0 (eC (.int 2)) (zA0 (eC (.int 2)) (zA0 (eC (.int 1000)) aNil))))) (zA3 zA4 (zA0 (eVar 0) (zA0 (eC (.int 4)) aNil)))))
  (sRet (eTup (zA0 (eOp subD (zA3 zA4 (zA0 (eVar 0) (zA0 (eOp addD (eOp mulD (eC (.int 2)) (eVar 1)) (eC (.int 1))) aNil))) (eVar 1)) (zA0 (eOp subD (zA3 zA4 (zA0 (eVar 0) (zA0 (eOp addD (eOp mulD (eC (.int 2)) (eVar 1)) (eC (.int 1))) aNil))) (eVar 1)) aNil)))))
noncomputable def zAe:Fn:=zAc 1 2 zDi
noncomputable def zCw:SM:=
  (sSeq (sUnp (gTup [(gName 1),(gName 2),(gName 3),(gName 4)]) (zB2 1 [0] (zBo (zA0 (eC (.int 4)) aNil)) (gName 0) tYes (eOp subD (zA3 zA4 (zA0 (eVar 1) (zA0 (eC (.int 19)) aNil))) (eC (.int 9)))))
  (sSeq (sIf (tB (eOp eqI (eOp mulD (eVar 1) (eVar 4)) (eOp mulD (eVar 2) (eVar 3)))) (sRet (eTup (zA0 (eCB max2B (zA0 (eC (.int 1)) (zA0 (eCB absB (zA0 (eVar 1) aNil)) aNil))) (zA0 (eC (.int 0)) (zA0 (eVar 3) (zA0 (eCB max2B (zA0 (eC (.int 1)) (zA0 (eCB absB (zA0 (eVar 4) aNil)) aNil))) aNil)))))) zAl)
  (sRet (eTup (zA0 (eVar 1) (zA0 (eVar 2) (zA0 (eVar 3) (zA0 (eVar 4) aNil))))))))
noncomputable def zBf:Fn:=zAc 1 5 zCw
noncomputable def zEc (r:Fn):SM:=
  (sSeq (sSet 5 (eOp addD (eC (.int 1)) (zA3 zA4 (zA0 (eVar 0) (zA0 (eCB min2B (zA0 (eC (.int 9)) (zA0 (eVar 1) aNil))) aNil)))))
  (sSeq (sSet 6 (eNew (eLst aNil)))
  (sSeq (sSet 7 (eVar 1))
  (sSeq (sFor (zBo (zA0 (eVar 5) aNil)) (gName 8) (sSeq (sSet 9 (eOp addD (eC (.int 1)) (zA3 zA4 (zA0 (eVar 0) (zA0 (eOp subD (eVar 7) (eOp subD (eOp subD (eVar 5) (eC (.int 1))) (eVar 8))) aNil)))))
  (sSeq (sSet 7 (eOp subD (eVar 7) (eVar 9)))
  (zD9 (eMt "list" zDj (eVar 6) (zA0 (zA3 r (zA0 (eVar 0) (zA0 (eVar 9) (zA0 (eVar 2) (zA0 (eVar 3) (zA0 (eVar 4) aNil)))))) aNil))))))
  (sRet (eCB zBv (zA0 (eVar 6) aNil)))))))
noncomputable def zBz (r:Fn):Fn:=zAc 5 10 (zEc r)
noncomputable def zBe (r:Fn):SM:=
  (sSeq (sSet 5 (zA3 zA4 (zA0 (eVar 0) (zA0 (eC (.int 9)) aNil))))
  (sSeq (sIf (tOr (tB (eOp ltN (eVar 1) (eC (.int 2)))) (tOr (tB (eOp ltN (eVar 2) (eC (.int 2)))) (tB (eOp eqI (eVar 5) (eC (.int 0)))))) (sSeq (sIf (tAnd (tB (eOp gtD (eCB lenB (zA0 (eVar 4) aNil)) (eC (.int 0)))) (tB (eOp gtD (zA3 zA4 (zA0 (eVar 0) (zA0 (eC (.int 3)) aNil))) (eC (.int 0))))) (sRet (eTup (zA0 (eC (.str (PySem.Str.ofString "name"))) (zA0 (eOp ixD (eVar 4) (zA3 zA4 (zA0 (eVar 0) (zA0 (eCB lenB (zA0 (eVar 4) aNil)) aNil)))) aNil)))) zAl)
  (sRet (eOp addD (eTup (zA0 (eC (.str (PySem.Str.ofString "cell"))) aNil)) (zA3 zAe (zA0 (eVar 0) aNil))))) zAl)
  (sSeq (sIf (tB (eOp ltN (eVar 5) (eC (.int 3)))) (sSeq (sSet 6 (zA3 zAe (zA0 (eVar 0) aNil)))
  (sRet (eTup (zA0 (eC (.str (PySem.Str.ofString "at"))) (zA0 (eOp ixD (eVar 6) (eC (.int 0))) (zA0 (eOp ixD (eVar 6) (eC (.int 1))) (zA0 (zA3 r (zA0 (eVar 0) (zA0 (eOp subD (eVar 1) (eC (.int 1))) (zA0 (eOp subD (eVar 2) (eC (.int 1))) (zA0 (eVar 3) (zA0 (eVar 4) aNil)))))) aNil))))))) zAl)
  (sSeq (sIf (tB (eOp eqI (eVar 5) (eC (.int 3)))) (sRet (eTup (zA0 (eC (.str (PySem.Str.ofString "by"))) (zA0 (zA3 zBf (zA0 (eVar 0) aNil)) (zA0 (zA3 r (zA0 (eVar 0) (zA0 (eOp subD (eVar 1) (eC (.int 1))) (zA0 (eOp subD (eVar 2) (eC (.int 1))) (zA0 (eVar 3) (zA0 (eVar 4) aNil)))))) aNil))))) zAl)
  (sSeq (sIf (tAnd (tB (eOp eqI (eVar 5) (eC (.int 4)))) (tAnd (tB (eOp gtD (eVar 3) (eC (.int 0)))) (tB (eOp gtD (eVar 1) (eC (.int 2)))))) (sSeq (sSet 7 (eOp addD (eC (.int 1)) (zA3 zA4 (zA0 (eVar 0) (zA0 (eOp subD (eVar 1) (eC (.int 2))) aNil)))))
  (sSeq (sSet 8 (zA3 r (zA0 (eVar 0) (zA0 (eVar 7) (zA0 (eOp subD (eVar 2) (eC (.int 1))) (zA0 (eOp subD (eVar 3) (eC (.int 1))) (zA0 (eVar 4) aNil)))))))
  (sRet (eTup (zA0 (eC (.str (PySem.Str.ofString "then"))) (zA0 (eVar 8) (zA0 (zA3 r (zA0 (eVar 0) (zA0 (eOp subD (eOp subD (eVar 1) (eC (.int 1))) (eVar 7)) (zA0 (eOp subD (eVar 2) (eC (.int 1))) (zA0 (eOp subD (eVar 3) (eC (.int 1))) (zA0 (eVar 4) aNil)))))) aNil))))))) zAl)
  (sSeq (sSet 9 (zA3 (zBz r) (zA0 (eVar 0) (zA0 (eOp subD (eVar 1) (eC (.int 1))) (zA0 (eOp subD (eVar 2) (eC (.int 1))) (zA0 (eVar 3) (zA0 (eVar 4) aNil)))))))
  (sSeq (sIf (tB (eOp ltN (eVar 5) (eC (.int 7)))) (sRet (eTup (zA0 (eOp ixD (eLst (zA0 (eC (.str (PySem.Str.ofString "all"))) (zA0 (eC (.str (PySem.Str.ofString "any"))) aNil))) (eOp modD (eVar 5) (eC (.int 2)))) (zA0 (eVar 9) aNil)))) zAl)
  (sRet (eTup (zA0 (eC (.str (PySem.Str.ofString "least"))) (zA0 (eOp addD (eC (.int 1)) (zA3 zA4 (zA0 (eVar 0) (zA0 (eCB lenB (zA0 (eVar 9) aNil)) aNil)))) (zA0 (eVar 9) aNil))))))))))))
noncomputable def zB4:Nat->Fn
 | 0=>zAc 5 10 zJv
 | n+1=>zAc 5 10 (zBe (zB4 n))
noncomputable def zCe:Fn:=zB4 8
noncomputable def zDv:SM:=
  (sSeq (sPar [2,3] (zA0 (zA3 zAr (zA0 (eVar 0) (zA0 (eTup (zA0 (eOp ixD (eVar 1) (eC (.int 0))) (zA0 (eOp ixD (eVar 1) (eC (.int 2))) aNil))) aNil))) (zA0 (zA3 zAr (zA0 (eVar 0) (zA0 (eTup (zA0 (eOp ixD (eVar 1) (eC (.int 1))) (zA0 (eOp ixD (eVar 1) (eC (.int 3))) aNil))) aNil))) aNil)))
  (sRet (eTup (zA0 (eOp ixD (eVar 2) (eC (.int 0))) (zA0 (eOp ixD (eVar 3) (eC (.int 0))) (zA0 (eOp ixD (eVar 2) (eC (.int 1))) (zA0 (eOp ixD (eVar 3) (eC (.int 1))) aNil)))))))
noncomputable def zCd:Fn:=zAc 2 4 zDv
noncomputable def zAx (r:Fn):SM:=
  (sSeq (sIf (tB (eOp eqY (eOp ixD (eVar 0) (eC (.int 0))) (eC (.str (PySem.Str.ofString "cell"))))) (sRet (eLst (zA0 (zA3 zA8 (zA0 (eVar 1) (zA0 (zA3 zAr (zA0 (eVar 2) (zA0 (eSl slD (eVar 0) (pYes (eC (.int 1))) pNo) aNil))) aNil))) aNil))) zAl)
  (sSeq (sIf (tB (eOp eqY (eOp ixD (eVar 0) (eC (.int 0))) (eC (.str (PySem.Str.ofString "at"))))) (sRet (zA3 r (zA0 (eOp ixD (eVar 0) (eC (.int 3))) (zA0 (zA3 zA8 (zA0 (eVar 1) (zA0 (zA3 zAr (zA0 (eVar 2) (zA0 (eSl slD (eVar 0) (pYes (eC (.int 1))) (pYes (eC (.int 3)))) aNil))) aNil))) (zA0 (eVar 2) aNil))))) zAl)
  (sSeq (sIf (tB (eOp eqY (eOp ixD (eVar 0) (eC (.int 0))) (eC (.str (PySem.Str.ofString "by"))))) (sRet (zA3 r (zA0 (eOp ixD (eVar 0) (eC (.int 2))) (zA0 (eVar 1) (zA0 (zA3 zCd (zA0 (eVar 2) (zA0 (eOp ixD (eVar 0) (eC (.int 1))) aNil))) aNil))))) zAl)
  (sSeq (sSet 3 (eNew (eLst aNil)))
  (sSeq (sIf (tB (eOp eqY (eOp ixD (eVar 0) (eC (.int 0))) (eC (.str (PySem.Str.ofString "then"))))) (sSeq (sFor (iVal (zA3 r (zA0 (eOp ixD (eVar 0) (eC (.int 2))) (zA0 (eVar 1) (zA0 (eVar 2) aNil))))) (gName 4) (zD9 (eMt "list" zB8 (eVar 3) (zA0 (zA3 r (zA0 (eOp ixD (eVar 0) (eC (.int 1))) (zA0 (eVar 4) (zA0 (eVar 2) aNil)))) aNil))))
  (sRet (eVar 3))) zAl)
  (sSeq (sFor (iVal (eOp ixD (eVar 0) (eUn negD (eC (.int 1))))) (gName 5) (zD9 (eMt "list" zB8 (eVar 3) (zA0 (zA3 r (zA0 (eVar 5) (zA0 (eVar 1) (zA0 (eVar 2) aNil)))) aNil))))
  (sRet (eVar 3))))))))
noncomputable def zBi:Nat->Fn
 | 0=>zAc 3 6 zJv
 | n+1=>zAc 3 6 (zAx (zBi n))
noncomputable def zAv:Fn:=zBi 10
noncomputable def zC9:SM:=
  (sSeq (sAtt (inC [93]) (PySem.Str.ofString "rule") (eVar 0) (eVar 1))
  (sSeq (sAtt (inC [93]) (PySem.Str.ofString "table") (eVar 0) (eVar 2))
  (sSeq (sAtt (inC [93]) (PySem.Str.ofString "floor") (eVar 0) (eVar 3))
  (sAtt (inC [93]) (PySem.Str.ofString "known") (eVar 0) (eNew (eDct true))))))
noncomputable def zB0:Fn:=zAc 4 4 zC9
noncomputable def zKo:SM:=
  (sSeq (sSet 2 (zA3 zGs (zA0 (eVar 0) (zA0 (eTup (zA0 (eOp ixD (eVar 1) (eC (.int 0))) (zA0 (eOp ixD (eVar 1) (eC (.int 2))) aNil))) aNil))))
  (sSeq (sSet 3 (zA3 zGs (zA0 (eVar 0) (zA0 (eTup (zA0 (eOp ixD (eVar 1) (eC (.int 1))) (zA0 (eOp ixD (eVar 1) (eC (.int 3))) aNil))) aNil))))
  (sRet (eTup (zA0 (eOp ixD (eVar 2) (eC (.int 0))) (zA0 (eOp ixD (eVar 3) (eC (.int 0))) (zA0 (eOp ixD (eVar 2) (eC (.int 1))) (zA0 (eOp ixD (eVar 3) (eC (.int 1))) aNil))))))))
noncomputable def zGr:Fn:=zAc 2 4 zKo
noncomputable def zCk (r:Fn):SM:=
  (sSeq (sSet 5 (eVar 0))
  (sSeq (sSet 6 (eOp subD (eCB lenB (zA0 (eVar 1) aNil)) (eVar 0)))
  (sSeq (sFor (iVal (eVar 1)) (gName 7) (sSeq (sIf (tTru (zA3 r (zA0 (eVar 7) (zA0 (eVar 2) (zA0 (eVar 3) (zA0 (eVar 4) aNil)))))) (sSet 5 (eOp subD (eVar 5) (eC (.int 1)))) (sSet 6 (eOp subD (eVar 6) (eC (.int 1)))))
  (sIf (tOr (tB (eOp eqI (eVar 5) (eC (.int 0)))) (tB (eOp ltN (eVar 6) (eC (.int 0))))) zMm zAl)))
  (sRet (eOp eqI (eVar 5) (eC (.int 0)))))))
noncomputable def zDq (r:Fn):Fn:=zAc 5 8 (zCk r)
noncomputable def zAy (r:Fn):SM:=
  (sSeq (sIf (tB (eOp zHk (eVar 1) (eUn (attX (inC [93]) (PySem.Str.ofString "known")) (eVar 0)))) (sPut putD (eUn (attX (inC [93]) (PySem.Str.ofString "known")) (eVar 0)) (eVar 1) (zA3 r (zA0 (eUn (attX (inC [93]) (PySem.Str.ofString "rule")) (eVar 0)) (zA0 (eUn (attX (inC [93]) (PySem.Str.ofString "table")) (eVar 0)) (zA0 (eUn (attX (inC [93]) (PySem.Str.ofString "floor")) (eVar 0)) (zA0 (eVar 1) aNil)))))) zAl)
  (sRet (eOp ixD (eUn (attX (inC [93]) (PySem.Str.ofString "known")) (eVar 0)) (eVar 1))))
noncomputable def zAj (r:Fn):Fn:=zAc 2 2 (zAy r)
noncomputable def zCl (r:Fn):SM:=
  (sSeq (sSet 4 (eOp ixD (eVar 0) (eC (.int 0))))
  (sSeq (sIf (tB (eOp eqY (eVar 4) (eC (.str (PySem.Str.ofString "cell"))))) (sRet (eMth [(65,zAh),(93,(zAj r))] (PySem.Str.ofString "is_broken") (eVar 2) (zA0 (zA3 zC7 (zA0 (eVar 3) (zA0 (zA3 zGs (zA0 (eVar 1) (zA0 (eSl slD (eVar 0) (pYes (eC (.int 1))) pNo) aNil))) aNil))) aNil))) zAl)
  (sSeq (sIf (tB (eOp eqY (eVar 4) (eC (.str (PySem.Str.ofString "at"))))) (sRet (zA3 r (zA0 (eOp ixD (eVar 0) (eC (.int 3))) (zA0 (eVar 1) (zA0 (eVar 2) (zA0 (zA3 zC7 (zA0 (eVar 3) (zA0 (zA3 zGs (zA0 (eVar 1) (zA0 (eSl slD (eVar 0) (pYes (eC (.int 1))) (pYes (eC (.int 3)))) aNil))) aNil))) aNil)))))) zAl)
  (sSeq (sIf (tB (eOp eqY (eVar 4) (eC (.str (PySem.Str.ofString "by"))))) (sRet (zA3 r (zA0 (eOp ixD (eVar 0) (eC (.int 2))) (zA0 (zA3 zGr (zA0 (eVar 1) (zA0 (eOp ixD (eVar 0) (eC (.int 1))) aNil))) (zA0 (eVar 2) (zA0 (eVar 3) aNil)))))) zAl)
  (sSeq (sIf (tB (eOp eqY (eVar 4) (eC (.str (PySem.Str.ofString "then"))))) (sRet (zA3 r (zA0 (eOp ixD (eVar 0) (eC (.int 2))) (zA0 (eVar 1) (zA0 (eMk 93 zB0 (zA0 (eOp ixD (eVar 0) (eC (.int 1))) (zA0 (eVar 1) (zA0 (eVar 2) aNil)))) (zA0 (eVar 3) aNil)))))) zAl)
  (sRet (zA3 (zDq r) (zA0 (zA3 zE4 (zA0 (eVar 0) aNil)) (zA0 (zA3 zE3 (zA0 (eVar 0) aNil)) (zA0 (eVar 1) (zA0 (eVar 2) (zA0 (eVar 3) aNil))))))))))))
noncomputable def zCb:Nat->Fn
 | 0=>zAc 4 5 zJv
 | n+1=>zAc 4 5 (zCl (zCb n))
noncomputable def zFd:Fn:=zCb 40
noncomputable def zDw:SM:=
  (sSeq (sSet 2 (eNew (zB2 1 [0] (iVal (eSl slD (eVar 1) pNo (pYes (eC (.int 150))))) (gName 0) (tB (eOp gtD (zA3 zA4 (zA0 (eVar 1) (zA0 (eC (.int 3)) aNil))) (eC (.int 0)))) (eVar 0))))
  (sSeq (zD9 (eMt "list" zB8 (eVar 2) (zA0 (zB2 1 [0] (zBo (zA0 (zA3 zA4 (zA0 (eVar 0) (zA0 (eC (.int 6)) aNil))) aNil)) (gName 0) tYes (zA3 zAe (zA0 (eVar 1) aNil))) aNil)))
  (sRet (eCB zBv (zA0 (eUn ssL (eVar 2)) aNil)))))
noncomputable def zB7:Fn:=zAc 2 3 zDw
noncomputable def zCx:SM:=
  (sSeq (sSet 1 (eOp mulD (eOp ixD (eLst (zA0 (eC (.int 0)) (zA0 (eC (.int 0)) (zA0 (eC (.int 0)) (zA0 (eOp powD (eC (.int 10)) (eC (.int 16))) aNil))))) (zA3 zA4 (zA0 (eVar 0) (zA0 (eC (.int 4)) aNil)))) (eOp ixD (eLst (zA0 (eC (.int 1)) (zA0 (eOp subD (eC (.int 0)) (eC (.int 1))) aNil))) (zA3 zA4 (zA0 (eVar 0) (zA0 (eC (.int 2)) aNil))))))
  (sRet (zA3 zA8 (zA0 (zA3 zAe (zA0 (eVar 0) aNil)) (zA0 (eTup (zA0 (eVar 1) (zA0 (eOp subD (eC (.int 0)) (eVar 1)) aNil))) aNil)))))
noncomputable def zBy:Fn:=zAc 1 2 zCx
noncomputable def zC0:SM:=
  (sAtt (inC [65]) (PySem.Str.ofString "places") (eVar 0) (zA3 zCc (zA0 (eVar 1) aNil)))
noncomputable def zAo:Fn:=zAc 2 2 zC0
noncomputable def zH8:SM:=
  (sRet (zA3 zFd (zA0 (eVar 0) (zA0 (eC (.ktup [(.int 1),(.int 0),(.int 0),(.int 1)])) (zA0 (eMk 65 zAo (zA0 (eVar 1) aNil)) (zA0 (eVar 2) aNil))))))
noncomputable def zAb:Fn:=zAc 3 3 zH8
noncomputable def zBt:SM:=
  (sSeq (sSet 3 (zA3 zBf (zA0 (eVar 0) aNil)))
  (sSeq (sUnp (gTup [(gName 4),(gName 5)]) (eTup (zA0 (zA3 zAe (zA0 (eVar 0) aNil)) (zA0 (zA3 zAe (zA0 (eVar 0) aNil)) aNil))))
  (sSeq (sSet 6 (eTup (zA0 (eOp subD (zA3 zA4 (zA0 (eVar 0) (zA0 (eC (.int 5)) aNil))) (eC (.int 2))) (zA0 (eOp subD (zA3 zA4 (zA0 (eVar 0) (zA0 (eC (.int 5)) aNil))) (eC (.int 2))) aNil))))
  (sSeq (sSet 7 (zA3 zB7 (zA0 (eVar 0) (zA0 (zA3 zAv (zA0 (eVar 1) (zA0 (eVar 2) (zA0 (eTup (zA0 (eC (.int 1)) (zA0 (eC (.int 0)) (zA0 (eC (.int 0)) (zA0 (eC (.int 1)) aNil))))) aNil)))) aNil))))
  (sSeq (sSet 8 (zA3 zAb (zA0 (eVar 1) (zA0 (eVar 7) (zA0 (eVar 2) aNil)))))
  (sSeq (sSet 9 (zA3 zA8 (zA0 (eVar 2) (zA0 (eTup (zA0 (eOp subD (eC (.int 0)) (eOp ixD (eVar 4) (eC (.int 0)))) (zA0 (eOp subD (eC (.int 0)) (eOp ixD (eVar 4) (eC (.int 1)))) aNil))) aNil))))
  (sSeq (sIf (tNot (tTru (zA3 zAn (zA0 (zA3 zAb (zA0 (eTup (zA0 (eC (.str (PySem.Str.ofString "at"))) (zA0 (eOp ixD (eVar 4) (eC (.int 0))) (zA0 (eOp ixD (eVar 4) (eC (.int 1))) (zA0 (eVar 1) aNil))))) (zA0 (eVar 7) (zA0 (eVar 9) aNil)))) (zA0 (eVar 8) aNil))))) (sRet (eC (.bl false))) zAl)
  (sSeq (sSet 10 (eCB zBv (zA0 (eCB zPw (zA0 (zB2 1 [3] (iVal (eVar 7)) (gName 0) tYes (zA3 zAr (zA0 (eVar 1) (zA0 (eVar 0) aNil)))) aNil)) aNil)))
  (sSeq (sSet 11 (zA3 zAr (zA0 (eVar 3) (zA0 (eVar 2) aNil))))
  (sSeq (sIf (tNot (tTru (zA3 zAn (zA0 (zA3 zAb (zA0 (eTup (zA0 (eC (.str (PySem.Str.ofString "by"))) (zA0 (eVar 3) (zA0 (eVar 1) aNil)))) (zA0 (eVar 10) (zA0 (eVar 11) aNil)))) (zA0 (eVar 8) aNil))))) (sRet (eC (.bl false))) zAl)
  (sSeq (sSet 12 (zA3 zAr (zA0 (eVar 3) (zA0 (eVar 6) aNil))))
  (sSeq (sSet 13 (eTup (zA0 (eTup (zA0 (eC (.str (PySem.Str.ofString "by"))) (zA0 (eVar 3) (zA0 (eTup (zA0 (eC (.str (PySem.Str.ofString "at"))) (zA0 (eOp ixD (eVar 6) (eC (.int 0))) (zA0 (eOp ixD (eVar 6) (eC (.int 1))) (zA0 (eVar 1) aNil))))) aNil)))) (zA0 (eTup (zA0 (eC (.str (PySem.Str.ofString "at"))) (zA0 (eOp ixD (eVar 12) (eC (.int 0))) (zA0 (eOp ixD (eVar 12) (eC (.int 1))) (zA0 (eTup (zA0 (eC (.str (PySem.Str.ofString "by"))) (zA0 (eVar 3) (zA0 (eVar 1) aNil)))) aNil))))) aNil))))
  (sSeq (sIf (tB (eOp neB (zA3 zAb (zA0 (eOp ixD (eVar 13) (eC (.int 0))) (zA0 (eVar 7) (zA0 (eVar 2) aNil)))) (zA3 zAb (zA0 (eOp ixD (eVar 13) (eC (.int 1))) (zA0 (eVar 7) (zA0 (eVar 2) aNil)))))) (sRet (eC (.bl false))) zAl)
  (sSeq (sSet 14 (eCB zBv (zA0 (zB2 1 [4] (iVal (eVar 7)) (gName 0) tYes (zA3 zA8 (zA0 (eVar 0) (zA0 (eVar 1) aNil)))) aNil)))
  (sSeq (sIf (tNot (tTru (zA3 zAn (zA0 (zA3 zAb (zA0 (eVar 1) (zA0 (eVar 14) (zA0 (zA3 zA8 (zA0 (eVar 2) (zA0 (eVar 4) aNil))) aNil)))) (zA0 (eVar 8) aNil))))) (sRet (eC (.bl false))) zAl)
  (sSeq (sSet 15 (eCB zBv (zA0 (eUn ssL (eOp addE (eVar 7) (eTup (zA0 (eVar 5) aNil)))) aNil)))
  (sSeq (sIf (tOr (tAnd (tTru (eVar 8)) (tNot (tTru (zA3 zAb (zA0 (eVar 1) (zA0 (eVar 15) (zA0 (eVar 2) aNil))))))) (tNot (tTru (zA3 zAn (zA0 (zA3 zAb (zA0 (eVar 1) (zA0 (eTup aNil) (zA0 (eVar 2) aNil)))) (zA0 (eC (.bl false)) aNil)))))) (sRet (eC (.bl false))) zAl)
  (sRet (zA3 zAn (zA0 (zA3 zAb (zA0 (eOp addE (eTup (zA0 (eC (.str (PySem.Str.ofString "cell"))) aNil)) (eVar 5)) (zA0 (eVar 7) (zA0 (eVar 2) aNil)))) (zA0 (eOp inD (zA3 zA8 (zA0 (eVar 2) (zA0 (eVar 5) aNil))) (eVar 7)) aNil)))))))))))))))))))))
noncomputable def zB6:Fn:=zAc 3 16 zBt
noncomputable def zBs:SM:=
  (sSeq (sSet 3 (eNew (eLst aNil)))
  (sSeq (sFor (iVal (eVar 1)) (gName 4) (zD9 (eMt "list" zB8 (eVar 3) (zA0 (eSl slD (zA3 zAv (zA0 (eVar 4) (zA0 (eVar 2) (zA0 (eTup (zA0 (eC (.int 1)) (zA0 (eC (.int 0)) (zA0 (eC (.int 0)) (zA0 (eC (.int 1)) aNil))))) aNil)))) pNo (pYes (eC (.int 20)))) aNil))))
  (sSeq (sSet 5 (zA3 zB7 (zA0 (eVar 0) (zA0 (eVar 3) aNil))))
  (sSeq (sSet 6 (eCB lenB (zA0 (zB2 1 [5,2] (iVal (eVar 1)) (gName 0) (tTru (zA3 zAb (zA0 (eVar 0) (zA0 (eVar 1) (zA0 (eVar 2) aNil))))) (eVar 0)) aNil)))
  (sSeq (sSet 7 (eOp addD (eC (.int 1)) (zA3 zA4 (zA0 (eVar 0) (zA0 (eCB lenB (zA0 (eVar 1) aNil)) aNil)))))
  (sSeq (sIf (tNot (tTru (zA3 zAn (zA0 (zA3 zAb (zA0 (eTup (zA0 (eC (.str (PySem.Str.ofString "all"))) (zA0 (eVar 1) aNil))) (zA0 (eVar 5) (zA0 (eVar 2) aNil)))) (zA0 (eOp eqI (eVar 6) (eCB lenB (zA0 (eVar 1) aNil))) aNil))))) (sRet (eC (.bl false))) zAl)
  (sSeq (sIf (tNot (tTru (zA3 zAn (zA0 (zA3 zAb (zA0 (eTup (zA0 (eC (.str (PySem.Str.ofString "any"))) (zA0 (eVar 1) aNil))) (zA0 (eVar 5) (zA0 (eVar 2) aNil)))) (zA0 (eOp gtD (eVar 6) (eC (.int 0))) aNil))))) (sRet (eC (.bl false))) zAl)
  (sSeq (sIf (tNot (tTru (zA3 zAn (zA0 (zA3 zAb (zA0 (eTup (zA0 (eC (.str (PySem.Str.ofString "least"))) (zA0 (eVar 7) (zA0 (eVar 1) aNil)))) (zA0 (eVar 5) (zA0 (eVar 2) aNil)))) (zA0 (eOp geD (eVar 6) (eVar 7)) aNil))))) (sRet (eC (.bl false))) zAl)
  (sSeq (sSet 8 (zB2 1 [0] (iVal (eVar 1)) (gName 0) tYes (zA3 zAe (zA0 (eVar 1) aNil))))
  (sSeq (sSet 9 (eTup (zA0 (eC (.str (PySem.Str.ofString "least"))) (zA0 (eVar 7) (zA0 (eCB zBv (zA0 (zB2 1 [] (iVal (eVar 8)) (gName 0) tYes (eOp addD (eTup (zA0 (eC (.str (PySem.Str.ofString "cell"))) aNil)) (eVar 0))) aNil)) aNil)))))
  (sSeq (sSet 10 (eNew (eLst aNil)))
  (sSeq (sFor (iVal (eVar 8)) (gName 11) (zD9 (eMt "list" zB8 (eVar 10) (zA0 (zA3 zAv (zA0 (eOp ixD (eVar 1) (eC (.int 0))) (zA0 (zA3 zA8 (zA0 (eVar 2) (zA0 (eVar 11) aNil))) (zA0 (eTup (zA0 (eC (.int 1)) (zA0 (eC (.int 0)) (zA0 (eC (.int 0)) (zA0 (eC (.int 1)) aNil))))) aNil)))) aNil))))
  (sSeq (sSet 5 (zA3 zB7 (zA0 (eVar 0) (zA0 (eVar 10) aNil))))
  (sSeq (sSet 12 (zB2 1 [5,1,2] (iVal (eVar 8)) (gName 0) (tTru (zA3 zAb (zA0 (eOp ixD (eVar 2) (eC (.int 0))) (zA0 (eVar 1) (zA0 (zA3 zA8 (zA0 (eVar 3) (zA0 (eVar 0) aNil))) aNil))))) (eVar 0)))
  (sRet (zA3 zAn (zA0 (zA3 zAb (zA0 (eTup (zA0 (eC (.str (PySem.Str.ofString "then"))) (zA0 (eOp ixD (eVar 1) (eC (.int 0))) (zA0 (eVar 9) aNil)))) (zA0 (eVar 5) (zA0 (eVar 2) aNil)))) (zA0 (eOp geD (eCB lenB (zA0 (eVar 12) aNil)) (eVar 7)) aNil))))))))))))))))))
noncomputable def zB5:Fn:=zAc 3 13 zBs
noncomputable def zWo:SM:=
  (sSeq (sFor (zBo (zA0 (eCB max2B (zA0 (eC (.int 2)) (zA0 (eCB min2B (zA0 (eC (.int 3)) (zA0 (eCB lenB (zA0 (eVar 0) aNil)) aNil))) aNil))) aNil)) (gName 1) (sSeq (sSet 2 (zA3 zCf (zA0 (eVar 0) (zA0 (eVar 1) aNil))))
  (sSeq (sSet 3 (zA3 zBy (zA0 (eVar 2) aNil)))
  (sSeq (sFor (zBo (zA0 (eC (.int 3)) aNil)) (gName 4) (sIf (tNot (tTru (zA3 zB6 (zA0 (eVar 2) (zA0 (zA3 zCe (zA0 (eVar 2) (zA0 (eOp addD (eC (.int 1)) (zA3 zA4 (zA0 (eVar 2) (zA0 (eC (.int 6)) aNil)))) (zA0 (eC (.int 6)) (zA0 (eC (.int 1)) (zA0 (eLst aNil) aNil)))))) (zA0 (eVar 3) aNil)))))) (sRet (eC (.bl false))) zAl))
  (sSeq (sSet 5 (eCB zBv (zA0 (zB2 1 [2] (zBo (zA0 (eOp addD (eC (.int 1)) (zA3 zA4 (zA0 (eVar 2) (zA0 (eC (.int 9)) aNil)))) aNil)) (gName 0) tYes (zA3 zCe (zA0 (eVar 1) (zA0 (eOp addD (eC (.int 1)) (zA3 zA4 (zA0 (eVar 1) (zA0 (eC (.int 4)) aNil)))) (zA0 (eC (.int 4)) (zA0 (eC (.int 1)) (zA0 (eLst aNil) aNil))))))) aNil)))
  (sIf (tNot (tTru (zA3 zB5 (zA0 (eVar 2) (zA0 (eVar 5) (zA0 (eVar 3) aNil)))))) (sRet (eC (.bl false))) zAl))))))
  (sRet (eC (.bl true))))
noncomputable def zLg:Fn:=zAc 1 6 zWo
end
end DP
namespace L2
open PySem PySem.Spec PyProof.Rows
open DS (D Store Exn Rs SR)
section
variable {prog:Program}{w:World}{A:Around}{E:Value->Shared->Prop}{s:Shared}
theorem zRu{ws:List Value}{Q:Value->Shared->Prop}(ht:IsTup s.heap t (List.toArray []))(hb:IsTup s.heap b ws.toArray)(h:Q (.ref b) s):wpAny (model prog w) A (binaryOp .Add (.ref t) (.ref b)) Q E s:=by obtain⟨⟨c1,d1,a1,l1⟩,o1,k1,n1,e1⟩:=ht;obtain⟨⟨c2,d2,a2,l2⟩,o2,k2,n2,e2⟩:=hb;dsimp only at k1 e1 k2 e2;cases k1;cases e1;cases k2;cases e2;exact concat_meets ⟨_,o1,rfl⟩ ⟨_,o2,rfl⟩ noFill_tuple_add seq_tuple_add PySem.F.slot_tuple_add PySem.F.entry_tuple_add (PySem.F.args_tuple_add_2 _ _) (tuple_addW0 t b _ _ n1 n2 d1 d2 l1 l2 rfl) ⟨o1,o2,h⟩
end
section
variable {X:Cx}{K:PySem.W.Frag}
theorem zV0(hK:X.K=K:=by rfl):OpR X (binaryOp .Add) (r2Of K DS.addE):=by
 intro pins s σ H x y v u Q I rx ry hq33;obtain⟨J,S,d1,d2,d,ha,r1,r2,e,k⟩:=hq33;unfold DS.addE at e;split at e
 ·subst hK;cases e;obtain⟨a,xs,rfl,t1,q1⟩:=r1;cases q1;obtain⟨b,ys,rfl,t2,q2⟩:=id r2;cases rx;cases ry;obtain⟨its,z1,p1,_⟩:=I.tuple t1.sq;obtain⟨its2,z2,p2,_⟩:=I.tuple t2.sq;cases z1;exact zRu p1 p2 ⟨.ref b,H,I,rfl,k _ H ha .refl ⟨b,ys,rfl,t2,q2⟩⟩
 ·exact zNa hK pins s σ H x y v u Q I rx ry ⟨J,S,d1,d2,d,ha,r1,r2,e,k⟩
theorem zSi:OpR X (compareOp .Eq) (r2Of K DS.eqI):=by
 intro pins s σ H x y v u Q I rx ry hq34;obtain⟨J,S,d1,d2,d,ha,r1,r2,e,k⟩:=hq34;unfold DS.eqI at e;split at e
 ·cases e;obtain rfl:=r1;obtain rfl:=r2;obtain⟨t,rfl⟩:=rx;obtain⟨t',rfl⟩:=ry;exact eq_int ⟨.bl _,H,I,rfl,k _ H ha .refl rfl⟩
 ·cases e
end
section
variable {X:Cx}{K:PySem.W.Frag}{J:Js}{S:Store}{H:Hp}
theorem zYa:OpR X (compareOp .NotEq) (r2Of K DS.neB):=by
 intro pins s σ H x y v u Q I rx ry hq35;obtain⟨J,S,d1,d2,d,ha,r1,r2,e,k⟩:=hq35;unfold DS.neB at e;split at e
 ·cases e;obtain rfl:=r1;obtain rfl:=r2;cases rx;cases ry;exact SeqAt.RcNeAt.bool_bool _ _ _ _ _ _ ⟨.bl _,H,I,by rw[Bool.beq_eq_decide_eq];exact rfl,k _ H ha .refl rfl⟩
 ·cases e
end
open EK
open DS (lv)
section
open Classical
variable {X:Cx}{K:PySem.W.Frag}{J:Js}{S:Store}{H:Hp}{d1 d2:D}
theorem yAd{l m:List D}:((List.range (min l.length m.length)).all (λj=>decide (l[j]?=m[j]?)) && l.length == m.length)=decide (l=m):=by
 by_cases c:l=m
 ·subst c;simp
 ·rw[xj c];refine vB.mpr λz=>c ?_
  rw[xi,vi]at z;have hl:l.length=m.length:=by simpa using z.2
  refine List.ext_getElem? λi=>?_
  by_cases hi:i<l.length
  ·exact ur (z.1 i (vF.mpr (by nofun)))
  ·rw[vk (by nofun),vk (by nofun)]
end
section
open Classical
variable {X:Cx}{K:PySem.W.Frag}{E:XE}{J:Js}{S:Store}{H:Hp}
theorem zW9 :DSs X K E ss DS.zJv:=⟨⟨λpins s σ H D I h=>by
 obtain⟨env,S,J,ha,hE,q⟩:=h;exact q.elim⟩⟩
end
end L2
namespace DS
section
open Classical
theorem zP1{α β:Type}{h:α->D}{k:β->D}{gd:List (Nat × D)}{g:GM}{e:EM}{I:Env->Prop}{J:Store->Prop}{P:β->Prop}(hg:∀S,J S->gOk S gd):∀(xs:List α) (c:Nat) (env:Env) (S:Store),I env->J S->c+xs.length<=most->
  (∀a∈xs,∀env S,I env->J S->∃env' b S',g S (h a) env=some env'/\I env'/\e env' S=.ok (k b) S'/\P b/\J S')->∃(bs:List β) (S':Store),zBq gd g tYes e c (xs.map h) env S=.ok (bs.map k) S'/\bs.length=xs.length/\(∀b∈bs,P b)/\J S'
 | [],c,env,S,_,hj,_,_=>⟨[],S,by rw[xX,zBq,xb (hg S hj)];rfl,rfl,(λb hb=>nomatch hb),hj⟩
 | a::xs,c,env,S,hi,hj,hk,he=>by
  have hk':c+(xs.length+1)<=most:=hk;obtain⟨env',b,S1,e1,i1,e2,p,j1⟩:=he a (.head _) env S hi hj;obtain⟨bs,S2,e3,l3,p3,j3⟩:=zP1 hg xs (c+1) env' S1 i1 j1 (by nofun) λa ha=>he a (.tail _ ha)
  refine⟨b::bs,S2,?_,by simp[l3],λz hz=>?_,j3⟩
  ·rw[xt,zBq,xb ⟨hg S hj,by nofun⟩,e1];show(tYes env' S).bind _=_;rw[tYes,Rs.bind_ok,xb rfl,e2,Rs.bind_ok,e3,Rs.bind_ok];rfl
  ·rcases xh.mp hz with rfl|z
   ·exact p
   ·exact p3 _ z
theorem zGv{α β:Type}{h:α->D}{k:β->D}{ix:List Nat}{i:IM}{gd:List (Nat × D)}{g:GM}{e:EM}{xs:List α}(I:Env->Prop)(J:Store->Prop)(P:β->Prop)(hi:i env S0=.ok ⟨xs.map h,gd⟩ S)(hg:∀S,J S->gOk S gd)(h0:I (compEnv own ix env))(j0:J S)(hk:xs.length<=most)
  (he:∀a∈xs,∀env S,I env->J S->∃env' b S',g S (h a) env=some env'/\I env'/\e env' S=.ok (k b) S'/\P b/\J S'):∃(bs:List β) (S':Store),zB2 own ix i g tYes e env S0=.ok (.lst (bs.map k)) S'/\bs.length=xs.length/\(∀b∈bs,P b)/\J S':=by
 obtain⟨bs,S',e1,l1,p1,j1⟩:=zP1 hg xs 0 _ S h0 j0 (by nofun) he;refine⟨bs,S',?_,l1,p1,j1⟩;rw[zB2,hi,Rs.bind_ok];rw[e1,Rs.bind_ok]
theorem zO8{α:Type}{h:α->D}{gd:List (Nat × D)}{g:GM}{b:SM}(I:Env->Store->Prop)(hg:∀env S,I env S->gOk S gd):∀(xs:List α) (env:Env) (S:Store),I env S->
  (∀a∈xs,∀env S,I env S->∃env' env'' S',g S (h a) env=some env'/\b env' S=.nx env'' S'/\I env'' S')->∃env' S',forL gd g b (xs.map h) env S=.nx env' S'/\I env' S'
 | [],env,S,hi,_=>⟨env,S,by rw[xX,forL,xb (hg env S hi)],hi⟩
 | a::xs,env,S,hi,he=>by
  obtain⟨env',env'',S1,e1,e2,e3⟩:=he a (.head _) env S hi;obtain⟨e4,S2,e5,e6⟩:=zO8 I hg xs env'' S1 e3 λb hb=>he b (.tail _ hb)
  refine⟨e4,S2,?_,e6⟩;rw[xt,forL,xb (hg env S hi),e1];dsimp only;rw[e2];exact e5
section
variable {n m c:Nat}{S S' S0:Store}{d:D}
theorem yC3{l:List D}(h:S[c]?=some (.lst l))(hl:l.length<1000):zDj S (.ref c) [d]=some (.non,S.set c (.lst (l++[d]))):=by
 unfold zDj;simp only[h];have m9:1000<=most:=by decide
 rw[xb (by nofun)]
theorem ty_D(h:S[c]?=some (.lst l)):tyD S (.ref c)=some "list":=by unfold tyD;rw[show look S (.ref c)=_ from h]
end
theorem zT4{α:Type}{h f:α->D}{gd:List (Nat × D)}{g:GM}{e:EM}{I:Env->Prop}(hg:gOk S gd):∀(xs:List α) (k:Nat) (env:Env),I env->k+xs.length<=most->
  (∀a∈xs,∀env,I env->∃env',g S (h a) env=some env'/\I env'/\e env' S=.ok (f a) S)->zBq gd g tYes e k (xs.map h) env S=.ok (xs.map f) S
 | [],k,env,_,_,_=>by rw[xX,zBq,xb hg];rfl
 | a::xs,k,env,hi,hk,he=>by
  have hk':k+(xs.length+1)<=most:=hk;obtain⟨env',e1,e2,e3⟩:=he a (.head _) env hi;rw[xt,zBq,xb ⟨hg,by nofun⟩,e1];dsimp only;rw[tYes,Rs.bind_ok,xb rfl,e3,Rs.bind_ok,zT4 hg xs (k+1) env' e2 (by nofun) λb hb=>he b (.tail _ hb),Rs.bind_ok];rfl
theorem zIw{α:Type}{h f:α->D}{ix:List Nat}{i:IM}{gd:List (Nat × D)}{g:GM}{e:EM}{xs:List α}(I:Env->Prop)(hi:i env S=.ok ⟨xs.map h,gd⟩ S)(hg:gOk S gd)(h0:I (compEnv own ix env))(hk:xs.length<=most)
  (he:∀a∈xs,∀env,I env->∃env',g S (h a) env=some env'/\I env'/\e env' S=.ok (f a) S):zB2 own ix i g tYes e env S=.ok (.lst (xs.map f)) S:=by
 rw[zB2,hi,Rs.bind_ok];rw[zT4 hg xs 0 _ h0 (by nofun) he,Rs.bind_ok]
theorem zOz{α:Type}{h f:α->D}{p:α->Bool}{gd:List (Nat × D)}{g:GM}{c:TM}{e:EM}{I:Env->Prop}(hg:gOk S gd):∀(xs:List α) (k:Nat) (env:Env),I env->k+xs.length<=most->
  (∀a∈xs,∀env,I env->∃env',g S (h a) env=some env'/\I env'/\c env' S=.ok (p a) S/\(p a=true->e env' S=.ok (f a) S))->zBq gd g c e k (xs.map h) env S=.ok ((xs.filter p).map f) S
 | [],k,env,_,_,_=>by rw[xX,zBq,xb hg];rfl
 | a::xs,k,env,hi,hk,he=>by
  have hk':k+(xs.length+1)<=most:=hk;obtain⟨env',e1,i1,e2,e3⟩:=he a (.head _) env hi;rw[xt,zBq,xb ⟨hg,by nofun⟩,e1];show(c env' S).bind _=_;rw[e2,Rs.bind_ok];cases q:p a with
  | true=>
   rw[xb rfl,e3 q,Rs.bind_ok,zOz hg xs (k+1) env' i1 (by nofun) λb hb=>he b (.tail _ hb),Rs.bind_ok,List.filter_cons,xb q];rfl
  | false=>
   rw[xc (by decide),zOz hg xs k env' i1 (by nofun) λb hb=>he b (.tail _ hb),List.filter_cons,xc (by rw[q];decide)]
theorem zOg{α:Type}{h f:α->D}{p:α->Bool}{ix:List Nat}{i:IM}{gd:List (Nat × D)}{g:GM}{c:TM}{e:EM}{xs:List α}(I:Env->Prop)(hi:i env S=.ok ⟨xs.map h,gd⟩ S)(hg:gOk S gd)(h0:I (compEnv own ix env))(hk:xs.length<=most)
  (he:∀a∈xs,∀env,I env->∃env',g S (h a) env=some env'/\I env'/\c env' S=.ok (p a) S/\(p a=true->e env' S=.ok (f a) S)):zB2 own ix i g c e env S=.ok (.lst ((xs.filter p).map f)) S:=by
 rw[zB2,hi,Rs.bind_ok];rw[zOz hg xs 0 _ h0 (by nofun) he,Rs.bind_ok]
theorem zSx{α:Type}{h:α->D}{gd:List (Nat × D)}{g:GM}{b:SM}{ys:List α}(I:List α->Env->Store->Prop)(hg:∀P env S,I P env S->gOk S gd)(he:∀P a R,ys=P++a::R->∀env S,I P env S->∃env' env'' S',g S (h a) env=some env'/\b env' S=.nx env'' S'/\I (P++[a]) env'' S'):∀(xs P:List α) (env:Env) (S:Store),ys=P++xs->I P env S->∃env' S',forL gd g b (xs.map h) env S=.nx env' S'/\I ys env' S'
 | [],P,env,S,e,hi=>⟨env,S,by rw[xX,forL,xb (hg P env S hi)],by rw[e,vA];exact hi⟩
 | a::xs,P,env,S,e,hi=>by
  obtain⟨env',env'',S1,e1,e2,e3⟩:=he P a xs e env S hi;obtain⟨e4,S2,e5,e6⟩:=zSx I hg he xs (P++[a]) env'' S1 (by rw[e];simp) e3;refine⟨e4,S2,?_,e6⟩;rw[xt,forL,xb (hg P env S hi),e1];dsimp only;rw[e2];exact e5
def FeedAt(S:Store)(c:Nat)(own seed:Int):Prop:=S[c]?=some (.lst [.int own,.int seed])/\0<=seed/\seed<=2147483629
def Feed(S:Store)(c:Nat):Prop:=∃own seed,FeedAt S c own seed
noncomputable def zPg:SM:=
  (sSeq (sIf (tB (eOp gtD (eOp ixD (eVar 0) (eC (.int 0))) (eC (.int 0)))) (sSeq (sSet 2 (eOp modD (eOp ixD (eVar 0) (eC (.int 0))) (eVar 1)))
  (sSeq (sPut putD (eVar 0) (eC (.int 0)) (eOp zHs (eOp ixD (eVar 0) (eC (.int 0))) (eVar 1)))
  (sRet (eVar 2)))) zAl)
  (sSeq (sSet 3 (eOp modD (eOp mulD (eOp ixD (eVar 0) (eC (.int 1))) (eC (.int 69623))) (eC (.int 2147483647))))
  (sSeq (sPut putD (eVar 0) (eC (.int 1)) (eOp addD (eOp modD (eOp addD (eOp mulD (eVar 3) (eC (.int 48271))) (eC (.int 30103))) (eC (.int 2147483629))) (eC (.int 1))))
  (sRet (eOp modD (eOp zHs (eOp addD (eOp mulD (eVar 3) (eC (.int 2147483647))) (eOp ixD (eVar 0) (eC (.int 1)))) (eC (.int 8191))) (eVar 1))))))
section
variable {S S':Store}{c:Nat}{own seed:Int}
theorem FeedAt.ix0(h:FeedAt S c own seed):ixD S (.ref c) (.int 0)=some (.int own):=by unfold ixD look;simp only[h.1];exact atL0
theorem FeedAt.ix1(h:FeedAt S c own seed):ixD S (.ref c) (.int 1)=some (.int seed):=by unfold ixD look;simp only[h.1];exact atL1
theorem FeedAt.put0(h:FeedAt S c own seed)(x:Int):putD S (.ref c) (.int 0) (.int x)=some (S.set c (.lst [.int x,.int seed])):=by unfold putD;simp only[h.1];rfl
theorem FeedAt.put1(h:FeedAt S c own seed)(x:Int):putD S (.ref c) (.int 1) (.int x)=some (S.set c (.lst [.int own,.int x])):=by unfold putD;simp only[h.1];rfl
theorem Feed.lt(h:Feed S c):c<S.length:=by obtain⟨_,_,h⟩:=h;exact(xG.mp h.1).1
theorem FeedAt.set(h:FeedAt S c own seed){a b:Int}(h1:0<=b)(h2:b<=2147483629):FeedAt (S.set c (.lst [.int a,.int b])) c a b:=⟨by rw[vG (Feed.lt ⟨_,_,h⟩)],h1,h2⟩
theorem Feed.app(h:Feed S c)(T:Store):Feed (S++T) c:=by have l:=h.lt;obtain⟨a,b,h,h1,h2⟩:=h;exact⟨a,b,by rw[xT l];exact h,h1,h2⟩
theorem Feed.setO{k:Nat}(h:Feed S c)(h1:k≠c):Feed (S.set k d) c:=by obtain⟨a,b,h,h2⟩:=h;exact⟨a,b,by rw[ve h1];exact h,h2⟩
theorem zLf(h':Feed S' c)(g:Grow c c S S'):keeps S.length S S':=by
 refine zCu g.len λi e hi he=>?_
 obtain⟨_,_,h',_⟩:=h';by_cases h1:i=c
 ·subst h1;rw[h']at he;cases he;exact .inr rfl
 ·rw[g.at_ i hi h1 h1]at he;exact .inl he
theorem zRi(h:Feed S c)(h':Feed S' c)(g:Grow c c S S'):Feed (S'.take S.length) c/\Only c c S (S'.take S.length):=by
 have l:=h.lt;obtain⟨a,b,h',h2⟩:=h';refine⟨⟨a,b,by rw[vI l];exact h',h2⟩,by rw[vo];have:=g.len;lia,λk h1 h2=>?_⟩;by_cases hk:k<S.length
 ·rw[vI hk];exact g.at_ k hk h1 h2
 ·rw[vk (by rw[vo];lia),vk (by(lia))]
theorem zAs{np nl:Nat}{b:SM}{ds:List D}{d:D}(hl:ds.length=np)(h:b (ds.map some++List.replicate (nl-np) none) S=.rt d S')(h0:Feed S c)(h1:Feed S' c)(o:Grow c c S S')(hd:d.low S.length=true):∃S'',zAc np nl b ds S=.ok d S''/\Feed S'' c/\Only c c S S'':=by obtain⟨a,b'⟩:=zRi h0 h1 o;refine⟨S'.take S.length,?_,a,b'⟩;unfold zAc;rw[xb hl,h];dsimp only;unfold fin;rw[xb (zLf h1 o),xb hd]
theorem zTi{many:Int}(hm:0<many)(hs:sm many)(h:Feed S c):∃(r:Int) (S':Store),zAc 2 4 zPg [.ref c,.int many] S=.ok (.int r) S'/\0<=r/\r<many/\Feed S' c/\Only c c S S':=by
 obtain⟨own,seed,h⟩:=h;have g:gtD S (.int own) (.int 0)=some (.bl (decide (0<own))):=rfl;by_cases hp:0<own
 ·have p1:=h.put0 (own.fdiv many);have f1:Feed (S.set c (.lst [.int (own.fdiv many),.int seed])) c:=⟨_,_,h.set h.2.1 h.2.2⟩;obtain⟨S'',e,a,b⟩:=zAs (np:=2) (nl:=4) (b:=zPg) (ds:=[.ref c,.int many]) (d:=.int (own % many)) rfl (by
   unfold zPg;rw[xk hp]at g;simp_arith [h.ix0,g,zCs hm,sPut,zOb hm hs,p1]) ⟨_,_,h⟩ f1 (Only.set1 _).grow rfl
  exact⟨_,S'',e,vN _ (by(lia)),vM _ hm,a,b⟩
 ·rw[xj hp]at g;have m1:mulD S (.int seed) (.int 69623)=some (.int (seed*69623)):=zDm ⟨zD8 h.2.1 (by have:=h.2.2;lia),zD8 (by decide) (by decide)⟩;obtain⟨one,ho⟩:∃one:Int,one=seed*69623 % 2147483647:=⟨_,rfl⟩
  have o0:0<=one:=by rw[ho];exact vN _ (by decide)
  have o9:one<2147483647:=by rw[ho];exact vM _ (by decide)
  obtain⟨nx,hx⟩:∃nx:Int,nx=(one*48271+30103) % 2147483629+1:=⟨_,rfl⟩
  have n0:0<=nx:=by rw[hx];have:=vN (one*48271+30103) (b:=2147483629) (by decide);lia
  have n9:nx<=2147483629:=by rw[hx];have:=vM (one*48271+30103) (b:=2147483629) (by decide);lia
  have m2:mulD S (.int one) (.int 48271)=some (.int (one*48271)):=zDm ⟨zD8 o0 (by(lia)),zD8 (by decide) (by decide)⟩;have p1:=h.put1 nx;have f1:=h.set (a:=own) n0 n9;have m3:∀S,mulD S (.int one) (.int 2147483647)=some (.int (one*2147483647)):=λ_=>zDm ⟨zD8 o0 (by(lia)),zD8 (by decide) (by decide)⟩
  have q1:∀(S:Store) (x:Int),modD S (.int x) (.int 2147483647)=some (.int (x % 2147483647)):=λ_ _=>zCs (by decide)
  have q2:∀(S:Store) (x:Int),modD S (.int x) (.int 2147483629)=some (.int (x % 2147483629)):=λ_ _=>zCs (by decide)
  have q3:∀(S:Store) (x:Int),modD S (.int x) (.int many)=some (.int (x % many)):=λ_ _=>zCs hm
  have q4:∀(S:Store) (x:Int),zHs S (.int x) (.int 8191)=some (.int (x.fdiv 8191)):=λ_ _=>zOb (by decide) (zD8 (by decide) (by decide))
  obtain⟨S'',e,a,b⟩:=zAs (np:=2) (nl:=4) (b:=zPg) (ds:=[.ref c,.int many]) (d:=.int ((one*2147483647+nx).fdiv 8191 % many)) rfl (by
   unfold zPg;simp_arith [h.ix0,g,h.ix1,m1,q1,<- ho,m2,q2,<- hx,sPut,p1,m3,f1.ix1,q4,q3]) ⟨_,_,h⟩ ⟨_,_,f1⟩ (Only.set1 _).grow rfl
  exact⟨_,S'',e,vN _ (by(lia)),vM _ hm,a,b⟩
end
theorem ix_k{ns:List Int}{k:Nat}(h:k<ns.length):ixD S (.klst (ns.map D.int)) (.int k)=some (.int ns[k]):=by have:atL (ns.map D.int) (k:Int)=some (.int ns[k]):=atN rfl (by simp[h]);exact this
noncomputable def yA8:SM:=
  (sSeq (sSet 2 (eOp addD (eOp mulD (eC (.int 7901)) (eVar 1)) (eC (.int 24697))))
  (sSeq (sIf (tB (eOp ltN (eVar 1) (eCB lenB (zA0 (eVar 0) aNil)))) (sSet 2 (eOp ixD (eVar 0) (eVar 1))) (sIf (tB (eOp gtD (eCB lenB (zA0 (eVar 0) aNil)) (eC (.int 0)))) (sSet 2 (eOp addD (eOp mulD (eOp modD (eOp ixD (eVar 0) (eOp modD (eVar 1) (eCB lenB (zA0 (eVar 0) aNil)))) (eC (.int 2147483629))) (eC (.int 31))) (eOp mulD (eC (.int 7901)) (eVar 1)))) zAl))
  (sSeq (sSet 3 (eC (.int 0)))
  (sSeq (sIf (tB (eOp geD (eVar 2) (eOp powD (eC (.int 10)) (eC (.int 18))))) (sSet 3 (eVar 2)) zAl)
  (sRet (eNew (eLst (zA0 (eVar 3) (zA0 (eOp addD (eOp modD (eOp powD (eOp addD (eOp mulD (eOp modD (eVar 2) (eC (.int 2147483629))) (eC (.int 48271))) (eOp mulD (eC (.int 40692)) (eVar 1))) (eC (.int 5))) (eC (.int 2147483629))) (eC (.int 1))) aNil)))))))))
theorem zRh{S:Store}{s:D}{k:Nat}{x:Int}(hk:k<=63):∃own seed:Int,0<=seed/\seed<=2147483629/\(sSeq (sSet 3 (eC (.int 0)))
  (sSeq (sIf (tB (eOp geD (eVar 2) (eOp powD (eC (.int 10)) (eC (.int 18))))) (sSet 3 (eVar 2)) zAl)
  (sRet (eNew (eLst (zA0 (eVar 3) (zA0 (eOp addD (eOp modD (eOp powD (eOp addD (eOp mulD (eOp modD (eVar 2) (eC (.int 2147483629))) (eC (.int 48271))) (eOp mulD (eC (.int 40692)) (eVar 1))) (eC (.int 5))) (eC (.int 2147483629))) (eC (.int 1))) aNil))))))) [some s,some (.int k),some (.int x),none] S=.rt (.ref S.length) (S++[.lst [.int own,.int seed]]):=by
 have q2:∀(x:Int),modD S (.int x) (.int 2147483629)=some (.int (x % 2147483629)):=λ_=>zCs (by decide)
 have pw:powD S (.int 10) (.int 18)=some (.int ((10:Int) ^ 18)):=by show(if(0:Int)<=18/\(18:Int)<=1000000/\(10:Int).natAbs<2 ^ 64 then some (D.int ((10:Int) ^ (18:Int).toNat))else none)=_;rw[xb (by decide)];rfl
 have x0:0<=x % 2147483629:=vN _ (by decide);have x9:x % 2147483629<2147483629:=vM _ (by decide);have m1:mulD S (.int (x % 2147483629)) (.int 48271)=some (.int (x % 2147483629*48271)):=zDm ⟨zD8 x0 (by(omega)),zD8 (by decide) (by decide)⟩;have m2:mulD S (.int 40692) (.int k)=some (.int (40692*k)):=zDm ⟨zD8 (by decide) (by decide),zD8 (by(omega)) (by(omega))⟩;have p5:powD S (.int (x % 2147483629*48271+40692*k)) (.int 5)=some (.int ((x % 2147483629*48271+40692*k) ^ 5)):=by show(if(0:Int)<=5/\(5:Int)<=1000000/\(x % 2147483629*48271+40692*k).natAbs<2 ^ 64 then some (D.int ((x % 2147483629*48271+40692*k) ^ (5:Int).toNat))else none)=_;rw[xb ⟨by decide,by decide,by(omega)⟩];rfl
 have s0:=vN ((x % 2147483629*48271+40692*(k:Int)) ^ 5) (b:=2147483629) (by decide);have s9:=vM ((x % 2147483629*48271+40692*(k:Int)) ^ 5) (b:=2147483629) (by decide);have ge:geD S (.int x) (.int ((10:Int) ^ 18))=some (.bl (decide ((10:Int) ^ 18<=x))):=rfl;by_cases c:(10:Int) ^ 18<=x
 ·rw[xk c]at ge;refine⟨x,(x % 2147483629*48271+40692*(k:Int)) ^ 5 % 2147483629+1,?_,?_,by simp_arith [pw,ge,eNew,q2,m1,m2,p5]⟩ <;> omega
 ·rw[xj c]at ge;refine⟨0,(x % 2147483629*48271+40692*(k:Int)) ^ 5 % 2147483629+1,?_,?_,by simp_arith [pw,ge,eNew,q2,m1,m2,p5]⟩ <;> omega
theorem zVx{S:Store}{ns:List Int}{k:Nat}(hk:k<=63):∃own seed:Int,0<=seed/\seed<=2147483629/\zH0 2 4 yA8 [.klst (ns.map D.int),.int k] S=.ok (.ref S.length) (S++[.lst [.int own,.int seed]]):=by
 have m1:mulD S (.int 7901) (.int k)=some (.int (7901*k)):=zDm ⟨zD8 (by decide) (by decide),zD8 (by(lia)) (by(lia))⟩;have ln:lenB S [.klst (ns.map D.int)]=some (.int ns.length):=by show some (D.int ((ns.map D.int).length:Int))=_;rw[xn]
 have l1:ltN S (.int k) (.int ns.length)=some (.bl (decide ((k:Int)<ns.length))):=rfl;have g1:gtD S (.int ns.length) (.int 0)=some (.bl (decide ((0:Int)<ns.length))):=rfl
 suffices h:∃x:Int,∀r,(sSeq (sSet 2 (eOp addD (eOp mulD (eC (.int 7901)) (eVar 1)) (eC (.int 24697))))
  (sSeq (sIf (tB (eOp ltN (eVar 1) (eCB lenB (zA0 (eVar 0) aNil)))) (sSet 2 (eOp ixD (eVar 0) (eVar 1))) (sIf (tB (eOp gtD (eCB lenB (zA0 (eVar 0) aNil)) (eC (.int 0)))) (sSet 2 (eOp addD (eOp mulD (eOp modD (eOp ixD (eVar 0) (eOp modD (eVar 1) (eCB lenB (zA0 (eVar 0) aNil)))) (eC (.int 2147483629))) (eC (.int 31))) (eOp mulD (eC (.int 7901)) (eVar 1)))) zAl)) r)) [some (.klst (ns.map D.int)),some (.int k),none,none] S=r [some (.klst (ns.map D.int)),some (.int k),some (.int x),none] S by
  obtain⟨x,h⟩:=h;obtain⟨own,seed,s0,s9,e⟩:=zRh (S:=S) (s:=.klst (ns.map D.int)) (k:=k) (x:=x) hk;refine⟨own,seed,s0,s9,?_⟩;have:=h _ |>.trans e
  unfold zH0 yA8;simp only[xo,vJ,Nat.reduceAdd,xB,xt,xX,Nat.reduceSub,List.replicate,List.cons_append,uv];rw[this]
 by_cases c:(k:Int)<ns.length
 ·rw[xk c]at l1;have i1:=ix_k (S:=S) (ns:=ns) (k:=k) (by(lia));exact⟨ns[k]'(by(lia)),λr=>by simp_arith [m1,ln,l1,i1]⟩
 ·rw[xj c]at l1;by_cases c2:(0:Int)<ns.length
  ·rw[xk c2]at g1;have q1:modD S (.int k) (.int ns.length)=some (.int ((k % ns.length:Nat):Int)):=by
    rw[zCs c2];norm_cast
   have i1:=ix_k (S:=S) (ns:=ns) (k:=k % ns.length) (vc _ (by(lia)));have q2:∀(x:Int),modD S (.int x) (.int 2147483629)=some (.int (x % 2147483629)):=λ_=>zCs (by decide)
   have x0:=vN (ns[k % ns.length]'(vc _ (by(lia)))) (b:=2147483629) (by decide);have x9:=vM (ns[k % ns.length]'(vc _ (by(lia)))) (b:=2147483629) (by decide);have m2:=zDm (S:=S) (show sm (ns[k % ns.length]'(vc _ (by(lia))) % 2147483629)/\sm 31 from⟨zD8 x0 (by(lia)),zD8 (by decide) (by decide)⟩);exact⟨ns[k % ns.length]'(vc _ (by(lia))) % 2147483629*31+7901*k,λr=>by simp_arith [m1,ln,l1,g1,q1,i1,q2,m2]⟩
  ·rw[xj c2]at g1;exact⟨7901*k+24697,λr=>by simp_arith [m1,ln,l1,g1]⟩
end
end DS
namespace DP
open DS
open PySem (Str)
section
open Classical
theorem zA2{a b:SM}(h:a env S=.nx e S1)(h':b e S1=r):sSeq a b env S=r:=by rw[sSeq,h];exact h'
theorem zBh{a:SM}(h:a env S=.rt d S1):sSeq a b env S=.rt d S1:=by rw[sSeq,h]
theorem zAg{t:TM}{b:SM}(h:t env S=.ok false S)(h2:b env S=q):sIf t a b env S=q:=by rw[sIf,h,Rs.then_ok,xc (by decide)];exact h2
theorem zBc{t:TM}{a:SM}(h:t env S=.ok true S)(h2:a env S=q):sIf t a b env S=q:=by rw[sIf,h,Rs.then_ok,xb rfl];exact h2
theorem zPm :zFp S (.tup l)=some ⟨l,[]⟩:=rfl
theorem zPo :zFp S (.lst l)=some ⟨l,[]⟩:=rfl
theorem zE2{e:EM}(h:e env S=.ok (.tup l) S):iVal e env S=.ok ⟨l,[]⟩ S:=by rw[iVal,h,Rs.bind_ok,zPm];rfl
theorem zHp{e:EM}(h:e env S=.ok (.lst l) S):iVal e env S=.ok ⟨l,[]⟩ S:=by rw[iVal,h,Rs.bind_ok,zPo];rfl
theorem gt_int{x y:Int}:gtD S (.int x) (.int y)=some (.bl (decide (y<x))):=rfl
theorem zGj{l:List D}:lenB S [.tup l]=some (.int (l.length:Nat)):=rfl
theorem zTt{n:Nat}(h:n<=1000):zGe [.int (n:Nat)]=some ⟨(List.range n).map fun(i:Nat)=>.int (i:Int),[]⟩:=by
 obtain⟨k,hk⟩:∃k:Int,k=(n:Int):=⟨_,rfl⟩
 rw[<- hk,zQ2 (by nofun) (by nofun),show k.toNat=n by nofun]
theorem zC5{e:EM}{n:Nat}(h:e env S=.ok (.int (n:Nat)) S')(hn:n<=1000):zBo (zA0 e aNil) env S=.ok ⟨(List.range n).map fun(i:Nat)=>.int (i:Int),[]⟩ S':=by unfold zBo zA0 aNil;rw[h,Rs.bind_ok,Rs.bind_ok,Rs.bind_ok,zTt hn];rfl
theorem zVv :fin [] (.bl v) S=.ok (.bl v) []:=by unfold fin;rw[xb (show keeps ([]:Store).length [] S from trivial),xb (show(D.bl v).low ([]:Store).length=true from rfl)];rfl
theorem zAa{e:EM}(h:e env S=.ok d S1):zA0 e aNil env S=.ok [d] S1:=by rw[zA0,h];rfl
theorem zAd{g:Store->D->D->Option D}{a b:EM}(ha:a env S=.ok x S1)(hb:b env S1=.ok y S2)(hg:g S2 x y=some z):eOp g a b env S=.ok z S2:=by rw[eOp,ha,Rs.bind_ok,hb,Rs.bind_ok,hg];rfl
theorem zG7{g:Store->D->Option D}{a:EM}(ha:a env S=.ok x S1)(hg:g S1 x=some z):eUn g a env S=.ok z S1:=by rw[eUn,ha,Rs.bind_ok,hg];rfl
theorem zA1(h:env[i]?=some (some d)):eVar i env S=.ok d S:=by unfold eVar;rw[h]
theorem zBw{e:EM}(h:e env S=.ok d S1):sRet e env S=.rt d S1:=by rw[sRet,h];rfl
theorem taken{c:Nat}{many:Int}(hm:0<many)(h9:many<2147483648)(h:Feed S c):∃(r:Int) (S':Store),zA4 [.ref c,.int many] S=.ok (.int r) S'/\0<=r/\r<many/\Feed S' c/\Only c c S S':=zTi hm (zD8 (by nofun) h9) h
theorem zA5{e:EM}{a:AM}(h:e env S=.ok d S1)(h':a env S1=.ok ds S2):zA0 e a env S=.ok (d::ds) S2:=by rw[zA0,h,Rs.bind_ok,h'];rfl
theorem zA6{F:Fn}{a:AM}(h:a env S=.ok ds S1)(h':F ds S1=.ok d S2):zA3 F a env S=.ok d S2:=by rw[zA3,h,Rs.bind_ok,h']
theorem zDc{c:Nat}{m r:Int}(h:env[i]?=some (some (.ref c)))(e:zA4 [.ref c,.int m] S=.ok (.int r) S1):zA3 zA4 (zA0 (eVar i) (zA0 (eC (.int m)) aNil)) env S=.ok (.int r) S1:=zA6 (zA5 (zA1 h) (zAa rfl)) e
structure MkF (c:Nat) (S0:Store) (n:Nat) (l:List D) (S:Store):Prop where
 feed:Feed S c
 grow:Grow c c S0 S
 at_:S[n]?=some (.lst l)
 far:S0.length<=n
section
variable {c n:Nat}{S0 S S':Store}{l:List D}
theorem MkF.take(h0:Feed S0 c)(h:MkF c S0 n l S)(d:Feed S' c)(o:Only c c S S'):MkF c S0 n l S':=by have l0:=h0.lt;have:=h.far;exact⟨d,h.grow.trans o.grow,by rw[o.at_ n (by nofun) (by nofun)];exact h.at_,h.far⟩
theorem MkF.put(h0:Feed S0 c)(h:MkF c S0 n l S)(m:List D):MkF c S0 n m (S.set n (.lst m)):=by have l0:=h0.lt;have:=h.far;exact⟨h.feed.setO (by nofun),h.grow.set h.far,by rw[vG (xG.mp h.at_).1],h.far⟩
theorem MkF.new(h0:Feed S0 c)(d:Feed S c)(g:Grow c c S0 S)(l:List D):MkF c S0 S.length l (S++[.lst l]):=⟨d.app _,g.trans (.app _),by simp,g.len⟩
end
noncomputable abbrev Pt:=Int × Int
noncomputable abbrev cel (p:Pt):D:=.tup [.int p.1,.int p.2]
noncomputable abbrev rowD (r:List Pt):D:=.tup (r.map cel)
theorem zNg{x y:Int}(h:x.natAbs<=1000000)(h':y.natAbs<=1000000):mulD S (.int x) (.int y)=some (.int (x*y)):=zDm ⟨zTo (by nofun) (by nofun),zTo (by nofun) (by nofun)⟩
theorem zDf{c:Nat}(h:Feed S c):∃(x y:Int) (S':Store),zAe [.ref c] S=.ok (.tup [.int x,.int y]) S'/\(x.natAbs<=1000/\y.natAbs<=1000)/\Feed S' c/\Only c c S S':=by
 obtain⟨r,S1,e1,r0,r9,f1,o1⟩:=taken (many:=4) (by decide) (by decide) h;obtain⟨w,hw,ew⟩:∃w:Int,(w=2\/w=1000)/\atL [D.int 2,.int 2,.int 2,.int 1000] r=some (.int w):=by
  rcases(show r=0\/r=1\/r=2\/r=3 by nofun)with rfl|rfl|rfl|rfl
  ·exact⟨2,.inl rfl,rfl⟩
  ·exact⟨2,.inl rfl,rfl⟩
  ·exact⟨2,.inl rfl,rfl⟩
  ·exact⟨1000,.inr rfl,rfl⟩
 have m:∀S,mulD S (.int 2) (.int w)=some (.int (2*w)):=λS=>zNg (by decide) (by rcases hw with rfl|rfl <;> decide)
 obtain⟨x,S2,e2,x0,x9,f2,o2⟩:=taken (many:=2*w+1) (by nofun) (by nofun) f1;obtain⟨y,S3,e3,y0,y9,f3,o3⟩:=taken (many:=2*w+1) (by nofun) (by nofun) f2;obtain⟨S4,e4,f4,o4⟩:=zAs (np:=1) (nl:=2) (b:=zDi) (ds:=[.ref c]) (d:=.tup [.int (x-w),.int (y-w)]) (S':=S3) rfl (by
  unfold zDi;simp_arith [e1,ew,m,e2,e3]) h f3 ((o1.trans o2).trans o3).grow rfl
 exact⟨_,_,S4,e4,by rcases hw with rfl|rfl <;> exact⟨by nofun,by nofun⟩,f4,o4⟩
theorem zJo{c:Nat}(h:Feed S c):∃(p q u v:Int) (S':Store),zBf [.ref c] S=.ok (.tup [.int p,.int q,.int u,.int v]) S'/\((p.natAbs<=9/\q.natAbs<=9/\u.natAbs<=9/\v.natAbs<=9)/\p*v≠q*u)/\Feed S' c/\Only c c S S':=by
 obtain⟨ys,S1,e1,l1,b1,f1,o1⟩:=zGv (h:=fun(i:Nat)=>D.int (i:Int)) (k:=D.int) (own:=1) (ix:=[0]) (i:=zBo (zA0 (eC (.int 4)) aNil)) (g:=gName 0) (e:=eOp subD (zA3 zA4 (zA0 (eVar 1) (zA0 (eC (.int 19)) aNil))) (eC (.int 9))) (S:=S) (S0:=S) (env:=[some (.ref c),none,none,none,none]) (xs:=List.range 4) (gd:=[]) (λenv=>∃x,env=[x,some (.ref c)]) (λS'=>Feed S' c/\Only c c S S') (λy:Int=>y.natAbs<=9) (zC5 (n:=4) rfl (by decide)) (λ_ _=>zAz) ⟨none,rfl⟩ ⟨h,.refl⟩ (by decide) (λi _ env S' he hj=>by
  obtain⟨x,rfl⟩:=he;obtain⟨a,T1,d1,a0,a9,g1,p1⟩:=taken (many:=19) (by decide) (by decide) hj.1;exact⟨[some (.int (i:Int)),some (.ref c)],a-9,T1,rfl,⟨_,rfl⟩,by simp_arith [d1],by nofun,g1,hj.2.trans p1⟩)
 rw[vv]at l1
 match ys,l1,b1 with
 | [p,q,u,v],_,b1=>
 have hp:=b1 p (.head _);have hq:=b1 q (.tail _ (.head _));have hu:=b1 u (.tail _ (.tail _ (.head _)));have hv:=b1 v (.tail _ (.tail _ (.tail _ (.head _))));have m1:mulD S1 (.int p) (.int v)=some (.int (p*v)):=zNg (by nofun) (by nofun);have m2:mulD S1 (.int q) (.int u)=some (.int (q*u)):=zNg (by nofun) (by nofun);have un:sUnp (gTup [gName 1,gName 2,gName 3,gName 4]) (zB2 1 [0] (zBo (zA0 (eC (.int 4)) aNil)) (gName 0) tYes (eOp subD (zA3 zA4 (zA0 (eVar 1) (zA0 (eC (.int 19)) aNil))) (eC (.int 9)))) [some (.ref c),none,none,none,none] S=.nx [some (.ref c),some (.int p),some (.int q),some (.int u),some (.int v)] S1:=by rw[sUnp,e1];rfl
 by_cases z:p*v=q*u
 ·obtain⟨S4,e4,f4,o4⟩:=zAs (np:=1) (nl:=5) (b:=zCw) (ds:=[.ref c]) (d:=.tup [.int (if(if p<0 then -p else p) > 1 then(if p<0 then -p else p)else 1),.int 0,.int u,.int (if(if v<0 then -v else v) > 1 then(if v<0 then -v else v)else 1)]) (S':=S1) rfl (by
   refine zA2 un ?_;have t:tB (eOp eqI (eOp mulD (eVar 1) (eVar 4)) (eOp mulD (eVar 2) (eVar 3))) [some (.ref c),some (.int p),some (.int q),some (.int u),some (.int v)] S1=.ok true S1:=by simp_arith [m1,m2,zCi,xk z]
   exact zBh (zBc t rfl)) h f1 o1.grow rfl
  obtain⟨a,ha,a1,a9⟩:∃a,(if(if p<0 then -p else p) > 1 then(if p<0 then -p else p)else 1)=a/\1<=a/\a<=9:=⟨_,rfl,by split <;> split <;> lia,by split <;> split <;> lia⟩
  obtain⟨b,hb,c1,c9⟩:∃a,(if(if v<0 then -v else v) > 1 then(if v<0 then -v else v)else 1)=a/\1<=a/\a<=9:=⟨_,rfl,by split <;> split <;> lia,by split <;> split <;> lia⟩
  rw[ha,hb]at e4;refine⟨_,_,_,_,S4,e4,⟨⟨by nofun,by decide,hu,by nofun⟩,?_⟩,f4,o4⟩;have:=Int.mul_pos (show 0<a by nofun) (show 0<b by nofun);lia
 ·obtain⟨S4,e4,f4,o4⟩:=zAs (np:=1) (nl:=5) (b:=zCw) (ds:=[.ref c]) (d:=.tup [.int p,.int q,.int u,.int v]) (S':=S1) rfl (by
   refine zA2 un ?_;have t:tB (eOp eqI (eOp mulD (eVar 1) (eVar 4)) (eOp mulD (eVar 2) (eVar 3))) [some (.ref c),some (.int p),some (.int q),some (.int u),some (.int v)] S1=.ok false S1:=by simp_arith [m1,m2,zCi,xj z]
   exact zA2 (zAg t rfl) rfl) h f1 o1.grow rfl
  exact⟨_,_,_,_,S4,e4,⟨⟨hp,hq,hu,hv⟩,z⟩,f4,o4⟩
noncomputable abbrev tx (s:String):D:=.str (PySem.Str.ofString s)
inductive Rl where
 | cell (x y:Int)
 | at_ (x y:Int) (r:Rl)
 | by_ (a b u v:Int) (r:Rl)
 | then_ (q r:Rl)
 | many (w:Nat) (k:Int) (ps:List Rl)
noncomputable def lst (w:Nat) (k:Int) (n:Nat):Int:=if w=0 then n else if w=1 then 1 else k
noncomputable def hdD (w:Nat) (k:Int) (l:List D):D:=if w=0 then .tup [tx "all",.tup l]else if w=1 then .tup [tx "any",.tup l]else .tup [tx "least",.int k,.tup l]
mutual
def Rl.d:Rl->D
 | .cell x y=>.tup [tx "cell",.int x,.int y]
 | .at_ x y r=>.tup [tx "at",.int x,.int y,r.d]
 | .by_ a b u v r=>.tup [tx "by",.tup [.int a,.int b,.int u,.int v],r.d]
 | .then_ q r=>.tup [tx "then",q.d,r.d]
 | .many w k ps=>hdD w k (dL ps)
def dL:List Rl->List D
 | []=>[]
 | r::l=>r.d::dL l
end
mutual
def Rl.sz:Rl->Nat
 | .cell _ _=>1
 | .at_ _ _ r=>1+r.sz
 | .by_ _ _ _ _ r=>1+r.sz
 | .then_ q r=>1+(q.sz+r.sz)
 | .many _ _ ps=>1+szL ps
def szL:List Rl->Nat
 | []=>0
 | r::l=>r.sz+szL l
end
mutual
def Rl.ok:Rl->Prop
 | .cell x y=>BB 14 x/\BB 14 y
 | .at_ x y r=>(BB 14 x/\BB 14 y)/\r.ok
 | .by_ a b u v r=>(BB 4 a/\BB 4 b/\BB 4 u/\BB 4 v)/\r.ok
 | .then_ q r=>q.ok/\r.ok
 | .many w k ps=>(1<=lst w k ps.length/\lst w k ps.length<=ps.length/\ps.length<=60)/\okL ps
def okL:List Rl->Prop
 | []=>True
 | r::l=>r.ok/\okL l
end
theorem zC8:∀l:List Rl,dL l=l.map Rl.d
 | []=>rfl
 | r::l=>by rw[dL,zC8 l];rfl
theorem okL_iff:∀{l:List Rl},okL l <-> ∀r∈l,r.ok
 | []=>⟨(λ_ _ h=>nomatch h),λ_=>by rw[okL];trivial⟩
 | r::l=>by rw[okL,okL_iff (l:=l)];simp
theorem zM4:∀l:List Rl,szL l=(l.map Rl.sz).sum
 | []=>by rw[szL];rfl
 | r::l=>by rw[szL,zM4 l];rfl
theorem Rl.pos(r:Rl):1<=r.sz:=by cases r <;> rw[Rl.sz] <;> lia
theorem zNl{k:Nat}:∀{l:List D},(∀d∈l,d.low k=true)->lowL k l=true
 | [],_=>rfl
 | d::l,h=>by
  show(d.low k && lowL k l)=true;rw[h d (.head _),zNl λx hx=>h x (.tail _ hx)];rfl
theorem zZ4{n:Nat}{k:Int}(h:lowL n l=true):(hdD w k l).low n=true:=by
 unfold hdD;split
 ·show(true && (lowL n l && true))=true;rw[h];rfl
 ·split
  ·show(true && (lowL n l && true))=true;rw[h];rfl
  ·show(true && (true && (lowL n l && true)))=true;rw[h];rfl
mutual
theorem Rl.low(n:Nat):∀r:Rl,r.d.low n=true
 | .cell x y=>by rw[Rl.d];rfl
 | .at_ x y r=>by
  rw[Rl.d];show(true && (true && (true && (r.d.low n && true))))=true;rw[Rl.low n r];rfl
 | .by_ a b u v r=>by
  rw[Rl.d];show(true && ((true && (true && (true && (true && true)))) && (r.d.low n && true)))=true;rw[Rl.low n r];rfl
 | .then_ q r=>by
  rw[Rl.d];show(true && (q.d.low n && (r.d.low n && true)))=true;rw[Rl.low n q,Rl.low n r];rfl
 | .many w k ps=>by rw[Rl.d];exact zZ4 (zOw n ps)
theorem zOw(n:Nat):∀l:List Rl,lowL n (dL l)=true
 | []=>by rw[dL];rfl
 | r::l=>by
  rw[dL];show(r.d.low n && lowL n (dL l))=true;rw[Rl.low n r,zOw n l];rfl
end
end
section
open Classical
def RS(r:Fn)(c:Nat)(n:Nat):Prop:=∀(deep room:Nat) (th:Int) (S:Store),1<=deep->deep<=n->1<=room->room<=60->Feed S c->
 ∃(t:Rl) (S':Store),r [.ref c,.int (room:Nat),.int (deep:Nat),.int th,.lst []] S=.ok t.d S'/\t.ok/\t.sz<=room/\Feed S' c/\Only c c S S'
theorem min2{x y:Int}:min2B S [.int x,.int y]=some (.int (if y<x then y else x)):=rfl
theorem yC2{S:Store}{n:Nat}{l:List D}(h:S[n]?=some (.lst l))(hl:l.length<1000):zDj S (.ref n) [d]=some (.non,S.set n (.lst (l++[d]))):=yC3 h hl
theorem zTe{n:Nat}(h:S[n]?=some (.lst l)):zBv S [.ref n]=some (.tup l):=by have:look S (.ref n)=some (.lst l):=h;simp only[zBv,litems,this,ue]
noncomputable abbrev paB (r:Fn):SM:=sSeq (sSet 9 (eOp addD (eC (.int 1)) (zA3 zA4 (zA0 (eVar 0) (zA0 (eOp subD (eVar 7) (eOp subD (eOp subD (eVar 5) (eC (.int 1))) (eVar 8))) aNil)))))
  (sSeq (sSet 7 (eOp subD (eVar 7) (eVar 9)))
  (zD9 (eMt "list" zDj (eVar 6) (zA0 (zA3 r (zA0 (eVar 0) (zA0 (eVar 9) (zA0 (eVar 2) (zA0 (eVar 3) (zA0 (eVar 4) aNil)))))) aNil))))
theorem zQs{n:Nat}(R:RS r c n){deep room:Nat}{th:Int}(d1:1<=deep)(d2:deep<=n)(r1:1<=room)(r2:room<=60)(h:Feed S c):
  ∃(ps:List Rl) (S':Store),zBz r [.ref c,.int (room:Nat),.int (deep:Nat),.int th,.lst []] S=.ok (.tup (ps.map Rl.d)) S'/\ps≠[]/\(∀p∈ps,p.ok)/\(ps.map Rl.sz).sum<=room/\Feed S' c/\Only c c S S':=by
 obtain⟨lim,l0,l9,el⟩:∃lim:Int,1<=lim/\lim<=room/\(if((room:Nat):Int)<9 then((room:Nat):Int)else 9)=lim:=⟨_,by split <;> lia,by split <;> lia,rfl⟩
 obtain⟨a,S1,e1,a0,a9,f1,o1⟩:=taken (many:=lim) (by nofun) (by nofun) h;obtain⟨m,hm⟩:∃m:Nat,(m:Int)=1+a:=⟨(1+a).toNat,by nofun⟩
 have m9:m<=room:=by nofun
 obtain⟨v,hv⟩:∃v:D,v=.lst []:=⟨_,rfl⟩
 have R':=R;unfold RS at R;rw[<- hv]at R ⊢;have k0:MkF c S S1.length (([]:List Rl).map Rl.d) (S1++[.lst []]):=MkF.new h f1 o1.grow [];obtain⟨env',S3,e3,ps,left,q8,q9,rfl,mk,pl,lm,sm,ru⟩:=zSx (h:=λi:Nat=>D.int (i:Int)) (gd:=[]) (g:=gName 8) (b:=paB r) (ys:=List.range m)
  (λZ env T=>∃(ps:List Rl) (left:Int) (q8 q9:Option D),env=[some (.ref c),some (.int (room:Nat)),some (.int (deep:Nat)),some (.int th),some v,some (.int (m:Nat)),some (.ref S1.length),some (.int left),q8,q9]/\MkF c S S1.length (ps.map Rl.d) T/\ps.length=Z.length/\(m:Int)-Z.length<=left/\((ps.map Rl.sz).sum:Int)+left<=room/\∀p∈ps,p.ok)
  (λ_ _ _ _=>zAz) (λZ i Y eq env T hh=>by
   obtain⟨ps,left,q8,q9,rfl,mk,pl,lm,sm,ru⟩:=hh;have hi:i=Z.length/\Z.length<m:=by have e:=congrArg (·[Z.length]?) eq;have l:=congrArg List.length eq;rw[vv,xE,xo]at l;simp only[xS (xg _),Nat.sub_self,uu]at e;rw[List.getElem?_range (by nofun)]at e;exact⟨(xA e).symm,by nofun⟩
   obtain⟨rfl,zm⟩:=hi;obtain⟨b,T1,e1,b0,b9,g1,p1⟩:=taken (many:=left-((m:Int)-1-(Z.length:Nat))) (by nofun) (by nofun) mk.feed;have mk1:=mk.take h g1 p1;obtain⟨z,hz⟩:∃z:Nat,(z:Int)=1+b:=⟨(1+b).toNat,by nofun⟩
   obtain⟨t,T2,e2,rt,st,g2,p2⟩:=R deep z th T1 d1 d2 (by nofun) (by nofun) g1;have mk2:=mk1.take h g2 p2;have ap:=yC2 (d:=t.d) mk2.at_ (by rw[xn,pl];lia);have mk3:=mk2.put h (ps.map Rl.d++[t.d]);rw[hz]at e2;refine⟨_,[some (.ref c),some (.int (room:Nat)),some (.int (deep:Nat)),some (.int th),some v,some (.int (m:Nat)),some (.ref S1.length),some (.int (left-(1+b))),some (.int (Z.length:Nat)),some (.int (1+b))],_,rfl,?_,ps++[t],left-(1+b),_,_,rfl,by rw[vw];exact mk3,by simp[pl],by rw[xE,ub];lia,?_,?_⟩
   ·simp_arith [e1,eMt,ty_D mk1.at_,e2,ap]
   ·rw[vw,List.sum_append,List.map_singleton,List.sum_singleton];lia
   ·intro p hp;rcases vm.mp hp with hp|hp
    ·exact ru p hp
    ·rw[xZ.mp hp];exact rt) (List.range m) [] [some (.ref c),some (.int (room:Nat)),some (.int (deep:Nat)),some (.int th),some v,some (.int (m:Nat)),some (.ref S1.length),some (.int (room:Nat)),none,none] (S1++[.lst []]) rfl ⟨[],room,none,none,rfl,k0,rfl,by simpa using m9,by simp,(λp h=>nomatch h)⟩
 rw[vv]at pl;have lo:(D.tup (ps.map Rl.d)).low S.length=true:=zNl λd hd=>by
  obtain⟨p,hp,rfl⟩:=xw.mp hd;exact p.low _
 obtain⟨S4,e4,f4,o4⟩:=zAs (np:=5) (nl:=10) (b:=zEc r) (ds:=[.ref c,.int (room:Nat),.int (deep:Nat),.int th,v]) (d:=.tup (ps.map Rl.d)) (S':=S3) rfl (by
  refine zA2 (e:=[some (.ref c),some (.int (room:Nat)),some (.int (deep:Nat)),some (.int th),some v,some (.int (m:Nat)),none,none,none,none]) (S1:=S1) ?_ (zA2 (e:=[some (.ref c),some (.int (room:Nat)),some (.int (deep:Nat)),some (.int th),some v,some (.int (m:Nat)),some (.ref S1.length),none,none,none]) (S1:=S1++[.lst []]) rfl (zA2 (e:=[some (.ref c),some (.int (room:Nat)),some (.int (deep:Nat)),some (.int th),some v,some (.int (m:Nat)),some (.ref S1.length),some (.int (room:Nat)),none,none]) (S1:=S1++[.lst []]) rfl (zA2 (e:=[some (.ref c),some (.int (room:Nat)),some (.int (deep:Nat)),some (.int th),some v,some (.int (m:Nat)),some (.ref S1.length),some (.int left),q8,q9]) (S1:=S3) ?_ ?_)))
  ·rw[hm];simp_arith [min2,el,e1]
  ·rw[sFor,zC5 (n:=m) rfl (by nofun),Rs.then_ok];exact e3
  ·exact zBw (by rw[eCB,zAa (zA1 rfl),Rs.bind_ok,zTe mk.at_];rfl)) h mk.feed mk.grow lo
 refine⟨ps,S4,e4,λz=>?_,ru,by rw[vv]at lm;lia,f4,o4⟩;rw[z]at pl;have:m=0:=pl.symm;lia
theorem zK7{t:TM}{b:SM}(h:t env S=.ok false S1)(h2:b env S1=q):sIf t a b env S=q:=by rw[sIf,h,Rs.then_ok,xc (by decide)];exact h2
theorem zVn{t:TM}{a:SM}(h:t env S=.ok true S1)(h2:a env S1=q):sIf t a b env S=q:=by rw[sIf,h,Rs.then_ok,xb rfl];exact h2
theorem lt_int{x y:Int}:ltN S (.int x) (.int y)=some (.bl (decide (x<y))):=rfl
theorem zPs{a b:TM}[Decidable p](h:a env S=.ok (decide p) S1)(h1:p->q=.ok true S1)(h2:¬ p->b env S1=q):tOr a b env S=q:=by
 rw[tOr,h,Rs.bind_ok];by_cases c:p
 ·rw[xk c,xb rfl,h1 c]
 ·rw[xj c,xc (by decide),h2 c]
theorem zJp{a b:TM}[Decidable p](h:a env S=.ok (decide p) S1)(h1:¬ p->q=.ok false S1)(h2:p->b env S1=q):tAnd a b env S=q:=by
 rw[tAnd,h,Rs.bind_ok];by_cases c:p
 ·rw[xk c,xb rfl,h2 c]
 ·rw[xj c,xc (by decide),h1 c]
theorem zBu{m:EM}(h:m env S=.ok (.bl b) S1):tB m env S=.ok b S1:=by rw[tB,h];rfl
noncomputable abbrev lfT:TM:=tAnd (tB (eOp gtD (eCB lenB (zA0 (eVar 4) aNil)) (eC (.int 0)))) (tB (eOp gtD (zA3 zA4 (zA0 (eVar 0) (zA0 (eC (.int 3)) aNil))) (eC (.int 0))))
noncomputable abbrev lfN:EM:=eTup (zA0 (eC (.str (PySem.Str.ofString "name"))) (zA0 (eOp ixD (eVar 4) (zA3 zA4 (zA0 (eVar 0) (zA0 (eCB lenB (zA0 (eVar 4) aNil)) aNil)))) aNil))
noncomputable abbrev lfC:EM:=eOp addD (eTup (zA0 (eC (.str (PySem.Str.ofString "cell"))) aNil)) (zA3 zAe (zA0 (eVar 0) aNil))
theorem zVc(h0:env[0]?=some (some (.ref c)))(h4:env[4]?=some (some (.lst [])))(h:Feed S c):
  ∃(t:Rl) (S':Store),sSeq (sIf lfT (sRet lfN) zAl) (sRet lfC) env S=.rt t.d S'/\t.ok/\t.sz<=1/\Feed S' c/\Only c c S S':=by
 have gz:eOp gtD (eCB lenB (zA0 (eVar 4) aNil)) (eC (.int 0)) env S=.ok (.bl false) S:=zAd (by rw[eCB,zAa (zA1 h4)];rfl) rfl rfl;have t:lfT env S=.ok false S:=zJp (p:=False) (by rw[zBu gz];rfl) (λ_=>rfl) λz=>z.elim
 obtain⟨x,y,T1,e',bb,g,p⟩:=zDf h;refine⟨.cell x y,T1,zA2 (zK7 t rfl) (zBw (zAd (x:=.tup [tx "cell"]) (y:=.tup [.int x,.int y]) rfl (zA6 (zAa (zA1 h0)) e') ?_)),?_,?_,g,p⟩
 ·show(if [tx "cell"]≠[]/\[tx "cell"].length+[D.int x,.int y].length<=most then some (D.tup ([tx "cell"]++[.int x,.int y]))else none)=_;rw[xb ⟨by simp,(by show 1+2<=most;decide)⟩,Rl.d];rfl
 ·rw[Rl.ok];unfold BB;lia
 ·rw[Rl.sz];exact xg _
noncomputable abbrev ruT:TM:=tOr (tB (eOp ltN (eVar 1) (eC (.int 2)))) (tOr (tB (eOp ltN (eVar 2) (eC (.int 2)))) (tB (eOp eqI (eVar 5) (eC (.int 0)))))
theorem zMn{c:Nat}:∀n:Nat,RS (zB4 n) c n
 | 0=>λdeep room th S d1 d2=>by exfalso;lia
 | n+1=>λdeep room th S d1 d2 r1 r2 h=>by
  have ih:RS (zB4 n) c n:=zMn n;obtain⟨r,hr⟩:∃r,r=zB4 n:=⟨_,rfl⟩
  rw[<- hr]at ih;show ∃(t:Rl) (S':Store),zAc 5 10 (zBe (zB4 n)) _ S=_/\_
  rw[<- hr];obtain⟨v,hv⟩:∃v:D,v=.lst []:=⟨_,rfl⟩
  have ih':=ih;unfold RS at ih;rw[<- hv]at ih ⊢;obtain⟨d,rfl⟩:∃d:Nat,deep=d+1:=⟨deep-1,by nofun⟩
  obtain⟨ri,hri⟩:∃x:Int,x=(room:Nat):=⟨_,rfl⟩
  obtain⟨di,hdi⟩:∃x:Int,x=((d+1:Nat):Int):=⟨_,rfl⟩
  rw[<- hri,<- hdi];obtain⟨w,S1,e1,w0,w9,f1,o1⟩:=taken (many:=9) (by decide) (by decide) h;have fin:∀(t:Rl) (z:D) (S':Store),t.d=z->zBe r [some (.ref c),some (.int ri),some (.int di),some (.int th),some v,none,none,none,none,none] S=.rt z S'->t.ok->t.sz<=room->Feed S' c->Only c c S1 S'->∃(t:Rl) (S':Store),zAc 5 10 (zBe r) [.ref c,.int ri,.int di,.int th,v] S=.ok t.d S'/\t.ok/\t.sz<=room/\Feed S' c/\Only c c S S':=λt z S' ez e ru sz f o=>by
   rw[<- ez]at e;obtain⟨S4,e4,f4,o4⟩:=zAs (np:=5) (nl:=10) (b:=zBe r) (ds:=[.ref c,.int ri,.int di,.int th,v]) (d:=t.d) (S':=S') rfl e h f (o1.trans o).grow (t.low _);exact⟨t,S4,e4,ru,sz,f4,o4⟩
  have st1:sSet 5 (zA3 zA4 (zA0 (eVar 0) (zA0 (eC (.int 9)) aNil))) [some (.ref c),some (.int ri),some (.int di),some (.int th),some v,none,none,none,none,none] S=.nx [some (.ref c),some (.int ri),some (.int di),some (.int th),some v,some (.int w),none,none,none,none] S1:=by rw[sSet,zDc rfl e1];rfl
  have lf:ruT [some (.ref c),some (.int ri),some (.int di),some (.int th),some v,some (.int w),none,none,none,none] S1=.ok (decide (ri<2\/di<2\/w=0)) S1:=by
   refine zPs (p:=ri<2) (zBu (zAd (zA1 rfl) rfl rfl)) (λc=>by rw[xk (.inl c)]) λc1=>?_
   refine zPs (p:=di<2) (zBu (zAd (zA1 rfl) rfl rfl)) (λc=>by rw[xk (.inr (.inl c))]) λc2=>?_
   refine(zBu (zAd (zA1 rfl) rfl (zCi (b:=0)))).trans ?_;rw[show decide (w=0)=decide (ri<2\/di<2\/w=0)from x3.mpr ⟨λe=>.inr (.inr e),λe=>(e.resolve_left c1).resolve_left c2⟩]
  by_cases lf':ri<2\/di<2\/w=0
  ·rw[xk lf']at lf;obtain⟨t,S2,e,ru,sz,f,o⟩:=zVc (env:=[some (.ref c),some (.int ri),some (.int di),some (.int th),some v,some (.int w),none,none,none,none]) rfl (by rw[hv];rfl) f1;exact fin t _ S2 rfl (zA2 st1 (zBh (zBc lf e))) ru (xm sz r1) f o
  rw[xj lf']at lf;have q2:((d:Nat):Int)=di-1:=by nofun
  have dn:1<=d/\d<=n:=by nofun
  have rcc:∀(m:Nat) (t:Int) (S:Store),1<=m->m<=60->Feed S c->∃(x:Rl) (S':Store),r [.ref c,.int (m:Nat),.int (di-1),.int t,v] S=.ok x.d S'/\x.ok/\x.sz<=m/\Feed S' c/\Only c c S S':=λm t S h1 h2 f=>by
   obtain⟨x,S',e,k⟩:=ih d m t S dn.1 dn.2 h1 h2 f;rw[q2]at e;exact⟨x,S',e,k⟩
  have q1:((room-1:Nat):Int)=ri-1:=by nofun
  by_cases w3:w<3
  ·have t3:tB (eOp ltN (eVar 5) (eC (.int 3))) [some (.ref c),some (.int ri),some (.int di),some (.int th),some v,some (.int w),none,none,none,none] S1=.ok true S1:=by rw[zBu (zAd (zA1 rfl) rfl rfl),xk w3]
   obtain⟨x,y,S2,e2,bb,f2,o2⟩:=zDf f1;obtain⟨t,S3,e3,ru,sz,f3,o3⟩:=rcc (room-1) th S2 (by nofun) (by nofun) f2;rw[q1]at e3;refine fin (.at_ x y t) (.tup [tx "at",.int x,.int y,t.d]) S3 (by rw[Rl.d]) (zA2 st1 (zA2 (zAg lf rfl) (zBh (zBc t3 (zA2 (e:=[some (.ref c),some (.int ri),some (.int di),some (.int th),some v,some (.int w),some (.tup [.int x,.int y]),none,none,none]) (S1:=S2) ?_ ?_))))) (by rw[Rl.ok];exact⟨⟨by unfold BB;lia,by unfold BB;lia⟩,ru⟩) (by rw[Rl.sz];lia) f3 (o2.trans o3)
   ·rw[sSet,zA6 (zAa (zA1 rfl)) e2];rfl
   ·simp_arith [e3]
  have n3:tB (eOp ltN (eVar 5) (eC (.int 3))) [some (.ref c),some (.int ri),some (.int di),some (.int th),some v,some (.int w),none,none,none,none] S1=.ok false S1:=by rw[zBu (zAd (zA1 rfl) rfl rfl),xj w3]
  by_cases w4:w=3
  ·have t4:tB (eOp eqI (eVar 5) (eC (.int 3))) [some (.ref c),some (.int ri),some (.int di),some (.int th),some v,some (.int w),none,none,none,none] S1=.ok true S1:=by rw[zBu (zAd (zA1 rfl) rfl zCi),xk w4]
   obtain⟨a,b,u,z,S2,e2,bb,f2,o2⟩:=zJo f1;obtain⟨t,S3,e3,ru,sz,f3,o3⟩:=rcc (room-1) th S2 (by nofun) (by nofun) f2;rw[q1]at e3;refine fin (.by_ a b u z t) (.tup [tx "by",.tup [.int a,.int b,.int u,.int z],t.d]) S3 (by rw[Rl.d]) (zA2 st1 (zA2 (zAg lf rfl) (zA2 (zAg n3 rfl) (zBh (zBc t4 ?_))))) (by rw[Rl.ok];exact⟨⟨by unfold BB;lia,by unfold BB;lia,by unfold BB;lia,by unfold BB;lia⟩,ru⟩) (by rw[Rl.sz];lia) f3 (o2.trans o3);simp_arith [e2,e3]
  have n4:tB (eOp eqI (eVar 5) (eC (.int 3))) [some (.ref c),some (.int ri),some (.int di),some (.int th),some v,some (.int w),none,none,none,none] S1=.ok false S1:=by rw[zBu (zAd (zA1 rfl) rfl zCi),xj w4]
  have t5:tAnd (tB (eOp eqI (eVar 5) (eC (.int 4)))) (tAnd (tB (eOp gtD (eVar 3) (eC (.int 0)))) (tB (eOp gtD (eVar 1) (eC (.int 2))))) [some (.ref c),some (.int ri),some (.int di),some (.int th),some v,some (.int w),none,none,none,none] S1=.ok (decide (w=4/\0<th/\2<ri)) S1:=by
   refine zJp (p:=w=4) (zBu (zAd (zA1 rfl) rfl zCi)) (λc=>by rw[xj λz=>c z.1]) λc1=>?_
   refine zJp (p:=0<th) (zBu (zAd (zA1 rfl) rfl rfl)) (λc=>by rw[xj λz=>c z.2.1]) λc2=>?_
   refine(zBu (zAd (zA1 rfl) rfl (gt_int (y:=2)))).trans ?_;rw[show decide (2<ri)=decide (w=4/\0<th/\2<ri)from x3.mpr ⟨λe=>⟨c1,c2,e⟩,λe=>e.2.2⟩]
  by_cases w5:w=4/\0<th/\2<ri
  ·rw[xk w5]at t5;obtain⟨a,S2,e2,a0,a9,f2,o2⟩:=taken (many:=ri-2) (by nofun) (by nofun) f1;obtain⟨m,hm⟩:∃m:Nat,(m:Int)=1+a:=⟨(1+a).toNat,by nofun⟩
   obtain⟨t,S3,e3,ru,sz,f3,o3⟩:=rcc m (th-1) S2 (by nofun) (by nofun) f2;obtain⟨t',S4,e4,ru',sz',f4,o4⟩:=rcc (room-1-m) (th-1) S3 (by nofun) (by nofun) f3;rw[show((room-1-m:Nat):Int)=ri-1-(1+a) by nofun]at e4;rw[hm]at e3;refine fin (.then_ t t') (.tup [tx "then",t.d,t'.d]) S4 (by rw[Rl.d]) (zA2 st1 (zA2 (zAg lf rfl) (zA2 (zAg n3 rfl) (zA2 (zAg n4 rfl) (zBh (zBc t5 ?_)))))) (by rw[Rl.ok];exact⟨ru,ru'⟩) (by rw[Rl.sz];lia) f4 ((o2.trans o3).trans o4);simp_arith [e2,e3,e4]
  rw[xj w5]at t5;obtain⟨ps,S2,e2,pn,ru,sm,f2,o2⟩:=zQs ih' (deep:=d) (room:=room-1) (th:=th) dn.1 dn.2 (by nofun) (by nofun) f1;rw[<- hv,q1,q2]at e2;have st9:sSet 9 (zA3 (zBz r) (zA0 (eVar 0) (zA0 (eOp subD (eVar 1) (eC (.int 1))) (zA0 (eOp subD (eVar 2) (eC (.int 1))) (zA0 (eVar 3) (zA0 (eVar 4) aNil)))))) [some (.ref c),some (.int ri),some (.int di),some (.int th),some v,some (.int w),none,none,none,none] S1=.nx [some (.ref c),some (.int ri),some (.int di),some (.int th),some v,some (.int w),none,none,none,some (.tup (ps.map Rl.d))] S2:=by simp_arith [e2]
  have pl:ps.length<=60:=by
   have:∀l:List Rl,l.length<=(l.map Rl.sz).sum:=λl=>by
    induction l with
    | nil=>exact xg _
    | cons a l h1=>
     have h2:1<=a.sz:=a.pos;rw[xt,List.sum_cons,xo];lia
   have:=this ps;lia
  have pp:0<ps.length:=List.length_pos_iff.mpr pn;have sm':szL ps<=room-1:=by rw[zM4];exact sm
  have rk:∀(w:Nat) (k:Int),1<=lst w k ps.length->lst w k ps.length<=ps.length->(Rl.many w k ps).ok:=λw k h1 h2=>by
   rw[Rl.ok];exact⟨⟨h1,h2,pl⟩,okL_iff.mpr ru⟩
  have rz:∀(w:Nat) (k:Int),(Rl.many w k ps).sz<=room:=λw k=>by rw[Rl.sz];lia
  by_cases w7:w<7
  ·have t7:tB (eOp ltN (eVar 5) (eC (.int 7))) [some (.ref c),some (.int ri),some (.int di),some (.int th),some v,some (.int w),none,none,none,some (.tup (ps.map Rl.d))] S2=.ok true S2:=by rw[zBu (zAd (zA1 rfl) rfl rfl),xk w7]
   have m2:modD S2 (.int w) (.int 2)=some (.int (w % 2)):=zCs (by decide);have go:∀(j:Nat) (x:String),atL [tx "all",tx "any"] (w % 2)=some (tx x)->(Rl.many j 0 ps).d=.tup [tx x,.tup (ps.map Rl.d)]->1<=lst j 0 ps.length->lst j 0 ps.length<=ps.length->∃(t:Rl) (S':Store),zAc 5 10 (zBe r) [.ref c,.int ri,.int di,.int th,v] S=.ok t.d S'/\t.ok/\t.sz<=room/\Feed S' c/\Only c c S S':=λj x ex ed h1 h2=>by
    refine fin (.many j 0 ps) _ S2 ed (zA2 st1 (zA2 (zAg lf rfl) (zA2 (zAg n3 rfl) (zA2 (zAg n4 rfl) (zA2 (zAg t5 rfl) (zA2 st9 (zBh (zBc t7 ?_)))))))) (rk j 0 h1 h2) (rz j 0) f2 o2;simp_arith [m2,ex]
   rcases(show w % 2=0\/w % 2=1 by nofun)with e|e
   ·exact go 0 "all" (by rw[e];rfl) (by rw[Rl.d,zC8];rfl) (by show 1<=((ps.length:Nat):Int);lia) (Int.le_refl _)
   ·exact go 1 "any" (by rw[e];rfl) (by rw[Rl.d,zC8];rfl) (Int.le_refl _) (by show 1<=((ps.length:Nat):Int);lia)
  ·have t7:tB (eOp ltN (eVar 5) (eC (.int 7))) [some (.ref c),some (.int ri),some (.int di),some (.int th),some v,some (.int w),none,none,none,some (.tup (ps.map Rl.d))] S2=.ok false S2:=by rw[zBu (zAd (zA1 rfl) rfl rfl),xj w7]
   obtain⟨k,S3,e3,k0,k9,f3,o3⟩:=taken (many:=(ps.length:Nat)) (by(lia)) (by(lia)) f2;have ln:lenB S2 [.tup (ps.map Rl.d)]=some (.int (ps.length:Nat)):=by rw[zGj,xn]
   refine fin (.many 2 (1+k) ps) (.tup [tx "least",.int (1+k),.tup (ps.map Rl.d)]) S3 (by rw[Rl.d,zC8];rfl) (zA2 st1 (zA2 (zAg lf rfl) (zA2 (zAg n3 rfl) (zA2 (zAg n4 rfl) (zA2 (zAg t5 rfl) (zA2 st9 (zA2 (zAg t7 rfl) ?_))))))) (rk 2 (1+k) (by show 1<=1+k;lia) (by show 1+k<=((ps.length:Nat):Int);lia)) (rz 2 _) f3 (o2.trans o3);simp_arith [ln,e3]
noncomputable abbrev Tb:=Int × Int × Int × Int
noncomputable abbrev ad (b c:Pt):Pt:=(b.1+c.1,b.2+c.2)
noncomputable abbrev ap (t:Tb) (c:Pt):Pt:=(t.1*c.1+t.2.1*c.2,t.2.2.1*c.1+t.2.2.2*c.2)
noncomputable abbrev cmpT (t s:Tb):Tb:=(t.1*s.1+t.2.1*s.2.2.1,t.1*s.2.1+t.2.1*s.2.2.2,t.2.2.1*s.1+t.2.2.2*s.2.2.1,t.2.2.1*s.2.1+t.2.2.2*s.2.2.2)
noncomputable abbrev idT:Tb:=(1,0,0,1)
mutual
def Rl.sem:Rl->Tb->(Pt->Bool)->Pt->Bool
 | .cell x y,t,P,c=>P (ad c (ap t (x,y)))
 | .at_ x y r,t,P,c=>r.sem t P (ad c (ap t (x,y)))
 | .by_ a b u v r,t,P,c=>r.sem (cmpT t (a,b,u,v)) P c
 | .then_ q r,t,P,c=>r.sem t (λz=>q.sem t P z) c
 | .many w k ps,t,P,c=>decide (lst w k ps.length<=(semN ps t P c:Nat))
def semN:List Rl->Tb->(Pt->Bool)->Pt->Nat
 | [],_,_,_=>0
 | r::l,t,P,c=>(if r.sem t P c=true then 1 else 0)+semN l t P c
end
theorem zT9 :ap (cmpT t s) c=ap t (ap s c):=xJ (by show(_:Int)=_;grind) (by show(_:Int)=_;grind)
theorem yAc :ap t (ad b c)=ad (ap t b) (ap t c):=xJ (by show(_:Int)=_;grind) (by show(_:Int)=_;grind)
theorem yA4 :cmpT (cmpT t s) r=cmpT t (cmpT s r):=xJ (by show(_:Int)=_;grind) (xJ (by show(_:Int)=_;grind) (xJ (by show(_:Int)=_;grind) (by show(_:Int)=_;grind)))
theorem zT5 :cmpT idT t=t:=xJ (by show(_:Int)=_;lia) (xJ (by show(_:Int)=_;lia) (xJ (by show(_:Int)=_;lia) (by show(_:Int)=_;lia)))
theorem zZ3 :cmpT t idT=t:=xJ (by show(_:Int)=_;lia) (xJ (by show(_:Int)=_;lia) (xJ (by show(_:Int)=_;lia) (by show(_:Int)=_;lia)))
theorem zS1 :ap idT c=c:=xJ (by show(_:Int)=_;lia) (by show(_:Int)=_;lia)
theorem zPj :ad (ad a b) c=ad (ad a c) b:=xJ (by show(_:Int)=_;lia) (by show(_:Int)=_;lia)
mutual
theorem zDz :∀(r:Rl) (M:Tb) {P Q:Pt->Bool},(∀z,Q (ap T z)=P z)->∀z,r.sem (cmpT T M) Q (ap T z)=r.sem M P z
 | .cell x y,M,P,Q,h,z=>by rw[Rl.sem,Rl.sem,zT9,<- yAc,h]
 | .at_ x y r,M,P,Q,h,z=>by rw[Rl.sem,Rl.sem,zT9,<- yAc];exact zDz r M h _
 | .by_ a b u v r,M,P,Q,h,z=>by rw[Rl.sem,Rl.sem,yA4];exact zDz r _ h _
 | .then_ q r,M,P,Q,h,z=>by rw[Rl.sem,Rl.sem];exact zDz r M (λz=>zDz q M h z) z
 | .many w k ps,M,P,Q,h,z=>by rw[Rl.sem,Rl.sem,zJt ps M h z]
theorem zJt :∀(l:List Rl) (M:Tb) {P Q:Pt->Bool},(∀z,Q (ap T z)=P z)->∀z,semN l (cmpT T M) Q (ap T z)=semN l M P z
 | [],M,P,Q,h,z=>by rw[semN,semN]
 | r::l,M,P,Q,h,z=>by rw[semN,semN,zDz r M h z,zJt l M h z]
end
mutual
theorem zFu :∀(r:Rl) (M:Tb) {P Q:Pt->Bool},(∀z,Q (ad z b)=P z)->∀z,r.sem M Q (ad z b)=r.sem M P z
 | .cell x y,M,P,Q,h,z=>by rw[Rl.sem,Rl.sem,zPj,h]
 | .at_ x y r,M,P,Q,h,z=>by rw[Rl.sem,Rl.sem,zPj];exact zFu r M h _
 | .by_ a b u v r,M,P,Q,h,z=>by rw[Rl.sem,Rl.sem];exact zFu r _ h _
 | .then_ q r,M,P,Q,h,z=>by rw[Rl.sem,Rl.sem];exact zFu r M (λz=>zFu q M h z) z
 | .many w k ps,M,P,Q,h,z=>by rw[Rl.sem,Rl.sem,zMj ps M h z]
theorem zMj :∀(l:List Rl) (M:Tb) {P Q:Pt->Bool},(∀z,Q (ad z b)=P z)->∀z,semN l M Q (ad z b)=semN l M P z
 | [],M,P,Q,h,z=>by rw[semN,semN]
 | r::l,M,P,Q,h,z=>by rw[semN,semN,zFu r M h z,zMj l M h z]
end
mutual
theorem zD1:∀(r:Rl) (M:Tb) {P Q:Pt->Bool},(∀z,P z=true->Q z=true)->∀z,r.sem M P z=true->r.sem M Q z=true
 | .cell x y,M,P,Q,h,z=>by rw[Rl.sem,Rl.sem];exact h _
 | .at_ x y r,M,P,Q,h,z=>by rw[Rl.sem,Rl.sem];exact zD1 r M h _
 | .by_ a b u v r,M,P,Q,h,z=>by rw[Rl.sem,Rl.sem];exact zD1 r _ h _
 | .then_ q r,M,P,Q,h,z=>by rw[Rl.sem,Rl.sem];exact zD1 r M (λz=>zD1 q M h z) z
 | .many w k ps,M,P,Q,h,z=>by
  rw[Rl.sem,Rl.sem,uf,uf];have:=zHh ps M h z;lia
theorem zHh:∀(l:List Rl) (M:Tb) {P Q:Pt->Bool},(∀z,P z=true->Q z=true)->∀z,semN l M P z<=semN l M Q z
 | [],M,P,Q,h,z=>by rw[semN,semN];exact xg _
 | r::l,M,P,Q,h,z=>by
  rw[semN,semN];have h1:=zD1 r M h z;have h2:=zHh l M h z;by_cases c:r.sem M P z=true
  ·rw[xb c,xb (h1 c)];lia
  ·rw[xc c];lia
end
mutual
theorem zD0:∀(r:Rl) (M:Tb) {P:Pt->Bool},r.ok->(∀z,P z=false)->∀z,r.sem M P z=false
 | .cell x y,M,P,k,h,z=>by rw[Rl.sem];exact h _
 | .at_ x y r,M,P,k,h,z=>by rw[Rl.sem];rw[Rl.ok]at k;exact zD0 r M k.2 h _
 | .by_ a b u v r,M,P,k,h,z=>by rw[Rl.sem];rw[Rl.ok]at k;exact zD0 r _ k.2 h _
 | .then_ q r,M,P,k,h,z=>by rw[Rl.sem];rw[Rl.ok]at k;exact zD0 r M k.2 (λz=>zD0 q M k.1 h z) z
 | .many w j ps,M,P,k,h,z=>by
  rw[Rl.ok]at k;rw[Rl.sem,zHg ps M k.2 h z];have:=k.1.1;exact xj (by nofun)
theorem zHg:∀(l:List Rl) (M:Tb) {P:Pt->Bool},okL l->(∀z,P z=false)->∀z,semN l M P z=0
 | [],M,P,k,h,z=>by rw[semN]
 | r::l,M,P,k,h,z=>by
  rw[okL]at k;rw[semN,zD0 r M k.1 h z,zHg l M k.2 h z];rfl
end
theorem zIj:∀(l:List Rl) (M:Tb) (P:Pt->Bool) (z:Pt),semN l M P z<=l.length
 | [],M,P,z=>by rw[semN];exact xg _
 | r::l,M,P,z=>by
  rw[semN,xo];have:=zIj l M P z;split <;> lia
theorem zEy:∀(l:List Rl) (M:Tb) (P:Pt->Bool) (z:Pt),semN l M P z=(l.filter λr=>r.sem M P z).length
 | [],M,P,z=>by rw[semN];rfl
 | r::l,M,P,z=>by
  rw[semN,zEy l M P z];simp only[List.filter_cons];by_cases c:r.sem M P z=true
  ·rw[xb c,xb c,xo];lia
  ·rw[xc c,xc c];lia
end
section
open Classical
noncomputable abbrev tabD (t:Tb):D:=.tup [.int t.1,.int t.2.1,.int t.2.2.1,.int t.2.2.2]
def Tbl(d:D)(t:Tb):Prop:=d=tabD t\/d=.ktup [.int t.1,.int t.2.1,.int t.2.2.1,.int t.2.2.2]
def Bt(k:Nat)(t:Tb):Prop:=BB k t.1/\BB k t.2.1/\BB k t.2.2.1/\BB k t.2.2.2
def Bp(k:Nat)(c:Pt):Prop:=BB k c.1/\BB k c.2
section
variable {S:Store}{T:Tb}{c p v:Pt}{k j:Nat}{d:D}
theorem Bt.mono(h:Bt k T)(q:k<=j):Bt j T:=⟨h.1.mono q,h.2.1.mono q,h.2.2.1.mono q,h.2.2.2.mono q⟩
theorem Bp.mono(h:Bp k c)(q:k<=j):Bp j c:=⟨h.1.mono q,h.2.mono q⟩
theorem Bp.ap(h:Bt k T)(h':Bp j c):Bp (k+j+1) (ap T c):=⟨((h.1.mul h'.1).add (h.2.1.mul h'.2)).mono (by rw[Nat.max_self];exact xg _),((h.2.2.1.mul h'.1).add (h.2.2.2.mul h'.2)).mono (by rw[Nat.max_self];exact xg _)⟩
theorem Bp.ad(h:Bp k c)(h':Bp j v):Bp (max k j+1) (ad c v):=⟨h.1.add h'.1,h.2.add h'.2⟩
theorem Bt.cmp(h:Bt k T)(h':Bt j s):Bt (k+j+1) (cmpT T s):=by have a:=Bp.ap h (c:=(s.1,s.2.2.1)) ⟨h'.1,h'.2.2.1⟩;have b:=Bp.ap h (c:=(s.2.1,s.2.2.2)) ⟨h'.2.1,h'.2.2.2⟩;exact⟨a.1,b.1,a.2,b.2⟩
theorem zG5:zC7 [cel p,cel v] S=.ok (cel (ad p v)) S:=zAk rfl (by unfold zIb;simp_arith [xB]) rfl
theorem zAt:zA8 [cel p,cel v] S=.ok (cel (ad p v)) S:=zAk rfl (by unfold zDb;simp_arith [xB]) rfl
theorem muls(hk:k<=3000)(hj:j<=3000)(hT:Bt j T)(hp:Bp k p):(∀S,mulD S (.int T.1) (.int p.1)=some (.int (T.1*p.1)))/\(∀S,mulD S (.int T.2.1) (.int p.2)=some (.int (T.2.1*p.2)))/\(∀S,mulD S (.int T.2.2.1) (.int p.1)=some (.int (T.2.2.1*p.1)))/\∀S,mulD S (.int T.2.2.2) (.int p.2)=some (.int (T.2.2.2*p.2)):=
 ⟨λ_=>zHl hT.1 hp.1 (by nofun) (by nofun),λ_=>zHl hT.2.1 hp.2 (by nofun) (by nofun),λ_=>zHl hT.2.2.1 hp.1 (by nofun) (by nofun),λ_=>zHl hT.2.2.2 hp.2 (by nofun) (by nofun)⟩
theorem zNp(hd:Tbl d T)(hk:k<=3000)(hj:j<=3000)(hT:Bt j T)(hp:Bp k p):zGs [d,cel p] S=.ok (cel (ap T p)) S:=by
 obtain⟨m1,m2,m3,m4⟩:=muls hk hj hT hp;have w1:zFc [.tup [.int T.1,.int T.2.1],cel p] S=.ok (.int (T.1*p.1+T.2.1*p.2)) S:=zAk rfl (by unfold zJd;simp_arith [m1,m2]) rfl;have w2:zFc [.tup [.int T.2.2.1,.int T.2.2.2],cel p] S=.ok (.int (T.2.2.1*p.1+T.2.2.2*p.2)) S:=zAk rfl (by unfold zJd;simp_arith [m3,m4]) rfl;have s1:slD S d none (some 2)=some (.tup [.int T.1,.int T.2.1]):=by rcases hd with rfl|rfl <;> rfl
 have s2:slD S d (some 2) none=some (.tup [.int T.2.2.1,.int T.2.2.2]):=by rcases hd with rfl|rfl <;> rfl
 exact zAk rfl (by unfold yA7;simp_arith [s1,s2,w1,w2]) rfl
theorem zE0(hk:k<=3000)(hj:j<=3000)(hT:Bt j T)(hp:Bp k p):zAr [tabD T,cel p] S=.ok (cel (ap T p)) S:=by obtain⟨m1,m2,m3,m4⟩:=muls hk hj hT hp;exact zAk rfl (by unfold zG6;simp_arith [m1,m2,m3,m4]) rfl
theorem zLx(hd:Tbl d T)(hk:k<=3000)(hj:j<=3000)(hT:Bt j T)(hs:Bt k s):zGr [d,tabD s] S=.ok (tabD (cmpT T s)) S:=by have l1:=zNp (S:=S) (p:=(s.1,s.2.2.1)) hd hk hj hT ⟨hs.1,hs.2.2.1⟩;have l2:=zNp (S:=S) (p:=(s.2.1,s.2.2.2)) hd hk hj hT ⟨hs.2.1,hs.2.2.2⟩;exact zAk rfl (by unfold zKo;simp_arith [l1,l2]) rfl
theorem zL6(hk:k<=3000)(hj:j<=3000)(hT:Bt j T)(hs:Bt k s):zCd [tabD T,tabD s] S=.ok (tabD (cmpT T s)) S:=by have l1:=zE0 (S:=S) (p:=(s.1,s.2.2.1)) hk hj hT ⟨hs.1,hs.2.2.1⟩;have l2:=zE0 (S:=S) (p:=(s.2.1,s.2.2.2)) hk hj hT ⟨hs.2.1,hs.2.2.2⟩;exact zAk rfl (by unfold zDv;simp_arith [l1,l2]) rfl
end
noncomputable abbrev sS (s:String):PySem.Str:=PySem.Str.ofString s
mutual
def Rl.lv:Rl->Nat
 | .cell _ _=>1
 | .at_ _ _ r=>r.lv
 | .by_ _ _ _ _ r=>r.lv
 | .then_ q r=>q.lv*r.lv
 | .many _ _ ps=>lvL ps
def lvL:List Rl->Nat
 | []=>0
 | r::l=>r.lv+lvL l
end
mutual
theorem zEa:∀r:Rl,r.ok->1<=r.lv
 | .cell _ _,_=>by rw[Rl.lv];exact xg _
 | .at_ _ _ r,h=>by rw[Rl.lv];rw[Rl.ok]at h;exact zEa r h.2
 | .by_ _ _ _ _ r,h=>by rw[Rl.lv];rw[Rl.ok]at h;exact zEa r h.2
 | .then_ q r,h=>by rw[Rl.lv];rw[Rl.ok]at h;exact Nat.mul_pos (zEa q h.1) (zEa r h.2)
 | .many w k ps,h=>by
  rw[Rl.ok]at h;rw[Rl.lv];have:=zNk ps h.2;have:=h.1.1;have:=h.1.2.1;lia
theorem zNk:∀l:List Rl,okL l->l.length<=lvL l
 | [],_=>xC _
 | r::l,h=>by
  rw[okL]at h;rw[lvL,xo];have:=zEa r h.1;have:=zNk l h.2;lia
end
noncomputable abbrev islD (ks vs:List D):D:=.st [.bl true,.int 65,.str (sS "places"),.dct true ks vs]
noncomputable abbrev latD (q t:D) (m k:Nat):D:=.st [.bl true,.int 93,.str (sS "rule"),q,.str (sS "table"),t,.str (sS "floor"),.ref m,.str (sS "known"),.ref k]
noncomputable abbrev knD (es:List (Pt × Bool)):D:=.dct true (es.map λe=>cel e.1) (es.map λe=>.bl e.2)
structure Ly where
 q:Rl
 T:Tb
 td:D
 m:Nat
noncomputable def chP (isl:List Pt):List Ly->Pt->Bool
 | []=>λc=>decide (c∈isl)
 | y::ch=>λc=>y.q.sem y.T (chP isl ch) c
noncomputable def dp:List Ly->Nat
 | []=>0
 | y::ch=>y.q.sz+dp ch
noncomputable def wt:List Ly->Nat
 | []=>1
 | y::ch=>y.q.lv*wt ch
noncomputable def kn:List Ly->Nat->List Nat
 | [],_=>[]
 | y::ch,n=>(n+1)::kn ch y.m
noncomputable def tp:List Ly->Nat->Nat
 | [],n=>n
 | _::_,n=>n+1
structure LyOk (y:Ly):Prop where
 tb:Tbl y.td y.T
 bt:Bt (900-8*y.q.sz) y.T
 ok:y.q.ok
 sz:y.q.sz<=100
def FlA(isl:List Pt)(S:Store)(B:Nat):List Ly->Nat->Prop
 | [],n=>∃ks vs,S[n]?=some (islD ks vs)/\∀c,cel c∈ks <-> c∈isl
 | y::ch,n=>S[n]?=some (latD y.q.d y.td y.m (n+1))/\(∃es:List (Pt × Bool),S[n+1]?=some (knD es)/\(∀e∈es,e.2=chP isl (y::ch) e.1)/\es.length<=B)/\y.m<n/\LyOk y/\FlA isl S B ch y.m
section
variable {isl:List Pt}{S S' S1:Store}{B B' n k:Nat}{ch:List Ly}{c:Pt}{v:Bool}
theorem FlA.cong:∀{ch:List Ly}{n:Nat},FlA isl S B ch n->B<=B'->(∀i e,S[i]?=some e->i<=tp ch n->S'[i]?=some e)->FlA isl S' B' ch n
 | [],n,⟨ks,vs,h,k⟩,_,e=>⟨ks,vs,e n _ h (xg _),k⟩
 | y::ch,n,⟨h,⟨es,h1,h2,h3⟩,hm,ho,hf⟩,hb,e=>⟨e n _ h (by show n<=n+1;lia),⟨es,e _ _ h1 (xg _),h2,xm h3 hb⟩,hm,ho,hf.cong hb λi x hx hi=>e i x hx (by
  have:tp ch y.m<=y.m+1:=by cases ch <;> simp[tp]
  show i<=n+1;lia)⟩
theorem FlA.lt:∀{ch:List Ly}{n:Nat},FlA isl S B ch n->tp ch n<S.length
 | [],n,⟨ks,vs,h,k⟩=>(xG.mp h).1
 | y::ch,n,⟨_,⟨es,h1,_⟩,_⟩=>(xG.mp h1).1
theorem FlA.more(h:FlA isl S B ch n)(hb:B<=B'):FlA isl S B' ch n:=h.cong hb λ_ _ h _=>h
theorem FlA.app(h:FlA isl S B ch n)(T:Store):FlA isl (S++T) B ch n:=h.cong (xg _) λi e hi _=>by rw[xT (xG.mp hi).1];exact hi
theorem FlA.take(h:FlA isl S B ch n)(hk:tp ch n<k):FlA isl (S.take k) B ch n:=h.cong (xg _) λi e hi h2=>by rw[vI (by nofun)];exact hi
theorem zHx:∀l:List (Pt × Bool),lowL k (l.map λe=>cel e.1)=true
 | []=>rfl
 | e::l=>by
  show(true && lowL k (l.map λe=>cel e.1))=true;rw[zHx l];rfl
theorem zI5:∀l:List (Pt × Bool),lowL k (l.map λe=>.bl e.2)=true
 | []=>rfl
 | e::l=>by
  show(true && lowL k (l.map λe=>.bl e.2))=true;rw[zI5 l];rfl
theorem zYp(es:List (Pt × Bool)):(knD es).low k=true:=by show(lowL k (es.map λe=>cel e.1) && lowL k (es.map λe=>.bl e.2))=true;rw[zHx,zI5];rfl
theorem FlA.kn_at:∀{ch:List Ly}{n:Nat},FlA isl S B ch n->∀i∈kn ch n,∃es,S[i]?=some (knD es)
 | [],n,_,i,h=>nomatch h
 | y::ch,n,⟨_,⟨es,h1,_⟩,_,_,hf⟩,i,h=>by
  rcases xh.mp h with rfl|h
  ·exact⟨es,h1⟩
  ·exact hf.kn_at i h
theorem zLw:∀{ch:List Ly}{n:Nat},FlA isl S B ch n->1<=wt ch
 | [],n,_=>xg _
 | y::ch,n,⟨_,_,_,ho,hf⟩=>Nat.mul_pos (zEa _ ho.ok) (zLw hf)
structure Un (l:List Nat) (S S':Store):Prop where
 len:S.length<=S'.length
 at_:∀i,i<S.length->i ∉ l->S'[i]?=S[i]?
theorem Un.refl{l:List Nat}:Un l S S:=⟨xg _,λ_ _ _=>rfl⟩
theorem Un.trans{l:List Nat}(a:Un l S S1)(b:Un l S1 S'):Un l S S':=⟨xm a.len b.len,λi h h1=>(b.at_ i (xv h a.len) h1).trans (a.at_ i h h1)⟩
theorem Un.more{l m:List Nat}(a:Un l S S')(h:∀i∈l,i∈m):Un m S S':=⟨a.len,λi h1 h2=>a.at_ i h1 λz=>h2 (h i z)⟩
theorem zEt{np nl:Nat}{b:SM}{ds:List D}(hl:ds.length=np)(h:b (ds.map some++List.replicate (nl-np) none) S=.rt (.bl v) S')(u:Un (kn ch n) S S')(f:FlA isl S' B ch n)(hk:tp ch n<S.length):
  ∃S2,zAc np nl b ds S=.ok (.bl v) S2/\FlA isl S2 B ch n/\Un (kn ch n) S S2/\S2.length=S.length:=by
 refine⟨S'.take S.length,?_,f.take hk,⟨by rw[vo];have:=u.len;lia,λi h1 h2=>by rw[vI h1];exact u.at_ i h1 h2⟩,by rw[vo];have:=u.len;lia⟩;unfold zAc;rw[xb hl,h];dsimp only;unfold fin;rw[xb (zCu u.len λi d hi hd=>?_),xb (show(D.bl v).low S.length=true from rfl)];by_cases z:i∈kn ch n
 ·obtain⟨es,e⟩:=f.kn_at i z;rw[hd]at e;cases e;exact .inr (zYp es)
 ·exact .inl (by rw[<- u.at_ i hi z];exact hd)
theorem zBx(h:S[n]?=some d):look S (.ref n)=some d:=h
theorem zWq(h:S[n]?=some (islD ks vs)):attX (inC [65]) (sS "places") S (.ref n)=some (.dct true ks vs):=by unfold attX insX;rw[zBx h];rfl
theorem zJh(h:S[n]?=some (latD q t m k)):attX (inC [93]) (sS "rule") S (.ref n)=some q/\attX (inC [93]) (sS "table") S (.ref n)=some t/\attX (inC [93]) (sS "floor") S (.ref n)=some (.ref m)/\attX (inC [93]) (sS "known") S (.ref n)=some (.ref k):=by unfold attX insX;rw[zBx h];exact⟨rfl,rfl,rfl,rfl⟩
theorem zV5(h:S[n]?=some (islD ks vs)):mthX [(65,F),(93,G)] (sS "is_broken") S (.ref n)=some F:=by unfold mthX insX;rw[zBx h];exact xb rfl
theorem zV4(h:S[n]?=some (latD q t m k)):mthX [(65,F),(93,G)] (sS "is_broken") S (.ref n)=some G:=by unfold mthX insX;rw[zBx h];exact xb rfl
theorem zZ1(h:FlA isl S B [] n):zAh [.ref n,cel c] S=.ok (.bl (decide (c∈isl))) S:=by obtain⟨ks,vs,h,k⟩:=h;refine zAk rfl (zBw (zAd (zA1 rfl) (zG7 (zA1 rfl) (zWq h)) ?_)) rfl;show((if zC4 true (cel c)=true then some (decide (cel c∈ks))else none).map D.bl)=_;rw[xb (show zC4 true (cel c)=true from rfl)];show some (D.bl (decide (cel c∈ks)))=_;rw[x3.mpr (k c)]
def BO(isl:List Pt)(r:Fn)(N:Nat):Prop:=∀(ru:Rl) (T:Tb) (td:D) (ch:List Ly) (n B:Nat) (c:Pt) (S:Store),FlA isl S B ch n->ru.ok->Tbl td T->Bt (900-8*ru.sz) T->ru.sz+dp ch<=N->ru.sz<=100->B+ru.lv*wt ch<=1000000->
 ∃S',r [ru.d,td,.ref n,cel c] S=.ok (.bl (ru.sem T (chP isl ch) c)) S'/\FlA isl S' (B+ru.lv*wt ch) ch n/\Un (kn ch n) S S'/\S'.length=S.length
theorem zNn:∀(es:List (Pt × Bool)) {P:Pt->Bool},(∀e∈es,e.2=P e.1)->cel c∈es.map (λe=>cel e.1)->look2 (es.map λe=>cel e.1) (es.map λe=>.bl e.2) (cel c)=some (.bl (P c))
 | [],P,_,h=>nomatch h
 | e::es,P,hP,h=>by
  show(if cel e.1=cel c then some (D.bl e.2)else look2 (es.map λe=>cel e.1) (es.map λe=>.bl e.2) (cel c))=_;by_cases z:cel e.1=cel c
  ·rw[xb z,hP e (.head _),show e.1=c from xJ (by injection z with z;injection z with z _;injection z) (by injection z with z;injection z with _ z;injection z with z _;injection z)]
  ·rw[xc z];refine zNn es (λx hx=>hP x (.tail _ hx)) ?_;rcases xh.mp h with q|q
   ·exact absurd q.symm z
   ·exact q
theorem zYo{es:List (Pt × Bool)}(h:S[k]?=some (knD es))(hn:cel c ∉ es.map λe=>cel e.1)(hl:es.length<=1000000):putD S (.ref k) (cel c) (.bl v)=some (S.set k (knD (es++[(c,v)]))):=by unfold putD;simp only[h];rw[xb ⟨rfl,by rw[xn];exact vL hl (by decide)⟩];unfold put2;rw[xc hn];show _=some (S.set k (.dct true ((es++[(c,v)]).map λe=>cel e.1) ((es++[(c,v)]).map λe=>.bl e.2)));rw[vw,vw];rfl
theorem zZ0{N:Nat}(bo:BO isl r N)(f:FlA isl S B (y::ch) n)(hN:dp (y::ch)<=N)(hB:B+wt (y::ch)<=1000000):
  ∃S',zAj r [.ref n,cel c] S=.ok (.bl (chP isl (y::ch) c)) S'/\FlA isl S' (B+wt (y::ch)) (y::ch) n/\Un (kn (y::ch) n) S S'/\S'.length=S.length:=by
 have w1:1<=wt (y::ch):=zLw f;have f0:=f;obtain⟨h,⟨es,h1,h2,h3⟩,hm,ho,hf⟩:=f;obtain⟨a1,a2,a3,a4⟩:=zJh h;have nt:tB (eOp zHk (eVar 1) (eUn (attX (inC [93]) (sS "known")) (eVar 0))) [some (.ref n),some (cel c)] S=.ok (!decide (cel c∈es.map λe=>cel e.1)) S:=by refine zBu (zAd (zA1 rfl) (zG7 (zA1 rfl) a4) ?_);unfold zHk inO;rw[zBx h1];show((if zC4 true (cel c)=true then some (decide (cel c∈es.map λe=>cel e.1))else none).map λb=>D.bl (!b))=_;rw[xb (show zC4 true (cel c)=true from rfl)];rfl
 have rt:∀(T:Store) (es:List (Pt × Bool)),T[n]?=some (latD y.q.d y.td y.m (n+1))->T[n+1]?=some (knD es)->(∀e∈es,e.2=chP isl (y::ch) e.1)->cel c∈es.map (λe=>cel e.1)->sRet (eOp ixD (eUn (attX (inC [93]) (sS "known")) (eVar 0)) (eVar 1)) [some (.ref n),some (cel c)] T=.rt (.bl (chP isl (y::ch) c)) T:=λT es t0 t1 t2 t3=>by
  refine zBw (zAd (zG7 (zA1 rfl) (zJh t0).2.2.2) (zA1 rfl) ?_);unfold ixD;rw[zBx t1];exact zNn es t2 t3
 by_cases z:cel c∈es.map λe=>cel e.1
 ·rw[xk z]at nt;exact zEt (np:=2) (nl:=2) (b:=zAy r) (ds:=[.ref n,cel c]) rfl (zA2 (zAg nt rfl) (rt S es h h1 h2 z)) .refl (f0.more (by nofun)) f0.lt
 ·rw[xj z]at nt;have w2:wt (y::ch)=y.q.lv*wt ch:=rfl;obtain⟨S1,e1,g1,u1,l1⟩:=bo y.q y.T y.td ch y.m B c S hf ho.ok ho.tb ho.bt hN ho.sz (by rw[<- w2];exact hB);have lt:=hf.lt;have tm:tp ch y.m<=y.m+1:=by cases ch <;> simp[tp]
  have kl:∀(ch:List Ly) (m B:Nat) (S:Store),FlA isl S B ch m->∀i∈kn ch m,i<=m+1:=λch=>by
   induction ch with
   | nil=>exact λm B S _ i hi=>nomatch hi
   | cons y ch ih=>
    intro m B S hh i hi;rcases xh.mp hi with rfl|hi
    ·exact xg _
    ·have:=ih y.m B S hh.2.2.2.2 i hi;have:=hh.2.2.1;lia
  have k0:=kl ch y.m B S hf;have n1:n+1<S.length:=(xG.mp h1).1;have q0:S1[n]?=some (latD y.q.d y.td y.m (n+1)):=by rw[u1.at_ n (by nofun) λhi=>?_];exact h;obtain⟨es',e'⟩:=hf.kn_at n hi;rw[h]at e';cases e'
  have q1:S1[n+1]?=some (knD es):=by rw[u1.at_ (n+1) n1 λhi=>?_];exact h1;have:=k0 _ hi;lia
  obtain⟨b,hb⟩:∃b,b=y.q.sem y.T (chP isl ch) c:=⟨_,rfl⟩
  rw[<- hb]at e1;have pt:sPut putD (eUn (attX (inC [93]) (sS "known")) (eVar 0)) (eVar 1) (zA3 r (zA0 (eUn (attX (inC [93]) (sS "rule")) (eVar 0)) (zA0 (eUn (attX (inC [93]) (sS "table")) (eVar 0)) (zA0 (eUn (attX (inC [93]) (sS "floor")) (eVar 0)) (zA0 (eVar 1) aNil))))) [some (.ref n),some (cel c)] S=.nx [some (.ref n),some (cel c)] (S1.set (n+1) (knD (es++[(c,b)]))):=by rw[sPut,zA6 (zA5 (zG7 (zA1 rfl) a1) (zA5 (zG7 (zA1 rfl) a2) (zA5 (zG7 (zA1 rfl) a3) (zAa (zA1 rfl))))) e1,Rs.then_ok,zG7 (zA1 rfl) (zJh q0).2.2.2,Rs.then_ok,zA1 rfl,Rs.then_ok,zYo q1 z (by nofun)]
  have s0:(S1.set (n+1) (knD (es++[(c,b)])))[n]?=some (latD y.q.d y.td y.m (n+1)):=by rw[ve (by nofun)];exact q0
  have s1:(S1.set (n+1) (knD (es++[(c,b)])))[n+1]?=some (knD (es++[(c,b)])):=by rw[vG (by nofun)]
  have s2:∀e∈es++[(c,b)],e.2=chP isl (y::ch) e.1:=λe he=>by
   rcases vm.mp he with he|he
   ·exact h2 e he
   ·rw[xZ.mp he];exact hb
  refine zEt (np:=2) (nl:=2) (b:=zAy r) (ds:=[.ref n,cel c]) rfl (zA2 (zBc nt pt) (rt _ _ s0 s1 s2 (by simp))) ?_ ⟨s0,⟨_,s1,s2,by rw[xE,ub];lia⟩,hm,ho,?_⟩ f0.lt
  ·refine(u1.more λi hi=>.tail _ hi).trans ⟨by simp,λi _ hi=>ve λe=>hi (by rw[<- e];exact .head _)⟩
  ·exact g1.cong (by rw[w2];exact xg _) λi e hi h2=>by rw[ve (by nofun)];exact hi
end
end
section
open Classical
theorem zHc:∀l:List Str,zC6 (l.map D.str)=true
 | []=>rfl
 | a::l=>zHc l
theorem zJq:∀l:List Str,depL (l.map D.str)<=60
 | []=>by unfold depL;exact xC _
 | a::l=>by
  have:=zJq l;rw[xt];unfold depL D.dep;lia
theorem zQw{l:List Str}:okIn (.str w) (l.map D.str):=⟨rfl,zHc l,zJq l,λd hd=>by obtain⟨x,_,rfl⟩:=xw.mp hd;rfl⟩
theorem zQz{l:List Str}:D.str w∈l.map D.str <-> w∈l:=⟨λh=>by obtain⟨x,hx,e⟩:=xw.mp h;cases e;exact hx,λh=>xw.mpr ⟨w,h,rfl⟩⟩
theorem in_w{l:List Str}:inD S (.str w) (.tup (l.map D.str))=some (.bl (decide (w∈l))):=by show((if okIn (.str w) (l.map D.str)then some (decide (D.str w∈l.map D.str))else none).map D.bl)=_;rw[xb zQw,show decide (D.str w∈l.map D.str)=decide (w∈l)from x3.mpr zQz];rfl
theorem zOc :eqY S (.str a) (.str b)=some (.bl (decide (a=b))):=rfl
noncomputable abbrev wd (w:Nat):String:=if w=0 then "all" else if w=1 then "any" else "least"
theorem zEd(w:Nat):wd w="all"\/wd w="any"\/wd w="least":=by
 unfold wd;split
 ·exact .inl rfl
 ·split
  ·exact .inr (.inl rfl)
  ·exact .inr (.inr rfl)
theorem zVp(w:Nat)(k:Int)(l:List D):∃m,hdD w k l=.tup (tx (wd w)::m)/\atL (tx (wd w)::m) (-1)=some (.tup l):=by
 unfold hdD wd;split
 ·exact⟨_,rfl,rfl⟩
 ·split
  ·exact⟨_,rfl,rfl⟩
  ·exact⟨_,rfl,rfl⟩
noncomputable abbrev pa1:TM:=tB (eOp inD (eVar 1) (eTup (zA0 (eC (.str (PySem.Str.ofString "cell"))) (zA0 (eC (.str (PySem.Str.ofString "name"))) aNil))))
noncomputable abbrev pa2:TM:=tB (eOp inD (eVar 1) (eTup (zA0 (eC (.str (PySem.Str.ofString "all"))) (zA0 (eC (.str (PySem.Str.ofString "any"))) (zA0 (eC (.str (PySem.Str.ofString "least"))) aNil)))))
theorem pa1_at :pa1 [a,some (.str w)] S=.ok (decide (w∈[sS "cell",sS "name"])) S:=zBu (zAd (zA1 rfl) rfl (in_w (l:=[sS "cell",sS "name"])))
theorem pa2_at :pa2 [a,some (.str w)] S=.ok (decide (w∈[sS "all",sS "any",sS "least"])) S:=zBu (zAd (zA1 rfl) rfl (in_w (l:=[sS "all",sS "any",sS "least"])))
theorem zXq{k:Int}:zE3 [hdD w k (dL ps)] S=.ok (.tup (dL ps)) S:=by
 obtain⟨m,e,e2⟩:=zVp w k (dL ps);rw[e];have n1:sS (wd w) ∉ [sS "cell",sS "name"]:=by rcases zEd w with h|h|h <;> rw[h] <;> decide +kernel
 have n2:sS (wd w)∈[sS "all",sS "any",sS "least"]:=by rcases zEd w with h|h|h <;> rw[h] <;> decide +kernel
 refine zAk rfl (zA2 (e:=[some (.tup (tx (wd w)::m)),some (tx (wd w))]) (S1:=S) (by simp_arith [xB]) (zA2 (zAg ?_ rfl) (zBh (zBc ?_ ?_)))) (zOw _ ps)
 ·exact pa1_at.trans (by rw[xj n1])
 ·exact pa2_at.trans (by rw[xk n2])
 ·simp_arith [negD,e2]
theorem wq(h:env[0]?=some (some (.tup (tx w::m))))(e:decide (sS w=sS v)=b):tB (eOp eqY (eOp ixD (eVar 0) (eC (.int 0))) (eC (.str (sS v)))) env S=.ok b S:=by rw[<- e];exact zBu (zAd (x:=tx w) (zAd (x:=.tup (tx w::m)) (y:=.int 0) (zA1 h) rfl (atN (k:=0) rfl rfl)) rfl zOc)
theorem zR5{k:Int}{ps:List Rl}:zE4 [hdD w k (dL ps)] S=.ok (.int (lst w k ps.length)) S:=by
 have ln:lenB S [.tup (dL ps)]=some (.int (ps.length:Nat)):=by rw[zGj,zC8,xn]
 unfold hdD lst;split
 ·have b:zD5 [some (.tup [tx "all",.tup (dL ps)])] S=.rt (.int (ps.length:Nat)) S:=by
   refine zA2 (zAg (wq rfl (by decide +kernel)) rfl) (zBw ?_);rw[eIf,wq (w:="all") rfl (xj (by decide +kernel)),Rs.bind_ok,xc (by decide)];simp_arith [ln]
  exact zAk rfl b rfl
 ·split
  ·have b:zD5 [some (.tup [tx "any",.tup (dL ps)])] S=.rt (.int 1) S:=by
    refine zA2 (zAg (wq rfl (by decide +kernel)) rfl) (zBw ?_);rw[eIf,wq (w:="any") rfl (xk rfl),Rs.bind_ok,xb rfl];rfl
   exact zAk rfl b rfl
  ·have b:zD5 [some (.tup [tx "least",.int k,.tup (dL ps)])] S=.rt (.int k) S:=by
    refine zBh (zBc (wq rfl (by decide +kernel)) ?_);simp_arith [xB]
   exact zAk rfl b rfl
theorem zMg{S:Store}:(S++a::T).set S.length b=S++b::T:=by rw[List.set_append_right _ _ (xg _),Nat.sub_self];rfl
theorem zDe{S:Store}:(S++a::T)[S.length]?=some a:=by rw[xS (xg _),Nat.sub_self];rfl
theorem zHn{n:Nat}{b:D}:∀S:Store,keeps n (S++[a]) (S++b::T)->a=b\/b.low n=true
 | [],h=>h.1
 | _::S,h=>zHn S h.2
theorem zFl{S:Store}{c:Nat}{okC:Int->Bool}{f:Str}{v:EM}{l:List D}(h0:env[0]?=some (some (.ref S.length)))(hv:v env S1=.ok y (S++.st (.bl true::.int c::l)::T))(hc:okC c=true)(hl:l.length<1000):
  sAtt okC f (eVar 0) v env S1=.nx env (S++.st (.bl true::.int c::putL f y l)::T):=by
 rw[sAtt,hv,Rs.then_ok,zA1 h0,Rs.then_ok];dsimp only;rw[zDe];dsimp only;rw[xb ⟨hc,hl⟩,zMg]
theorem zVw{S S':Store}(h:S'.length=S.length):fin S .non S'=.ok .non S':=by
 unfold fin;by_cases k:keeps S.length S S'
 ·rw[xb k,xb (show D.non.low S.length=true from rfl),<- h,uG]
 ·rw[xc k]
theorem zKk{np nl:Nat}{b:SM}{ds:List D}{S S':Store}{e:Env}(hl:ds.length=np)(h:b (ds.map some++List.replicate (nl-np) none) S=.nx e S'):zAc np nl b ds S=fin S .non S':=by unfold zAc;rw[xb hl,h]
theorem zYi{S:Store}{a:AM}(ha:a env S=.ok [q,t,.ref m] S):eMk 93 zB0 a env S=.ok (.ref S.length) (S++[latD q t m (S.length+1),.dct true [] []]):=by
 have e:zB0 [.ref S.length,q,t,.ref m] (S++[.st [.bl true,.int 93]])=.ok .non (S++[latD q t m (S.length+1),.dct true [] []]):=by
  have b:zC9 [some (.ref S.length),some q,some t,some (.ref m)] (S++[.st [.bl true,.int 93]])=.nx [some (.ref S.length),some q,some t,some (.ref m)] (S++[latD q t m (S.length+1),.dct true [] []]):=by refine zA2 (zFl (c:=93) (l:=[]) (T:=[]) rfl (zA1 rfl) rfl (by simp)) ?_;refine zA2 (zFl (c:=93) (l:=[.str (sS "rule"),q]) (T:=[]) rfl (zA1 rfl) rfl (by simp)) ?_;refine zA2 (zFl (c:=93) (l:=[.str (sS "rule"),q,.str (sS "table"),t]) (T:=[]) rfl (zA1 rfl) rfl (by simp)) ?_;refine zFl (c:=93) (l:=[.str (sS "rule"),q,.str (sS "table"),t,.str (sS "floor"),.ref m]) (T:=[.dct true [] []]) (y:=.ref (S.length+1)) rfl ?_ rfl (by simp);show Rs.ok (D.ref (S++[D.st _]).length) ((S++[D.st _])++[D.dct true [] []])=_;rw[xE,List.append_assoc];rfl
  refine(zKk (np:=4) (nl:=4) (ds:=[.ref S.length,q,t,.ref m]) rfl b).trans ?_;unfold fin;rw[xc λk=>?_];rcases zHn S k with z|z
  ·injection z with z;injection z with _ z;injection z with _ z;cases z
  ·have z:(true && (true && (true && (q.low _ && (true && (t.low _ && (true && (decide (m<_) && (true && (decide (S.length+1<(S++[D.st [.bl true,.int 93]]).length) && true))))))))))=true:=z;simp at z
 rw[eMk,ha,Rs.bind_ok];refine(congrArg (λx:Rs D=>x.bind _) e).trans ?_;rw[Rs.bind_ok,xb rfl]
theorem zYj{S:Store}{a:AM}(ha:a env S=.ok [r] S)(hl:∀S,zCc [r] S=.ok (.dct true ks vs) S):eMk 65 zAo a env S=.ok (.ref S.length) (S++[islD ks vs]):=by
 have e:zAo [.ref S.length,r] (S++[.st [.bl true,.int 65]])=.ok .non (S++[islD ks vs]):=by
  have b:zC0 [some (.ref S.length),some r] (S++[.st [.bl true,.int 65]])=.nx [some (.ref S.length),some r] (S++[islD ks vs]):=
   zFl (c:=65) (l:=[]) (T:=[]) rfl (zA6 (zAa (zA1 rfl)) (hl _)) rfl (by simp)
  exact(zKk (np:=2) (nl:=2) (ds:=[.ref S.length,r]) rfl b).trans (zVw (by simp))
 rw[eMk,ha,Rs.bind_ok];refine(congrArg (λx:Rs D=>x.bind _) e).trans ?_;rw[Rs.bind_ok,xb rfl]
section
variable {isl:List Pt}{r:Fn}{N n B:Nat}{T:Tb}{td x0 x1:D}{ch:List Ly}{c:Pt}{S:Store}
noncomputable abbrev pbB (r:Fn):SM:=sSeq (sIf (tTru (zA3 r (zA0 (eVar 7) (zA0 (eVar 2) (zA0 (eVar 3) (zA0 (eVar 4) aNil)))))) (sSet 5 (eOp subD (eVar 5) (eC (.int 1)))) (sSet 6 (eOp subD (eVar 6) (eC (.int 1))))) (sIf (tOr (tB (eOp eqI (eVar 5) (eC (.int 0)))) (tB (eOp ltN (eVar 6) (eC (.int 0))))) zMm zAl)
theorem zN4(bo:BO isl r N)(tb:Tbl td T):∀(l:List Rl) (lk sp:Int) (o:Option D) (B:Nat) (S:Store),okL l->FlA isl S B ch n->(∀ru∈l,ru.sz+dp ch<=N/\ru.sz<=100/\Bt (900-8*ru.sz) T)->lk+sp=l.length->1<=lk->0<=sp->B+lvL l*wt ch<=1000000->
  ∃(lk' sp':Int) (o':Option D) (S':Store),forL [] (gName 7) (pbB r) (dL l) [some x0,some x1,some td,some (.ref n),some (cel c),some (.int lk),some (.int sp),o] S=.nx [some x0,some x1,some td,some (.ref n),some (cel c),some (.int lk'),some (.int sp'),o'] S' /\
   decide (lk'=0)=decide (lk<=(semN l T (chP isl ch) c:Nat))/\FlA isl S' (B+lvL l*wt ch) ch n/\Un (kn ch n) S S'/\S'.length=S.length
 | [],lk,sp,o,B,S,_,_,_,h1,h2,h3,_=>by
  exfalso;rw[vJ]at h1;lia
 | ru::l,lk,sp,o,B,S,ok,f,hs,h1,h2,h3,h4=>by
  rw[okL]at ok;rw[lvL,Nat.add_mul]at h4 ⊢;obtain⟨q1,q2,q3⟩:=hs ru (.head _);obtain⟨S1,e1,g1,u1,l1⟩:=bo ru T td ch n B c S f ok.1 tb q3 q1 q2 (by nofun);rw[xo]at h1;have ht:tTru (zA3 r (zA0 (eVar 7) (zA0 (eVar 2) (zA0 (eVar 3) (zA0 (eVar 4) aNil))))) [some x0,some x1,some td,some (.ref n),some (cel c),some (.int lk),some (.int sp),some ru.d] S=.ok (ru.sem T (chP isl ch) c) S1:=by rw[tTru,zA6 (zA5 (zA1 rfl) (zA5 (zA1 rfl) (zA5 (zA1 rfl) (zAa (zA1 rfl))))) e1];rfl
  have sl:=zIj l T (chP isl ch) c;have go:∀(lk' sp':Int),sIf (tTru (zA3 r (zA0 (eVar 7) (zA0 (eVar 2) (zA0 (eVar 3) (zA0 (eVar 4) aNil)))))) (sSet 5 (eOp subD (eVar 5) (eC (.int 1)))) (sSet 6 (eOp subD (eVar 6) (eC (.int 1)))) [some x0,some x1,some td,some (.ref n),some (cel c),some (.int lk),some (.int sp),some ru.d] S=.nx [some x0,some x1,some td,some (.ref n),some (cel c),some (.int lk'),some (.int sp'),some ru.d] S1->
    lk'+sp'=l.length->0<=lk'->-1<=sp'->(lk'<=(semN l T (chP isl ch) c:Nat) <-> lk<=(semN (ru::l) T (chP isl ch) c:Nat))->
    ∃(lk' sp':Int) (o':Option D) (S':Store),forL [] (gName 7) (pbB r) (dL (ru::l)) [some x0,some x1,some td,some (.ref n),some (cel c),some (.int lk),some (.int sp),o] S=.nx [some x0,some x1,some td,some (.ref n),some (cel c),some (.int lk'),some (.int sp'),o'] S' /\
     decide (lk'=0)=decide (lk<=(semN (ru::l) T (chP isl ch) c:Nat))/\FlA isl S' (B+(ru.lv*wt ch+lvL l*wt ch)) ch n/\Un (kn ch n) S S'/\S'.length=S.length:=λlk' sp' e k1 k2 k3 k4=>by
   have tt:tOr (tB (eOp eqI (eVar 5) (eC (.int 0)))) (tB (eOp ltN (eVar 6) (eC (.int 0)))) [some x0,some x1,some td,some (.ref n),some (cel c),some (.int lk'),some (.int sp'),some ru.d] S1=.ok (decide (lk'=0\/sp'<0)) S1:=by
    refine zPs (p:=lk'=0) (zBu (zAd (zA1 rfl) rfl zCi)) (λc=>by rw[xk (.inl c)]) λc1=>?_
    refine(zBu (zAd (zA1 rfl) rfl (lt_int (y:=0)))).trans ?_;rw[show decide (sp'<0)=decide (lk'=0\/sp'<0)from x3.mpr ⟨.inr,λe=>e.resolve_left c1⟩]
   have fl:∀q,forL [] (gName 7) (pbB r) (dL (ru::l)) [some x0,some x1,some td,some (.ref n),some (cel c),some (.int lk),some (.int sp),o] S=q <-> (match pbB r [some x0,some x1,some td,some (.ref n),some (cel c),some (.int lk),some (.int sp),some ru.d] S with
     | .nx e S1=>forL [] (gName 7) (pbB r) (dL l) e S1
     | .ct e S1=>forL [] (gName 7) (pbB r) (dL l) e S1
     | .bk e S1=>.nx e S1
     | q=>q)=q:=λq=>by
    rw[dL,forL,xb zAz];exact Iff.rfl
   by_cases z:lk'=0\/sp'<0
   ·rw[xk z]at tt;refine⟨lk',sp',some ru.d,S1,(fl _).mpr ?_,x3.mpr ?_,g1.more (by nofun),u1,l1⟩
    ·rw[show pbB r _ S=_ from(zA2 e (zBc tt rfl))];rfl
    ·rw[<- k4];lia
   ·rw[xj z]at tt;obtain⟨lk2,sp2,o2,S2,e2,d2,g2,u2,l2⟩:=zN4 bo tb l lk' sp' (some ru.d) (B+ru.lv*wt ch) S1 ok.2 g1 (λx hx=>hs x (.tail _ hx)) k1 (by nofun) (by nofun) (by nofun);refine⟨lk2,sp2,o2,S2,(fl _).mpr ?_,d2.trans (x3.mpr k4),g2.more (by nofun),u1.trans u2,l2.trans l1⟩;rw[show pbB r _ S=_ from(zA2 e (zAg tt rfl))];exact e2
  by_cases b:ru.sem T (chP isl ch) c=true
  ·rw[b]at ht;refine go (lk-1) sp (zVn ht (by simp_arith [xB])) (by nofun) (by nofun) (by nofun) ?_;rw[semN,xb b];lia
  ·rw[vB.mpr b]at ht;refine go lk (sp-1) (zK7 ht (by simp_arith [xB])) (by nofun) (by nofun) (by nofun) ?_;rw[semN,xc b,vt]
theorem zFs:∀{l:List Rl}{ru:Rl},ru∈l->ru.sz<=szL l
 | a::l,ru,h=>by
  rw[szL];rcases xh.mp h with rfl|h
  ·lia
  ·have:=zFs h;lia
theorem w4(h:env[4]?=some (some (tx w)))(e:decide (sS w=sS v)=b):tB (eOp eqY (eVar 4) (eC (.str (sS v)))) env S=.ok b S:=by rw[<- e];exact zBu (zAd (x:=tx w) (zA1 h) rfl zOc)
theorem zV1(bo:BO isl r N):BO isl (zAc 4 5 (zCl r)) (N+1):=by
 intro ru T td ch n B c S f ok tb bt hN h100 hB;have wp:=zLw f;have fin:∀(z:D) (v:Bool) (S':Store),ru.d=z->zCl r [some z,some td,some (.ref n),some (cel c),none] S=.rt (.bl v) S'->v=ru.sem T (chP isl ch) c->FlA isl S' (B+ru.lv*wt ch) ch n->Un (kn ch n) S S'->
   ∃S',zAc 4 5 (zCl r) [ru.d,td,.ref n,cel c] S=.ok (.bl (ru.sem T (chP isl ch) c)) S'/\FlA isl S' (B+ru.lv*wt ch) ch n/\Un (kn ch n) S S'/\S'.length=S.length:=λz v S' ez e ev g u=>by
  rw[ez,<- ev];exact zEt (np:=4) (nl:=5) (ds:=[z,td,.ref n,cel c]) rfl e u g f.lt
 have st:∀(w:String) (m:List D),sSet 4 (eOp ixD (eVar 0) (eC (.int 0))) [some (.tup (tx w::m)),some td,some (.ref n),some (cel c),none] S=.nx [some (.tup (tx w::m)),some td,some (.ref n),some (cel c),some (tx w)] S:=λw m=>by simp_arith [xB]
 have ld:∀(p:Pt) (S:Store),Bp 14 p->zGs [td,cel p] S=.ok (cel (ap T p)) S:=λp S hp=>zNp tb (by decide) (uN (by nofun)) bt hp
 cases ru with
 | cell x y=>
  rw[Rl.ok]at ok;rw[Rl.lv,Nat.one_mul]at hB;have l1:=ld (x,y) S ok;have ar:zA0 (zA3 zC7 (zA0 (eVar 3) (zA0 (zA3 zGs (zA0 (eVar 1) (zA0 (eSl slD (eVar 0) (pYes (eC (.int 1))) pNo) aNil))) aNil))) aNil [some (.tup [tx "cell",.int x,.int y]),some td,some (.ref n),some (cel c),some (tx "cell")] S=.ok [cel (ad c (ap T (x,y)))] S:=by have s1:slD S (.tup [tx "cell",.int x,.int y]) (some 1) none=some (cel (x,y)):=rfl;have k1:=zG5 (S:=S) (p:=c) (v:=ap T (x,y));simp_arith [s1,l1,k1]
  have mt:∃S',eMth [(65,zAh),(93,zAj r)] (sS "is_broken") (eVar 2) (zA0 (zA3 zC7 (zA0 (eVar 3) (zA0 (zA3 zGs (zA0 (eVar 1) (zA0 (eSl slD (eVar 0) (pYes (eC (.int 1))) pNo) aNil))) aNil))) aNil) [some (.tup [tx "cell",.int x,.int y]),some td,some (.ref n),some (cel c),some (tx "cell")] S=.ok (.bl (chP isl ch (ad c (ap T (x,y))))) S'/\FlA isl S' (B+wt ch) ch n/\Un (kn ch n) S S':=by
   cases ch with
   | nil=>
    obtain⟨ks,vs,h,k⟩:=f;refine⟨S,?_,⟨ks,vs,h,k⟩,.refl⟩;rw[eMth,zA1 rfl,Rs.bind_ok,zV5 h];dsimp only;rw[ar,Rs.bind_ok];exact zZ1 (B:=B) ⟨ks,vs,h,k⟩
   | cons y ch=>
    obtain⟨S',e,g,u,_⟩:=zZ0 (c:=ad c (ap T (x,_))) bo f (by rw[Rl.sz]at hN;lia) hB;refine⟨S',?_,g,u⟩;rw[eMth,zA1 rfl,Rs.bind_ok,zV4 f.1];dsimp only;rw[ar,Rs.bind_ok];exact e
  obtain⟨S',e,g,u⟩:=mt;exact fin _ _ S' (by rw[Rl.d]) (zA2 (st "cell" _) (zBh (zBc (w4 rfl (xk rfl)) (zBw e)))) (by rw[Rl.sem]) (by rw[Rl.lv,Nat.one_mul];exact g) u
 | at_ x y r0=>
  rw[Rl.ok]at ok;rw[Rl.lv]at hB;rw[Rl.sz]at hN h100 bt;obtain⟨S',e,g,u,_⟩:=bo r0 T td ch n B (ad c (ap T (x,y))) S f ok.2 tb (bt.mono (by nofun)) (by nofun) (by nofun) hB;have l1:=ld (x,y) S ok.1;refine fin _ _ S' (by rw[Rl.d]) (zA2 (st "at" _) (zA2 (zAg (w4 rfl (by decide +kernel)) rfl) (zBh (zBc (w4 rfl (xk rfl)) ?_)))) (by rw[Rl.sem]) (by rw[Rl.lv];exact g) u;have s1:slD S (.tup [tx "at",.int x,.int y,r0.d]) (some 1) (some 3)=some (cel (x,y)):=rfl;have k1:=zG5 (S:=S) (p:=c) (v:=ap T (x,y));simp_arith [s1,l1,k1,e]
 | by_ a b u v r0=>
  rw[Rl.ok]at ok;rw[Rl.lv]at hB;rw[Rl.sz]at hN h100 bt;have wi:=zLx (S:=S) (s:=(a,b,u,v)) tb (k:=4) (by decide) (uN (by nofun)) bt ok.1;obtain⟨S',e,g,un,_⟩:=bo r0 (cmpT T (a,b,u,v)) _ ch n B c S f ok.2 (.inl rfl) ((bt.cmp (s:=(a,b,u,v)) (j:=4) ok.1).mono (by nofun)) (by nofun) (by nofun) hB;refine fin _ _ S' (by rw[Rl.d]) (zA2 (st "by" _) (zA2 (zAg (w4 rfl (by decide +kernel)) rfl) (zA2 (zAg (w4 rfl (by decide +kernel)) rfl) (zBh (zBc (w4 rfl (xk rfl)) ?_))))) (by rw[Rl.sem]) (by rw[Rl.lv];exact g) un;simp_arith [wi,e]
 | then_ q r0=>
  rw[Rl.ok]at ok;rw[Rl.lv]at hB;rw[Rl.sz]at hN h100 bt;have nl:n<S.length:=by have:=f.lt;cases ch <;> simp only[tp]at this <;> lia
  have wq:wt (⟨q,T,td,n⟩::ch)=q.lv*wt ch:=rfl;have mq:q.lv*r0.lv*wt ch=r0.lv*(q.lv*wt ch):=by rw[Nat.mul_comm q.lv,Nat.mul_assoc]
  obtain⟨S',e,g,un,_⟩:=bo r0 T td (⟨q,T,td,n⟩::ch) S.length B c (S++[latD q.d td n (S.length+1),.dct true [] []]) ⟨zDe,⟨[],by rw[xS (by nofun)];simp,(λe h=>nomatch h),xC _⟩,nl,⟨tb,bt.mono (by show 900-8*(1+(q.sz+r0.sz))<=900-8*q.sz;lia),ok.1,by show q.sz<=100;lia⟩,f.app _⟩ ok.2 tb (bt.mono (by nofun)) (by show r0.sz+(q.sz+dp ch)<=N;lia) (by nofun) (by rw[wq,<- mq];exact hB);refine fin _ _ S' (by rw[Rl.d]) (zA2 (st "then" _) (zA2 (zAg (w4 rfl (by decide +kernel)) rfl) (zA2 (zAg (w4 rfl (by decide +kernel)) rfl) (zA2 (zAg (w4 rfl (by decide +kernel)) rfl) (zBh (zBc (w4 rfl (xk rfl)) (zBw (zA6 ?_ e)))))))) (by rw[Rl.sem];rfl) (by rw[Rl.lv,mq,<- wq];exact g.2.2.2.2) ⟨xm (by simp) un.len,λi h1 h2=>?_⟩
  ·refine zA5 (zAd (y:=.int 2) (zA1 rfl) rfl rfl) (zA5 (zA1 rfl) (zA5 (zYi ?_) (zAa (zA1 rfl))));exact zA5 (zAd (y:=.int 1) (zA1 rfl) rfl rfl) (zA5 (zA1 rfl) (zAa (zA1 rfl)))
  ·rw[un.at_ i (by rw[xE];lia) λz=>?_,xT h1];rcases xh.mp z with z|z
   ·lia
   ·exact h2 z
 | many w k ps=>
  rw[Rl.ok]at ok;rw[Rl.lv]at hB;rw[Rl.sz]at hN h100 bt;obtain⟨m,em,_⟩:=zVp w k (dL ps);obtain⟨lk,sp,o,S',e,dd,g,un,_⟩:=zN4 (x0:=.int (lst w k ps.length)) (x1:=.tup (dL ps)) bo tb ps (lst w k ps.length) ((ps.length:Nat)-lst w k ps.length) none B S ok.2 f (λx hx=>by
   have:=zFs hx;exact⟨by nofun,by nofun,bt.mono (by nofun)⟩) (by nofun) ok.1.1 (by have:=ok.1.2.1;lia) hB
  have ln:lenB S [.tup (dL ps)]=some (.int (ps.length:Nat)):=by rw[zGj,zC8,xn]
  have pb:zCk r [some (.int (lst w k ps.length)),some (.tup (dL ps)),some td,some (.ref n),some (cel c),none,none,none] S=.rt (.bl (decide (lk=0))) S':=by
   refine zA2 (e:=[some (.int (lst w k ps.length)),some (.tup (dL ps)),some td,some (.ref n),some (cel c),some (.int (lst w k ps.length)),none,none]) (S1:=S) (by simp_arith [xB]) (zA2 (e:=[some (.int (lst w k ps.length)),some (.tup (dL ps)),some td,some (.ref n),some (cel c),some (.int (lst w k ps.length)),some (.int ((ps.length:Nat)-lst w k ps.length)),none]) (S1:=S) (by simp_arith [ln]) (zA2 (e:=[some (.int (lst w k ps.length)),some (.tup (dL ps)),some td,some (.ref n),some (cel c),some (.int lk),some (.int sp),o]) (S1:=S') ?_ ?_))
   ·rw[sFor,zE2 (zA1 rfl),Rs.then_ok];exact e
   ·exact zBw (zAd (zA1 rfl) rfl zCi)
  obtain⟨S2,e2,g2,u2,_⟩:=zEt (np:=5) (nl:=8) (b:=zCk r) (ds:=[.int (lst w k ps.length),.tup (dL ps),td,.ref n,cel c]) rfl pb un g f.lt;have n4:∀v:String,(v="cell"\/v="at"\/v="by"\/v="then")->decide (sS (wd w)=sS v)=false:=λv hv=>by
   rcases zEd w with z|z|z <;> rw[z] <;> rcases hv with rfl|rfl|rfl|rfl <;> decide +kernel
  refine fin (.tup (tx (wd w)::m)) _ S2 (by rw[Rl.d,em]) (zA2 (st (wd w) _) (zA2 (zAg (w4 rfl (n4 _ (.inl rfl))) rfl) (zA2 (zAg (w4 rfl (n4 _ (.inr (.inl rfl)))) rfl) (zA2 (zAg (w4 rfl (n4 _ (.inr (.inr (.inl rfl))))) rfl) (zA2 (zAg (w4 rfl (n4 _ (.inr (.inr (.inr rfl))))) rfl) (zBw (zA6 ?_ e2))))))) (by rw[Rl.sem];exact dd) (by rw[Rl.lv];exact g2) u2;have l1:=zR5 (S:=S) (w:=w) (k:=k) (ps:=ps);have p1:=zXq (S:=S) (w:=w) (k:=k) (ps:=ps);rw[em]at l1 p1;exact zA5 (zA6 (zAa (zA1 rfl)) l1) (zA5 (zA6 (zAa (zA1 rfl)) p1) (zA5 (zA1 rfl) (zA5 (zA1 rfl) (zAa (zA1 rfl)))))
theorem zYf:∀N:Nat,BO isl (zCb N) N
 | 0=>λru T td ch n B c S f ok tb bt hN=>by
  have:=ru.pos;exfalso;lia
 | N+1=>zV1 (zYf N)
end
theorem zP7(h:cel p=cel q):p=q:=by
 injection h with h
 injection h with h1 h
 injection h with h2 _
 exact xJ (D.int.inj h1) (D.int.inj h2)
theorem zVg:∀(ps:List (D × D)) (a:List D × List D) (x:D),x∈(putAll a ps).1 <-> x∈a.1\/∃p∈ps,x=p.1
 | [],a,x=>by show x∈a.1 <-> _;simp
 | p::ps,a,x=>by
  show x∈(putAll (put2 a.1 a.2 p.1 p.2) ps).1 <-> _;rw[zVg ps];have:x∈(put2 a.1 a.2 p.1 p.2).1 <-> x∈a.1\/x=p.1:=by
   unfold put2;by_cases c:p.1∈a.1
   ·rw[xb c];exact⟨.inl,λz=>z.elim id λe=>by rw[e];exact c⟩
   ·rw[xc c];simp
  rw[this];simp only[xh,exists_eq_or_imp,or_assoc]
theorem low_iff{n:Nat}:∀{l:List D},lowL n l=true <-> ∀x∈l,x.low n=true
 | []=>⟨λ_ x hx=>(nomatch hx),λ_=>rfl⟩
 | a::l=>by
  show((a.low n && lowL n l)=true) <-> _;rw[xi,low_iff (l:=l)];simp
theorem zJw{n:Nat}{v:D}(hv:v.low n=true):∀(ks vs:List D),(∀x∈vs,x.low n=true)->∀x∈repl2 ks vs k v,x.low n=true
 | [],vs,h,x,hx=>by cases vs <;> exact absurd hx (by unfold repl2;simp)
 | a::r,[],h,x,hx=>absurd hx (by unfold repl2;simp)
 | a::r,w::t,h,x,hx=>by
  unfold repl2 at hx;rcases xh.mp hx with e|e
  ·rw[e];by_cases c:a=k
   ·rw[xb c];exact hv
   ·rw[xc c];exact h w (.head _)
  ·exact zJw hv r t (λy hy=>h y (.tail _ hy)) x e
theorem zMt{n:Nat}:∀(ps:List (D × D)) (a:List D × List D),(∀x∈a.2,x.low n=true)->(∀p∈ps,p.2.low n=true)->∀x∈(putAll a ps).2,x.low n=true
 | [],a,h,_=>h
 | p::ps,a,h,hp=>by
  refine zMt ps (put2 a.1 a.2 p.1 p.2) ?_ λq hq=>hp q (.tail _ hq)
  unfold put2;by_cases c:p.1∈a.1
  ·rw[xb c];exact zJw (hp p (.head _)) _ _ h
  ·rw[xc c];intro x hx;rcases vm.mp hx with z|z
   ·exact h x z
   ·rw[xZ.mp z];exact hp p (.head _)
theorem zFx:∀l:List Pt,pairsOf (l.map λc=>.tup [cel c,.bl true])=some (l.map λc=>(cel c,.bl true))
 | []=>rfl
 | p::l=>by
  show(if zC4 true (cel p)=true then(pairsOf (l.map λc=>D.tup [cel c,.bl true])).map ((cel p,D.bl true)::·)else none)=_;rw[zFx l];rfl
theorem zNm{r:List Pt}(hl:r.length<=1000):∃ks vs,(∀S,zCc [rowD r] S=.ok (.dct true ks vs) S)/\∀c:Pt,cel c∈ks <-> c∈r:=by
 have m9:1000<=most:=by decide
 have c:∀S,(zB2 1 [] (iVal (eVar 0)) (gName 0) tYes (eTup (zA0 (eVar 0) (zA0 (eC (.bl true)) aNil)))) [some (rowD r)] S=.ok (.lst (r.map λc=>.tup [cel c,.bl true])) S:=λS=>by
  refine zIw (xs:=r) (h:=cel) (gd:=[]) (λenv=>∃o,env=[o]) ?_ zAz ⟨none,rfl⟩ (by nofun) ?_
  ·have w:zFp S (rowD r)=some ⟨r.map cel,[]⟩:=rfl;simp only[iVal,eVar,uu,Rs.bind_ok,w,zF4]
  ·rintro x hx env ⟨o,rfl⟩;exact⟨[some (cel x)],by simp_arith [xB],⟨_,rfl⟩,by simp_arith [xB]⟩
 have km:∀x,x∈(putAll ([],[]) (r.map λc=>(cel c,D.bl true))).1->∃c∈r,x=cel c:=λx hx=>by
  rcases(zVg _ _ x).mp hx with z|⟨p,hp,e⟩
  ·cases z
  ·obtain⟨q,hq,e2⟩:=xw.mp hp;exact⟨q,hq,by rw[e,<- e2]⟩
 have dq:∀S,zOk S [.lst (r.map λc=>.tup [cel c,.bl true])]=some (.dct true (putAll ([],[]) (r.map λc=>(cel c,D.bl true))).1 (putAll ([],[]) (r.map λc=>(cel c,D.bl true))).2):=λS=>by
  show(match pairsOf (r.map λc=>.tup [cel c,.bl true])with|some ps=>if ps.length<=most then some (D.dct true (putAll ([],[]) ps).1 (putAll ([],[]) ps).2)else none|none=>none)=_;rw[zFx];show(if(r.map λc=>(cel c,D.bl true)).length<=most then _ else none)=_;rw[xb (by rw[xn];lia)]
 refine⟨(putAll ([],[]) (r.map λc=>(cel c,D.bl true))).1,(putAll ([],[]) (r.map λc=>(cel c,D.bl true))).2,λS=>zAk rfl ?_ ?_,λc=>⟨λh=>?_,λh=>?_⟩⟩
 ·show(sRet (eCB zOk (zA0 _ aNil))) [some (rowD r)] S=_;simp only[sRet,eCB,zA0,aNil,c,Rs.bind_ok,Rs.then_ok,dq,zF4]
 ·show(lowL S.length _ && lowL S.length _)=true;rw[low_iff.mpr λx hx=>(by obtain⟨c,_,rfl⟩:=km x hx;rfl),low_iff.mpr (zMt _ _ (λx hx=>absurd hx (by simp)) λp hp=>by obtain⟨c,_,rfl⟩:=xw.mp hp;rfl)];rfl
 ·obtain⟨q,hq,e⟩:=km _ h;rw[zP7 e];exact hq
 ·exact(zVg _ _ _).mpr (.inr ⟨(cel c,.bl true),xw.mpr ⟨c,h,rfl⟩,rfl⟩)
noncomputable abbrev br (ru:Rl) (isl:List Pt) (c:Pt):Bool:=ru.sem idT (λz=>decide (z∈isl)) c
theorem zPf{ru:Rl}{isl:List Pt}(ok:ru.ok)(hs:ru.sz<=40)(hv:ru.lv<=1000000)(hl:isl.length<=1000):zAb [ru.d,rowD isl,cel c] S=.ok (.bl (br ru isl c)) S:=by
 obtain⟨ks,vs,l1,l2⟩:=zNm hl;have mk:eMk 65 zAo (zA0 (eVar 1) aNil) [some ru.d,some (rowD isl),some (cel c)] S=.ok (.ref S.length) (S++[islD ks vs]):=zYj (zAa (zA1 rfl)) l1;have f:FlA isl (S++[islD ks vs]) 0 [] S.length:=⟨ks,vs,zDe,l2⟩;have bi:BB 1 1/\BB 1 0:=⟨.lit rfl,.lit rfl⟩;obtain⟨S',e,_,u,n⟩:=zYf 40 ru idT (.ktup [.int 1,.int 0,.int 0,.int 1]) [] S.length 0 c (S++[islD ks vs]) f ok (.inr rfl) (Bt.mono (k:=1) ⟨bi.1,bi.2,bi.2,bi.1⟩ (by nofun)) (by show ru.sz+0<=40;lia) (by nofun) (by show 0+ru.lv*1<=1000000;lia);have es:S'=S++[islD ks vs]:=List.ext_getElem? λi=>by
  by_cases h:i<(S++[islD ks vs]).length
  ·exact u.at_ i h λz=>nomatch z
  ·rw[vk (by nofun),vk (by nofun)]
 subst es;have b:zH8 [some ru.d,some (rowD isl),some (cel c)] S=.rt (.bl (br ru isl c)) (S++[islD ks vs]):=
  zBw (zA6 (zA5 (zA1 rfl) (zA5 rfl (zA5 mk (zAa (zA1 rfl))))) e)
 unfold zAb zAc;rw[xb (by rfl)];show(match zH8 [some ru.d,some (rowD isl),some (cel c)] S with|.nx _ S'=>fin S .non S'|.rt d S'=>fin S d S'|.ex x S'=>.ex x S'|_=>.bad)=_;rw[b];dsimp only;unfold fin;rw[xb (zCu (by simp) λi d hi hd=>.inl (by rw[xT hi]at hd;exact hd)),xb (show(D.bl (br ru isl c)).low S.length=true from rfl),List.take_append_of_le_length (xg _),uG]
mutual
def Rl.lf:Rl->Tb->Pt->List Pt
 | .cell x y,T,p=>[ad p (ap T (x,y))]
 | .at_ x y r,T,p=>r.lf T (ad p (ap T (x,y)))
 | .by_ a b u v r,T,p=>r.lf (cmpT T (a,b,u,v)) p
 | .then_ q r,T,p=>(r.lf T p).flatMap λs=>q.lf T s
 | .many _ _ ps,T,p=>lfL ps T p
def lfL:List Rl->Tb->Pt->List Pt
 | [],_,_=>[]
 | r::l,T,p=>r.lf T p++lfL l T p
end
theorem zGq{f:Pt->List Pt}{n:Nat}(h:∀s,(f s).length=n):∀l:List Pt,(l.flatMap f).length=n*l.length
 | []=>rfl
 | a::l=>by rw[List.flatMap_cons,xE,h,zGq h l,xo,Nat.mul_succ,Nat.add_comm]
mutual
theorem zEb:∀(r:Rl) (T:Tb) (p:Pt),(r.lf T p).length=r.lv
 | .cell x y,T,p=>by rw[Rl.lf,Rl.lv];rfl
 | .at_ x y r,T,p=>by rw[Rl.lf,Rl.lv];exact zEb r _ _
 | .by_ a b u v r,T,p=>by rw[Rl.lf,Rl.lv];exact zEb r _ _
 | .then_ q r,T,p=>by rw[Rl.lf,Rl.lv,zGq (λs=>zEb q T s),zEb r]
 | .many w k ps,T,p=>by rw[Rl.lf,Rl.lv];exact zGi ps T p
theorem zGi:∀(l:List Rl) (T:Tb) (p:Pt),(lfL l T p).length=lvL l
 | [],T,p=>by rw[lfL,lvL];rfl
 | r::l,T,p=>by rw[lfL,lvL,xE,zEb r,zGi l]
end
mutual
theorem zIr:∀(r:Rl) (T:Tb) (p:Pt) (k:Nat),r.ok->r.sz<=100->Bt (900-8*r.sz) T->Bp k p->915<=k->∀c∈r.lf T p,Bp (k+r.sz) c
 | .cell x y,T,p,k,ok,hs,bt,bp,hk,c,hc=>by
  rw[Rl.ok]at ok;rw[Rl.lf]at hc;rw[xZ.mp hc];exact(bp.ad (Bp.ap bt (j:=14) (c:=(x,y)) ok)).mono (by rw[Rl.sz];lia)
 | .at_ x y r,T,p,k,ok,hs,bt,bp,hk,c,hc=>by
  rw[Rl.ok]at ok;rw[Rl.lf]at hc;rw[Rl.sz]at bt hs ⊢;exact(zIr r T _ (k+1) ok.2 (by nofun) (bt.mono (by nofun)) ((bp.ad (Bp.ap bt (j:=14) (c:=(x,y)) ok.1)).mono (by nofun)) (by nofun) c hc).mono (by nofun)
 | .by_ a b u v r,T,p,k,ok,hs,bt,bp,hk,c,hc=>by
  rw[Rl.ok]at ok;rw[Rl.lf]at hc;rw[Rl.sz]at bt hs ⊢;exact(zIr r _ _ k ok.2 (by nofun) ((bt.cmp (s:=(a,b,u,v)) (j:=4) ok.1).mono (by nofun)) bp hk c hc).mono (by nofun)
 | .then_ q r,T,p,k,ok,hs,bt,bp,hk,c,hc=>by
  rw[Rl.ok]at ok;rw[Rl.lf]at hc;rw[Rl.sz]at bt hs ⊢;obtain⟨s,h1,h2⟩:=List.mem_flatMap.mp hc;have b1:=zIr r T p k ok.2 (by nofun) (bt.mono (by nofun)) bp hk s h1;exact(zIr q T s (k+r.sz) ok.1 (by nofun) (bt.mono (by nofun)) b1 (by nofun) c h2).mono (by nofun)
 | .many w j ps,T,p,k,ok,hs,bt,bp,hk,c,hc=>by
  rw[Rl.ok]at ok;rw[Rl.lf]at hc;rw[Rl.sz]at bt hs ⊢;exact(zSq ps T p k ok.2 (by nofun) (bt.mono (by nofun)) bp hk c hc).mono (by nofun)
theorem zSq:∀(l:List Rl) (T:Tb) (p:Pt) (k:Nat),okL l->szL l<=100->Bt (900-8*szL l) T->Bp k p->915<=k->∀c∈lfL l T p,Bp (k+szL l) c
 | [],T,p,k,_,_,_,_,_,c,hc=>by rw[lfL]at hc;cases hc
 | r::l,T,p,k,ok,hs,bt,bp,hk,c,hc=>by
  rw[okL]at ok;rw[szL]at hs bt ⊢;rw[lfL]at hc;rcases vm.mp hc with hc|hc
  ·exact(zIr r T p k ok.1 (by nofun) (bt.mono (by nofun)) bp hk c hc).mono (by nofun)
  ·exact(zSq l T p k ok.2 (by nofun) (bt.mono (by nofun)) bp hk c hc).mono (by nofun)
end
mutual
/-- few cells -/
theorem zF2:∀r:Rl,r.sz<=6->r.lv<=r.sz
 | .cell _ _,_=>by rw[Rl.lv,Rl.sz];exact xg _
 | .at_ _ _ r,h=>by
  rw[Rl.sz]at h;rw[Rl.lv,Rl.sz];have:=zF2 r (by nofun);lia
 | .by_ _ _ _ _ r,h=>by
  rw[Rl.sz]at h;rw[Rl.lv,Rl.sz];have:=zF2 r (by nofun);lia
 | .then_ q r,h=>by
  rw[Rl.sz]at h;rw[Rl.lv,Rl.sz];have h1:=zF2 q (by nofun);have h2:=zF2 r (by nofun);have q1:=q.pos;have r1:=r.pos;refine xm (Nat.mul_le_mul h1 h2) ?_;have:q.sz<=5:=by nofun
  rcases(show r.sz=1\/r.sz=2\/r.sz=3\/r.sz=4 by nofun)with e|e|e|e <;> rw[e]at h ⊢ <;> lia
 | .many w k ps,h=>by
  rw[Rl.sz]at h;rw[Rl.lv,Rl.sz];have:=zSn ps (by nofun);lia
theorem zSn:∀l:List Rl,szL l<=6->lvL l<=szL l
 | [],_=>xC _
 | r::l,h=>by
  rw[szL]at h;rw[lvL,szL];have:=zF2 r (by nofun);have:=zSn l (by nofun);lia
end
end
section
open Classical
noncomputable abbrev lstD (l:List Pt):D:=.lst (l.map cel)
theorem zD4 :∀l:List Pt,lowL k (l.map cel)=true
 | []=>rfl
 | e::l=>by
  show(true && lowL k (l.map cel))=true;rw[zD4 l];rfl
theorem zZ9{S:Store}{n:Nat}{l m:List D}(h:S[n]?=some (.lst l))(hl:l.length+m.length<=5000):zB8 S (.ref n) [.lst m]=some (.non,S.set n (.lst (l++m))):=by have e:litems S (.lst m)=some m:=rfl;simp only[zB8,h,e];rw[xc (by intro z;cases z),xb (xm hl (by decide))]
theorem zKb{e:EM}{S:Store}{acc m:List Pt}(hi:env[i]?=some (some (.ref S.length)))(he:e env (S++[lstD acc])=.ok (lstD m) (S++[lstD acc]))(hl:acc.length+m.length<=5000):zD9 (eMt "list" zB8 (eVar i) (zA0 e aNil)) env (S++[lstD acc])=.nx env (S++[lstD (acc++m)]):=by
 have at_:(S++[lstD acc])[S.length]?=some (.lst (acc.map cel)):=zDe;have ex:=zZ9 (m:=m.map cel) at_ (by rw[xn,xn];exact hl);rw[show(S++[lstD acc]).set S.length (.lst (acc.map cel++m.map cel))=S++[lstD (acc++m)] by
  rw[zMg];show S++[.lst (acc.map cel++m.map cel)]=S++[.lst ((acc++m).map cel)];rw[vw]]at ex
 rw[zD9,eMt,zA1 hi,Rs.bind_ok,xb (ty_D at_),zAa he,Rs.bind_ok,ex];rfl
theorem zDr{α:Type}{b:SM}{S:Store}{h:α->D}{g:α->List Pt}(E:Option D->Env)(hE:∀S o d,gName j S d (E o)=some (E (some d))):∀(xs:List α) (acc:List Pt) (o:Option D),(∀x∈xs,∀acc:List Pt,acc.length+(g x).length<=5000->b (E (some (h x))) (S++[lstD acc])=.nx (E (some (h x))) (S++[lstD (acc++g x)]))->acc.length+(xs.flatMap g).length<=5000->
  ∃o',forL [] (gName j) b (xs.map h) (E o) (S++[lstD acc])=.nx (E o') (S++[lstD (acc++xs.flatMap g)])
 | [],acc,o,_,_=>⟨o,by rw[xX,forL,xb zAz,List.flatMap_nil,vA]⟩
 | x::xs,acc,o,hb,hl=>by
  rw[List.flatMap_cons,xE]at hl;obtain⟨o',e⟩:=zDr E hE xs (acc++g x) (some (h x)) (λy hy=>hb y (.tail _ hy)) (by rw[xE];lia);refine⟨o',?_⟩;rw[xt,forL,xb zAz,hE];show(match b (E (some (h x))) (S++[lstD acc])with|.nx e S1=>forL [] (gName j) b (xs.map h) e S1|.ct e S1=>forL [] (gName j) b (xs.map h) e S1|.bk e S1=>.nx e S1|q=>q)=_;rw[hb x (.head _) acc (by nofun)];rw[List.flatMap_cons,<- List.append_assoc];exact e
theorem zKl{np nl:Nat}{b:SM}{ds:List D}{S:Store}(hl:ds.length=np)(h:b (ds.map some++List.replicate (nl-np) none) S=.rt (.ref S.length) (S++[lstD l])):zAc np nl b ds S=.ok (lstD l) S:=by unfold zAc;rw[xb hl,h];dsimp only;unfold fin;rw[xb (zCu (by simp) λi d hi hd=>.inl (by rw[xT hi]at hd;exact hd)),xc (by show ¬ decide (S.length<S.length)=true;simp)];dsimp only;rw[zDe];dsimp only;rw[xb (show(lstD l).low S.length=true from zD4 l),List.take_append_of_le_length (xg _),uG]
def LO(r:Fn)(N:Nat):Prop:=∀(ru:Rl) (T:Tb) (p:Pt) (S:Store) (k:Nat),ru.ok->ru.sz<=N->ru.sz<=100->Bt (900-8*ru.sz) T->Bp k p->915<=k->k+ru.sz<=2000->ru.lv<=1000->r [ru.d,cel p,tabD T] S=.ok (lstD (ru.lf T p)) S
theorem zEl:∀(l:List Rl) (T:Tb) (p:Pt),lfL l T p=l.flatMap λr=>r.lf T p
 | [],_,_=>by rw[lfL];rfl
 | r::l,T,p=>by rw[lfL,zEl l];rfl
theorem zSm:∀{l:List Rl}{ru:Rl},ru∈l->ru.lv<=lvL l
 | a::l,ru,h=>by
  rw[lvL];rcases xh.mp h with rfl|h
  ·lia
  ·have:=zSm h;lia
theorem zVb{N:Nat}(lo:LO r N):LO (zAc 3 6 (zAx r)) (N+1):=by
 intro ru T p S k ok hN hs bt bp hk hk2 hv;have ld:∀(q:Pt) (S:Store),Bp 14 q->zAr [tabD T,cel q] S=.ok (cel (ap T q)) S:=λq S hp=>zE0 (by decide) (uN (by nofun)) bt hp
 have n4:∀(w v:String),decide (sS w=sS v)=false->∀(m:List D) (env:Env) (S:Store),env[0]?=some (some (.tup (tx w::m)))->tB (eOp eqY (eOp ixD (eVar 0) (eC (.int 0))) (eC (.str (sS v)))) env S=.ok false S:=λw v h m env S h0=>wq h0 h
 cases ru with
 | cell x y=>
  rw[Rl.ok]at ok;have l1:=ld (x,y) S ok;have s1:slD S (.tup [tx "cell",.int x,.int y]) (some 1) none=some (cel (x,y)):=rfl;have k1:=zAt (S:=S) (p:=p) (v:=ap T (x,y));have b:zAx r [some (.tup [tx "cell",.int x,.int y]),some (cel p),some (tabD T),none,none,none] S=.rt (lstD [ad p (ap T (x,y))]) S:=by refine zBh (zBc (wq rfl (xk rfl)) ?_);simp_arith [s1,l1,k1];rfl
  rw[Rl.d,Rl.lf];exact zAk rfl b (zD4 _)
 | at_ x y r0=>
  rw[Rl.ok]at ok;rw[Rl.lv]at hv;rw[Rl.sz]at hN hs bt hk2;have e:=lo r0 T (ad p (ap T (x,y))) S (k+1) ok.2 (by nofun) (by nofun) (bt.mono (by nofun)) ((bp.ad (Bp.ap bt (j:=14) (c:=(x,y)) ok.1)).mono (by nofun)) (by nofun) (by nofun) hv;have l1:=ld (x,y) S ok.1;have s1:slD S (.tup [tx "at",.int x,.int y,r0.d]) (some 1) (some 3)=some (cel (x,y)):=rfl;have k1:=zAt (S:=S) (p:=p) (v:=ap T (x,y));have b:zAx r [some (.tup [tx "at",.int x,.int y,r0.d]),some (cel p),some (tabD T),none,none,none] S=.rt (lstD (r0.lf T (ad p (ap T (x,y))))) S:=by refine zA2 (zAg (wq rfl (by decide +kernel)) rfl) (zBh (zBc (wq rfl (xk rfl)) ?_));simp_arith [s1,l1,k1,e]
  rw[Rl.d,Rl.lf];exact zAk rfl b (zD4 _)
 | by_ a b u v r0=>
  rw[Rl.ok]at ok;rw[Rl.lv]at hv;rw[Rl.sz]at hN hs bt hk2;have wi:=zL6 (S:=S) (s:=(a,b,u,v)) (k:=4) (by decide) (uN (by nofun)) bt ok.1;have e:=lo r0 (cmpT T (a,b,u,v)) p S k ok.2 (by nofun) (by nofun) ((bt.cmp (s:=(a,b,u,v)) (j:=4) ok.1).mono (by nofun)) bp hk (by nofun) hv;have b:zAx r [some (.tup [tx "by",.tup [.int a,.int b,.int u,.int v],r0.d]),some (cel p),some (tabD T),none,none,none] S=.rt (lstD (r0.lf (cmpT T (a,b,u,v)) p)) S:=by refine zA2 (zAg (wq rfl (by decide +kernel)) rfl) (zA2 (zAg (wq rfl (by decide +kernel)) rfl) (zBh (zBc (wq rfl (xk rfl)) ?_)));simp_arith [wi,e]
  rw[Rl.d,Rl.lf];exact zAk rfl b (zD4 _)
 | then_ q r0=>
  rw[Rl.ok]at ok;rw[Rl.lv]at hv;rw[Rl.sz]at hN hs bt hk2;have q1:=zEa q ok.1;have r1:=zEa r0 ok.2;have v1:r0.lv<=1000:=xm (Nat.le_mul_of_pos_left _ q1) hv;have v2:q.lv<=1000:=xm (Nat.le_mul_of_pos_right _ r1) hv;have e1:=λS=>lo r0 T p S k ok.2 (by nofun) (by nofun) (bt.mono (by nofun)) bp hk (by nofun) v1
  have bs:=zIr r0 T p k ok.2 (by nofun) (bt.mono (by nofun)) bp hk;have e2:=λs (h:s∈r0.lf T p) S=>lo q T s S (k+r0.sz) ok.1 (by nofun) (by nofun) (bt.mono (by nofun)) (bs s h) (by nofun) (by nofun) v2
  obtain⟨o',lp⟩:=zDr (S:=S) (j:=4) (b:=zD9 (eMt "list" zB8 (eVar 3) (zA0 (zA3 r (zA0 (eOp ixD (eVar 0) (eC (.int 1))) (zA0 (eVar 4) (zA0 (eVar 2) aNil)))) aNil))) (h:=cel) (g:=λs=>q.lf T s) (λo=>[some (.tup [tx "then",q.d,r0.d]),some (cel p),some (tabD T),some (.ref S.length),o,none]) (λ_ _ _=>rfl) (r0.lf T p) [] none
   (λs h acc ha=>zKb rfl (zA6 (zA5 (zAd (y:=.int 1) (zA1 rfl) rfl rfl) (zA5 (zA1 rfl) (zAa (zA1 rfl)))) (e2 s h _)) ha)
   (by rw[zGq (λs=>zEb q T s),zEb];show 0+_<=5000;lia)
  have b:zAx r [some (.tup [tx "then",q.d,r0.d]),some (cel p),some (tabD T),none,none,none] S=.rt (.ref S.length) (S++[lstD ((r0.lf T p).flatMap λs=>q.lf T s)]):=by refine zA2 (zAg (wq rfl (by decide +kernel)) rfl) (zA2 (zAg (wq rfl (by decide +kernel)) rfl) (zA2 (zAg (wq rfl (by decide +kernel)) rfl) (zA2 (e:=[some (.tup [tx "then",q.d,r0.d]),some (cel p),some (tabD T),some (.ref S.length),none,none]) (S1:=S++[lstD []]) rfl (zBh (zBc (wq rfl (xk rfl)) (zA2 (e:=[some (.tup [tx "then",q.d,r0.d]),some (cel p),some (tabD T),some (.ref S.length),o',none]) ?_ rfl))))));rw[sFor,zHp (zA6 (zA5 (zAd (y:=.int 2) (zA1 rfl) rfl rfl) (zA5 (zA1 rfl) (zAa (zA1 rfl)))) (e1 _)),Rs.then_ok];exact lp
  rw[Rl.d,Rl.lf];exact zKl rfl b
 | many w j ps=>
  rw[Rl.ok]at ok;rw[Rl.lv]at hv;rw[Rl.sz]at hN hs bt hk2;obtain⟨m,em,e2⟩:=zVp w j (dL ps);have e1:=λru (h:ru∈ps) S=>lo ru T p S k (okL_iff.mp ok.2 ru h) (by have:=zFs h;lia) (by have:=zFs h;lia) (bt.mono (by have:=zFs h;lia)) bp hk (by have:=zFs h;lia) (by have:=zSm h;lia)
  obtain⟨o',lp⟩:=zDr (S:=S) (j:=5) (b:=zD9 (eMt "list" zB8 (eVar 3) (zA0 (zA3 r (zA0 (eVar 5) (zA0 (eVar 1) (zA0 (eVar 2) aNil)))) aNil))) (h:=Rl.d) (g:=λru=>ru.lf T p) (λo=>[some (.tup (tx (wd w)::m)),some (cel p),some (tabD T),some (.ref S.length),none,o]) (λ_ _ _=>rfl) ps [] none
   (λs h acc ha=>zKb rfl (zA6 (zA5 (zA1 rfl) (zA5 (zA1 rfl) (zAa (zA1 rfl)))) (e1 s h _)) ha)
   (by rw[<- zEl,zGi];show 0+_<=5000;lia)
  have n5:∀v:String,(v="cell"\/v="at"\/v="by"\/v="then")->decide (sS (wd w)=sS v)=false:=λv hv=>by
   rcases zEd w with z|z|z <;> rw[z] <;> rcases hv with rfl|rfl|rfl|rfl <;> decide +kernel
  have b:zAx r [some (.tup (tx (wd w)::m)),some (cel p),some (tabD T),none,none,none] S=.rt (.ref S.length) (S++[lstD (ps.flatMap λru=>ru.lf T p)]):=by refine zA2 (zAg (wq rfl (n5 _ (.inl rfl))) rfl) (zA2 (zAg (wq rfl (n5 _ (.inr (.inl rfl)))) rfl) (zA2 (zAg (wq rfl (n5 _ (.inr (.inr (.inl rfl))))) rfl) (zA2 (e:=[some (.tup (tx (wd w)::m)),some (cel p),some (tabD T),some (.ref S.length),none,none]) (S1:=S++[lstD []]) rfl (zA2 (zAg (wq rfl (n5 _ (.inr (.inr (.inr rfl))))) rfl) (zA2 (e:=[some (.tup (tx (wd w)::m)),some (cel p),some (tabD T),some (.ref S.length),none,o']) ?_ rfl)))));rw[sFor,zE2 (l:=dL ps) (zAd (y:=.int (-1)) (zA1 rfl) (by simp_arith [negD]) (show ixD _ (.tup (tx (wd w)::m)) (.int (-1))=some (.tup (dL ps))from e2)),Rs.then_ok,zC8];exact lp
  rw[Rl.d,em,Rl.lf,zEl];exact zKl rfl b
theorem zSp:∀N:Nat,LO (zBi N) N
 | 0=>λru T p S k ok hN=>by
  have:=ru.pos;exfalso;lia
 | N+1=>zVb (zSp N)
theorem zF6{ru:Rl}(ok:ru.ok)(hs:ru.sz<=6)(hp:Bp 915 p):zAv [ru.d,cel p,.tup [.int 1,.int 0,.int 0,.int 1]] S=.ok (lstD (ru.lf idT p)) S/\(ru.lf idT p).length<=ru.sz/\∀c∈ru.lf idT p,Bp 921 c:=by have bi:BB 1 1/\BB 1 0:=⟨.lit rfl,.lit rfl⟩;have bt:Bt (900-8*ru.sz) idT:=Bt.mono (k:=1) ⟨bi.1,bi.2,bi.2,bi.1⟩ (by nofun);have lv:=zF2 ru hs;exact⟨zSp 10 ru idT p S 915 ok (by nofun) (by nofun) bt hp (by decide) (by nofun) (by nofun),by rw[zEb];exact lv,λc hc=>(zIr ru idT p 915 ok (by nofun) bt hp (by decide) c hc).mono (by nofun)⟩
theorem zYk(p:Pt):lv 1 (cel p):=⟨_,rfl,λx hx=>by
 rcases xh.mp hx with rfl|hx
 ·exact⟨_,rfl⟩
 ·rw[xZ.mp hx];exact⟨_,rfl⟩⟩
theorem zNj(l:List Pt):∀y∈l.map cel,lv 1 y:=λy hy=>by obtain⟨p,_,rfl⟩:=xw.mp hy;exact zYk p
theorem zF1{l:List Pt}:cel p∈l.map cel <-> p∈l:=⟨λh=>by obtain⟨q,hq,e⟩:=xw.mp h;rw[<- zP7 e];exact hq,λh=>xw.mpr ⟨p,h,rfl⟩⟩
theorem zJ2:∀{l:List D},(∀x∈l,∃p,x=cel p)->∃u:List Pt,l=u.map cel
 | [],_=>⟨[],rfl⟩
 | a::l,h=>by
  obtain⟨p,rfl⟩:=h a (.head _);obtain⟨u,rfl⟩:=zJ2 λx hx=>h x (.tail _ hx)
  exact⟨p::u,rfl⟩
theorem zKg:∀l:List D,(dedup l).length<=l.length
 | []=>xg _
 | x::l=>by
  have:=zKg l;unfold dedup;split
  ·rw[xo];lia
  ·rw[xo,xo];lia
theorem zTm{l:List Pt}(h:items S d=some (l.map cel))(hl:l.length<=63):∃u:List Pt,zPw S [d]=some (lstD u)/\(∀p,p∈u <-> p∈l)/\u.length=l.length:=by
 have pm:=zCa (l.map cel);obtain⟨u,eu⟩:=zJ2 (l:=srt (l.map cel)) λx hx=>by
  obtain⟨p,_,rfl⟩:=xw.mp (pm.mem_iff.mp hx);exact⟨p,rfl⟩
 refine⟨u,?_,λp=>by rw[<- zF1,<- eu,pm.mem_iff,zF1],by rw[<- xn (f:=cel),<- eu,pm.length_eq,xn]⟩;show(match items S d with|some l=>if sortable l then some (D.lst (srt l))else none|none=>none)=_;rw[h];dsimp only;rw[xb ⟨by rw[xn];exact xm hl (by decide),1,by decide,zNj l⟩,eu]
theorem zX9{l:List Pt}(h:items S d=some (l.map cel))(hl:l.length<=63):∃u:List Pt,ssL S d=some (lstD u)/\(∀p,p∈u <-> p∈l)/\u.length<=l.length:=by
 have pm:=zCa (dedup (l.map cel));have dl:=zKg (l.map cel);rw[xn]at dl;obtain⟨u,eu⟩:=zJ2 (l:=srt (dedup (l.map cel))) λx hx=>by
  obtain⟨p,_,rfl⟩:=xw.mp (mem_dedup.mp (pm.mem_iff.mp hx));exact⟨p,rfl⟩
 refine⟨u,?_,λp=>by rw[<- zF1,<- eu,pm.mem_iff,mem_dedup,zF1],by rw[<- xn (f:=cel),<- eu,pm.length_eq];exact dl⟩;unfold ssL;rw[h];dsimp only;rw[xb ⟨⟨by rw[xn];exact xm hl (by decide),xm dl (xm hl (by decide))⟩,0,by decide,zNj l⟩,eu]
theorem zIz{α:Type}{l:List α}{n:Nat}(h:l.length<=n):cutL l none (some (n:Int))=l:=by
 unfold cutL;show(l.drop 0).take (sIx l.length l.length (some (n:Int))-0)=l;have e:sIx l.length l.length (some (n:Int))=min n l.length:=by unfold sIx;dsimp only;rw[xc (by nofun)];rfl
 rw[List.drop_zero,Nat.sub_zero,e,Nat.min_eq_right h,uG]
theorem zOy{α:Type}{h:α->D}{g:GM}{c:TM}{e:EM}(I:Env->Prop)(J:Store->Prop):∀(xs:List α) (k:Nat) (env:Env) (S:Store),I env->J S->k+xs.length<=most->
  (∀a∈xs,∀env S,I env->J S->∃env' b S',g S (h a) env=some env'/\I env'/\c env' S=.ok b S'/\J S'/\e env' S'=.ok (h a) S')->∃(ys:List α) (S':Store),zBq [] g c e k (xs.map h) env S=.ok (ys.map h) S'/\(∀y∈ys,y∈xs)/\ys.length<=xs.length/\J S'
 | [],k,env,S,_,j,_,_=>⟨[],S,by rw[xX,zBq,xb zAz],(λy h=>h),xg _,j⟩
 | a::xs,k,env,S,i,j,hk,he=>by
  have hk':k+(xs.length+1)<=most:=hk;obtain⟨env',b,S1,e1,i1,e2,j1,e3⟩:=he a (.head _) env S i j;have hd:∀q,((c env' S).bind λb S1=>if b=true then(e env' S1).bind λv S2=>(zBq [] g c e (k+1) (xs.map h) env' S2).bind λvs S3=>.ok (v::vs) S3 else zBq [] g c e k (xs.map h) env' S1)=q->zBq [] g c e k ((a::xs).map h) env S=q:=λq hq=>by
   rw[xt,zBq,xb ⟨zAz,by nofun⟩,e1];exact hq
  cases b with
  | true=>
   obtain⟨ys,S2,e4,m,l,j2⟩:=zOy I J xs (k+1) env' S1 i1 j1 (by nofun) λx hx=>he x (.tail _ hx)
   refine⟨a::ys,S2,hd _ ?_,λy hy=>?_,by rw[xo,xo];lia,j2⟩
   ·rw[e2,Rs.bind_ok,xb rfl,e3,Rs.bind_ok,e4,Rs.bind_ok];rfl
   ·rcases xh.mp hy with rfl|hy
    ·exact .head _
    ·exact .tail _ (m y hy)
  | false=>
   obtain⟨ys,S2,e4,m,l,j2⟩:=zOy I J xs k env' S1 i1 j1 (by nofun) λx hx=>he x (.tail _ hx)
   refine⟨ys,S2,hd _ ?_,λy hy=>.tail _ (m y hy),by rw[xo];lia,j2⟩;rw[e2,Rs.bind_ok,xc (by decide),e4]
theorem Bp.sm{p:Pt}(h:p.1.natAbs<=1000/\p.2.natAbs<=1000):Bp 14 p:=⟨by unfold BB;lia,by unfold BB;lia⟩
theorem zFa{l:List Pt}(hp:slD S pl none (some 150)=some (lstD l))(hb:∀p∈l,Bp 921 p)(hl:l.length<=58)(h:Feed S c):
  ∃(isl:List Pt) (S':Store),zB7 [.ref c,pl] S=.ok (rowD isl) S'/\(∀p∈isl,Bp 921 p)/\isl.length<=l.length+5/\Feed S' c/\Only c c S S':=by
 obtain⟨ys,S1,e1,m1,l1,f1,o1⟩:=zOy (h:=cel) (g:=gName 0) (c:=tB (eOp gtD (zA3 zA4 (zA0 (eVar 1) (zA0 (eC (.int 3)) aNil))) (eC (.int 0)))) (e:=eVar 0) (λenv=>∃o,env=[o,some (.ref c)]) (λS'=>Feed S' c/\Only c c S S') l 0 [none,some (.ref c)] S ⟨none,rfl⟩ ⟨h,.refl⟩ (xm (by nofun) (show 58<=most by decide)) (λp _ env T hi hj=>by
  obtain⟨o,rfl⟩:=hi;obtain⟨a,T1,d1,a0,a9,g1,p1⟩:=taken (many:=3) (by decide) (by decide) hj.1;exact⟨[some (cel p),some (.ref c)],decide (0<a),T1,rfl,⟨_,rfl⟩,zBu (zAd (zDc rfl d1) rfl rfl),⟨g1,hj.2.trans p1⟩,rfl⟩)
 have mk0:=MkF.new h f1 o1.grow (ys.map cel);obtain⟨a,S2,e2,a0,a9,f2,o2⟩:=taken (many:=6) (by decide) (by decide) mk0.feed;obtain⟨m,hm⟩:∃m:Nat,(m:Int)=a:=⟨a.toNat,by nofun⟩
 subst hm;obtain⟨zs,S3,e3,l3,b3,f3,o3⟩:=zGv (h:=fun(i:Nat)=>D.int (i:Int)) (k:=cel) (own:=1) (ix:=[0]) (i:=zBo (zA0 (zA3 zA4 (zA0 (eVar 0) (zA0 (eC (.int 6)) aNil))) aNil)) (g:=gName 0) (e:=zA3 zAe (zA0 (eVar 1) aNil)) (S:=S2) (S0:=S1++[.lst (ys.map cel)]) (env:=[some (.ref c),some pl,some (.ref S1.length)]) (xs:=List.range m) (gd:=[]) (λenv=>∃x,env=[x,some (.ref c)]) (λS'=>Feed S' c/\Only c c (S1++[.lst (ys.map cel)]) S') (λp:Pt=>Bp 14 p) (zC5 (zDc rfl e2) (by nofun)) (λ_ _=>zAz) ⟨none,rfl⟩ ⟨f2,o2⟩ (by rw[vv];exact xm (by nofun) (show 1000<=most by decide)) (λi _ env T he hj=>by
  obtain⟨x,rfl⟩:=he;obtain⟨u,v,T1,d1,bb,g1,p1⟩:=zDf hj.1;exact⟨[some (.int (i:Int)),some (.ref c)],(u,v),T1,rfl,⟨_,rfl⟩,zA6 (zAa (zA1 rfl)) d1,Bp.sm bb,g1,hj.2.trans p1⟩)
 rw[vv]at l3;have mk1:=mk0.take h f3 o3;have ex:=zZ9 (m:=zs.map cel) mk1.at_ (by rw[xn,xn];lia);have mk2:=mk1.put h (ys.map cel++zs.map cel);have it:items (S3.set S1.length (.lst (ys.map cel++zs.map cel))) (.ref S1.length)=some ((ys++zs).map cel):=by unfold items;rw[zBx mk2.at_,vw]
 obtain⟨u,e4,m4,l4⟩:=zX9 it (by rw[xE];lia);obtain⟨S5,e5,f5,o5⟩:=zAs (np:=2) (nl:=3) (b:=zDw) (ds:=[.ref c,pl]) (d:=rowD u) (S':=S3.set S1.length (.lst (ys.map cel++zs.map cel))) rfl (by
  refine zA2 (e:=[some (.ref c),some pl,some (.ref S1.length)]) (S1:=S1++[.lst (ys.map cel)]) ?_ (zA2 (e:=[some (.ref c),some pl,some (.ref S1.length)]) (S1:=S3.set S1.length (.lst (ys.map cel++zs.map cel))) ?_ ?_)
  ·have iv:iVal (eSl slD (eVar 1) pNo (pYes (eC (.int 150)))) [some (.ref c),some pl,none] S=.ok ⟨l.map cel,[]⟩ S:=zHp (by simp_arith [hp]);show sSet 2 (eNew (zB2 1 [0] _ _ _ _)) [some (.ref c),some pl,none] S=_;rw[sSet,eNew,zB2,iv,Rs.bind_ok];show((((zBq [] (gName 0) _ (eVar 0) 0 (l.map cel) [none,some (.ref c)] S).bind _).bind _).then _)=_;rw[e1];rfl
  ·rw[zD9,eMt,zA1 rfl,Rs.bind_ok,xb (ty_D mk0.at_),zAa e3,Rs.bind_ok,ex];rfl
  ·refine zBw ?_;rw[eCB,zAa (zG7 (zA1 rfl) e4),Rs.bind_ok];rfl) h mk2.feed mk2.grow (zD4 u)
 refine⟨u,S5,e5,λp hp=>?_,by rw[xE]at l4;lia,f5,o5⟩;rcases vm.mp ((m4 p).mp hp)with q|q
 ·exact hb p (m1 p q)
 ·exact(b3 p q).mono (by decide)
theorem zVj :zAn [.bl a,.bl b] S=.ok (.bl (decide (a=b))) S:=by
 have i1:isiB S [.bl a,.ty "bool"]=some (.bl true):=by show(if "bool"∈kinds/\"bool"∈kinds then some (D.bl (zVk "bool" "bool"))else none)=_;rw[xb (by decide)];rfl
 have e1:eqD S (.bl a) (.bl b)=some (.bl (decide (a=b))):=rfl;exact zAk rfl (by unfold zIc;simp_arith [i1,e1]) rfl
theorem zIu{e e':EM}(h:e env S=.ok (.bl a) S)(h':e' env S=.ok (.bl b) S)(q:a=b):tNot (tTru (zA3 zAn (zA0 e (zA0 e' aNil)))) env S=.ok false S:=by rw[tNot,tTru,zA6 (zA5 h (zAa h')) zVj,Rs.bind_ok,xk q];rfl
theorem zQe{c:Nat}(h:Feed S c):∃(p:Pt) (S':Store),zBy [.ref c] S=.ok (cel p) S'/\Bp 900 p/\Feed S' c/\Only c c S S':=by
 obtain⟨r,S1,e1,r0,r9,f1,o1⟩:=taken (many:=4) (by decide) (by decide) h;obtain⟨s,S2,e2,s0,s9,f2,o2⟩:=taken (many:=2) (by decide) (by decide) f1;obtain⟨x,y,S3,e3,b3,f3,o3⟩:=zDf f2;have pw:powD S (.int 10) (.int 16)=some (.int 10000000000000000):=by show(if(0:Int)<=16/\(16:Int)<=1000000/\(10:Int).natAbs<2 ^ 64 then some (D.int ((10:Int) ^ (16:Int).toNat))else none)=_;rw[xb (by decide)];rfl
 obtain⟨u,hu,eu⟩:∃u:Int,u.natAbs<=10000000000000000/\atL [D.int 0,.int 0,.int 0,.int 10000000000000000] r=some (.int u):=by
  rcases(show r=0\/r=1\/r=2\/r=3 by nofun)with rfl|rfl|rfl|rfl
  ·exact⟨0,by decide,rfl⟩
  ·exact⟨0,by decide,rfl⟩
  ·exact⟨0,by decide,rfl⟩
  ·exact⟨_,by decide,rfl⟩
 obtain⟨v,hv,ev'⟩:∃v:Int,v.natAbs<=1/\atL [D.int 1,.int (0-1)] s=some (.int v):=by
  rcases(show s=0\/s=1 by nofun)with rfl|rfl
  ·exact⟨_,by decide,rfl⟩
  ·exact⟨_,by decide,rfl⟩
 have bu:BB 60 u:=vL hu (by decide);have bv:BB 1 v:=vL hv (by decide);have bw:=bu.mul bv;have m1:mulD S2 (.int u) (.int v)=some (.int (u*v)):=zHl bu bv;have k1:=zAt (S:=S3) (p:=(x,y)) (v:=(u*v,0-u*v));obtain⟨S4,e4,f4,o4⟩:=zAs (np:=1) (nl:=2) (b:=zCx) (ds:=[.ref c]) (d:=cel (ad (x,y) (u*v,0-u*v))) (S':=S3) rfl (by
  unfold zCx;simp_arith [pw,e1,eu,e2,ev',m1,e3,k1]) h f3 ((o1.trans o2).trans o3).grow rfl
 have b0:BB 61 (0-u*v):=by unfold BB at *;lia
 exact⟨_,S4,e4,(Bp.ad (Bp.sm b3) (j:=61) ⟨bw,b0⟩).mono (by decide),f4,o4⟩
theorem yAb{T:Tb}(h:T.1*T.2.2.2≠T.2.1*T.2.2.1)(e:ap T y=ap T z):y=z:=by
 obtain⟨a,b,u,v⟩:=T;have e1:a*y.1+b*y.2=a*z.1+b*z.2:=congrArg Prod.fst e;have e2:u*y.1+v*y.2=u*z.1+v*z.2:=congrArg Prod.snd e;have h:a*v≠b*u:=h;have k1:(a*v-b*u)*(y.1-z.1)=0:=by grind
 have k2:(a*v-b*u)*(y.2-z.2)=0:=by grind
 have n:a*v-b*u≠0:=by nofun
 have q1:=(Int.mul_eq_zero.mp k1).resolve_left n;have q2:=(Int.mul_eq_zero.mp k2).resolve_left n;exact xJ (by nofun) (by nofun)
theorem yAe(h:ad p v=ad q v):p=q:=by have h1:p.1+v.1=q.1+v.1:=congrArg Prod.fst h;have h2:p.2+v.2=q.2+v.2:=congrArg Prod.snd h;exact xJ (by nofun) (by nofun)
theorem zNi{f:Pt->Pt}(hf:∀{y z},f y=f z->y=z){l u:List Pt}(hu:∀p,p∈u <-> p∈l.map f)(z:Pt):decide (f z∈u)=decide (z∈l):=x3.mpr ⟨λh=>by
 obtain⟨y,hy,e⟩:=xw.mp ((hu _).mp h);rw[<- hf e];exact hy,λh=>(hu _).mpr (xw.mpr ⟨z,h,rfl⟩)⟩
theorem zHw:∀l:List Pt,zC6 (l.map cel)=true
 | []=>rfl
 | a::l=>by
  show((cel a).flat && zC6 (l.map cel))=true;rw[zHw l];rfl
theorem zKi:∀l:List Pt,depL (l.map cel)<=60
 | []=>by unfold depL;exact xC _
 | a::l=>by
  have:=zKi l;rw[xt];unfold depL;have:(cel a).dep<=60:=by simp[D.dep,depL]
  lia
theorem zVm :inD S (cel p) (rowD l)=some (.bl (decide (p∈l))):=by show((if okIn (cel p) (l.map cel)then some (decide (cel p∈l.map cel))else none).map D.bl)=_;rw[xb ⟨by rfl,zHw l,zKi l,λd hd=>by obtain⟨x,_,rfl⟩:=xw.mp hd;simp[D.cmp,cmpL]⟩,show decide (cel p∈l.map cel)=decide (p∈l)from x3.mpr zF1];rfl
theorem zT3{e:EM}{i j:Nat}{f:Pt->Pt}{r:List Pt}(hi:env[i]?=some (some (rowD r)))(hj:env[j]?=some (some d))(hl:r.length<=1000)(he:∀p∈r,e [some (cel p),some d] S=.ok (cel (f p)) S):
  zB2 1 [j] (iVal (eVar i)) (gName 0) tYes e env S=.ok (lstD (r.map f)) S:=by
 have:=zIw (h:=cel) (f:=λp=>cel (f p)) (own:=1) (ix:=[j]) (i:=iVal (eVar i)) (gd:=[]) (g:=gName 0) (e:=e) (S:=S) (env:=env) (xs:=r) (λenv=>∃o,env=[o,some d]) (zE2 (zA1 hi)) zAz ⟨none,by show [none,(env[j]?).join]=_;rw[hj];rfl⟩ (xm hl (by decide)) (λp hp env ho=>by
  obtain⟨o,rfl⟩:=ho;exact⟨[some (cel p),some d],rfl,⟨_,rfl⟩,he p hp⟩)
 rw[this];show Rs.ok (D.lst (r.map λp=>cel (f p))) S=Rs.ok (.lst ((r.map f).map cel)) S;rw[vD];rfl
noncomputable abbrev en (l:List D):Env:=l.map some++List.replicate (16-l.length) none
theorem zCq{l:List D}{e:EM}(h:e (en l) S=.ok d S1)(hl:l.length<16):sSet l.length e (en l) S=.nx (en (l++[d])) S1:=by rw[sSet,h];show SR.nx ((l.map some++List.replicate (16-l.length) none).set l.length (some d)) S1=.nx ((l++[d]).map some++List.replicate (16-(l++[d]).length) none) S1;rw[List.set_append_right _ _ (by rw[xn];exact xg _),xn,Nat.sub_self,vw,List.append_assoc,xE,show 16-l.length=(16-(l.length+[d].length))+1 by rw[ub];lia,List.replicate_succ];rfl
section
variable {S:Store}{env:Env}{i j k:Nat}{ru:Rl}{isl:List Pt}{p:Pt}
theorem zDg{e1 e2 e3:EM}(h1:e1 env S=.ok d S)(h2:e2 env S=.ok (rowD isl) S)(h3:e3 env S=.ok (cel p) S)(ed:ru.d=d)(ok:ru.ok)(hs:ru.sz<=40)(hv:ru.lv<=1000000)(hl:isl.length<=1000):zA3 zAb (zA0 e1 (zA0 e2 (zA0 e3 aNil))) env S=.ok (.bl (br ru isl p)) S:=by subst ed;exact zA6 (zA5 h1 (zA5 h2 (zAa h3))) (zPf ok hs hv hl)
end
theorem zYe{c:Nat}{ru:Rl}(ok:ru.ok)(hs:ru.sz<=6)(hp:Bp 915 p)(h:Feed S c):∃S',zB6 [.ref c,ru.d,cel p] S=.ok (.bl true) S'/\Feed S' c/\Only c c S S':=by
 have lv:ru.lv<=6:=xm (zF2 ru hs) hs;obtain⟨t1,t2,t3,t4,S1,e1,⟨tb9,det⟩,f1,o1⟩:=zJo h;obtain⟨T,hT⟩:∃T:Tb,T=(t1,t2,t3,t4):=⟨_,rfl⟩
 have e1:zBf [.ref c] S=.ok (tabD T) S1:=by rw[hT];exact e1
 have bT:Bt 4 T:=by rw[hT];unfold Bt BB;exact⟨by show t1.natAbs<_;lia,by show t2.natAbs<_;lia,by show t3.natAbs<_;lia,by show t4.natAbs<_;lia⟩
 have det:T.1*T.2.2.2≠T.2.1*T.2.2.1:=by rw[hT];exact det
 clear hT tb9
 obtain⟨b1,b2,S2,e2,bb,f2,o2⟩:=zDf f1;obtain⟨m1,m2,S3,e3,bm,f3,o3⟩:=zDf f2;obtain⟨n1,S4,e4,n10,n19,f4,o4⟩:=taken (many:=5) (by decide) (by decide) f3;obtain⟨n2,S5,e5,n20,n29,f5,o5⟩:=taken (many:=5) (by decide) (by decide) f4;obtain⟨lo,ll,lb⟩:=zF6 (S:=S5) ok hs hp;obtain⟨isl,S6,e6,ib,il,f6,o6⟩:=zFa (S:=S5) (pl:=lstD (ru.lf idT p)) (l:=ru.lf idT p) (by
  show some (D.lst (cutL ((ru.lf idT p).map cel) none (some ((150:Nat):Int))))=_;rw[zIz (by rw[xn];lia)]) lb (by nofun) f5
 have bB:Bp 14 (b1,b2):=Bp.sm bb;have bM:Bp 14 (m1,m2):=Bp.sm bm;have bN:Bp 3 (n1-2,n2-2):=⟨by show(n1-2).natAbs<_;lia,by show(n2-2).natAbs<_;lia⟩;have ila:isl.length<=11:=by nofun
 obtain⟨F,hF⟩:∃F,F=br ru isl p:=⟨_,rfl⟩
 obtain⟨dr,hdr⟩:∃d,d=ru.d:=⟨_,rfl⟩
 -- what is told
 have lc:∀q∈isl,zAr [tabD T,cel q] S6=.ok (cel (ap T q)) S6:=λq hq=>zE0 (k:=921) (by decide) (by decide) bT (ib q hq)
 obtain⟨aw,e10,m10,l10⟩:=zTm (S:=S6) (d:=lstD (isl.map (ap T))) (l:=isl.map (ap T)) rfl (by rw[xn];lia);rw[xn]at l10;have it:items S6 (.tup ((isl++[(m1,m2)]).map cel))=some ((isl++[(m1,m2)]).map cel):=rfl;obtain⟨mb,e15,m15,l15⟩:=zX9 it (by rw[xE];show isl.length+1<=63;lia);rw[xE,ub]at l15;have q1:br (.at_ b1 b2 ru) isl (ad p (0-b1,0-b2))=F:=by rw[hF,br,Rl.sem,zS1,show ad (ad p (0-b1,0-b2)) (b1,b2)=p from xJ (by show p.1+(0-b1)+b1=p.1;lia) (by show p.2+(0-b2)+b2=p.2;lia)]
 have q2:br (.by_ T.1 T.2.1 T.2.2.1 T.2.2.2 ru) aw (ap T p)=F:=by rw[hF,br,Rl.sem,zT5];have:=zDz (T:=T) ru idT (P:=λz=>decide (z∈isl)) (Q:=λz=>decide (z∈aw)) (λz=>zNi (f:=ap T) (λe=>yAb det e) m10 z) p;rw[zZ3]at this;exact this
 have q3:br (.by_ T.1 T.2.1 T.2.2.1 T.2.2.2 (.at_ (n1-2) (n2-2) ru)) isl p=br (.at_ (ap T (n1-2,n2-2)).1 (ap T (n1-2,n2-2)).2 (.by_ T.1 T.2.1 T.2.2.1 T.2.2.2 ru)) isl p:=by rw[br,br,Rl.sem,Rl.sem,Rl.sem,Rl.sem,zT5,zS1]
 have q4:br ru (isl.map λz=>ad z (b1,b2)) (ad p (b1,b2))=F:=by rw[hF];exact zFu ru idT (P:=λz=>decide (z∈isl)) (λz=>zNi (f:=λz=>ad z (b1,b2)) (λe=>yAe e) (λ_=>Iff.rfl) z) p
 have q5:F=true->br ru mb p=true:=λe=>zD1 ru idT (P:=λz=>decide (z∈isl)) (λz hz=>xk ((m15 z).mpr (vm.mpr (.inl (ur hz))))) p (by rw[<- e,hF])
 have q6:br ru [] p=false:=zD0 ru idT ok (λz=>xj (λh=>nomatch h)) p;have q7:br (.cell m1 m2) isl p=decide (ad p (m1,m2)∈isl):=by rw[br,Rl.sem,zS1]
 have okb:∀r:Rl,r.ok->(Rl.by_ T.1 T.2.1 T.2.2.1 T.2.2.2 r).ok:=λr hr=>by rw[Rl.ok];exact⟨bT,hr⟩
 have okn:∀(q:Pt) (r:Rl),Bp 14 q->r.ok->(Rl.at_ q.1 q.2 r).ok:=λq r hq hr=>by rw[Rl.ok];exact⟨hq,hr⟩
 have szb:∀r:Rl,(Rl.by_ T.1 T.2.1 T.2.2.1 T.2.2.2 r).sz=1+r.sz/\(Rl.by_ T.1 T.2.1 T.2.2.1 T.2.2.2 r).lv=r.lv:=λr=>by rw[Rl.sz,Rl.lv];exact⟨rfl,rfl⟩
 have sza:∀(x y:Int) (r:Rl),(Rl.at_ x y r).sz=1+r.sz/\(Rl.at_ x y r).lv=r.lv:=λx y r=>by rw[Rl.sz,Rl.lv];exact⟨rfl,rfl⟩
 have tN:Bp 14 (ap T (n1-2,n2-2)):=(Bp.ap bT bN).mono (by decide);obtain⟨bo,hbo⟩:∃d:D,d=.tup [.tup [tx "by",tabD T,.tup [tx "at",.int (n1-2),.int (n2-2),dr]],.tup [tx "at",.int (ap T (n1-2,n2-2)).1,.int (ap T (n1-2,n2-2)).2,.tup [tx "by",tabD T,dr]]]:=⟨_,rfl⟩
 rw[<- hdr]at lo;have a0:zBt [some (.ref c),some dr,some (cel p),none,none,none,none,none,none,none,none,none,none,none,none,none] S=.rt (.bl true) S6:=by
  refine zA2 (e:=en [.ref c,dr,cel p,tabD T]) (S1:=S1) (zCq (l:=[.ref c,dr,cel p]) (S:=S) (d:=tabD T) ?_ (by simp)) ?_
  ·exact zA6 (zAa (zA1 rfl)) e1
  refine zA2 (e:=en [.ref c,dr,cel p,tabD T,cel (b1,b2),cel (m1,m2)]) (S1:=S3) ?_ ?_
  ·rw[sUnp,show eTup _ (en [.ref c,dr,cel p,tabD T]) S1=.ok (.tup [cel (b1,b2),cel (m1,m2)]) S3 from by rw[eTup,zA5 (zA6 (zAa (zA1 rfl)) e2) (zAa (zA6 (zAa (zA1 rfl)) e3))];rfl];rfl
  refine zA2 (e:=en [.ref c,dr,cel p,tabD T,cel (b1,b2),cel (m1,m2),cel (n1-2,n2-2)]) (S1:=S5) (zCq (l:=[.ref c,dr,cel p,tabD T,cel (b1,b2),cel (m1,m2)]) (S:=S3) (d:=cel (n1-2,n2-2)) ?_ (by simp)) ?_
  ·rw[eTup,zA5 (zAd (zDc rfl e4) rfl rfl) (zAa (zAd (zDc rfl e5) rfl rfl))];rfl
  refine zA2 (e:=en [.ref c,dr,cel p,tabD T,cel (b1,b2),cel (m1,m2),cel (n1-2,n2-2),rowD isl]) (S1:=S6) (zCq (l:=[.ref c,dr,cel p,tabD T,cel (b1,b2),cel (m1,m2),cel (n1-2,n2-2)]) (S:=S5) (d:=rowD isl) ?_ (by simp)) ?_
  ·exact zA6 (zA5 (zA1 rfl) (zAa (zA6 (zA5 (zA1 rfl) (zA5 (zA1 rfl) (zAa rfl))) lo))) e6
  refine zA2 (e:=en [.ref c,dr,cel p,tabD T,cel (b1,b2),cel (m1,m2),cel (n1-2,n2-2),rowD isl,.bl F]) (S1:=S6) (zCq (l:=[.ref c,dr,cel p,tabD T,cel (b1,b2),cel (m1,m2),cel (n1-2,n2-2),rowD isl]) (S:=S6) (d:=.bl F) ?_ (by simp)) ?_
  ·rw[hF];exact zDg (zA1 rfl) (zA1 rfl) (zA1 rfl) hdr.symm ok (by nofun) (by nofun) (by nofun)
  refine zA2 (e:=en [.ref c,dr,cel p,tabD T,cel (b1,b2),cel (m1,m2),cel (n1-2,n2-2),rowD isl,.bl F,cel (ad p (0-b1,0-b2))]) (S1:=S6) (zCq (l:=[.ref c,dr,cel p,tabD T,cel (b1,b2),cel (m1,m2),cel (n1-2,n2-2),rowD isl,.bl F]) (S:=S6) (d:=cel (ad p (0-b1,0-b2))) ?_ (by simp)) ?_
  ·refine zA6 (zA5 (zA1 rfl) (zAa ?_)) zAt;rw[eTup,zA5 (zAd rfl (zAd (zA1 rfl) rfl rfl) rfl) (zAa (zAd rfl (zAd (zA1 rfl) rfl rfl) rfl))];rfl
  refine zA2 (zAg (zIu (zDg (ru:=.at_ b1 b2 ru) (d:=.tup [tx "at",.int b1,.int b2,dr]) ?_ (zA1 rfl) (zA1 rfl) (by rw[Rl.d,hdr]) (okn (b1,b2) ru bB ok) (by rw[(sza _ _ _).1];lia) (by rw[(sza _ _ _).2];lia) (by nofun)) (zA1 rfl) q1) rfl) ?_
  ·rfl
  refine zA2 (e:=en [.ref c,dr,cel p,tabD T,cel (b1,b2),cel (m1,m2),cel (n1-2,n2-2),rowD isl,.bl F,cel (ad p (0-b1,0-b2)),rowD aw]) (S1:=S6) (zCq (l:=[.ref c,dr,cel p,tabD T,cel (b1,b2),cel (m1,m2),cel (n1-2,n2-2),rowD isl,.bl F,cel (ad p (0-b1,0-b2))]) (S:=S6) (d:=rowD aw) ?_ (by simp)) ?_
  ·rw[eCB,zAa (d:=lstD aw) (by rw[eCB,zAa (zT3 (f:=ap T) rfl rfl (by nofun) λq hq=>zA6 (zA5 (zA1 rfl) (zAa (zA1 rfl))) (lc q hq)),Rs.bind_ok,e10];rfl),Rs.bind_ok];rfl
  refine zA2 (e:=en [.ref c,dr,cel p,tabD T,cel (b1,b2),cel (m1,m2),cel (n1-2,n2-2),rowD isl,.bl F,cel (ad p (0-b1,0-b2)),rowD aw,cel (ap T p)]) (S1:=S6) (zCq (l:=[.ref c,dr,cel p,tabD T,cel (b1,b2),cel (m1,m2),cel (n1-2,n2-2),rowD isl,.bl F,cel (ad p (0-b1,0-b2)),rowD aw]) (S:=S6) (d:=cel (ap T p)) ?_ (by simp)) ?_
  ·exact zA6 (zA5 (zA1 rfl) (zAa (zA1 rfl))) (zE0 (k:=915) (by decide) (by decide) bT hp)
  refine zA2 (zAg (zIu (zDg (ru:=.by_ T.1 T.2.1 T.2.2.1 T.2.2.2 ru) (d:=.tup [tx "by",tabD T,dr]) ?_ (zA1 rfl) (zA1 rfl) (by rw[Rl.d,hdr]) (okb ru ok) (by rw[(szb _).1];lia) (by rw[(szb _).2];lia) (by nofun)) (zA1 rfl) q2) rfl) ?_
  ·rfl
  refine zA2 (e:=en [.ref c,dr,cel p,tabD T,cel (b1,b2),cel (m1,m2),cel (n1-2,n2-2),rowD isl,.bl F,cel (ad p (0-b1,0-b2)),rowD aw,cel (ap T p),cel (ap T (n1-2,n2-2))]) (S1:=S6) (zCq (l:=[.ref c,dr,cel p,tabD T,cel (b1,b2),cel (m1,m2),cel (n1-2,n2-2),rowD isl,.bl F,cel (ad p (0-b1,0-b2)),rowD aw,cel (ap T p)]) (S:=S6) (d:=cel (ap T (n1-2,n2-2))) ?_ (by simp)) ?_
  ·exact zA6 (zA5 (zA1 rfl) (zAa (zA1 rfl))) (zE0 (k:=3) (by decide) (by decide) bT bN)
  refine zA2 (e:=en [.ref c,dr,cel p,tabD T,cel (b1,b2),cel (m1,m2),cel (n1-2,n2-2),rowD isl,.bl F,cel (ad p (0-b1,0-b2)),rowD aw,cel (ap T p),cel (ap T (n1-2,n2-2)),bo]) (S1:=S6) (zCq (l:=[.ref c,dr,cel p,tabD T,cel (b1,b2),cel (m1,m2),cel (n1-2,n2-2),rowD isl,.bl F,cel (ad p (0-b1,0-b2)),rowD aw,cel (ap T p),cel (ap T (n1-2,n2-2))]) (S:=S6) (d:=bo) ?_ (by simp)) ?_
  ·rw[hbo];rfl
  refine zA2 (zAg (b:=zAl) ?_ rfl) ?_
  ·refine(zBu (zAd (zDg (ru:=.by_ T.1 T.2.1 T.2.2.1 T.2.2.2 (.at_ (n1-2) (n2-2) ru)) (zAd (x:=bo) (zA1 rfl) rfl (by rw[hbo];rfl)) (zA1 rfl) (zA1 rfl) (by rw[Rl.d,Rl.d,hdr]) (okb _ (okn (n1-2,n2-2) ru (bN.mono (by decide)) ok)) (by rw[(szb _).1,(sza _ _ _).1];lia) (by rw[(szb _).2,(sza _ _ _).2];lia) (by nofun)) (zDg (ru:=.at_ (ap T (n1-2,n2-2)).1 (ap T (n1-2,n2-2)).2 (.by_ T.1 T.2.1 T.2.2.1 T.2.2.2 ru)) (zAd (x:=bo) (zA1 rfl) rfl (by rw[hbo];rfl)) (zA1 rfl) (zA1 rfl) (by rw[Rl.d,Rl.d,hdr]) (okn _ _ tN (okb ru ok)) (by rw[(sza _ _ _).1,(szb _).1];lia) (by rw[(sza _ _ _).2,(szb _).2];lia) (by nofun)) rfl)).trans ?_;rw[q3,xk rfl];rfl
  refine zA2 (e:=en [.ref c,dr,cel p,tabD T,cel (b1,b2),cel (m1,m2),cel (n1-2,n2-2),rowD isl,.bl F,cel (ad p (0-b1,0-b2)),rowD aw,cel (ap T p),cel (ap T (n1-2,n2-2)),bo,rowD (isl.map λz=>ad z (b1,b2))]) (S1:=S6) (zCq (l:=[.ref c,dr,cel p,tabD T,cel (b1,b2),cel (m1,m2),cel (n1-2,n2-2),rowD isl,.bl F,cel (ad p (0-b1,0-b2)),rowD aw,cel (ap T p),cel (ap T (n1-2,n2-2)),bo]) (S:=S6) (d:=rowD (isl.map λz=>ad z (b1,b2))) ?_ (by simp)) ?_
  ·rw[eCB,zAa (zT3 (f:=λz=>ad z (b1,b2)) rfl rfl (by nofun) λq hq=>zA6 (zA5 (zA1 rfl) (zAa (zA1 rfl))) zAt),Rs.bind_ok];rfl
  refine zA2 (zAg (zIu (zDg (zA1 rfl) (zA1 rfl) (zA6 (zA5 (zA1 rfl) (zAa (zA1 rfl))) zAt) hdr.symm ok (by nofun) (by nofun) (by rw[xn];lia)) (zA1 rfl) q4) rfl) ?_;refine zA2 (e:=en [.ref c,dr,cel p,tabD T,cel (b1,b2),cel (m1,m2),cel (n1-2,n2-2),rowD isl,.bl F,cel (ad p (0-b1,0-b2)),rowD aw,cel (ap T p),cel (ap T (n1-2,n2-2)),bo,rowD (isl.map λz=>ad z (b1,b2)),rowD mb]) (S1:=S6) (zCq (l:=[.ref c,dr,cel p,tabD T,cel (b1,b2),cel (m1,m2),cel (n1-2,n2-2),rowD isl,.bl F,cel (ad p (0-b1,0-b2)),rowD aw,cel (ap T p),cel (ap T (n1-2,n2-2)),bo,rowD (isl.map λz=>ad z (b1,b2))]) (S:=S6) (d:=rowD mb) ?_ (by simp)) ?_
  ·refine(?_:eCB zBv (zA0 (eUn ssL (eOp addE (eVar 7) (eTup (zA0 (eVar 5) aNil)))) aNil) (en [.ref c,dr,cel p,tabD T,cel (b1,b2),cel (m1,m2),cel (n1-2,n2-2),rowD isl,.bl F,cel (ad p (0-b1,0-b2)),rowD aw,cel (ap T p),cel (ap T (n1-2,n2-2)),bo,rowD (isl.map λz=>ad z (b1,b2))]) S6=_);have ad1:addE S6 (rowD isl) (.tup [cel (m1,m2)])=some (.tup ((isl++[(m1,m2)]).map cel)):=by
    rw[vw];exact zKq (xm (show _<=1000 by rw[xn];show isl.length+1<=1000;lia) (by decide))
   rw[eCB,zAa (zG7 (zAd (zA1 rfl) rfl ad1) e15),Rs.bind_ok];rfl
  have tA:tAnd (tTru (eVar 8)) (tNot (tTru (zA3 zAb (zA0 (eVar 1) (zA0 (eVar 15) (zA0 (eVar 2) aNil)))))) (en [.ref c,dr,cel p,tabD T,cel (b1,b2),cel (m1,m2),cel (n1-2,n2-2),rowD isl,.bl F,cel (ad p (0-b1,0-b2)),rowD aw,cel (ap T p),cel (ap T (n1-2,n2-2)),bo,rowD (isl.map λz=>ad z (b1,b2)),rowD mb]) S6=.ok (decide False) S6:=by
   refine zJp (p:=F=true) (S1:=S6) (by rw[tTru,zA1 rfl,Rs.bind_ok];show Rs.ok F S6=_;cases F <;> rfl) (λ_=>by rw[xj id]) λz=>?_
   rw[tNot,tTru,zDg (zA1 rfl) (zA1 rfl) (zA1 rfl) hdr.symm ok (by nofun) (by nofun) (by nofun),Rs.bind_ok,q5 z,xj id];rfl
  refine zA2 (zAg (zPs (p:=False) tA (λz=>z.elim) λ_=>zIu (zDg (isl:=[]) (zA1 rfl) rfl (zA1 rfl) hdr.symm ok (by nofun) (by nofun) (xC _)) rfl q6) rfl) ?_;have rt:=zA6 (F:=zAn) (zA5 (zDg (S:=S6) (env:=en [.ref c,dr,cel p,tabD T,cel (b1,b2),cel (m1,m2),cel (n1-2,n2-2),rowD isl,.bl F,cel (ad p (0-b1,0-b2)),rowD aw,cel (ap T p),cel (ap T (n1-2,n2-2)),bo,rowD (isl.map λz=>ad z (b1,b2)),rowD mb]) (e1:=eOp addE (eTup (zA0 (eC (.str (PySem.Str.ofString "cell"))) aNil)) (eVar 5)) (ru:=.cell m1 m2) (zAd (S1:=S6) rfl (zA1 rfl) (zKq (l:=[tx "cell"]) (m:=[.int m1,.int m2]) (by show 3<=most;decide))) (zA1 (i:=7) rfl) (zA1 (i:=2) rfl) (by rw[Rl.d];rfl) (by rw[Rl.ok];exact bM) (by rw[Rl.sz];decide) (by rw[Rl.lv];decide) (by nofun)) (zAa (zAd (zA6 (zA5 (zA1 (i:=2) rfl) (zAa (zA1 (i:=5) rfl))) zAt) (zA1 (i:=7) rfl) zVm))) zVj;rw[xk q7]at rt;exact zBw rt
 obtain⟨S7,e7,f7,o7⟩:=zAs (np:=3) (nl:=16) (b:=zBt) (ds:=[.ref c,dr,cel p]) (d:=.bl true) (S':=S6) rfl a0 h f6 (((((o1.trans o2).trans o3).trans o4).trans o5).trans o6).grow rfl;rw[<- hdr];exact⟨S7,e7,f7,o7⟩
theorem yAj{g:Store->D->Option Int->Option Int->Option D}{a:EM}{k:Int}(ha:a env S=.ok x S)(hg:g S x none (some k)=some z):eSl g a pNo (pYes (eC (.int k))) env S=.ok z S:=by rw[eSl,ha];show(lift (g S x none (some k)) S:Rs D)=_;rw[hg];rfl
theorem zK0:∀{l:List Rl},(∀ru∈l,ru.sz<=4)->lvL l<=4*l.length/\szL l<=4*l.length
 | [],_=>⟨xC _,xC _⟩
 | r::l,h=>by
  have h1:=h r (.head _);have h2:=zF2 r (by nofun);have⟨h3,h4⟩:=zK0 λx hx=>h x (.tail _ hx)
  rw[lvL,szL,xo];lia
noncomputable abbrev cR (q:Pt):Rl:=.cell q.1 q.2
theorem zT7{Q:Pt->Bool}:∀cs:List Pt,semN (cs.map cR) idT Q p=(cs.filter λq=>Q (ad p q)).length
 | []=>by rw[xX,semN];rfl
 | q::cs=>by
  rw[xt,semN,Rl.sem,zS1,zT7 cs];simp only[List.filter_cons];by_cases c:Q (ad p q)=true
  ·rw[xb c,xb c,xo];lia
  ·rw[xc c,xc c];lia
theorem yA6:∀cs:List Pt,szL (cs.map cR)=cs.length/\lvL (cs.map cR)=cs.length
 | []=>by rw[xX,szL,lvL];exact⟨rfl,rfl⟩
 | q::cs=>by
  have:=yA6 cs;rw[xt,szL,lvL,Rl.sz,Rl.lv,this.1,this.2,xo,Nat.add_comm];exact⟨rfl,rfl⟩
theorem zOa{α:Type}{f:α->List Pt}{n:Nat}:∀{l:List α},(∀s∈l,(f s).length<=n)->(l.flatMap f).length<=n*l.length
 | [],_=>xC _
 | a::l,h=>by
  have h1:=h a (.head _);have h2:=zOa λs hs=>h s (.tail _ hs)
  rw[List.flatMap_cons,xE,xo,Nat.mul_succ];lia
theorem zHe{n:Nat}{l:List Pt}(h:S[n]?=some (lstD l))(hl:l.length<=150):slD S (.ref n) none (some 150)=some (lstD l):=by show(match look S (.ref n)with|some (.lst l)=>some (D.lst (cutL l none (some ((150:Nat):Int))))|_=>none)=_;rw[zBx h];show some (D.lst (cutL (l.map cel) none (some ((150:Nat):Int))))=_;rw[zIz (by rw[xn];exact hl)]
theorem yA3{S:Store}{rs:List Rl}{isl:List Pt}(h1:env[1]?=some (some (.tup (dL rs))))(h5:env[5]?=some (some (rowD isl)))(h2:env[2]?=some (some (cel p)))(ok:∀ru∈rs,ru.ok/\ru.sz<=4)(hl:rs.length<=1000)(hi:isl.length<=1000):
  eCB lenB (zA0 (zB2 1 [5,2] (iVal (eVar 1)) (gName 0) (tTru (zA3 zAb (zA0 (eVar 0) (zA0 (eVar 1) (zA0 (eVar 2) aNil))))) (eVar 0)) aNil) env S=.ok (.int (semN rs idT (λz=>decide (z∈isl)) p:Nat)) S:=by
 have:=zOg (h:=Rl.d) (f:=Rl.d) (p:=λru=>br ru isl p) (own:=1) (ix:=[5,2]) (i:=iVal (eVar 1)) (gd:=[]) (g:=gName 0) (c:=tTru (zA3 zAb (zA0 (eVar 0) (zA0 (eVar 1) (zA0 (eVar 2) aNil))))) (e:=eVar 0) (S:=S) (env:=env) (xs:=rs) (λenv=>∃o,env=[o,some (rowD isl),some (cel p)]) (by rw[<- zC8];exact zE2 (zA1 h1)) zAz ⟨none,by show [none,(env[5]?).join,(env[2]?).join]=_;rw[h5,h2];rfl⟩ (xm hl (by decide)) (λru hr env ho=>by
  obtain⟨o,rfl⟩:=ho;obtain⟨k1,k2⟩:=ok ru hr;have lv:=zF2 ru (by nofun);exact⟨[some ru.d,some (rowD isl),some (cel p)],rfl,⟨_,rfl⟩,by rw[tTru,zDg (zA1 rfl) (zA1 rfl) (zA1 rfl) rfl k1 (by nofun) (by nofun) hi];rfl,λ_=>rfl⟩)
 rw[eCB,zAa this,Rs.bind_ok,zEy];show(lift (some (D.int (((rs.filter _).map Rl.d).length:Int))) S:Rs D)=_;rw[xn];rfl
theorem zIh{c:Nat}(ok:∀ru∈r0::rs,ru.ok/\ru.sz<=4)(hn:(r0::rs).length<=9)(hp:Bp 900 p)(h:Feed S c):∃S',zB5 [.ref c,.tup (dL (r0::rs)),cel p] S=.ok (.bl true) S'/\Feed S' c/\Only c c S S':=by
 obtain⟨L,hL⟩:∃L,L=r0::rs:=⟨_,rfl⟩
 rw[<- hL]at ok hn ⊢;obtain⟨R,hR⟩:∃R:D,R=.tup (dL L):=⟨_,rfl⟩
 have n1:1<=L.length:=by rw[hL,xo];lia
 have hp':Bp 915 p:=hp.mono (by decide);have⟨lv4,sz4⟩:=zK0 λru hr=>(ok ru hr).2
 have okl:okL L:=okL_iff.mpr λru hr=>(ok ru hr).1
 -- the places
 have l1:(L.flatMap λru=>ru.lf idT p).length<=36:=by rw[<- zEl,zGi];lia
 have lo:=λru (hr:ru∈L) (S:Store)=>zF6 (S:=S) (ok ru hr).1 (by have:=(ok ru hr).2;lia) hp'
 obtain⟨o4,e1⟩:=zDr (S:=S) (j:=4) (b:=zD9 (eMt "list" zB8 (eVar 3) (zA0 (eSl slD (zA3 zAv (zA0 (eVar 4) (zA0 (eVar 2) (zA0 (eTup (zA0 (eC (.int 1)) (zA0 (eC (.int 0)) (zA0 (eC (.int 0)) (zA0 (eC (.int 1)) aNil))))) aNil)))) pNo (pYes (eC (.int 20)))) aNil))) (h:=Rl.d) (g:=λru=>ru.lf idT p) (λo=>[some (.ref c),some R,some (cel p),some (.ref S.length),o,none,none,none,none,none,none,none,none]) (λ_ _ _=>rfl) L [] none
  (λru hr acc ha=>zKb rfl (yAj (zA6 (zA5 (zA1 rfl) (zA5 (zA1 rfl) (zAa rfl))) (lo ru hr _).1) (by
   show some (D.lst (cutL ((ru.lf idT p).map cel) none (some ((20:Nat):Int))))=_;rw[zIz (by rw[xn];have:=(lo ru hr S).2.1;have:=(ok ru hr).2;lia)])) ha) (by show 0+_<=5000;lia)
 rw[uv]at e1;obtain⟨l,hl⟩:∃l,l=L.flatMap λru=>ru.lf idT p:=⟨_,rfl⟩
 rw[<- hl]at e1 l1;have f0:Feed (S++[lstD l]) c:=h.app _;obtain⟨i1,S1,e2,ib1,il1,f1,o1⟩:=zFa (S:=S++[lstD l]) (pl:=.ref S.length) (l:=l) (zHe zDe (by nofun)) (λq hq=>by
  rw[hl]at hq;obtain⟨ru,hr,hq⟩:=List.mem_flatMap.mp hq;exact(lo ru hr S).2.2 q hq) (by nofun) f0
 obtain⟨M,hM⟩:∃M:Nat,M=semN L idT (λz=>decide (z∈i1)) p:=⟨_,rfl⟩
 have M9:M<=L.length:=by rw[hM];exact zIj _ _ _ _
 obtain⟨a,S2,e3,a0,a9,f2,o2⟩:=taken (many:=(L.length:Nat)) (by nofun) (by nofun) f1;obtain⟨K,hK⟩:∃K:Int,K=1+a:=⟨_,rfl⟩
 have ln:∀S,lenB S [R]=some (.int (L.length:Nat)):=λS=>by rw[hR,zGj,zC8,xn]
 have rk:∀(w:Nat) (k:Int),1<=lst w k L.length->lst w k L.length<=L.length->(Rl.many w k L).ok/\(Rl.many w k L).sz<=40/\(Rl.many w k L).lv<=1000000:=λw k h1 h2=>by
  rw[Rl.ok,Rl.sz,Rl.lv];exact⟨⟨⟨h1,h2,by nofun⟩,okl⟩,by nofun,by nofun⟩
 have bm:∀(w:Nat) (k:Int),br (.many w k L) i1 p=decide (lst w k L.length<=(M:Int)):=λw k=>by rw[br,Rl.sem,<- hM]
 -- the cells
 obtain⟨cs,S3,e4,l4,b4,f3,o3⟩:=zGv (h:=Rl.d) (k:=cel) (own:=1) (ix:=[0]) (i:=iVal (eVar 1)) (g:=gName 0) (e:=zA3 zAe (zA0 (eVar 1) aNil)) (S:=S2) (S0:=S2) (env:=[some (.ref c),some R,some (cel p),some (.ref S.length),o4,some (rowD i1),some (.int (M:Nat)),some (.int K),none,none,none,none,none]) (xs:=L) (gd:=[]) (λenv=>∃x,env=[x,some (.ref c)]) (λS'=>Feed S' c/\Only c c S2 S') (λq:Pt=>Bp 14 q) (by rw[<- zC8];exact zE2 (by rw[<- hR];exact zA1 rfl)) (λ_ _=>zAz) ⟨none,rfl⟩ ⟨f2,.refl⟩ (xm hn (by decide)) (λru _ env T he hj=>by
  obtain⟨x,rfl⟩:=he;obtain⟨u,v,T1,d1,bb,g1,p1⟩:=zDf hj.1;exact⟨[some ru.d,some (.ref c)],(u,v),T1,rfl,⟨_,rfl⟩,zA6 (zAa (zA1 rfl)) d1,Bp.sm bb,g1,hj.2.trans p1⟩)
 have⟨cz,cv⟩:=yA6 cs;obtain⟨Q,hQ⟩:∃Q:D,Q=.tup [tx "least",.int K,.tup (dL (cs.map cR))]:=⟨_,rfl⟩
 have r0k:=ok r0 (by rw[hL];exact .head _);have x0:∀S,ixD S R (.int 0)=some r0.d:=λS=>by rw[hR,hL,dL];exact atL0
 have lo2:=λq (hq:q∈cs) (S:Store)=>zF6 (S:=S) (p:=ad p q) r0k.1 (by nofun) ((hp.ad (b4 q hq)).mono (by decide))
 have l2:(cs.flatMap λq=>r0.lf idT (ad p q)).length<=36:=xm (zOa (n:=4) λq hq=>xm (lo2 q hq S).2.1 r0k.2) (by nofun);obtain⟨o11,e5⟩:=zDr (S:=S3) (j:=11) (b:=zD9 (eMt "list" zB8 (eVar 10) (zA0 (zA3 zAv (zA0 (eOp ixD (eVar 1) (eC (.int 0))) (zA0 (zA3 zA8 (zA0 (eVar 2) (zA0 (eVar 11) aNil))) (zA0 (eTup (zA0 (eC (.int 1)) (zA0 (eC (.int 0)) (zA0 (eC (.int 0)) (zA0 (eC (.int 1)) aNil))))) aNil)))) aNil))) (h:=cel) (g:=λq=>r0.lf idT (ad p q)) (λo=>[some (.ref c),some R,some (cel p),some (.ref S.length),o4,some (rowD i1),some (.int (M:Nat)),some (.int K),some (lstD cs),some Q,some (.ref S3.length),o,none]) (λ_ _ _=>rfl) cs [] none
  (λq hq acc ha=>zKb rfl (zA6 (zA5 (zAd (zA1 rfl) rfl (x0 _)) (zA5 (zA6 (zA5 (zA1 rfl) (zAa (zA1 rfl))) zAt) (zAa rfl))) (lo2 q hq _).1) ha) (by show 0+_<=5000;lia)
 rw[uv]at e5;obtain⟨m,hm⟩:∃m,m=cs.flatMap λq=>r0.lf idT (ad p q):=⟨_,rfl⟩
 rw[<- hm]at e5 l2;obtain⟨i2,S4,e6,ib2,il2,f4,o4'⟩:=zFa (S:=S3++[lstD m]) (pl:=.ref S3.length) (l:=m) (zHe zDe (by nofun)) (λq hq=>by
  rw[hm]at hq;obtain⟨s,hs,hq⟩:=List.mem_flatMap.mp hq;exact(lo2 s hs S).2.2 q hq) (by nofun) (f3.app _)
 have e7:zB2 1 [5,1,2] (iVal (eVar 8)) (gName 0) (tTru (zA3 zAb (zA0 (eOp ixD (eVar 2) (eC (.int 0))) (zA0 (eVar 1) (zA0 (zA3 zA8 (zA0 (eVar 3) (zA0 (eVar 0) aNil))) aNil))))) (eVar 0) [some (.ref c),some R,some (cel p),some (.ref S.length),o4,some (rowD i2),some (.int (M:Nat)),some (.int K),some (lstD cs),some Q,some (.ref S3.length),o11,none] S4=.ok (lstD (cs.filter λq=>br r0 i2 (ad p q))) S4:=by
  have:=zOg (h:=cel) (f:=cel) (p:=λq=>br r0 i2 (ad p q)) (own:=1) (ix:=[5,1,2]) (i:=iVal (eVar 8)) (gd:=[]) (g:=gName 0) (c:=tTru (zA3 zAb (zA0 (eOp ixD (eVar 2) (eC (.int 0))) (zA0 (eVar 1) (zA0 (zA3 zA8 (zA0 (eVar 3) (zA0 (eVar 0) aNil))) aNil))))) (e:=eVar 0) (S:=S4) (env:=[some (.ref c),some R,some (cel p),some (.ref S.length),o4,some (rowD i2),some (.int (M:Nat)),some (.int K),some (lstD cs),some Q,some (.ref S3.length),o11,none]) (xs:=cs) (λenv=>∃o,env=[o,some (rowD i2),some R,some (cel p)]) (zHp (zA1 rfl)) zAz ⟨none,rfl⟩ (by rw[l4];exact xm hn (by decide)) (λq hq env ho=>by
   obtain⟨o,rfl⟩:=ho;have lv:=zF2 r0 (by nofun);exact⟨[some (cel q),some (rowD i2),some R,some (cel p)],rfl,⟨_,rfl⟩,by rw[tTru,zDg (zAd (zA1 rfl) rfl (x0 _)) (zA1 rfl) (zA6 (zA5 (zA1 rfl) (zAa (zA1 rfl))) zAt) rfl r0k.1 (by nofun) (by nofun) (by nofun)];rfl,λ_=>rfl⟩)
  exact this
 obtain⟨bk,hbk⟩:∃bk,bk=cs.filter λq=>br r0 i2 (ad p q):=⟨_,rfl⟩
 rw[<- hbk]at e7;have qe:br (.then_ r0 (.many 2 K (cs.map cR))) i2 p=decide (K<=(bk.length:Nat)):=by rw[br,Rl.sem,Rl.sem,zT7,hbk];rfl
 have okc:okL (cs.map cR):=okL_iff.mpr λru hr=>by
  obtain⟨q,hq,rfl⟩:=xw.mp hr;rw[Rl.ok];exact b4 q hq
 have ok2:(Rl.then_ r0 (.many 2 K (cs.map cR))).ok:=by rw[Rl.ok,Rl.ok];exact⟨r0k.1,⟨by show 1<=K;lia,by rw[xn];show K<=_;lia,by rw[xn];lia⟩,okc⟩
 have lv0:=zF2 r0 (by nofun);have b0:zBs [some (.ref c),some R,some (cel p),none,none,none,none,none,none,none,none,none,none] S=.rt (.bl true) S4:=by
  refine zA2 (e:=[some (.ref c),some R,some (cel p),some (.ref S.length),none,none,none,none,none,none,none,none,none]) (S1:=S++[lstD []]) rfl (zA2 (e:=[some (.ref c),some R,some (cel p),some (.ref S.length),o4,none,none,none,none,none,none,none,none]) (S1:=S++[lstD l]) ?_ (zA2 (e:=[some (.ref c),some R,some (cel p),some (.ref S.length),o4,some (rowD i1),none,none,none,none,none,none,none]) (S1:=S1) ?_ (zA2 (e:=[some (.ref c),some R,some (cel p),some (.ref S.length),o4,some (rowD i1),some (.int (M:Nat)),none,none,none,none,none,none]) (S1:=S1) ?_ (zA2 (e:=[some (.ref c),some R,some (cel p),some (.ref S.length),o4,some (rowD i1),some (.int (M:Nat)),some (.int K),none,none,none,none,none]) (S1:=S2) ?_ ?_))))
  ·rw[sFor,zE2 (l:=dL L) (by rw[<- hR];exact zA1 rfl),Rs.then_ok,zC8];exact e1
  ·rw[sSet,zA6 (zA5 (zA1 rfl) (zAa (zA1 rfl))) e2];rfl
  ·rw[sSet,yA3 (rs:=L) (isl:=i1) (p:=p) (by rw[<- hR];rfl) rfl rfl ok (by nofun) (by nofun),<- hM];rfl
  ·rw[sSet,zAd rfl (zA6 (zA5 (zA1 rfl) (zAa (by rw[eCB,zAa (zA1 rfl),Rs.bind_ok,ln];rfl))) e3) rfl,<- hK];rfl
  have k0:=rk 0 0 (by show 1<=((L.length:Nat):Int);lia) (Int.le_refl _);have k1:=rk 1 0 (Int.le_refl _) (by show 1<=((L.length:Nat):Int);lia);have k2:=rk 2 K (by show 1<=K;lia) (by show K<=_;lia);refine zA2 (zAg (zIu (zDg (ru:=.many 0 0 L) (d:=.tup [tx "all",R]) rfl (zA1 rfl) (zA1 rfl) (by rw[Rl.d,hR];rfl) k0.1 k0.2.1 k0.2.2 (by nofun)) (zAd (zA1 rfl) (by rw[eCB,zAa (zA1 rfl),Rs.bind_ok,ln];rfl) zCi) ?_) rfl) ?_
  ·rw[bm];exact x3.mpr (by show((L.length:Nat):Int)<=M <-> _;lia)
  refine zA2 (zAg (zIu (zDg (ru:=.many 1 0 L) (d:=.tup [tx "any",R]) rfl (zA1 rfl) (zA1 rfl) (by rw[Rl.d,hR];rfl) k1.1 k1.2.1 k1.2.2 (by nofun)) (zAd (zA1 rfl) rfl (gt_int (y:=0))) ?_) rfl) ?_
  ·rw[bm];exact x3.mpr (by show(1:Int)<=M <-> _;lia)
  refine zA2 (zAg (zIu (zDg (ru:=.many 2 K L) (d:=.tup [tx "least",.int K,R]) rfl (zA1 rfl) (zA1 rfl) (by rw[Rl.d,hR];rfl) k2.1 k2.2.1 k2.2.2 (by nofun)) (zAd (zA1 rfl) (zA1 rfl) (show geD _ (.int (M:Nat)) (.int K)=some (.bl (decide (K<=(M:Nat))))from rfl)) ?_) rfl) ?_
  ·rw[bm];rfl
  refine zA2 (e:=[some (.ref c),some R,some (cel p),some (.ref S.length),o4,some (rowD i1),some (.int (M:Nat)),some (.int K),some (lstD cs),none,none,none,none]) (S1:=S3) (by rw[sSet,e4];rfl) (zA2 (e:=[some (.ref c),some R,some (cel p),some (.ref S.length),o4,some (rowD i1),some (.int (M:Nat)),some (.int K),some (lstD cs),some Q,none,none,none]) (S1:=S3) ?_ (zA2 (e:=[some (.ref c),some R,some (cel p),some (.ref S.length),o4,some (rowD i1),some (.int (M:Nat)),some (.int K),some (lstD cs),some Q,some (.ref S3.length),none,none]) (S1:=S3++[lstD []]) rfl (zA2 (e:=[some (.ref c),some R,some (cel p),some (.ref S.length),o4,some (rowD i1),some (.int (M:Nat)),some (.int K),some (lstD cs),some Q,some (.ref S3.length),o11,none]) (S1:=S3++[lstD m]) ?_ (zA2 (e:=[some (.ref c),some R,some (cel p),some (.ref S.length),o4,some (rowD i2),some (.int (M:Nat)),some (.int K),some (lstD cs),some Q,some (.ref S3.length),o11,none]) (S1:=S4) ?_ (zA2 (e:=[some (.ref c),some R,some (cel p),some (.ref S.length),o4,some (rowD i2),some (.int (M:Nat)),some (.int K),some (lstD cs),some Q,some (.ref S3.length),o11,some (lstD bk)]) (S1:=S4) (by rw[sSet,e7];rfl) ?_)))))
  ·have q:=zIw (h:=cel) (f:=λq=>(cR q).d) (own:=1) (ix:=[]) (i:=iVal (eVar 8)) (gd:=[]) (g:=gName 0) (e:=eOp addD (eTup (zA0 (eC (.str (PySem.Str.ofString "cell"))) aNil)) (eVar 0)) (S:=S3) (env:=[some (.ref c),some R,some (cel p),some (.ref S.length),o4,some (rowD i1),some (.int (M:Nat)),some (.int K),some (lstD cs),none,none,none,none]) (xs:=cs) (λenv=>∃o,env=[o]) (zHp (zA1 rfl)) zAz ⟨none,rfl⟩ (by rw[l4];exact xm hn (by decide)) (λq hq env ho=>by
    obtain⟨o,rfl⟩:=ho;refine⟨[some (cel q)],rfl,⟨_,rfl⟩,zAd (x:=.tup [tx "cell"]) rfl (zA1 rfl) ?_⟩;show(if [tx "cell"]≠[]/\[tx "cell"].length+[D.int q.1,.int q.2].length<=most then some (D.tup ([tx "cell"]++[.int q.1,.int q.2]))else none)=_;rw[xb ⟨by simp,(by show 1+2<=most;decide)⟩,Rl.d];rfl)
   have q2:eCB zBv (zA0 (zB2 1 [] (iVal (eVar 8)) (gName 0) tYes (eOp addD (eTup (zA0 (eC (.str (PySem.Str.ofString "cell"))) aNil)) (eVar 0))) aNil) [some (.ref c),some R,some (cel p),some (.ref S.length),o4,some (rowD i1),some (.int (M:Nat)),some (.int K),some (lstD cs),none,none,none,none] S3=.ok (.tup (dL (cs.map cR))) S3:=by rw[eCB,zAa q,Rs.bind_ok,zC8,vD];rfl
   rw[sSet,eTup,zA5 (d:=tx "least") rfl (zA5 (zA1 rfl) (zAa q2)),hQ];rfl
  ·rw[sFor,zHp (zA1 rfl),Rs.then_ok];exact e5
  ·rw[sSet,zA6 (zA5 (zA1 rfl) (zAa (zA1 rfl))) e6];rfl
  have X:eTup (zA0 (eC (.str (PySem.Str.ofString "then"))) (zA0 (eOp ixD (eVar 1) (eC (.int 0))) (zA0 (eVar 9) aNil))) [some (.ref c),some R,some (cel p),some (.ref S.length),o4,some (rowD i2),some (.int (M:Nat)),some (.int K),some (lstD cs),some Q,some (.ref S3.length),o11,some (lstD bk)] S4=.ok (.tup [tx "then",r0.d,Q]) S4:=by rw[eTup,zA5 (d:=tx "then") rfl (zA5 (zAd (zA1 rfl) rfl (x0 _)) (zAa (zA1 rfl)))];rfl
  have lb:lenB S4 [lstD bk]=some (.int (bk.length:Nat)):=by show some (D.int ((bk.map cel).length:Int))=_;rw[xn]
  have lE:eCB lenB (zA0 (eVar 12) aNil) [some (.ref c),some R,some (cel p),some (.ref S.length),o4,some (rowD i2),some (.int (M:Nat)),some (.int K),some (lstD cs),some Q,some (.ref S3.length),o11,some (lstD bk)] S4=.ok (.int (bk.length:Nat)) S4:=by rw[eCB,zAa (zA1 rfl),Rs.bind_ok,lb];rfl
  have rt:=zA6 (F:=zAn) (zA5 (zDg (ru:=.then_ r0 (.many 2 K (cs.map cR))) X (zA1 (i:=5) rfl) (zA1 (i:=2) rfl) (by rw[Rl.d,Rl.d,hQ];rfl) ok2 (by rw[Rl.sz,Rl.sz,cz];lia) (by
   rw[Rl.lv,Rl.lv,cv];exact xm (Nat.mul_le_mul (show r0.lv<=4 by nofun) (show cs.length<=9 by nofun)) (by decide)) (by nofun)) (zAa (zAd (x:=.int (bk.length:Nat)) lE (zA1 (i:=7) rfl) (show geD _ (.int (bk.length:Nat)) (.int K)=some (.bl (decide (K<=(bk.length:Nat))))from rfl)))) zVj
  rw[xk qe]at rt;exact zBw rt
 have gr:Grow c c S S4:=((((Grow.app (S:=S) [lstD l]).trans o1.grow).trans o2.grow).trans o3.grow).trans ((Grow.app (S:=S3) [lstD m]).trans o4'.grow);obtain⟨S7,e9,f9,o9⟩:=zAs (np:=3) (nl:=13) (b:=zBs) (ds:=[.ref c,R,cel p]) (d:=.bl true) (S':=S4) rfl b0 h f4 gr rfl;rw[<- hR];exact⟨S7,e9,f9,o9⟩
noncomputable abbrev rlE (i:Nat) (n d:Int):EM:=zA3 zCe (zA0 (eVar i) (zA0 (eOp addD (eC (.int 1)) (zA3 zA4 (zA0 (eVar i) (zA0 (eC (.int n)) aNil)))) (zA0 (eC (.int d)) (zA0 (eC (.int 1)) (zA0 (eLst aNil) aNil)))))
theorem zXc{c N D:Nat}{n d:Int}(hn:n=N)(hd:d=D)(h1:1<=N)(h2:N<=60)(h3:1<=D)(h4:D<=8)(hi:env[i]?=some (some (.ref c)))(h:Feed S c):∃(t:Rl) (S':Store),rlE i n d env S=.ok t.d S'/\(t.ok/\t.sz<=N)/\Feed S' c/\Only c c S S':=by
 obtain⟨a,S1,e1,a0,a9,f1,o1⟩:=taken (many:=n) (by nofun) (by nofun) h;obtain⟨m,hm⟩:∃m:Nat,(m:Int)=1+a:=⟨(1+a).toNat,by nofun⟩
 obtain⟨t,S2,e2,ok,sz,f2,o2⟩:=zMn (c:=c) 8 D m 1 S1 h3 h4 (by nofun) (by nofun) f1;rw[hm,<- hd]at e2;exact⟨t,S2,zA6 (zA5 (zA1 hi) (zA5 (zAd rfl (zDc hi e1) rfl) (zA5 rfl (zA5 rfl (zAa rfl))))) e2,⟨ok,by nofun⟩,f2,o1.trans o2⟩
noncomputable abbrev b3:SM:=sIf (tNot (tTru (zA3 zB6 (zA0 (eVar 2) (zA0 (rlE 2 6 6) (zA0 (eVar 3) aNil)))))) (sRet (eC (.bl false))) zAl
noncomputable abbrev rsE:EM:=eCB zBv (zA0 (zB2 1 [2] (zBo (zA0 (eOp addD (eC (.int 1)) (zA3 zA4 (zA0 (eVar 2) (zA0 (eC (.int 9)) aNil)))) aNil)) (gName 0) tYes (rlE 1 4 4)) aNil)
noncomputable abbrev tgS:SM:=sIf (tNot (tTru (zA3 zB5 (zA0 (eVar 2) (zA0 (eVar 5) (zA0 (eVar 3) aNil)))))) (sRet (eC (.bl false))) zAl
noncomputable abbrev lwB:SM:=sSeq (sSet 2 (zA3 zCf (zA0 (eVar 0) (zA0 (eVar 1) aNil)))) (sSeq (sSet 3 (zA3 zBy (zA0 (eVar 2) aNil))) (sSeq (sFor (zBo (zA0 (eC (.int 3)) aNil)) (gName 4) b3) (sSeq (sSet 5 rsE) tgS)))
theorem zV7{ns:List Int}(hs:s=.klst (ns.map .int)){i:Nat}(hi:i<=63){S:Store}{o2 o3 o4 o5:Option D}:
  ∃(S':Store) (a2 a3 a4 a5:Option D),lwB [some s,some (.int (i:Nat)),o2,o3,o4,o5] S=.nx [some s,some (.int (i:Nat)),a2,a3,a4,a5] S':=by
 obtain⟨own,seed,s0,s9,ef⟩:=zVx (S:=S) (ns:=ns) (k:=i) hi;rw[<- hs]at ef;have f0:Feed (S++[.lst [.int own,.int seed]]) S.length:=⟨own,seed,by simp,s0,s9⟩;obtain⟨c,hc⟩:∃c,c=S.length:=⟨_,rfl⟩
 rw[<- hc]at ef f0;obtain⟨p,S1,e1,bp,f1,_⟩:=zQe f0;obtain⟨env',S2,e2,⟨a4,rfl⟩,f2⟩:=zO8 (h:=λi:Nat=>D.int (i:Int)) (gd:=[]) (g:=gName 4) (b:=b3) (λenv T=>(∃a4,env=[some s,some (.int (i:Nat)),some (.ref c),some (cel p),a4,o5])/\Feed T c) (λ_ _ _=>zAz) (List.range 3) [some s,some (.int (i:Nat)),some (.ref c),some (cel p),o4,o5] S1 ⟨⟨o4,rfl⟩,f1⟩ (λk _ env T hh=>by
  obtain⟨⟨a4,rfl⟩,f⟩:=hh;obtain⟨t,T1,d1,⟨tk,tz⟩,f1,_⟩:=zXc (N:=6) (D:=6) (n:=6) (d:=6) (i:=2) (env:=[some s,some (.int (i:Nat)),some (.ref c),some (cel p),some (.int (k:Int)),o5]) rfl rfl (by decide) (by decide) (by decide) (by decide) rfl f;obtain⟨T2,d2,f2,_⟩:=zYe tk tz (bp.mono (by decide)) f1;refine⟨[some s,some (.int (i:Nat)),some (.ref c),some (cel p),some (.int (k:Int)),o5],_,T2,rfl,zK7 (S1:=T2) ?_ rfl,⟨_,rfl⟩,f2⟩;rw[tNot,tTru,zA6 (zA5 (zA1 rfl) (zA5 d1 (zAa (zA1 rfl)))) d2];rfl)
 obtain⟨a,S3,e3,a0,a9,f3,_⟩:=taken (many:=9) (by decide) (by decide) f2;obtain⟨m,hm⟩:∃m:Nat,(m:Int)=1+a:=⟨(1+a).toNat,by nofun⟩
 obtain⟨ts,S4,e4,l4,b4,f4⟩:=zGv (h:=fun(i:Nat)=>D.int (i:Int)) (k:=Rl.d) (own:=1) (ix:=[2]) (i:=zBo (zA0 (eOp addD (eC (.int 1)) (zA3 zA4 (zA0 (eVar 2) (zA0 (eC (.int 9)) aNil)))) aNil)) (g:=gName 0) (e:=rlE 1 4 4) (S:=S3) (S0:=S2) (env:=[some s,some (.int (i:Nat)),some (.ref c),some (cel p),a4,o5]) (xs:=List.range m) (gd:=[]) (λenv=>∃x,env=[x,some (.ref c)]) (λT=>Feed T c) (λt:Rl=>t.ok/\t.sz<=4) (zC5 (n:=m) (by rw[hm];exact zAd rfl (zDc rfl e3) rfl) (by nofun)) (λ_ _=>zAz) ⟨none,rfl⟩ f3 (by rw[vv];exact xm (show m<=9 by nofun) (by decide)) (λk _ env T he hj=>by
  obtain⟨x,rfl⟩:=he;obtain⟨t,T1,d1,tk,f1,_⟩:=zXc (N:=4) (D:=4) (n:=4) (d:=4) (i:=1) (env:=[some (.int (k:Int)),some (.ref c)]) rfl rfl (by decide) (by decide) (by decide) (by decide) rfl hj;exact⟨[some (.int (k:Int)),some (.ref c)],t,T1,rfl,⟨_,rfl⟩,d1,tk,f1⟩)
 rw[vv]at l4;have q5:rsE [some s,some (.int (i:Nat)),some (.ref c),some (cel p),a4,o5] S2=.ok (.tup (dL ts)) S4:=by rw[rsE,eCB,zAa e4,Rs.bind_ok,zC8];rfl
 obtain⟨r0,rs,hr⟩:∃r0 rs,ts=r0::rs:=by
  cases ts with
  | nil=>exfalso;rw[vJ]at l4;lia
  | cons a l=>exact⟨a,l,rfl⟩
 obtain⟨S5,e5,f5,_⟩:=zIh (r0:=r0) (rs:=rs) (by rw[<- hr];exact b4) (by rw[<- hr];lia) bp f4;rw[<- hr]at e5;refine⟨S5,some (.ref c),some (cel p),a4,some (.tup (dL ts)),zA2 (e:=[some s,some (.int (i:Nat)),some (.ref c),o3,o4,o5]) (S1:=S++[.lst [.int own,.int seed]]) ?_ (zA2 (e:=[some s,some (.int (i:Nat)),some (.ref c),some (cel p),o4,o5]) (S1:=S1) ?_ (zA2 (e:=[some s,some (.int (i:Nat)),some (.ref c),some (cel p),a4,o5]) (S1:=S2) ?_ (zA2 (e:=[some s,some (.int (i:Nat)),some (.ref c),some (cel p),a4,some (.tup (dL ts))]) (S1:=S4) (by rw[sSet,q5];rfl) (zK7 (S1:=S5) ?_ rfl))))⟩
 ·rw[sSet,zA6 (zA5 (zA1 rfl) (zAa (zA1 rfl))) (show zCf [s,.int (i:Nat)] S=_ from ef)];rfl
 ·rw[sSet,zA6 (zAa (zA1 rfl)) e1];rfl
 ·rw[sFor,zC5 (n:=3) rfl (by decide),Rs.then_ok];exact e2
 ·rw[tNot,tTru,zA6 (zA5 (zA1 rfl) (zA5 (zA1 rfl) (zAa (zA1 rfl)))) e5];rfl
theorem law_ok(ns:List Int)(hn:ns.length<=63):∃S,zLg [.klst (ns.map .int)] []=.ok (.bl true) S:=by
 obtain⟨s,hs⟩:∃s:D,s=.klst (ns.map .int):=⟨_,rfl⟩
 obtain⟨m,m4,em⟩:∃m:Nat,m<=3/\eCB max2B (zA0 (eC (.int 2)) (zA0 (eCB min2B (zA0 (eC (.int 3)) (zA0 (eCB lenB (zA0 (eVar 0) aNil)) aNil))) aNil)) [some s,none,none,none,none,none] []=.ok (.int (m:Nat)) []:=by
  have ln:lenB [] [s]=some (.int (ns.length:Nat)):=by rw[hs];show some (D.int ((ns.map D.int).length:Int))=_;rw[xn]
  have q1:eCB min2B (zA0 (eC (.int 3)) (zA0 (eCB lenB (zA0 (eVar 0) aNil)) aNil)) [some s,none,none,none,none,none] []=.ok (.int (if(ns.length:Int)<3 then ns.length else 3)) []:=by rw[eCB,zA5 (d:=.int 3) rfl (zAa (by rw[eCB,zAa (zA1 rfl),Rs.bind_ok,ln];rfl)),Rs.bind_ok,min2];rfl
  refine⟨(if(if(ns.length:Int)<3 then(ns.length:Int)else 3) > 2 then(if(ns.length:Int)<3 then(ns.length:Int)else 3)else 2).toNat,by split <;> split <;> lia,?_⟩;rw[eCB,zA5 (d:=.int 2) rfl (zAa q1),Rs.bind_ok];show Rs.ok (D.int (if(if(ns.length:Int)<3 then(ns.length:Int)else 3) > 2 then(if(ns.length:Int)<3 then(ns.length:Int)else 3)else 2)) _=_;congr 2;split <;> split <;> lia
 obtain⟨env',S2,e2,a1,a2,a3,a4,a5,rfl⟩:=zO8 (h:=λi:Nat=>D.int (i:Int)) (gd:=[]) (g:=gName 1) (b:=lwB) (λenv _=>∃a1 a2 a3 a4 a5:Option D,env=[some s,a1,a2,a3,a4,a5]) (λ_ _ _=>zAz) (List.range m) [some s,none,none,none,none,none] [] ⟨_,_,_,_,_,rfl⟩ (λk hk env T hh=>by
  obtain⟨a1,a2,a3,a4,a5,rfl⟩:=hh;obtain⟨T',q2,q3,q4,q5,e⟩:=zV7 (o2:=a2) (o3:=a3) (o4:=a4) (o5:=a5) (S:=T) hs (i:=k) (by have:=vF.mp hk;lia);exact⟨[some s,some (.int (k:Nat)),a2,a3,a4,a5],_,T',rfl,e,_,_,_,_,_,rfl⟩)
 refine⟨[],?_⟩;rw[<- hs];unfold zLg zAc;rw[xb (show [s].length=1 from rfl)]
 suffices hb:zWo ([s].map some++List.replicate (6-1) none) []=.rt (.bl true) S2 by rw[hb];exact zVv
 refine zA2 (e:=[some s,a1,a2,a3,a4,a5]) (S1:=S2) ?_ rfl;show sFor _ _ _ [some s,none,none,none,none,none] []=_;rw[sFor,zC5 em (by nofun),Rs.then_ok];exact e2
end
end DP
namespace L2
open PySem PySem.Spec PyProof.Rows
open DS (D Store Exn Rs SR)
section
variable {X:Cx}{K:PySem.W.Frag}{E:XE}{J:Js}{H:Hp}{e c:Expr}{f:Str}{p p2 pos:Pos}{m:DS.EM}{d:D}{te:TE}
theorem zO9:∀{l:List D}{xs:List (Str × V)}{d:D},RepF K J H l xs->DS.fldL f l=some d->∃v,xs.lookup f=some v/\Rep K J H d v
 | [],_,_,_,e=>by cases e
 | .str g::d::l,_,d',⟨x,r,ex,h,t⟩,e=>by
  subst ex;unfold DS.fldL at e;by_cases q:(f == g)=true
  ·rw[xb q]at e;cases e;exact⟨x,by rw[xH,q],h⟩
  ·rw[xc q]at e;obtain⟨v,h1,h2⟩:=zO9 t e;exact⟨v,by rw[xH,vB.mpr q];exact h1,h2⟩
end
theorem zZ2{l:List Nat}{C:Nat}(h:DS.inC l (C:Int)=true):C∈l:=by
 obtain⟨n,hn,e⟩:=List.any_eq_true.mp h;have:C=n:=by have:=eq_of_beq e;lia
 rw[this];exact hn
noncomputable def noaB (K:PySem.W.Frag) (C:Addr) (f:Str):Bool:=PySem.W.findIn K (.ref C) f == some none
noncomputable def clnB (X:Cx) (K:PySem.W.Frag) (x:Str) (C:Addr):Bool:=glB X x && (!(x == ("__debug__":Str)) && PySem.W.nsIn K mainGlobals x == some (some (.ref C)))
theorem zRt{X:Cx}{K:PySem.W.Frag}{x:Str}{C:Addr}(G:Gd K X.mg)(h:clnB X K x C=true):Gl X x/\(x == ("__debug__":Str))=false/\X.mg x=some (.ref C):=by simp only[clnB,xi,uH,x5]at h;exact⟨zO4 h.1,h.2.1,G.a _ _ h.2.2⟩
section
variable {K:PySem.W.Frag}{J J':Js}{H H':Hp}{S:Store}{d:D}{v y:V}{f:Str}
theorem yAn(h:Rep K J H (.st (.bl true::l)) v):∃a C dx xs,v=.ref a/\H a=some (.ins C dx xs)/\RepI K J H C (.bl true::l) xs:=by
 rcases h with⟨xs,⟨_,_,_,_,_,_,_,_,_,_,_,e1,_⟩,_,_,e2,z,_⟩|⟨_,_,_,_,_,_,_,_,_,r⟩|⟨a,C,dx,xs,e,_,h,r⟩
 ·rw[e1]at e2;cases e2;cases(show V.int _=V.bl true from z)
 ·exact False.elim r
 ·exact⟨a,C,dx,xs,e,h,r⟩
theorem zO1{c:Int}(ha:AbS K J S H)(r:Rep K J H d v)(e:DS.insX S d=some (c,l)):∃(a C dx:Addr) (xs:List (Str × V)),v=.ref a/\H a=some (.ins C dx xs)/\c=(C:Int)/\RepF K J H l xs:=by
 unfold DS.insX at e;split at e
 ·rename_i c' l' el;cases e;cases d with
  | st ds=>
   cases el;obtain⟨a,C,dx,xs,e1,e2,e3⟩:=yAn r;exact⟨a,C,dx,xs,e1,e2,e3⟩
  | ref n=>
   obtain⟨a,ea,rfl⟩:=r;obtain⟨k,ek,o,eo,rc⟩:=ha.at ea;have el:S[n]?=_:=el;rw[ek]at el;cases el;obtain⟨C,dx,xs,rfl,r⟩:=rc;exact⟨a,C,dx,xs,rfl,eo,r⟩
  | _=>cases el
 ·cases e
theorem RepF.len:∀{l:List D}{xs:List (Str × V)},RepF K J H l xs->xs.length<=l.length
 | [],_,h=>by rw[show _=[]from h];exact xg _
 | .str g::x::l,_,⟨x',r,e,_,t⟩=>by
  subst e;have:=RepF.len t;simp only[xo];lia
theorem RepF.put(ry:Rep K J H d y):∀{l:List D}{xs:List (Str × V)},RepF K J H l xs->RepF K J H (DS.putL f d l) (putF f y xs)
 | [],_,h=>by
  rw[show _=[]from h];exact⟨y,[],rfl,ry,rfl⟩
 | .str g::x::l,_,⟨x',r,e,h,t⟩=>by
  subst e;unfold DS.putL;rw[show putF f y ((g,x')::r)=if g=f then(g,y)::r else(g,x')::putF f y r from rfl];by_cases q:g=f
  ·rw[xb q,xb q];exact⟨y,r,rfl,ry,t⟩
  ·rw[xc q,xc q];exact⟨x',_,rfl,h,RepF.put ry t⟩
theorem zKa:∀{l:List D}{xs:List (Str × V)},RepF K J H l xs->DS.fldL f l=none->xs.lookup f=none
 | [],_,h,_=>by rw[show _=[]from h];rfl
 | .str g::d::l,_,⟨x,r,ex,h,t⟩,e=>by
  subst ex;unfold DS.fldL at e;by_cases q:(f == g)=true
  ·rw[xb q]at e;cases e
  ·rw[xc q]at e;rw[xH,vB.mpr q];exact zKa t e
end
structure LeN (a b:Nat):Prop where le:a<=b
def MthX(P:Program)(w:World)(K:PySem.W.Frag)(mg:Str->Option Value)(base:Heap)(C:Addr)(m:Str)(k:Nat)(F:DS.Fn):Prop:=
 ∃f fd ps,Cls K C/\Meth K C m f/\FnOk P w K mg base CX0 k f fd ps (spOf K XE0 F)/\Binds K fd ps []
def MkX(P:Program)(w:World)(K:PySem.W.Frag)(mg:Str->Option Value)(base:Heap)(C:Addr)(k:Nat)(F:DS.Fn):Prop:=
 ∃f fd ps,Mk K C f/\FnOk P w K mg base CX0 k f fd ps (spOf K XE0 F)/\Binds K fd ps []
section
variable {X:Cx}{K:PySem.W.Frag}{E:XE}{e o:Expr}{es:List Expr}{f m x:Str}{p pos apos:Pos}{k:Nat}{F:DS.Fn}{am:DS.AM}{mo mv:DS.EM}{C:Addr}{T:List (Nat × DS.Fn)}{okC:Int->Bool}
theorem zZz(hC:∀C:Nat,okC C=true->Cls K C/\NoAttr K C f)(he:DE X K E e mo)(hb:attributeBase e f X.env (eval e X.env)=eval e X.env)(hK:X.K=K):DE X K E (.Attribute e f pos) (DS.eUn (DS.attX okC f) mo):=by
 subst hK;refine⟨SE.imp ⟨zY2 he.h.h hb⟩ λσ H Q ⟨env,S,J,hab,hen,q⟩=>⟨env,S,J,hab,hen,q.bind.imp λd S1 J1 H1 _ a1 g1 q1 v rv=>?_⟩⟩;obtain⟨d',ed,k⟩:=q1.lift;unfold DS.attX at ed;split at ed
 ·rename_i c l ei;obtain⟨a,C,dx,xs,rfl,h,rfl,rf⟩:=zO1 a1 rv ei;by_cases oc:okC C=true
  ·rw[xb oc]at ed;obtain⟨w,hw,rw'⟩:=zO9 rf ed;exact⟨a,C,dx,xs,w,rfl,h,(hC C oc).1,(hC C oc).2,hw,k J1 H1 a1 .refl w rw'⟩
  ·rw[xc oc]at ed;cases ed
 ·cases ed
theorem zW7(hC:∀C:Nat,okC C=true->Cls K C/\NoAttr K C f)(ho:DE X K E o mo)(he:DE X K E e mv)(hs:nco e=true)(hK:X.K=K):DS1 X K E (.Assign [.Attribute o f pos'] e pos) (DS.sAtt okC f mo mv):=by
 subst hK;refine⟨SS.imp ⟨zXp ho.h.h he.h.h (zEg hs)⟩ λD σ H ⟨env,S,J,hab,hen,q⟩=>⟨env,S,J,hab,hen,q.then.imp λy S1 J1 H1 _ a1 g1 q1 v rv=>⟨env,S1,J1,a1,hen.grow g1,q1.then.imp λx S2 J2 H2 _ a2 g2 q2 u ru=>?_⟩⟩⟩;split at q2
 ·rename_i n;split at q2
  ·rename_i c l en;by_cases oc:okC c=true/\l.length<1000
   ·rw[xb oc]at q2;obtain⟨a,ea,rfl⟩:=ru;obtain⟨k,ek,ob,eo,rc⟩:=a2.at ea;rw[ek]at en;cases en;obtain⟨C,dx,xs,rfl,rfl,rf⟩:=rc;refine⟨a,C,dx,xs,rfl,eo,(hC C oc.1).1,(hC C oc.1).2,vL rf.len oc.2,?_⟩;exact q2 J2 _ σ (a2.write ea ⟨C,dx,_,rfl,rfl,rf.put (Rep.grow g2 _ _ rv)⟩) (.write ea) (hen.grow (g1.trans (g2.trans (.write ea))))
   ·rw[xc oc]at q2;exact False.elim q2
  ·exact False.elim q2
 ·exact False.elim q2
theorem zVu{T:List (Nat × DS.Fn)}{C:Nat}(e:(T.find? λp=>(C:Int) == (p.1:Int)).map (·.2)=some F):(C,F)∈T:=by
 cases h:T.find? λp=>(C:Int) == (p.1:Int)with
 | none=>rw[h]at e;cases e
 | some q=>
  rw[h]at e;cases e;have h1:=List.find?_some h;have:C=q.1:=by have:=eq_of_beq h1;lia
  rw[this];exact List.mem_of_find?_eq_some h
theorem yB8{apos pos:Pos}{es:List Expr}(hb:attributeBase o m env (eval o env)=eval o env)
  (hfew:methodCallForm (es.length+([]:List Keyword).length) (backTo pos (starEach es env)) (backToKw pos (keywordEach [] env))=true) (hline:(apos.endLine == pos.line)=true):eval (.Call (.Attribute o m apos) es [] pos) env=(do
   let ov <- eval o env
   standAt apos.atName
   let (f,first) <- holding [ov] (getMethod ov m (do return (<- importBound o env).getD true))
   callWith pos f first (backTo pos (starEach es env)) (backToKw pos (keywordEach [] env))):=by
 rw[arm_eval_Call,hb];have hpos:methodCallPos true o env apos pos=pure pos:=by unfold methodCallPos;simp[hline]
 unfold methodCall;rw[hfew,hpos];rfl
inductive MthsX (P:Program) (w:World) (K:PySem.W.Frag) (mg:Str->Option Value) (base:Heap) (m:Str) (k:Nat):List (Nat × DS.Fn)->Prop where
 | one {C:Nat}{F:DS.Fn}(h:MthX P w K mg base C m k F):MthsX P w K mg base m k [(C,F)]
 | cons {C k1:Nat}{F:DS.Fn}{T:List (Nat × DS.Fn)}(t:MthsX P w K mg base m k T) (h:MthX P w K mg base C m k1 F) (le:LeN k1 k):MthsX P w K mg base m k ((C,F)::T)
theorem MthX.mono{mg:Str->Option Value}{k':Nat}(h:MthX P w K mg base C m k F)(le:k<=k'):MthX P w K mg base C m k' F:=by obtain⟨f,fd,ps,c,me,Fn,hb⟩:=h;exact⟨f,fd,ps,c,me,⟨Fn.len,λA outer s H args us vs Q E hr=>Fn.run A outer s H args us vs Q E (hr.mono le)⟩,hb⟩
theorem MthsX.of{mg:Str->Option Value}(h:MthsX P w K mg base m k T):∀q∈T,MthX P w K mg base q.1 m k q.2:=by
 induction h with
 | one h=>intro q hq;cases xZ.mp hq;exact h
 | cons t h le ih=>
  intro q hq;rcases xh.mp hq with z|z
  ·subst z;exact h.mono le.le
  ·exact ih q z
theorem zZh(hT:MthsX X.prog X.w X.K X.mg X.base m k T)(hr:Room k X.A)(h:mtB o (e::es) apos pos=true)(hK:X.K=K)(ho:DE X K XE0 o mo)(ha:DA X K XE0 (e::es) am):
  DE X K XE0 (.Call (.Attribute o m apos) (e::es) [] pos) (DS.eMth T m mo am):=by
 subst hK;simp only[mtB,xi]at h;obtain⟨h0,h1,h2,h3⟩:=h;have hs:=h1;rw[vj,xi]at hs;refine⟨⟨λpins s σ H Q I ⟨env,S,J,hab,hen,q⟩=>zIo (te:=tOf X.K XE0 mo) ho.h.h I ⟨env,S,J,hab,hen,q.bind.imp λd S1 J1 H1 _ a1 g1 q1 v rv=>?_⟩ (yB8 (zE7 h0) (by
  show((backTo pos (starEach (e::es) X.env)).all (λx=>!x.1) && true && decide ((e::es).length+0+0<30))=true;rw[zH7 h1];exact h2) h3)⟩⟩
 cases em:DS.mthX T m S1 d with
 | none=>rw[em]at q1;exact False.elim q1
 | some F=>
  rw[em]at q1;unfold DS.mthX at em;split at em
  ·rename_i c l ei;obtain⟨a,C,dx,xs,rfl,h,rfl,rf⟩:=zO1 a1 rv ei;by_cases oc:DS.fldL m l=none
   ·rw[xb oc]at em;obtain⟨g,fd,ps,cl,me,Fn,hb⟩:=hT.of _ (zVu em);refine⟨a,C,dx,xs,g,rfl,h,cl,me,zKa rf oc,λs1 I1=>?_⟩;refine PySem.W.callWith_K (first:=[.ref a]) (h₀:=X.base) I1.ok.mod.kin me.kp (thn (ha.h.h pos pins s1 σ H1 (λvs H2=>spOf X.K XE0 F (.ref a::vs) H2 Q E0) I1 ⟨env,S1,J1,a1,hen.grow g1,q1.bind.imp λds S2 J2 H2 _ a2 g2 q2 vs rs=>
     ⟨J2,S2,d::ds,a2,⟨_,_,rfl,Rep.grow g2 _ _ rv,rs⟩,q2⟩⟩) λus s2 ⟨vs,H2,I2,r,q2⟩=>⟨I2.kIn,?_⟩) (zBm hs.1) (zDh hs.2)
    exact zSc (us:=.ref a::us) (vs:=.ref a::vs) (dvs:=[]) Fn hr hb .nil pass0 I2 (.cons rfl r) (by rw[vA];exact q2)
   ·rw[xc oc]at em;cases em
  ·cases em
theorem yBb(G:Gd K X.mg)(hM:MkX X.prog X.w X.K X.mg X.base C k F)(hr:Room (k+1) X.A)(h:(clnB X K x C && (e::es).all nst)=true)(hK:X.K=K)(ha:DA X K XE0 (e::es) am):
  DE X K XE0 (.Call (.Name x p) (e::es) [] pos) (DS.eMk C F am):=by
 subst hK;rw[xi]at h;obtain⟨h0,hs⟩:=h;rw[vj,xi]at hs;obtain⟨hg,hdb,hm⟩:=zRt G h0;obtain⟨f,fd,ps,M,Fn,hb⟩:=hM;refine⟨SE.imp ⟨zUf (dvs:=[]) (E:=E0) M Fn hr hg hm hb .nil pass0 ha.h.h hdb (zBm hs.1) (zDh hs.2)⟩ λσ H Q ⟨env,S,J,hab,hen,q⟩=>⟨env,S,J,hab,hen,q.bind.imp λds S1 J1 H1 _ a1 g1 q1 vs rs x dx nx nd ne=>?_⟩⟩;have n2:upd H1 dx (.own x) x=none:=by rw[zAf (xD ne)];exact nx
 have b1:AbS X.K J1 S1 (upd H1 dx (.own x)):=a1.push nd (by trivial);have ob:ObD X.K J1 (upd H1 dx (.own x)) (.st [.bl true,.int C]) (.ins C dx []):=⟨C,dx,[],rfl,rfl,rfl⟩;have b2:=b1.name n2 ob;have g2:Grow J1 H1 (J1++[x]) (upd (upd H1 dx (.own x)) x (.ins C dx [])):=(Grow.push nd).trans (.name n2);rw[vA];have ex:(J1++[x])[S1.length]?=some x:=by rw[<- a1.len,xS (xg _)];simp
 refine⟨J1++[x],_,.ref S1.length::ds,b2,⟨_,_,rfl,⟨x,ex,rfl⟩,RepL.grow g2 _ _ rs⟩,(Post.grow g2 q1.bind).imp λd S3 J3 H3 _ a3 g3 q3 v rv=>?_⟩;by_cases hd:d=.non
 ·rw[xb hd]at q3;subst hd;exact⟨rv,q3 J3 H3 a3 .refl _ ⟨x,g3.pre _ _ ex,rfl⟩⟩
 ·rw[xc hd]at q3;exact False.elim q3
noncomputable def clsI (K:PySem.W.Frag) (C:Addr):Bool:=PySem.W.plainGet K C Str.empty && (PySem.W.hasDictIn K C && (PySem.W.plainOver K C && PySem.W.findIn K (.ref C) "__setattr__" == some (some (.builtin "object.__setattr__"))))
theorem zKh(h:clsI K C=true):Cls K C:=by simp only[clsI,xi,x5]at h;exact⟨h.1,h.2.1,h.2.2.1,h.2.2.2⟩
theorem attI{l:List Nat}(h:(l.all λC=>clsI K C && noaB K C f)=true)(C:Nat)(hC:DS.inC l C=true):Cls K C/\NoAttr K C f:=by rw[vi]at h;have:=h C (zZ2 hC);rw[xi]at this;exact⟨zKh this.1,by simpa[noaB,NoAttr]using this.2⟩
theorem zZj{l:List Nat}(h:(nba e && l.all λC=>clsI K C && noaB K C f)=true)(hK:X.K=K)(he:DE X K E e mo):DE X K E (.Attribute e f pos) (DS.eUn (DS.attX (DS.inC l) f) mo):=by rw[xi]at h;exact zZz (attI h.2) he (zE7 h.1) hK
theorem zSz{l:List Nat}(h:(nco e && l.all λC=>clsI K C && noaB K C f)=true)(hK:X.K=K)(ho:DE X K E o mo)(he:DE X K E e mv):DS1 X K E (.Assign [.Attribute o f pos'] e pos) (DS.sAtt (DS.inC l) f mo mv):=by rw[xi]at h;exact zW7 (attI h.2) ho he h.1 hK
end
section
variable {P:Program}{w:World}{K:PySem.W.Frag}{mg:Str->Option Value}{base:Heap}
noncomputable def mthB (K:PySem.W.Frag) (C f:Addr) (m:Str):Bool:=clsI K C && (PySem.W.findIn K (.ref C) m == some (some (.ref f)) && PySem.W.isFn K (.ref f))
noncomputable def mkB (K:PySem.W.Frag) (C f:Addr):Bool:=PySem.W.makesIn K C && (PySem.W.findIn K (.ref C) "__init__" == some (some (.ref f)) && (PySem.W.isFn K (.ref f) && PySem.W.keepIn K (.ref C)))
theorem zYg(G:Gd K mg)(C f cd:Addr)(m q:Str)(tq:Stmt)(pm:Value)(ps N:List Str){k:Nat}{b:DS.SM}
  (hb:∀(cdv:Value) (A:Around) (outer:List PySem.Env) (s:Shared) (H:Hp) (E:XK),Room k (A.deeper (envOfC q (zA7 tq) s.heap.objs.size f cdv))->DSs (cxOf CX0 P w K mg base N q (zA7 tq) f cdv A outer s H E).nox K XE0 (zAw tq) b)
  (l:K.lookup f=some (mO m q tq pm cd)) (c:(PySem.W.codeIn K (.ref cd) q && (PySem.W.keepIn K (.ref f) && (scB N ps (zA7 tq) && mthB K C f m)))=true)
  (bd:∀(kV doc pm:Value) (an:Option Addr) (cdv ct:Value) (us:List Value),us.length=ps.length->bindArgs (PySem.W.fnOf m q (zBg tq) (zAw tq) (zA7 tq) .none kV doc pm an cdv ct) ⟨us,[]⟩=pure (ps.zip us)):MthX P w K mg base C m (k+1) (DS.zAc ps.length N.length b):=by
 simp only[mthB,xi,x5]at c;obtain⟨c1,c2,c3,c4,c5,c6⟩:=c;have F:Fun K m q tq f _:=zO5 l c1 c2;exact⟨f,_,ps,zKh c4,⟨c5,c6,c2⟩,fn_d F (zEz c3) rfl rfl hb,F.binds bd⟩
theorem mk_x(G:Gd K mg)(C f cd:Addr)(q:Str)(tq:Stmt)(pm:Value)(ps N:List Str){k:Nat}{b:DS.SM}
  (hb:∀(cdv:Value) (A:Around) (outer:List PySem.Env) (s:Shared) (H:Hp) (E:XK),Room k (A.deeper (envOfC q (zA7 tq) s.heap.objs.size f cdv))->DSs (cxOf CX0 P w K mg base N q (zA7 tq) f cdv A outer s H E).nox K XE0 (zAw tq) b)
  (l:K.lookup f=some (mO "__init__" q tq pm cd)) (c:(PySem.W.codeIn K (.ref cd) q && (PySem.W.keepIn K (.ref f) && (scB N ps (zA7 tq) && mkB K C f)))=true)
  (bd:∀(kV doc pm:Value) (an:Option Addr) (cdv ct:Value) (us:List Value),us.length=ps.length->bindArgs (PySem.W.fnOf "__init__" q (zBg tq) (zAw tq) (zA7 tq) .none kV doc pm an cdv ct) ⟨us,[]⟩=pure (ps.zip us)):MkX P w K mg base C (k+1) (DS.zAc ps.length N.length b):=by
 simp only[mkB,xi,x5]at c;obtain⟨c1,c2,c3,c4,c5,c6,c7⟩:=c;have F:Fun K "__init__" q tq f _:=zO5 l c1 c2;exact⟨f,_,ps,⟨c4,c5,c6,c7⟩,fn_d F (zEz c3) rfl rfl hb,F.binds bd⟩
end
noncomputable def zJ0 (K:PySem.W.Frag) (c P:Addr):Bool:=match K.lookup c with
 | some o=>(match o.cls with
  | .type t=>t == "code"
  | _=>false) && (match o.data with
  | .fields vs=>(match vs.getD 11 .none,vs.getD 18 .none,vs.getD 7 .none,vs.getD 9 .none,vs.getD 10 .none with
   | .ref p,.str _ _,.int _ _,.bool _,.int _ _=>p == P && !(c == P)
   | _,_,_,_,_=>false)
  | _=>false)
 | none=>false
theorem zP2{K:PySem.W.Frag}(X:K.In base)(h:zJ0 K c P=true):PySem.W.CodeHd base c P:=by
 unfold zJ0 at h;split at h
 ·rename_i o e;rw[xi]at h;obtain⟨h1,h2⟩:=h;split at h1
  ·rename_i t et;have:t="code":=by simpa using h1
   subst this;split at h2
   ·rename_i vs ev;split at h2
    ·rename_i p _ _ _ _ _ _ _ q1 q2 q3 q4 q5;rw[xi]at h2;have:p=P:=by simpa using h2.1
     subst this;have q0:vs[11]?=some (.ref p):=by
      rw[vd]at q1;cases z:vs[11]? with
      | none=>rw[z]at q1;cases q1
      | some v=>rw[z]at q1;exact congrArg some q1
     exact⟨o,vs,_,_,_,_,_,_,_,X _ _ e,et,ev,q0,q1,q2,q3,q4,q5,by simpa using h2.2⟩
    ·cases h2
   ·cases h2
  ·cases h1
 ·cases h
theorem law_callT{P:Program}{w:World}{K:PySem.W.Frag}{mg mb:Str->Option Value}{k:Nat}{fa a:Addr}{fd:FuncData}{x:Str}{sp:Sp}{s₁:Shared}{vs:List Value}{ns:List Int}
  (KX:K.In s₁.heap) (hns:s₁.heap.Ns mainGlobals mg) (hb:s₁.heap.Ns builtinsNs mb) (hbb:∀x:Str,x≠"__name__"->mb x=bootBuiltins x) (hlim:s₁.heap.NoLimit) (hg:s₁.gens=#[])
  (ha:s₁.heap.get? a=some { cls:=.type "list",data:=.seq vs.toArray }) (hi:IntsAre vs ns) (hl:ns.length<=sizeLine) (hr:Room k callerA)
  (hT:∀P∈zC3 K,K.lookup P=none/\s₁.heap.get? P=some (PySem.W.tabObj #[])/\∃c,PySem.W.CodeHd s₁.heap c P)
  (F:∀base:Heap,K.In base->base.Ns mainGlobals mg->FnOk P w K mg base CX0 k fa fd [x] sp) (hbind:∀(s:Shared) (u:Value),BindsTo s fd ⟨[u],[]⟩ [(x,u)])
  (hsp:∀H:Hp,SqL K H a (ns.map V.int)->TabsOk K H->sp [.ref a] H (λv _=>v=.bl true) E0):
  codeAny (model P w) callerA (.call (.ref fa) ⟨[.ref a],[]⟩) (λr s'=>r=.ok (.ret (.bool true))/\OldK s₁.heap s'.heap/\s'.os=s₁.os/\AllBare s'.gens) s₁:=by
 have rv:=zHb hi;have lenV:=hi.length;have core:∀H:Hp,(∀b,H b=none\/(b=a/\K.lookup a=none/\∃o xs,H b=some (.frz o (.lst xs)))\/(b∈zC3 K/\H b=some (.tbl #[])))->(∀b∈zC3 K,H b=some (.tbl #[]))->SqL K H a (ns.map V.int)->HOk P w H s₁.heap->
   codeAny (model P w) callerA (.call (.ref fa) ⟨[.ref a],[]⟩) (λr s'=>r=.ok (.ret (.bool true))/\OldK s₁.heap s'.heap/\s'.os=s₁.os/\AllBare s'.gens) s₁:=by
  intro H hO hA hS hok;have zE7:∀{b:Addr}{o:Obj},s₁.heap.get? b=some o->H b=none->(hidT s₁.heap H).get? b=some o:=λe n=>zRd e n
  have noA:∀{b:Addr}{o:Obj}{es:Array DictEntry}{ep:Nat},s₁.heap.get? b=some o->o.data=.dict es ep->H b=none:=λ{b o es ep} e d=>by
   rcases hO b with z|⟨rfl,_⟩|⟨m,_⟩
   ·exact z
   ·rw[ha]at e;cases e;have d':=d;cases d'
   ·rw[(hT b m).2.1]at e;cases e;cases d
  have nsK:∀{b:Addr}{m:Str->Option Value},s₁.heap.Ns b m->(hidT s₁.heap H).Ns b m:=λ{b m} ⟨o,es,ep,e,d,r⟩=>⟨o,es,ep,zE7 e (noA e d),d,r⟩
  have hKb:K.In (hidT s₁.heap H):=λb o e=>zE7 (KX b o e) (by
   rcases hO b with z|⟨rfl,z,_⟩|⟨m,_⟩
   ·exact z
   ·rw[z]at e;cases e
   ·rw[(hT b m).1]at e;cases e)
  have hM:Mod K mg (hidT s₁.heap H):=⟨hKb,nsK hns,⟨mb,nsK hb,hbb⟩,let ⟨mc,h1,h2⟩:=hlim;⟨mc,nsK h1,h2⟩⟩;have e0:Env0 P w K mg (hidT s₁.heap H) callerA [] s₁ H:=⟨rfl,hM,λb o e=>zV2 e,Nat.le_of_eq (zO2 _ _),trivial,λb hb=>absurd (show b∈([]:List Addr)from hb) (by simp),hok,.of_eq hg,rfl⟩;have hTb:TabsOk K H:=⟨λP ps e=>by
   rcases hO P with z|⟨_,_,o,xs,z⟩|⟨_,z⟩
   ·rw[e]at z;cases z
   ·rw[e]at z;cases z
   ·rw[e]at z;cases z;exact⟨trivial,λpos cv q=>by cases q⟩,λP m=>⟨_,hA P m⟩⟩
  refine vH ((F _ hKb (nsK hns)).run callerA [] s₁ H ⟨[.ref a],[]⟩ [.ref a] [.ref a] _ _ hr e0 (hbind s₁ (.ref a)) (.cons rfl .nil) (hsp H hS hTb)) λr s' h=>?_
  cases r with
  | error e=>exact False.elim h
  | ok fl=>
   cases fl with
   | next=>exact False.elim h
   | brk=>exact False.elim h
   | cont=>exact False.elim h
   | ret u=>
    obtain⟨v,H',os,bare,un,hok',r',q⟩:=h;have q':=q;subst q';obtain rfl:u=Value.bool true:=r';refine⟨rfl,⟨λb o e=>?_,λb o e=>un.there b o e (by simp)⟩,os,bare⟩;rcases hO b with z|⟨_,_,ob,xs,z⟩|⟨m,z⟩
    ·exact .inl (un.keep b o e z (by intro z;exact absurd (show b∈([]:List Addr)from z) (by simp)) (by simp))
    ·have z2:=un.frzs b ob _ z;obtain⟨e1,_⟩:=hok b _ z;obtain⟨e2,_⟩:=hok' b _ z2;rw[e]at e1;cases e1;exact .inl e2
    ·obtain⟨more,z2⟩:=un.tbls b _ z;obtain⟨_,t,c,hc⟩:=hT b m;have e2:=hok' b _ z2;rw[t]at e;cases e;exact .inr (.inl ⟨(hc.tab t).isCodeTable,rfl,#[],more,rfl,e2⟩)
 have aT:a ∉ zC3 K:=λm=>by
  have:=(hT a m).2.1;rw[ha]at this;cases this
 cases hk:K.lookup a with
 | some o=>
  have e:=KX a o hk;rw[ha]at e;cases e;refine core (λb=>if b∈zC3 K then some (.tbl #[])else none) (λb=>?_) (λb m=>xb m) (.inr ⟨_,vs.toArray,_,hk,rfl,rfl,rfl,by rw[xq,lenV];exact hl,by simpa using rv⟩) λb u z=>?_
  ·by_cases m:b∈zC3 K
   ·exact .inr (.inr ⟨m,xb m⟩)
   ·exact .inl (xc m)
  ·by_cases m:b∈zC3 K
   ·have z':=(xb m).symm.trans z;cases z';exact(hT b m).2.1
   ·have z':=(xc m).symm.trans z;cases z'
 | none=>
  refine core (λb=>if b∈zC3 K then some (.tbl #[])else if b=a then some (.frz { cls:=.type "list",data:=.seq vs.toArray } (.lst (ns.map V.int)))else none) (λb=>?_) (λb m=>xb m) (.inl (.inr ⟨{ cls:=.type "list",data:=.seq vs.toArray },(xc aT).trans (xb rfl)⟩)) (λb u z=>?_)
  ·by_cases m:b∈zC3 K
   ·exact .inr (.inr ⟨m,xb m⟩)
   ·by_cases hb:b=a
    ·exact .inr (.inl ⟨hb,hk,_,_,(xc m).trans (xb hb)⟩)
    ·exact .inl ((xc m).trans (xc hb))
  ·by_cases m:b∈zC3 K
   ·have z':=(xb m).symm.trans z;cases z';exact(hT b m).2.1
   ·have z:=(xc m).symm.trans z;by_cases hb:b=a
    ·have z':=(xb hb).symm.trans z;cases z';subst hb;exact⟨ha,by rw[xn];exact hl,vs,_,rv,ha⟩
    ·have z':=(xc hb).symm.trans z;cases z'
noncomputable def tabB (K:PySem.W.Frag) (tb:List (Addr × Addr)):Bool:=zC3 K == tb.map (·.2) && tb.all λe=>zJ0 K e.1 e.2 && (K.lookup e.2).isNone
theorem zPn{l:PySem.W.OpenLaw}{n k:Nat}{q:Program}{loose:List Str}{XP:(Str->Option Value)->Heap->Prop}{YP:World->Heap->Prop}{d:DefRec}{K:Params->PySem.W.Frag}{tb:List (Addr × Addr)}{Fn:DS.Fn}{x:Str}
  (hn:l.most=some n) (hn2:n<=sizeLine) (hdf:d.params.defaults=[]) (hr:Room k callerA)
  (hY:∀(w:World) (h:Heap),YP w h->(K w.params).In h/\∀e∈tb,h.get? e.2=some (PySem.W.tabObj #[])) (hB:∀w:World,tabB (K w.params) tb=true)
  (F:∀(w:World) (mg:Str->Option Value) (fa:Addr) (h:Heap),(K w.params).In h->h.Ns mainGlobals mg->mg d.name=some (.ref fa)->
   ∃fd:FuncData,(∀(s:Shared) (u:Value),BindsTo s fd ⟨[u],[]⟩ [(x,u)]) /\
    ∀base:Heap,(K w.params).In base->base.Ns mainGlobals mg->FnOk l.prog w (K w.params) mg base CX0 k fa fd [x] (spOf (K w.params) XE0 Fn))
  (hsp:∀ns:List Int,ns.length<=n->∃S,Fn [.klst (ns.map D.int)] []=.ok (.bl true) S):
  PySem.W.WalkO q loose XP YP l.row.toRowW d [] (λf vs=>PySem.call f vs):=by
 refine Att.attach_call hn hdf λw s₀ s₁ mg mb fa o pm cd doc a vs ns G Y ho hd hcd hmg hobj hints hlen hg=>?_
 obtain⟨KX,hTb⟩:=hY w _ Y;obtain⟨fd,hb,hF⟩:=F w mg fa _ KX G.T.g hmg;have hB:=hB w;simp only[tabB,xi,vi]at hB;have e1:zC3 (K w.params)=tb.map (·.2):=by simpa using hB.1
 refine law_callT KX G.T.g G.T.b G.T.builtins G.T.nolimit hg hobj hints (xm hlen hn2) hr (λP m=>?_) hF hb λH hS hT=>zMk (hsp ns hlen) hS hT
 rw[e1]at m;obtain⟨e,he,rfl⟩:=xw.mp m;obtain⟨h1,h2⟩:=hB.2 e he;exact⟨by simpa using h2,hTb e he,e.1,zP2 KX h1⟩
theorem zVl{K:PySem.W.Frag}{h:Heap}(hB:tabB K tb=true)(X:PySem.W.Frag.In (K++tabK tb) h):K.In h/\∀e∈tb,h.get? e.2=some (PySem.W.tabObj #[]):=by
 have app:∀(L T:PySem.W.Frag) (a:Addr),(L++T).lookup a=(match L.lookup a with|some o=>some o|none=>T.lookup a):=λL T a=>by
  induction L with
  | nil=>rfl
  | cons y r ih=>
   obtain⟨b,o⟩:=y;rw[List.cons_append,xH,xH];cases a == b <;> simp[ih]
 have tl:∀(tb:List (Addr × Addr)) (e:Addr × Addr),e∈tb->(tabK tb).lookup e.2=some (PySem.W.tabObj #[]):=λtb e he=>by
  induction tb with
  | nil=>cases he
  | cons y r ih=>
   show List.lookup e.2 ((y.2,PySem.W.tabObj #[])::tabK r)=_;rw[xH];cases z:e.2 == y.2 with
   | true=>rfl
   | false=>
    rcases xh.mp he with q|q
    ·rw[q]at z;simp at z
    ·exact ih q
 simp only[tabB,xi,vi]at hB;refine⟨λb o e=>X b o (by rw[app,e]),λe he=>X _ _ ?_⟩;have:K.lookup e.2=none:=by simpa using(hB.2 e he).2
 rw[app,this];exact tl tb e he
end L2
namespace PySem
open Sem (wp)
theorem zVq{prog:Program}{w:World}{A:Around}{E:Value->Shared->Prop}{s:Shared}{a:Addr}{o:Obj}{xs:Array Value}{k:Nat}{name:Str}{Q:Option Value->Shared->Prop}
  (hx:s.heap.get? a=some o) (hc:o.cls=.type "list") (hdat:o.data=.seq xs k) (hd:o.dict=none) (hmiss:typeLookup (.type "list") name=pure none) (hname:(["__module__","__name__","__qualname__","__doc__","__annotations__"]:List Str).contains name=false) (hA:A.handled=none)
  (h:∀h' tk,(∀b ob,s.heap.get? b=some ob->h'.get? b=some ob)->Q none { s with heap:=h',toks:=tk }) (hsz:name.length+100<=sizeLine):
  wpAny (model prog w) A (getAttr? (.ref a) name) Q E s:=by
 obtain⟨c,dct,dat,sl⟩:=o;simp only at hc hdat hd;subst hc hdat hd;obtain⟨hp,g,d,tk,os⟩:=s;have hT:∀tk',(⟨hp,g,d,tk',os⟩:Shared).TypeIs (.ref a) "list":=λ_=>⟨_,hx,rfl⟩
 have f1:=sub_AttributeError;have f3:=F.slot_list_getattribute.lookup;have f4:=F.slot_list_getattribute.bind (.ref a);have f5:=am_list_getattr_none;unfold getAttr? getAttrBy? getAttrBy
 repeat (any_goals (first|assumption|exact hT _|((with_reducible show wpAny _ _ (call (Value.builtin "list.__getattribute__") _ _) _ _ _);refine call_meets F.slot_list_getattribute (hT _) am_entry_list_getattribute (F.args_list_getattribute_2 _ _) (meets_getattribute_miss_list a xs k sl name _ hmiss hname hsz) ⟨hx,hA,λh' tk' e hx'=>?_⟩)|wp_step))
 obtain⟨t',u',he⟩:=hx'.there;show wpAny _ _ (getattributeRaised _ _ _ _ _ _ _) _ _ _;unfold getattributeRaised
 repeat (any_goals (first|assumption|wp_step))
 exact h _ _ hx'.keeps
namespace F
theorem plain_upd_loop:plainId "dict.update.loop"=true:=by decide +kernel
theorem entry_upd_loop:entryFor table "dict.update.loop"=some Builtin.«dict.update.loop»:=entryFor_of_fast (by kernel_rfl)
end F
section
variable {prog:Program}{w:World}{K:Type}[DecidableEq K] {kd:HeapKind prog w K}{A:Around}{R:Result->Shared->Prop}
noncomputable abbrev zIe (K:Type):=K × Addr × Addr × Value
noncomputable def zM8 (xs:List (K × Addr × Value)) (ps:List (zIe K)):List (K × Addr × Value):=ps.foldl (λacc q=>storedH acc q.1 q.2.2.1 q.2.2.2) xs
theorem zL2{x:K × Addr × Value}(h:x∈storedH xs k a v):(∃y∈xs,y.1=x.1/\y.2.1=x.2.1)\/(x.1=k/\x.2.1=a):=by
 unfold storedH at h;split at h
 ·obtain⟨y,hy,e⟩:=xw.mp h;refine .inl ⟨y,hy,?_⟩;unfold putAt at e;split at e <;> (subst e;exact⟨rfl,rfl⟩)
 ·rcases vm.mp h with z|z
  ·exact .inl ⟨x,z,rfl,rfl⟩
  ·rw[xZ.mp z];exact .inr ⟨rfl,rfl⟩
theorem zL8(xs:List (K × Addr × Value))(k:K)(a:Addr)(v:Value):(storedH xs k a v).length<=xs.length+1:=by
 unfold storedH;split
 ·rw[xn];exact Nat.le_succ _
 ·rw[xE];exact xg _
theorem zJl(hh:A.handled=none)(hu:kd.room A.in1)(kp:∀{h h':Heap}{k:K}{a:Addr},kd.is h k a->(∀o,h.get? a=some o->h'.get? a=some o)->kd.is h' k a){h₁:Heap}(hIl:l≠I)(hpl:p≠l)(hpI:p≠I){its:Array Value}:
  ∀(rest:List (zIe K)) (i:Nat) (c:Int) (t:Tok) (s:Shared) (xs:List (K × Addr × Value)),(∀j,its[i+j]?=rest[j]?.map λq=>.ref q.2.1)->i+rest.length=its.size->
  s.heap.IsListIter I l i->s.heap.IsList l its->(∀b o,b≠I->b≠p->h₁.get? b=some o->s.heap.get? b=some o)->s.heap.DictOfH kd p xs->
  (∀x∈xs,x.2.1≠I)->
  (∀q∈rest,PyProof.Rows.IsTup h₁ q.2.1 #[.ref q.2.2.1,q.2.2.2]/\q.2.1≠I/\q.2.1≠p/\kd.is h₁ q.1 q.2.2.1/\q.2.2.1≠I/\q.2.2.1≠p)->xs.length+rest.length<=sizeLine->
  (∀h' tk,h'.DictOfH kd p (zM8 xs rest)->(∀b o,b≠I->b≠p->h₁.get? b=some o->h'.get? b=some o)->R (.ok (.ret .none)) { s with heap:=h',toks:=tk })->
  codeAny (model prog w) A (.builtin "dict.update.loop" ⟨[.ref p,.ref I,.int c t,.none],[]⟩) R s
 | [],i,c,t,s,xs,hi,hn,hit,hl,hk,hd,hx,_,_,hR=>by
  have W:=Walks.list (prog:=prog) (w:=w) (A:=A.in1) hh I l hIl its;refine vE F.entry_upd_loop ?_;rw[uy F.plain_upd_loop _];show wpAny _ A.in1 (pyNext (.ref I) >>= _) _ _ s;refine xa (W.done s _ _ ⟨by rw[<- hn];exact hit,hl⟩ λh' tk hk'=>?_);have kk:∀b o,b≠I->s.heap.get? b=some o->h'.get? b=some o:=λb o hb e=>hk' b o (λz=>hb (xZ.mp z)) e
  show wpAny _ A.in1 (Builtin.Dict.addKeywords p [] >>= _) _ _ _;refine xa (xf (xf (hR h' tk ?_ λb o h1 h2 e=>kk b o h1 (hk b o h1 h2 e))));obtain⟨o,es,ep,g1,g2,g3,g4,g5,g6⟩:=hd;exact⟨o,es,ep,kk _ _ hpI g1,g2,g3,g4,λx hx'=>kp (g5 x hx') λo e=>kk _ _ (hx x hx') e,g6⟩
 | q::rest,i,c,t,s,xs,hi,hn,hit,hl,hk,hd,hx,hq,hz,hR=>by
  have W:=Walks.list (prog:=prog) (w:=w) (A:=A.in1) hh I l hIl its;have lt:i<its.size:=by rw[<- hn,xo];lia
  refine vE F.entry_upd_loop ?_;rw[uy F.plain_upd_loop _];show wpAny _ A.in1 (pyNext (.ref I) >>= _) _ _ s;refine xa (W.item i s _ _ lt ⟨hit,hl⟩ λv h' tk hP hst hk'=>?_);have kk:∀b o,b≠I->s.heap.get? b=some o->h'.get? b=some o:=λb o hb e=>hk' b o (λz=>hb (xZ.mp z)) e
  have hv:v=.ref q.2.1:=by have:=hi 0;rw[Nat.add_zero,hP]at this;exact xA this
  subst hv;obtain⟨⟨ot,ht,htc,n,htd⟩,a1,a2,a3,a4,a5⟩:=hq q (.head _);have ht':=kk _ _ a1 (hk _ _ a1 a2 ht);refine xa (xI ?_);refine xa (wpAny_tryCatch ?_);unfold Builtin.Dict.pairItems;refine xa (vK ⟨ot,ht',htc⟩ ?_);rw[xb (by decide)];refine xa (wpAny_seqItems ht' htd (xf ?_));show wpAny _ A.in1 (holding [.ref q.2.2.1,q.2.2.2] (dictSet p (.ref q.2.2.1) q.2.2.2)) _ _ _;have hd':h'.DictOfH kd p xs:=by obtain⟨o,es,ep,g1,g2,g3,g4,g5,g6⟩:=hd;exact⟨o,es,ep,kk _ _ hpI g1,g2,g3,g4,λx hx'=>kp (g5 x hx') λo e=>kk _ _ (hx x hx') e,g6⟩
  have key:=kp a3 λo e=>kk _ _ a4 (hk _ _ a4 a5 e)
  refine xI (wpAny_dictSet_heap hu key hd' λh2 hd2 sb=>?_);have k2:∀b o,b≠p->h'.get? b=some o->h2.get? b=some o:=λb o hb e=>(sb.2 b hb).trans e
  refine xf ⟨plainId_quiet F.plain_upd_loop _,?_⟩;refine zJl hh hu kp hIl hpl hpI rest (i+1) _ _ { s with heap:=h2,toks:=tk+kd.draws q.1 } (storedH xs q.1 q.2.2.1 q.2.2.2) (λj=>?_) (by rw[<- hn,xo];lia) (hst.1.at λo e=>k2 _ _ (xD hpI) e) (hst.2.at λo e=>k2 _ _ (xD hpl) e) (λb o h1 h2' e=>k2 b o h2' (kk b o h1 (hk b o h1 h2' e))) hd2 (λx hx'=>?_) (λq' hq'=>hq q' (.tail _ hq')) ?_ ?_
  ·have:=hi (j+1);rw[show i+(j+1)=i+1+j by nofun]at this;exact this
  ·rcases zL2 hx' with⟨y,hy,_,e⟩|⟨_,e⟩
   ·rw[<- e];exact hx y hy
   ·rw[e];exact a4
  ·have:=zL8 xs q.1 q.2.2.1 q.2.2.2;rw[xo]at hz;lia
  ·intro h3 tk3 hd3 kk3;exact hR h3 tk3 hd3 kk3
end
section
variable {prog:Program}{w:World}{K:Type}[DecidableEq K] {kd:HeapKind prog w K}{A:Around}{E:Value->Shared->Prop}{s:Shared}
theorem zFi(hh:A.handled=none)(hu:kd.room A.in1.in1)(kp:∀{h h':Heap}{k:K}{a:Addr},kd.is h k a->(∀o,h.get? a=some o->h'.get? a=some o)->kd.is h' k a){l:Addr}{its:Array Value}{n:Nat}{ps:List (zIe K)}{Q:Value->Shared->Prop}
  (ho:s.heap.get? l=some o) (hc:o.cls=.type "list") (hd:o.data=.seq its n) (hdi:o.dict=none) (hl:s.heap.IsList l its) (hi:its.toList=ps.map λq=>.ref q.2.1)
  (hq:∀q∈ps,PyProof.Rows.IsTup s.heap q.2.1 #[.ref q.2.2.1,q.2.2.2]/\kd.is s.heap q.1 q.2.2.1/\q.2.2.1<s.heap.objs.size) (hz:ps.length<=sizeLine)
  (h:∀h' tk,h'.DictOfH kd s.heap.objs.size (zM8 [] ps)->(∀b o,s.heap.get? b=some o->h'.get? b=some o)->Q (.ref s.heap.objs.size) { s with heap:=h',toks:=tk }):
  wpAny (model prog w) A (call (.type "dict") [.ref l]) Q E s:=by
 refine callType_codes (Q₁:=λobj s₁=>obj=.ref s.heap.objs.size/\s₁={ s with heap:=s.heap.push { cls:=.type "dict",data:=.dict #[] } }) F.kt_called_dict (F.kt_typeCall_dict_1 _) F.entry_dict_init (kt_code_dict_new _ ⟨rfl,rfl⟩) ?_;rintro obj s₁ ⟨rfl,rfl⟩;have hnew:(s.heap.push { cls:=.type "dict",data:=.dict #[] }).DictOfH kd s.heap.objs.size []:=Heap.DictOfH.new s.heap;have lp:=xl ho;have ho1:(s.heap.push { cls:=.type "dict",data:=.dict #[] }).get? l=some o:=xp _ ho;refine⟨hnew.typeIs,F.args_dict_init_2 _ _,?_⟩;unfold Builtin.«dict.__init__»;refine xa ?_;unfold Builtin.Dict.selfAndRest;refine xa (wpAny_notOrdered_dict hnew.typeIs ?_);show wpAny _ _ (pure (s.heap.objs.size,[Value.ref l])) _ _ _;refine xf ?_;show wpAny _ _ (Builtin.Dict.updateFrom "dict.__init__" s.heap.objs.size (.ref l) [] .none) _ _ _;unfold Builtin.Dict.updateFrom;refine xa (vK ⟨o,ho1,hc⟩ ?_);rw[xb (by decide)];refine xa (zVq ho1 hc hd hdi (by rw[typeLookup_type,builtinLookup_eq_fast];kernel_rfl) (by decide +kernel) hh (λh2 tk2 k2=>?_) (by decide +kernel));rw[xb (by rfl)];refine xa (vz ?_);have hl2:=hl.at λo e=>k2 _ _ (xp _ e)
 refine xa (wpAny_pyIter_list hl2 ?_);have kb:∀b o,s.heap.get? b=some o->(h2.push { cls:=.type "list_iterator",data:=.fields #[.ref l,rawInt 0] }).get? b=some o:=λb o e=>xp _ (k2 _ _ (xp _ e))
 have pl:=xl (k2 _ _ (xy _ rfl));have hl1:=xr (x6 lp pl);refine xf ⟨plainId_quiet F.plain_upd_loop _,?_⟩;refine zJl (A:=A.in1) (h₁:=s.heap) hh hu kp (I:=h2.objs.size) (l:=l) (p:=s.heap.objs.size) hl1 (Nat.ne_of_gt lp) (xr pl) (its:=its) ps 0 _ _ _ [] (λj=>?_) ?_ ?_ ?_ ?_ ?_ ?_ ?_ ?_ ?_
 ·rw[vt,<- uL,hi,vp]
 ·have:=congrArg List.length hi;rw[xn,vx]at this;rw[vt,this]
 ·exact⟨_,xy _ rfl,rfl,rfl⟩
 ·exact hl2.push _
 ·exact λb o _ _ e=>kb b o e
 ·obtain⟨od,es,ep,g1,g2,g3,g4,g5,g6⟩:=hnew;exact⟨od,es,ep,xp _ (k2 _ _ g1),g2,g3,g4,(λx hx=>nomatch hx),g6⟩
 ·exact λx hx=>nomatch hx
 ·intro q hq';obtain⟨h1,h2',h3⟩:=hq q hq';have b1:q.2.1<s.heap.objs.size:=by obtain⟨_,e,_⟩:=h1;exact xl e
  exact⟨h1,xr (x6 b1 pl),xr b1,h2',xr (x6 h3 pl),xr h3⟩
 ·rw[vJ,vt];exact hz
 ·intro h' tk hd' kk;exact⟨rfl,h h' tk hd' λb o e=>kk b o (xr (x6 (xl e) pl)) (xr (xl e)) e⟩
end
end PySem
namespace L2
open PySem PySem.Spec PyProof.Rows
open DS (D Store Exn Rs SR)
section
variable {X:Cx}{K:PySem.W.Frag}{J:Js}{S:Store}{H:Hp}
noncomputable abbrev PV:=List Key × Addr × Addr × V
noncomputable def putV (kvs:List (List Key × V)) (qs:List PV):List (List Key × V):=qs.foldl (λa q=>putK a q.1 q.2.2.2) kvs
theorem zJy:∀{l:List D}{ps:List (D × D)}{ys:List V},DS.pairsOf l=some ps->RepL K J H l ys->∃qs:List PV,ys=qs.map (λq=>.ref q.2.1)/\(∀q∈qs,H q.2.1=some (.tup [.ref q.2.2.1,q.2.2.2])/\H q.2.2.1=some (.tup (q.1.map kV)))/\qs.length=ps.length/\∀{kvs:List (List Key × V)}{vs:List D},RepL K J H vs (kvs.map (·.2))->(DS.putAll (kvs.map (λp=>zKt p.1),vs) ps).1=(putV kvs qs).map (λp=>zKt p.1)/\RepL K J H (DS.putAll (kvs.map (λp=>zKt p.1),vs) ps).2 ((putV kvs qs).map (·.2))
 | [],ps,ys,e,r=>by
  cases e;cases(show ys=[]from r);exact⟨[],rfl,(λq hq=>nomatch hq),rfl,λr=>⟨rfl,r⟩⟩
 | d::l,ps,ys,e,r=>by
  unfold DS.pairsOf at e;split at e
  ·rename_i e';cases e'
  ·rename_i k v l' e';cases e';split at e
   ·rename_i hk;obtain⟨ps',e1,rfl⟩:=Option.map_eq_some_iff.mp e;obtain⟨y,ys',rfl,ry,rl⟩:=r;obtain⟨qs,e2,h2,l2,h3⟩:=zJy e1 rl;obtain⟨b,zs,rfl,tb,rz⟩:=ry;obtain⟨x1,t1,rfl,r1,r2⟩:=rz;obtain⟨x2,rfl,r3⟩:=zDl (ds:=[]) r2;unfold DS.zC4 at hk;rw[xi]at hk;cases k with
    | tup kl=>
     obtain⟨kk,rfl⟩:=zGk (hk.1);obtain⟨c,ws,rfl,tc,rc⟩:=r1;obtain rfl:=zEn rc;refine⟨(kk,b,c,x2)::qs,by rw[e2];rfl,λq hq=>?_,by rw[xo,l2];rfl,λ{kvs vs} rv=>?_⟩
     ·rcases xh.mp hq with rfl|hq
      ·exact⟨tb.1,tc.1⟩
      ·exact h2 q hq
     ·obtain⟨p1,p2⟩:=zMs (λa b=>zEv) rv r3;have:=h3 p2;rw[<- p1]at this;exact this
    | _=>cases hk.2
   ·cases e
  ·cases e
theorem zJx:∀(qs:List PV) (kvs:List (List Key × V)),(putV kvs qs).length<=kvs.length+qs.length
 | [],kvs=>xg _
 | q::qs,kvs=>by
  have:=zJx qs (putK kvs q.1 q.2.2.2);have h2:=zDd kvs q.1 q.2.2.2;show(putV (putK kvs q.1 q.2.2.2) qs).length<=_;rw[xo];lia
theorem zSt{H':Hp}:∀{qs:List PV}{ps:List (zIe (List Key))}{kvs:List (List Key × V)}{xs:List (List Key × Addr × Value)},Paired (λq p=>q.1=p.1/\q.2.2.1=p.2.2.1/\RelV q.2.2.2 p.2.2.2) qs ps->(∀q∈qs,H' q.2.2.1=some (.tup (q.1.map kV)))->KT H' kvs xs->KT H' (putV kvs qs) (zM8 xs ps)
 | [],_,kvs,xs,r,_,h=>by cases r;exact h
 | q::qs,_,kvs,xs,r,hq,h=>by
  cases r with
  | @cons _ p _ ps' e t=>
   have h1:=h.put q.1 (hq q (.head _)) e.2.2;have:=zSt t (λq' hq'=>hq q' (.tail _ hq')) h1;rw[e.1,e.2.1]at this;show KT H' (putV (putK kvs q.1 q.2.2.2) qs) (zM8 (storedH xs p.1 p.2.2.1 p.2.2.2) ps');rw[e.1];exact this
theorem zHj :∀{qs:List PV},(∀q∈qs,∃u',RelV q.2.2.2 u'/\IsTup h q.2.1 #[.ref q.2.2.1,u'])->∃ps:List (zIe (List Key)),Paired (λq p=>q.1=p.1/\q.2.2.1=p.2.2.1/\RelV q.2.2.2 p.2.2.2) qs ps/\(∀p∈ps,IsTup h p.2.1 #[.ref p.2.2.1,p.2.2.2]/\∃q∈qs,q.1=p.1/\q.2.2.1=p.2.2.1)/\ps.map (λp=>p.2.1)=qs.map (λq=>q.2.1)
 | [],_=>⟨[],.nil,(λp hp=>nomatch hp),rfl⟩
 | q::qs,hq=>by
  obtain⟨ps,h1,h2,h3⟩:=zHj λq' hq'=>hq q' (.tail _ hq')
  obtain⟨u',r,t⟩:=hq q (.head _);refine⟨(q.1,q.2.1,q.2.2.1,u')::ps,.cons ⟨rfl,rfl,r⟩ h1,λp hp=>?_,by rw[xt,xt,h3]⟩;rcases xh.mp hp with rfl|hp
  ·exact⟨t,q,.head _,rfl,rfl⟩
  ·obtain⟨a,q',hq',b⟩:=h2 p hp;exact⟨a,q',.tail _ hq',b⟩
theorem zFq:∀{l:List Addr}{us:List Value},Vals (l.map V.ref) us->us=l.map Value.ref
 | [],_,r=>by cases r;rfl
 | a::l,_,r=>by
  rw[xt]at r;cases r with
  | cons h t=>rw[zFq t,xt,(show _=Value.ref a from h)]
theorem zTh{h h':Heap}(x:(tupleKind (zB1 P w)).is h k a)(kp:∀o,h.get? a=some o->h'.get? a=some o):(tupleKind (zB1 P w)).is h' k a:=by obtain⟨o,its,n,h1,r⟩:=x;exact⟨o,its,n,kp o h1,r⟩
theorem zLp(hu:X.A.units+64<cLine)(hc:X.calm=true)(hK:X.K=K:=by rfl):zBa X (.type "dict") (cOfF K DS.zOk):=by
 subst hK;intro pins s σ H xs us Q I r hq36;obtain⟨J,S,ds,d,ha,rl,e,k⟩:=hq36;unfold DS.zOk at e;split at e
 ·rename_i d0;obtain⟨x,rfl,rx⟩:=zDl (ds:=[]) rl;split at e
  ·rename_i ps e1;split at e
   ·rename_i hm;cases e;split at e1
    ·rename_i l e2;obtain⟨b,ys,rfl,hq,q⟩:=zSo ha rx e2;obtain⟨u,rfl,ru⟩:=vals1 r;cases ru;obtain⟨qs,ey,hqs,ql,pa⟩:=zJy e1 q;obtain⟨its,rv,⟨ol,n,g1,g2,g3,g4⟩,_⟩:=I.list hq;obtain⟨ps',m1,m2,m3⟩:=zHj λq hq=>by
      obtain⟨_,its,rv,o,h1,h2,n,h3⟩:=(I.hok _ _ (hqs q hq).1);obtain⟨u,u',rfl,r1,r2⟩:=vals2 rv;cases(r1);exact⟨u',r2,o,h1,h2,n,h3⟩
     have ei:its=ps'.map λp=>.ref p.2.1:=by
      have e3:ys=(qs.map λq=>q.2.1).map V.ref:=by rw[ey,vD];rfl
      rw[e3]at rv;rw[zFq rv,<- m3,vD];rfl
     have pl:=(v3 m1).symm;have hz:ps'.length<=sizeLine:=by rw[pl,ql];exact hm
     refine zFi (I.ok.hd hc) (show X.A.units+2<cLine by nofun) zTh g1 g2 g4 g3 ⟨ol,g1,g2,n,g4⟩ (by rw[List.toList_toArray,ei]) (λp hp=>?_) hz λh' tk hd kp=>?_
     ·obtain⟨a1,q',hq',b1,b2⟩:=m2 p hp;have c1:=(hqs q' hq').2;rw[b1,b2]at c1;exact⟨a1,zF8 I.hok c1,by obtain⟨_,_,_,z,_⟩:=zF8 I.hok c1;exact xl z⟩
     ·have fr:=I.fresh;obtain⟨o,es,ep,f1,f2,f3,f4,f5,f6⟩:=hd;have kt:KT (upd H s.heap.objs.size (.dT (putV [] qs))) (putV [] qs) (zM8 [] ps'):=zSt m1 (λq hq=>by
       rw[zAf (λz=>by have:=(hqs q hq).2;rw[z,fr]at this;cases this)];exact(hqs q hq).2) .nil
      have hl:(putV [] qs).length<=sizeLine:=by have:=zJx qs [];rw[vJ,vt,<- pl]at this;exact xm this hz
      have ns:(s.heap.objs.size == sysModules)=false:=by have:=I.big;exact beq_false_of_ne (Nat.ne_of_gt this)
      obtain⟨p1,p2⟩:=@pa [] [] rfl;refine⟨.ref s.heap.objs.size,upd H s.heap.objs.size (.dT (putV [] qs)),I.laid kp (xg _) ⟨hl,ns,_,kt,o,es,ep,f1,f2,f3,f4,f6⟩,rfl,k _ _ H ha .refl fr ⟨_,.inr ⟨rfl,_,rfl,p1,rfl⟩,p2⟩⟩
    ·cases e1
   ·cases e
  ·cases e
 ·cases e
end
structure KRep (K:PySem.W.Frag) (d:D) (u:Value):Prop where
 ex:∃v,RelV v u/\∀J H,Rep K J H d v
inductive KReps (K:PySem.W.Frag):List D->List Value->Prop
 | nil:KReps K [] []
 | cons {d:D}{u:Value}{ds:List D}{us:List Value}(h:KRep K d u) (t:KReps K ds us):KReps K (d::ds) (u::us)
section
variable {K:PySem.W.Frag}
theorem zEm{i:Int}:KRep K (.int i) (.int i t):=⟨.int i,⟨t,rfl⟩,λ_ _=>rfl⟩
theorem KReps.vals:∀{ds:List D}{us:List Value},KReps K ds us->∃xs,Vals xs us/\∀J H,RepL K J H ds xs
 | _,_,.nil=>⟨[],.nil,λ_ _=>rfl⟩
 | _,_,.cons h t=>by
  obtain⟨v,r,hv⟩:=h.ex;obtain⟨xs,rs,hx⟩:=t.vals;exact⟨v::xs,.cons r rs,λJ H=>⟨v,xs,rfl,hv J H,hx J H⟩⟩
theorem zR7{its:Array Value}{n:Nat}(l:K.lookup a=some ⟨.type "tuple",od,.seq its n,sl⟩)(hs:its.size<=sizeLine)(h:KReps K ds its.toList)(hod:od=none:=by rfl):KRep K (.ktup ds) (.ref a):=by subst hod;obtain⟨xs,rs,hx⟩:=h.vals;exact⟨.ref a,rfl,λJ H=>⟨a,xs,rfl,.inr ⟨_,its,n,l,rfl,rfl,rfl,hs,rs⟩,hx J H⟩⟩
theorem de_k{X:Cx}(hg:Gl X x)(hm:X.mg x=some u)(h:KRep K d u)(hd:(x == ("__debug__":Str))=false:=by decide):DE X K E (.Name x pos) (DS.eC d):=by obtain⟨v,r,hv⟩:=h.ex;exact de_c (zQn hg hm r hd) hv
end
section
variable {X:Cx}{K:PySem.W.Frag}{E:XE}
theorem yBt(hg:Gl X x)(hm:X.mg x=some u)(h:KRep K (.ktup ds) u)(hd:(x == ("__debug__":Str))=false):DE X K E (.Name x pos) (DS.eC (.ktup ds)):=de_k hg hm h hd
end
open EK
open DS (lv)
section
open Classical
variable {X:Cx}{K:PySem.W.Frag}{E:XE}{J:Js}{S:Store}{H:Hp}
theorem zZb{l:List D}{its jts:List Value}(hu:X.A.units+64<cLine)(I:Inv X pins σ H s)(q1:RepL X.K J H l xs)(q2:RepL X.K J H m ys)(va:Vals xs its)(vb:Vals ys jts)(hl:∀p∈l.zip m,DS.zYl p.1 p.2)(j:Nat)(h1:j<its.length)(h2:j<jts.length):
  SeqAt.EqAt X.A.in1 s its[j] jts[j] (decide (l[j]?=m[j]?)):=by
 have z1:j<xs.length:=by rw[va.length];exact h1
 have z2:j<ys.length:=by rw[vb.length];exact h2
 obtain⟨d,ed,rd⟩:=q1.get' (xu z1);obtain⟨e,ee,re⟩:=q2.get' (xu z2);obtain⟨u,eu,ru⟩:=va.get (xu z1);obtain⟨w,ew,rw_⟩:=vb.get (xu z2);obtain rfl:its[j]=u:=by rw[xu h1]at eu;exact xA eu
 obtain rfl:jts[j]=w:=by rw[xu h2]at ew;exact xA ew
 have hm:=hl (d,e) (vS (List.getElem?_zip_eq_some.mpr ⟨ed,ee⟩));rw[ed,ee,show decide (some d=some e)=decide (d=e)from x3.mpr ⟨xA,λz=>by rw[z]⟩];rcases hm with⟨a,b,e1,e2⟩|⟨a,b,e1,e2⟩|⟨n,hn,l1,l2⟩
 ·dsimp only at e1 e2;subst e1 e2;have rd:xs[j]=.bl a:=rd;have re:ys[j]=.bl b:=re;rw[rd]at ru;rw[re]at rw_;rw[show its[j]=.bool a from ru,show jts[j]=.bool b from rw_,show decide (D.bl a=D.bl b)=(a == b) by rw[vR];simp];exact SeqAt.EqAt.bool_bool _ _
 ·dsimp only at e1 e2;subst e1 e2;have rd:xs[j]=.str a:=rd;have re:ys[j]=.str b:=re;rw[rd]at ru;rw[re]at rw_;obtain⟨t,e1⟩:=ru;obtain⟨t',e2⟩:=rw_;rw[e1,e2,show decide (D.str a=D.str b)=(a == b) by rw[vR];simp];exact SeqAt.EqAt.str_str _ _ _ _
 ·exact λprog w E Q hq=>zOf n (zHu I n l1 rd ru) (zHu I n l2 re rw_) (by show X.A.units+1+n<cLine;lia) hq
theorem zYc(hu:X.A.units+64<cLine)(hK:X.K=K:=by rfl):OpR X (compareOp .Eq) (r2Of K DS.eqY):=by
 subst hK;intro pins s σ H x y v u Q I rx ry hq37;obtain⟨J,S,d1,d2,d,ha,r1,r2,e,k⟩:=hq37;unfold DS.eqY at e;split at e
 ·cases e;obtain rfl:=r1;obtain rfl:=r2;obtain⟨t,rfl⟩:=rx;obtain⟨t',rfl⟩:=ry;exact SeqAt.RcAt.str_str _ _ _ _ _ _ _ _ ⟨.bl _,H,I,rfl,k _ H ha .refl rfl⟩
 ·split at e
  ·rename_i l m hs;cases e;obtain⟨a,xs,rfl,t1,q1⟩:=r1;obtain⟨b,ys,rfl,t2,q2⟩:=r2;cases rx;cases ry;obtain⟨its,va,ta,_⟩:=I.tuple t1.sq;obtain⟨jts,vb,tb,_⟩:=I.tuple t2.sq;refine SeqAt.RcAt.tuples (e:=λj=>decide (l[j]?=m[j]?)) (show s.heap.IsTuple a its.toArray from ta) (show s.heap.IsTuple b jts.toArray from tb) (by nofun) (λj h1 h2=>?_) _ _ _ _ ?_
   ·simp only[uK];exact zZb hu I q1 q2 va vb hs j (by simpa using h1) (by simpa using h2)
   ·simp only[xq];rw[<- va.length,<- vb.length,<- q1.length,<- q2.length,yAd];exact⟨.bl _,H,I,rfl,k _ H ha .refl rfl⟩
  ·cases e
 ·cases e
end
end L2
namespace Law
open PySem PySem.Spec PyProof.Rows L2
noncomputable abbrev CC (x:Str) (k:Nat) (ps:List Str) (F:DS.Fn):Prop:=∀{w:World}{mg:Str->Option Value}{base:Heap},Gd (KF w.params) mg->Cal PySem.Challenge.pw_healfloor_k25_forms_of_rules w (KF w.params) mg base x k ps (spOf (KF w.params) XE0 F)
noncomputable abbrev CM (C:Addr) (m:Str) (k:Nat) (F:DS.Fn):Prop:=∀{w:World}{mg:Str->Option Value}{base:Heap},Gd (KF w.params) mg->MthX PySem.Challenge.pw_healfloor_k25_forms_of_rules w (KF w.params) mg base C m k F
noncomputable abbrev CI (C:Addr) (k:Nat) (F:DS.Fn):Prop:=∀{w:World}{mg:Str->Option Value}{base:Heap},Gd (KF w.params) mg->MkX PySem.Challenge.pw_healfloor_k25_forms_of_rules w (KF w.params) mg base C k F
theorem zKw{mg:Str->Option Value}(G:Gd (KF P) mg):mg "AS_IT_IS"=some (.ref 41):=G.a _ _ (by kernel_rfl)
theorem zKv :KRep (KF P) (.ktup [(.int 1),(.int 0),(.int 0),(.int 1)]) (.ref 41):=(zR7 (od:=none) (its:=#[(.int (1) 221),(.int (0) 222),(.int (0) 223),(.int (1) 224)]) (n:=0) (sl:=#[]) (by kernel_rfl) (show 4<=sizeLine by decide) (.cons zEm (.cons zEm (.cons zEm (.cons zEm .nil)))))
set_option hygiene false in
local macro_rules | `(tactic| ac_rfl) => `(tactic| first | kernel_rfl | (intro _ _ _ _ _ _ us hl; first | (obtain ⟨_, rfl⟩ := len1 hl; rfl) | (obtain ⟨_, _, rfl⟩ := len2 hl; rfl) | (obtain ⟨_, _, _, rfl⟩ := len3 hl; rfl) | (obtain ⟨_, _, _, _, rfl⟩ := len4 hl; rfl) | (obtain ⟨_, _, _, _, _, rfl⟩ := len5 hl; rfl)) | ((first | intro q f c cl A outer s H hr | intro cdv A outer s H E hr | intro A outer s H E hr); (first | exact zW9 | refine zKd ?_ ?_ | refine zFe (zOi ?_) | refine zFe (zSz ?_ ?_ ?_ ?_) | refine zFe (zT0 ?_ ?_ ?_) | refine zFe ?_ | skip); repeat' (first
 | with_reducible (show DE _ _ _ _ _;first|(apply yBb G)|apply zZh|(apply zZj;kernel_rfl!)|apply zZe|apply zZx|apply zZt|apply zW2|apply yBy|apply yBt|apply zZu|apply yBv|apply zZw|apply yA0|apply yBo|apply zZv|(apply yBq;first|apply zNa|apply zUu|apply zUq|apply zUv|apply zUr|apply zQu|apply zV0)|(apply zZy;first|apply zSi|apply zUx|apply zN9|apply zSg|apply zSh)|(apply yBn;first|apply zTd)|(apply yBu;first|apply ix_D)|(apply yBp;first|apply sl_D)|(apply yBf;first|apply zLo|apply zLn|apply zPc|apply zLm|apply zPb)|(apply yBe;first|apply zHy)|(apply zZi;exact zQ0;apply zL1)|(apply zZi;exact zPz;apply zL0)|apply yBr)
 | with_reducible (show DA _ _ _ _ _;first|apply zWh|apply yA1)
 | with_reducible (show DT _ _ _ _ _;first|apply zZl|(apply zZm;first|apply zYc|apply zSi|apply zUw|apply zN9|apply zSg|apply zSh|apply zYa|apply zKy)|apply zZk|apply dt_w)
 | with_reducible (show DW _ _ _ _ _;first|apply yBa|apply zZc|apply zZd|apply zVy)
 | with_reducible (show DF _ _ _ _ _;first|apply zW1|apply zZr|apply yBj|apply zWe|(apply yBd;first|apply zGz)|(apply yBc;first|apply zLp))
 | with_reducible (show DG _ _ _ _;first|apply zW0|apply zZq)
 | with_reducible (show DGs _ _ _ _;first|apply zRr|apply zWc)
 | with_reducible (show DIf _ _ _ _ _;first|apply zWb|apply zWa)
 | with_reducible (show DI _ _ _ _ _ _;first|apply zZp|apply zOl)
 | with_reducible (show DS1 _ _ _ _ _;first|(apply zSz;kernel_rfl!)|apply zOi|apply zT0|apply zW6|apply zOj|(apply zZf;kernel_rfl!)|apply zRp|apply zRo|(apply zRk;kernel_rfl!)|apply zRm|(apply zVz;kernel_rfl!)|apply zZg|(apply zW5;first|apply yAl))
 | with_reducible (show DSs _ _ _ _ _;first|apply zKd|apply zFe|apply zW8)
 | with_reducible (show DO _ _ _ _ _;first|apply yBh|apply zZn)
 | exact G.z _ (by kernel_rfl)
 | exact zKw G
 | exact zKv
 | kernel_rfl
 | exact PassesOwn.never
 | exact PassesOwn.leaving
 | exact zGg (by kernel_rfl)
 | exact hr.units
 | exact yB7 hr
 | exact hr.units0
 | exact hr.mono (by decide)
 | exact hr.mono (by nofun)
 | exact ih G
 | exact zWl G
 | exact zPd G
 | exact zJ4 G
 | exact zLr G
 | exact zLq G
 | exact zJ8 G
 | exact zJ6 G
 | exact zLs G
 | exact zFo G
 | exact zPe G
 | exact zB9 G
 | exact yC1 G
 | exact zJ9 G
 | exact zI2 G
 | exact zI4 _ ih G
 | exact zJ7 G
 | exact zH2 G
 | exact zH3 G
 | exact zE6 G
 | exact zRx G
 | exact zH1 _ ih G
 | exact zBd _ ih G
 | exact zJ5 G
 | exact zH4 G
 | exact zI3 G
 | exact zDu G
 | exact zRy G
 | exact zFk G
 | exact zFj G
 | exact G
 | exact G
 | with_reducible (show DEB _ _ _ _ _;apply deb_of)
 | exact MthsX.cons (.one (zBd _ ih G)) (zB9 G) ⟨by nofun⟩
 | exact .inl rfl
 | exact .inr rfl
 | exact .inr (.inl rfl)
 | exact .inr (.inr rfl)
 | decide
 | exact nomark _
 | with_unfolding_all rfl
 | intro _ _ _ _ _
 | intro _ _
 | exact⟨rfl,rfl⟩)))
theorem zWl:CC "worth" 1 ["slope","cell"] DP.zFc:=λG=>by apply zBb G 21 20 (top 1) mA_ ["slope","cell"];all_goals ac_rfl
theorem zPd:CC "carried" 1 ["cell","by"] DP.zC7:=λG=>by apply zBb G 35 34 (top 3) mA_ ["cell","by"];all_goals ac_rfl
theorem zJ4:CC "lookup_of" 1 ["things"] DP.zCc:=λG=>by apply zBb G 40 39 (top 4) mA_ ["things"];all_goals ac_rfl
theorem zLr:CC "least_of" 1 ["rule"] DP.zE4:=λG=>by apply zBb G 125 124 (top 12) mB_ ["rule"];all_goals ac_rfl
theorem zLq:CC "parts_of" 1 ["rule"] DP.zE3:=λG=>by apply zBb G 139 138 (top 14) mB_ ["rule","form"];all_goals ac_rfl
theorem zJ8:CC "_law_feed" 1 ["_law_script","_law_k"] DP.zCf:=λG=>by apply yC0 G 146 145 (top 16) mC_ n_8;all_goals ac_rfl
theorem zJ6:CC "_law_take" 1 ["_law_feed_here","_law_many"] DP.zA4:=λG=>by apply zBb G 153 152 (top 17) mC_ n_9;all_goals ac_rfl
theorem zLs:CC "_law_led" 1 ["_law_table_here","_law_cell_here"] DP.zAr:=λG=>by apply zBb G 186 185 (top 22) mC_ ["_law_table_here","_law_cell_here"];all_goals ac_rfl
theorem zFo:CC "_law_carried" 1 ["_law_cell_here","_law_by"] DP.zA8:=λG=>by apply zBb G 193 192 (top 23) mC_ ["_law_cell_here","_law_by"];all_goals ac_rfl
theorem zPe:CC "_law_is" 1 ["_law_found","_law_due"] DP.zAn:=λG=>by apply zBb G 219 218 (top 27) mC_ ["_law_found","_law_due"];all_goals ac_rfl
theorem zB9:CM 65 "is_broken" 1 DP.zAh:=λG=>by apply zYg G 65 62 61 "is_broken" "IslandFloor.is_broken" (topc 7 1) mB_ ["self","cell"] ["self","cell"];all_goals ac_rfl
theorem yC1:CC "led" 2 ["table","cell"] DP.zGs:=λG=>by apply zBb G 28 27 (top 2) mA_ ["table","cell"];all_goals ac_rfl
theorem zJ9:CC "_law_cell" 2 ["_law_feed_here"] DP.zAe:=λG=>by apply zBb G 160 159 (top 18) mC_ ["_law_feed_here","_law_far"];all_goals ac_rfl
theorem zI2:CC "_law_table" 2 ["_law_feed_here"] DP.zBf:=λG=>by apply zBb G 165 164 (top 19) mC_ n_0;all_goals ac_rfl
theorem zI4(n:Nat)(ih:CC "_law_rule" (2*n+3) n_10 r):CC "_law_parts" (2*n+4) n_10 (DP.zBz r):=λG=>by apply zBb G 172 171 (top 20) mC_ n_11;all_goals ac_rfl
theorem zFg:∀n:Nat,CC "_law_rule" (2*n+3) n_10 (DP.zB4 n)
 | 0=>λG=>by apply zBb G 179 178 (top 21) mC_ n_12;all_goals ac_rfl
 | n+1=>λG=>by have ih:=@zFg n;apply zBb G 179 178 (top 21) mC_ n_12;all_goals ac_rfl
theorem zJ7:CC "_law_rule" 19 n_10 DP.zCe:=zFg 8
theorem zH2:CC "_law_within" 2 ["_law_outer","_law_inner"] DP.zCd:=λG=>by apply zBb G 200 199 (top 24) mC_ n_13;all_goals ac_rfl
theorem zDs:∀n:Nat,CC "_law_leaves" (1*n+3) n_14 (DP.zBi n)
 | 0=>λG=>by apply zBb G 207 206 (top 25) mC_ n_15;all_goals ac_rfl
 | n+1=>λG=>by have ih:=@zDs n;apply zBb G 207 206 (top 25) mC_ n_15;all_goals ac_rfl
theorem zH3:CC "_law_leaves" 13 n_14 DP.zAv:=zDs 10
theorem zE6:CI 93 1 DP.zB0:=λG=>by apply mk_x G 93 83 82 "LaterFloor.__init__" (topc 8 0) mB_ n_16 n_16;all_goals ac_rfl
theorem zRx:CC "within" 3 ["outer","inner"] DP.zGr:=λG=>by apply zBb G 132 131 (top 13) mB_ n_17;all_goals ac_rfl
theorem zH1(n:Nat)(ih:CC "breaks_on" (3*n+4) n_20 r):CC "parts_break" (3*n+5) n_18 (DP.zDq r):=λG=>by apply zBb G 118 117 (top 11) mB_ n_19;all_goals ac_rfl
theorem zBd(n:Nat)(ih:CC "breaks_on" (3*n+4) n_20 r):CM 93 "is_broken" (3*n+6) (DP.zAj r):=λG=>by apply zYg G 93 90 89 "is_broken" "LaterFloor.is_broken" (topc 8 1) mB_ ["self","cell"] ["self","cell"];all_goals ac_rfl
theorem zFf:∀n:Nat,CC "breaks_on" (3*n+4) n_20 (DP.zCb n)
 | 0=>λG=>by apply zBb G 111 110 (top 10) mB_ n_21;all_goals ac_rfl
 | n+1=>λG=>by have ih:=@zFf n;apply zBb G 111 110 (top 10) mB_ n_21;all_goals ac_rfl
theorem zJ5:CC "breaks_on" 124 n_20 DP.zFd:=zFf 40
theorem zH4:CC "_law_island" 3 ["_law_feed_here","_law_places"] DP.zB7:=λG=>by apply zBb G 212 211 (top 26) mC_ n_1;all_goals ac_rfl
theorem zI3:CC "_law_place" 3 ["_law_feed_here"] DP.zBy:=λG=>by apply zBb G 226 225 (top 28) mC_ ["_law_feed_here","_law_far"];all_goals ac_rfl
theorem zDu:CI 65 2 DP.zAo:=λG=>by apply mk_x G 65 55 54 "IslandFloor.__init__" (topc 7 0) mB_ ["self","island"] ["self","island"];all_goals ac_rfl
theorem zRy:CC "breaks" 125 n_22 DP.zAb:=λG=>by apply zBb G 104 103 (top 9) mB_ n_22;all_goals ac_rfl
theorem zFk:CC "_law_one_form" 126 n_23 DP.zB6:=λG=>by apply zBb G 231 230 (top 29) mC_ n_2;all_goals ac_rfl
theorem zFj:CC "_law_together" 126 n_24 DP.zB5:=λG=>by apply zBb G 236 235 (top 30) mC_ n_3;all_goals ac_rfl
theorem yC6:CC "law" 127 ["_law_script"] DP.zLg:=λG=>by apply zBb G 241 240 (top 31) mC_ n_7;all_goals ac_rfl
theorem walk{l:PySem.W.OpenLaw}{q:Program}{loose:List Str}{XP:(Str->Option Value)->Heap->Prop}{YP:World->Heap->Prop}{d:DefRec}{K:Params->PySem.W.Frag}(hn:l.most=some 63)(hdf:d.params.defaults=[])
  (hY:∀(w:World) (h:Heap),YP w h->(K w.params).In h/\∀e∈tb,h.get? e.2=some (PySem.W.tabObj #[])) (hB:∀w:World,tabB (K w.params) tb=true)
  (F:∀(w:World) (mg:Str->Option Value) (fa:Addr) (h:Heap),(K w.params).In h->h.Ns mainGlobals mg->mg d.name=some (.ref fa)->
   ∃fd:FuncData,(∀(s:Shared) (u:Value),BindsTo s fd ⟨[u],[]⟩ [("_law_script",u)])/\∀base:Heap,(K w.params).In base->base.Ns mainGlobals mg->FnOk l.prog w (K w.params) mg base CX0 127 fa fd ["_law_script"] (spOf (K w.params) XE0 DP.zLg)):
  PySem.W.WalkO q loose XP YP l.row.toRowW d [] (λf vs=>PySem.call f vs):=
 L2.zPn (n:=63) (k:=127) (x:="_law_script") (Fn:=DP.zLg) hn (by decide) hdf ⟨rfl,by decide,by decide⟩ hY hB F DP.law_ok
noncomputable abbrev dl:DefRec:=⟨"law",zBg (top 31),zAw (top 31),zA7 (top 31),match top 31 with|.FunctionDef _ _ _ _ _ _ _ _ _ p=>p|_=>⟨0,0,0,0⟩⟩
theorem all_mk{w:World}{h:Heap}{mg:Str->Option Value}(X:(KF w.params).In h)(G:h.Ns mainGlobals mg)(hfa:mg "law"=some (.ref fa)):∃fd:FuncData,(∀(s:Shared) (v:Value),BindsTo s fd ⟨[v],[]⟩ [("_law_script",v)])/\∀base:Heap,(KF w.params).In base->base.Ns mainGlobals mg->FnOk PySem.Challenge.pw_healfloor_k25_forms_of_rules w (KF w.params) mg base CX0 127 fa fd ["_law_script"] (spOf (KF w.params) XE0 DP.zLg):=by
 have D:Gd (KF w.params) mg:=⟨λx v e=>PySem.W.mg_of X G e,λx e=>PySem.W.mg_none_of X G e⟩;have F:=zO6 (K:=KF w.params) (f:=241) (cd:=240) (x:="law") (tq:=top 31) (pm:=mC_) (by kernel_rfl) (by kernel_rfl) (by kernel_rfl);have e:=hfa.symm.trans (D.a "law" (.ref 241) (by kernel_rfl));cases e;refine⟨_,λs v=>.of_eq rfl,λbase _ _=>fn_d F (zEz (N:=n_7) (by kernel_rfl)) rfl rfl (b:=DP.zWo) ?_⟩;have G:=D
 ac_rfl
end Law
open PySem PySem.W PyProof.Rows
set_option maxRecDepth 100000 in
theorem PySem.Challenge.cw_healfloor_k25_forms_of_rules_holds : PySem.Challenge.rw_healfloor_k25_forms_of_rules.Holds := by
 refine PySem.W.holds_law (by decide +kernel) fun said=>PySem.W.holds_open (r:=PySem.W.OpenLaw.row PySem.Challenge.rw_healfloor_k25_forms_of_rules) (q:=Law.view) (loose:=[]) (Xt:=fun s=>xlAt Law.view [] s && recOk [] s) (XP:=XL Law.view []) (YP:=Hook.says Law.hk) (d:=Law.dl) (kwd:=[]) Law.left (Hook.of Law.hk) (Hook.keeps Law.hk) (fun s e=>xl_of s (Bool.and_eq_true_iff.mp e).1) XL.keeps (by kernel_rfl) (by kernel_rfl) (by kernel_rfl) (fun s e=>recFacts_of (Bool.and_eq_true_iff.mp e).2) (by kernel_rfl) said (by decide +kernel) ⟨by kernel_rfl,by kernel_rfl,by kernel_rfl,by kernel_rfl,by kernel_rfl,by decide +kernel⟩ ?hw ?hc
 case hw=>w_witness2
 case hc=>exact Law.walk (l:=PySem.Challenge.rw_healfloor_k25_forms_of_rules) (K:=Law.KF) (by kernel_rfl) (by kernel_rfl) (fun w h Y=>L2.zVl (by kernel_rfl) (PySem.W.kIn_of Y)) (fun w=>by kernel_rfl) fun w mg fa h KX G hmg=>Law.all_mk KX G hmg
