import PyProof.Rows.All
import Wide.All
import OpenK.AllK
import Wide.FinOn
import PySem.Syntax
import Lean
import PyProof.EqAt
import PyProof.EqKinds
import PyProof.TupleCall
import PyProof.TupleKey
import PyProof.DictRoadsH
import PyProof.P3Eq
import Wide.Seal
import KE.KDictList
import KE.KSortAsk
import PyProof.ListMulAny
import PyProof.FactsAll.tuple_2
import PyProof.NeData
import PyProof.P3In
import KE.KSortTup
import PyProof.DictUpdate
import PyProof.DictCopy
import PyProof.EnumFor
import PyProof.EnumMake
import PyProof.Rows.EnumRows
import PyProof.CompFree
import PySem.Challenge.RW_anywait_k31_whole_names
set_option linter.all false
set_option Elab.async false
set_option maxRecDepth 100000
set_option maxHeartbeats 0
set_option compiler.extract_closed false
set_option bootstrap.genMatcherCode false
abbrev QQq:=PySem.W.Frag
abbrev QQz:=List (PySem.Addr×PySem.Obj)
abbrev QZq:=PySem.Value→PySem.Shared→Prop
abbrev QZz:=PySem.Str→Option PySem.Value
def QJq:=@Option.bind_eq_some_iff
def QJz:=@Option.map_eq_some_iff
def QYq:=@List.mem_cons_of_mem
def QYz:=@List.mem_cons_self
def QXq:=@List.getElem?_eq_getElem
def QXz:=@List.mem_append
def QWq:=@PySem.Heap.get?_push_of_some
def QWz:=@List.mem_append_left
def QVq:=@List.mem_append_right
def QVz:=@Nat.le_refl
def QUq:=@Bool.and_eq_true
def QUz:=@decide_eq_true_eq
def QTq:=@List.length_append
def QTz:=@List.mem_map_of_mem
def QKq:=@PySem.wpAny_bind
def QKz:=@PySem.wpAny_pure
def QGq:=@PySem.wpAny_mono
def QGz:=@PySem.wpAny_field
def Qqq:=@PySem.wpAny_holding
def Qqz:=@PySem.Heap.lt_size
def Qzq:=@PySem.Heap.get?_push_size
def Qzz:=@PySem.wpAny_call_entry
def Qjq:=@PySem.wpAny_newObj_type
def Qjz:=@Bool.false_ne_true
def Qyq:=@List.size_toArray
def Qyz:=@List.map_cons
def Qxq:=@Bool.false_eq_true
def Qxz:=@List.getElem?_set_ne
def Qwq:=@List.getElem?_set_self
def Qwz:=@List.getElem?_append_left
def Qvq:=@Nat.lt_of_lt_of_le
def Qvz:=@Nat.ne_of_lt
def QAq:=@List.length_map
def QAz:=@List.not_mem_nil
def QBq:=@List.length_cons
def QBz:=@List.mem_of_getElem?
def QCq:=@List.mem_cons
def QCz:=@List.getElem?_eq_some_iff
def QDq:=@List.mem_map
def QDz:=@List.mem_singleton
def QEq:=@Option.some.inj
def QEz:=@decide_eq_false
def QFq:=@decide_eq_true
def QFz:=@List.getElem?_map
def QHq:=@Option.bind_some
def QHz:=@List.lookup_cons
def QIq:=@Nat.zero_le
def QIz:=@List.getElem?_append_right
def QLq:=@List.append_assoc
def QLz:=@List.cons_append
noncomputable section
section
namespace L2
open PySem
noncomputable def eF(s:Stmt):Arguments:=match s with
 |.FunctionDef _ a _ _ _ _ _ _ _ _=>a
 |_=>{posonlyargs:=[],args:=[],vararg:=none,kwonlyargs:=[],kw_defaults:=[],kwarg:=none,defaults:=[]}
def eE(s:Stmt):List Stmt:=match s with
 |.FunctionDef _ _ b _ _ _ _ _ _ _=>b
 |_=>[]
noncomputable def bj(s:Stmt):Scope:=match s with
 |.FunctionDef _ _ _ _ _ _ sc _ _ _=>sc
 |_=>{kind:=.function,names:=[],isGenerator:=false,isCoroutine:=false}
end L2
end
section
namespace Tx
open PySem PySem.W L2 PyProof.Rows
theorem w0w:PySem.Challenge.rw_anywait_k31_whole_names.wellSaid=true:=by kernel_rfl
noncomputable def top(i:Nat):Stmt:=PySem.Challenge.pw_anywait_k31_whole_names.main.body.getD i (.Pass ⟨0,0,0,0⟩)
abbrev s0:Stmt:=top 14
abbrev s1:Stmt:=top 15
abbrev s2:Stmt:=top 16
abbrev s3:Stmt:=top 17
abbrev s4:Stmt:=top 18
abbrev s5:Stmt:=top 19
abbrev s6:Stmt:=top 20
abbrev s7:Stmt:=top 21
abbrev s8:Stmt:=top 22
abbrev s9:Stmt:=top 23
abbrev yC:Stmt:=top 24
abbrev s11:Stmt:=top 25
abbrev s12:Stmt:=top 26
abbrev s13:Stmt:=top 27
abbrev s14:Stmt:=top 28
abbrev s15:Stmt:=top 29
abbrev s16:Stmt:=top 30
abbrev s17:Stmt:=top 33
abbrev s18:Stmt:=top 34
abbrev s19:Stmt:=top 35
abbrev s20:Stmt:=top 37
abbrev s21:Stmt:=top 38
abbrev s22:Stmt:=top 39
abbrev s23:Stmt:=top 40
abbrev s24:Stmt:=top 41
abbrev s25:Stmt:=top 42
abbrev s26:Stmt:=top 43
abbrev s27:Stmt:=top 45
abbrev s28:Stmt:=top 46
abbrev s29:Stmt:=top 47
abbrev s30:Stmt:=top 48
abbrev s31:Stmt:=top 51
abbrev s32:Stmt:=top 52
abbrev s33:Stmt:=top 53
abbrev s34:Stmt:=top 54
abbrev s35:Stmt:=top 55
abbrev s36:Stmt:=top 56
abbrev s37:Stmt:=top 57
abbrev s38:Stmt:=top 58
abbrev s39:Stmt:=top 60
abbrev s40:Stmt:=top 61
abbrev s41:Stmt:=top 62
abbrev s42:Stmt:=top 63
abbrev s43:Stmt:=top 64
abbrev s44:Stmt:=top 65
abbrev s45:Stmt:=top 66
abbrev s46:Stmt:=top 67
abbrev s47:Stmt:=top 68
abbrev s48:Stmt:=top 69
abbrev s49:Stmt:=top 70
abbrev s50:Stmt:=top 71
abbrev s51:Stmt:=top 72
abbrev s52:Stmt:=top 73
abbrev s53:Stmt:=top 74
abbrev s54:Stmt:=top 75
abbrev s55:Stmt:=top 76
def gE(P:Params)(x:Str)(i:Nat)(v:Value):DictEntry:=⟨PyData.keyHash P x,.str x i,v⟩
noncomputable def fO(x:Str)(st:Stmt)(m:Value)(c:Addr):Obj:=⟨.type "function",none,.func (PySem.W.fnOf x x (eF st) (eE st) (bj st) .none .none .none m none (.ref c) .none), #[]⟩
noncomputable def cO(x:Str)(a:Nat)(l n:Int)(r s:Nat)(u v:Value)(t:Nat)(q:Int)(z:Nat):Obj:=⟨.type "code",none,.fields #[.str x a,.str x (a+1),.str "/claim/cut.py" (a+2),.int l 0,.int n 0,.int 0 0,.int 0 0,.int 3 0,.ref r,.bool true,.int 181 0,.ref s,.none,u,v,.ref t,.int q 0,.int l 0,.str "/claim/cut.py" z], #[]⟩
def Us:Value:=.str "anywait.faults" 498
def Ak:Value:=.str "anywait.mending" 543
def jV:Value:=.str "anywait.nets" 255
def Fb:Value:=.str "anywait.stands" 434
def ZJ:Value:=.str "anywait.talks" 410
def jU:Value:=.str "law_anywait_k31_whole_names" 617
noncomputable def o64:Obj:=⟨.type "tuple",none,.seq #[.str "input" 261,.str "gate" 262,.str "start" 263,.str "out" 264,.str "state" 265,.str "same" 266,.str "not" 267,.str "and" 268,.str "or" 269,.str "both" 270,.str "held" 271,.str "table" 272,.str "on" 273,.str "off" 274], #[]⟩
noncomputable def Kf(P:Params):QQq:=[(3,⟨.type "dict",none,.dict #[gE P "__name__" 165 (.str "law_anywait_k31_whole_names" 617),gE P "__doc__" 166 .none,gE P "__package__" 167 .none,gE P "__loader__" 168 (.builtin "__main__.__loader__#opaque"),gE P "__spec__" 169 .none,gE P "__annotations__" 170 (.ref 6),gE P "__builtins__" 171 (.ref 4),gE P "__file__" 173 (.str "/claim/cut.py" 172),gE P "__cached__" 174 .none,gE P "WaitError" 206 (.ref 24),gE P "NoNet" 222 (.ref 37),gE P "NoTalk" 238 (.ref 49),gE P "TooBig" 254 (.ref 61),gE P "LETTERS" 258 (.str "abcdefghijklmnopqrstuvwxyz" 257),gE P "LONGEST_NAME" 260 (.int 6 259),gE P "WORDS" 275 (.ref 64),gE P "MOST_INPUTS" 277 (.int 3 276),gE P "MOST_GATES" 279 (.int 5 278),gE P "MOST_WIRES" 281 (.int 4 280),gE P "MOST_TABLE_WIRES" 283 (.int 8 282),gE P "DEEPEST_HELD" 285 (.int 3 284),gE P "checked" 292 (.ref 71),gE P "is_net" 298 (.ref 76),gE P "has_parts" 304 (.ref 81),gE P "is_tuple" 313 (.ref 88),gE P "is_number" 322 (.ref 95),gE P "is_name" 328 (.ref 100),gE P "are_unlike" 334 (.ref 105),gE P "is_row" 340 (.ref 110),gE P "is_wire" 348 (.ref 117),gE P "are_wires" 354 (.ref 122),gE P "are_rows" 360 (.ref 127),gE P "is_kind" 371 (.ref 134),gE P "is_held" 380 (.ref 141),gE P "wire_names" 386 (.ref 146),gE P "waiting_gates" 392 (.ref 151),gE P "told" 398 (.ref 156),gE P "told_held" 409 (.ref 163),gE P "MOST_STATES" 413 (.int 12 412),gE P "checked_talk" 421 (.ref 170),gE P "is_talk" 427 (.ref 175),gE P "is_state" 433 (.ref 180),gE P "stands" 445 (.ref 187),gE P "first_stand" 452 (.ref 194),gE P "steps_at" 458 (.ref 199),gE P "is_unasked" 467 (.ref 206),gE P "led_to" 478 (.ref 213),gE P "changed" 484 (.ref 218),gE P "newly_met" 497 (.ref 225),gE P "fault" 510 (.ref 232),gE P "fault_at" 523 (.ref 239),gE P "has_out" 529 (.ref 244),gE P "fault_of_step" 542 (.ref 251),gE P "MOST_MENDED_GATES" 546 (.int 4 545),gE P "held" 556 (.ref 258),gE P "mended" 566 (.ref 265),gE P "mended_by_two" 579 (.ref 272),gE P "has_part" 587 (.ref 279),gE P "points_of" 593 (.ref 284),gE P "is_point" 602 (.ref 291),gE P "with_point" 608 (.ref 296),gE P "held_kind" 616 (.ref 303),gE P "_law_cell_at" 626 (.ref 310),gE P "_law_mixed" 636 (.ref 317),gE P "_law_next" 645 (.ref 324),gE P "_law_some" 657 (.ref 331),gE P "_law_table" 663 (.ref 336),gE P "_law_kind" 675 (.ref 343),gE P "_law_net" 681 (.ref 348),gE P "_law_talk" 687 (.ref 353),gE P "_law_ring" 693 (.ref 358),gE P "_law_chain" 707 (.ref 365),gE P "_law_meeting" 721 (.ref 372),gE P "_law_spoilt_kind" 727 (.ref 377),gE P "_law_case" 739 (.ref 384),gE P "_law_names" 745 (.ref 389),gE P "_law_kind_renamed" 751 (.ref 394),gE P "_law_renamed" 757 (.ref 399),gE P "law" 763 (.ref 404)] 79, #[]⟩),
 (71,fO "checked" s0 jV 70),
 (70,cO "checked" 286 19 1 65 66 (.ref 67) (.ref 68) 69 290 291),
 (76,fO "is_net" s1 jV 75),
 (75,cO "is_net" 293 23 1 72 73 .none .none 74 296 297),
 (81,fO "has_parts" s2 jV 80),
 (80,cO "has_parts" 299 30 1 77 78 .none .none 79 302 303),
 (88,fO "is_tuple" s3 jV 87),
 (87,cO "is_tuple" 305 34 3 82 83 (.ref 84) (.ref 85) 86 311 312),
 (95,fO "is_number" s4 jV 94),
 (94,cO "is_number" 314 36 3 89 90 (.ref 91) (.ref 92) 93 320 321),
 (100,fO "is_name" s5 jV 99),
 (99,cO "is_name" 323 38 1 96 97 .none .none 98 326 327),
 (105,fO "are_unlike" s6 jV 104),
 (104,cO "are_unlike" 329 42 1 101 102 .none .none 103 332 333),
 (110,fO "is_row" s7 jV 109),
 (109,cO "is_row" 335 44 2 106 107 .none .none 108 338 339),
 (117,fO "is_wire" s8 jV 116),
 (116,cO "is_wire" 341 46 2 111 112 (.ref 113) (.ref 114) 115 346 347),
 (122,fO "are_wires" s9 jV 121),
 (121,cO "are_wires" 349 48 4 118 119 .none .none 120 352 353),
 (127,fO "are_rows" yC jV 126),
 (126,cO "are_rows" 355 52 2 123 124 .none .none 125 358 359),
 (134,fO "is_kind" s11 jV 133),
 (133,cO "is_kind" 361 56 3 128 129 (.ref 130) (.ref 131) 132 369 370),
 (141,fO "is_held" s12 jV 140),
 (140,cO "is_held" 372 72 3 135 136 (.ref 137) (.ref 138) 139 378 379),
 (146,fO "wire_names" s13 jV 145),
 (145,cO "wire_names" 381 74 1 142 143 .none .none 144 384 385),
 (151,fO "waiting_gates" s14 jV 150),
 (150,cO "waiting_gates" 387 76 2 147 148 .none .none 149 390 391),
 (156,fO "told" s15 jV 155),
 (155,cO "told" 393 79 3 152 153 .none .none 154 396 397),
 (163,fO "told_held" s16 jV 162),
 (162,cO "told_held" 399 95 3 157 158 (.ref 159) (.ref 160) 161 407 408),
 (170,fO "checked_talk" s17 ZJ 169),
 (169,cO "checked_talk" 414 101 2 164 165 (.ref 166) (.ref 167) 168 419 420),
 (175,fO "is_talk" s18 ZJ 174),
 (174,cO "is_talk" 422 105 2 171 172 .none .none 173 425 426),
 (180,fO "is_state" s19 ZJ 179),
 (179,cO "is_state" 428 113 3 176 177 .none .none 178 431 432),
 (187,fO "stands" s20 Fb 186),
 (186,cO "stands" 436 120 2 181 182 (.ref 183) (.ref 184) 185 443 444),
 (194,fO "first_stand" s21 Fb 193),
 (193,cO "first_stand" 446 127 1 188 189 (.ref 190) (.ref 191) 192 450 451),
 (199,fO "steps_at" s22 Fb 198),
 (198,cO "steps_at" 453 129 3 195 196 .none .none 197 456 457),
 (206,fO "is_unasked" s23 Fb 205),
 (205,cO "is_unasked" 459 132 3 200 201 (.ref 202) (.ref 203) 204 465 466),
 (213,fO "led_to" s24 Fb 212),
 (212,cO "led_to" 468 134 4 207 208 (.ref 209) (.ref 210) 211 476 477),
 (218,fO "changed" s25 Fb 217),
 (217,cO "changed" 479 139 3 214 215 .none .none 216 482 483),
 (225,fO "newly_met" s26 Fb 224),
 (224,cO "newly_met" 485 141 4 219 220 (.ref 221) (.ref 222) 223 495 496),
 (232,fO "fault" s27 Us 231),
 (231,cO "fault" 500 150 2 226 227 (.ref 228) (.ref 229) 230 508 509),
 (239,fO "fault_at" s28 Us 238),
 (238,cO "fault_at" 511 160 4 233 234 (.ref 235) (.ref 236) 237 521 522),
 (244,fO "has_out" s29 Us 243),
 (243,cO "has_out" 524 169 2 240 241 .none .none 242 527 528),
 (251,fO "fault_of_step" s30 Us 250),
 (250,cO "fault_of_step" 530 171 5 245 246 (.ref 247) (.ref 248) 249 540 541),
 (258,fO "held" s31 Ak 257),
 (257,cO "held" 547 181 2 252 253 (.ref 254) (.ref 255) 256 554 555),
 (265,fO "mended" s32 Ak 264),
 (264,cO "mended" 557 190 2 259 260 (.ref 261) (.ref 262) 263 564 565),
 (272,fO "mended_by_two" s33 Ak 271),
 (271,cO "mended_by_two" 567 202 3 266 267 (.ref 268) (.ref 269) 270 577 578),
 (279,fO "has_part" s34 Ak 278),
 (278,cO "has_part" 580 210 2 273 274 (.ref 275) (.ref 276) 277 585 586),
 (284,fO "points_of" s35 Ak 283),
 (283,cO "points_of" 588 212 1 280 281 .none .none 282 591 592),
 (291,fO "is_point" s36 Ak 290),
 (290,cO "is_point" 594 220 2 285 286 (.ref 287) (.ref 288) 289 600 601),
 (296,fO "with_point" s37 Ak 295),
 (295,cO "with_point" 603 225 2 292 293 .none .none 294 606 607),
 (303,fO "held_kind" s38 Ak 302),
 (302,cO "held_kind" 609 228 2 297 298 (.ref 299) (.ref 300) 301 614 615),
 (310,fO "_law_cell_at" s39 jU 309),
 (309,cO "_law_cell_at" 619 231 2 304 305 (.ref 306) (.ref 307) 308 624 625),
 (317,fO "_law_mixed" s40 jU 316),
 (316,cO "_law_mixed" 627 237 3 311 312 (.ref 313) (.ref 314) 315 634 635),
 (324,fO "_law_next" s41 jU 323),
 (323,cO "_law_next" 637 240 3 318 319 (.ref 320) (.ref 321) 322 643 644),
 (331,fO "_law_some" s42 jU 330),
 (330,cO "_law_some" 646 243 5 325 326 (.ref 327) (.ref 328) 329 655 656),
 (336,fO "_law_table" s43 jU 335),
 (335,cO "_law_table" 658 248 3 332 333 .none .none 334 661 662),
 (343,fO "_law_kind" s44 jU 342),
 (342,cO "_law_kind" 664 254 4 337 338 (.ref 339) (.ref 340) 341 673 674),
 (348,fO "_law_net" s45 jU 347),
 (347,cO "_law_net" 676 264 4 344 345 .none .none 346 679 680),
 (353,fO "_law_talk" s46 jU 352),
 (352,cO "_law_talk" 682 270 4 349 350 .none .none 351 685 686),
 (358,fO "_law_ring" s47 jU 357),
 (357,cO "_law_ring" 688 278 2 354 355 .none .none 356 691 692),
 (365,fO "_law_chain" s48 jU 364),
 (364,cO "_law_chain" 694 284 2 359 360 (.ref 361) (.ref 362) 363 705 706),
 (372,fO "_law_meeting" s49 jU 371),
 (371,cO "_law_meeting" 708 295 2 366 367 (.ref 368) (.ref 369) 370 719 720),
 (377,fO "_law_spoilt_kind" s50 jU 376),
 (376,cO "_law_spoilt_kind" 722 309 3 373 374 .none .none 375 725 726),
 (384,fO "_law_case" s51 jU 383),
 (383,cO "_law_case" 728 315 2 378 379 (.ref 380) (.ref 381) 382 737 738),
 (389,fO "_law_names" s52 jU 388),
 (388,cO "_law_names" 740 335 1 385 386 .none .none 387 743 744),
 (394,fO "_law_kind_renamed" s53 jU 393),
 (393,cO "_law_kind_renamed" 746 337 2 390 391 .none .none 392 749 750),
 (399,fO "_law_renamed" s54 jU 398),
 (398,cO "_law_renamed" 752 343 3 395 396 .none .none 397 755 756),
 (404,fO "law" s55 jU 403),
 (403,cO "law" 758 350 1 400 401 .none .none 402 761 762),
 (64,o64)]
noncomputable def Ka:List Addr:=[3,71,70,76,75,81,80,88,87,95,94,100,99,105,104,110,109,117,116,122,121,127,126,134,133,141,140,146,145,151,150,156,155,163,162,170,169,175,174,180,179,187,186,194,193,199,198,206,205,213,212,218,217,225,224,232,231,239,238,244,243,251,250,258,257,265,264,272,271,279,278,284,283,291,290,296,295,303,302,310,309,317,316,324,323,331,330,336,335,343,342,348,347,353,352,358,357,365,364,372,371,377,376,384,383,389,388,394,393,399,398,404,403,64]
def Ke(P:Params):Ka=(Kf P).map (·.1):=rfl
abbrev Kh:PySem.W.Hook:=PySem.W.kHook Kf Ka Ke
noncomputable def lo:List Str:="__name__"::"WaitError"::"NoNet"::"NoTalk"::"TooBig"::"LETTERS"::"LONGEST_NAME"::"WORDS"::"MOST_INPUTS"::"MOST_GATES"::"MOST_WIRES"::"MOST_TABLE_WIRES"::"DEEPEST_HELD"::"checked"::"is_net"::"has_parts"::"is_tuple"::"is_number"::"is_name"::"are_unlike"::"is_row"::"is_wire"::"are_wires"::"are_rows"::"is_kind"::"is_held"::"wire_names"::"waiting_gates"::"told"::"told_held"::"MOST_STATES"::"checked_talk"::"is_talk"::"is_state"::"stands"::"first_stand"::"steps_at"::"is_unasked"::"led_to"::"changed"::"newly_met"::"fault"::"fault_at"::"has_out"::"fault_of_step"::"MOST_MENDED_GATES"::"held"::"mended"::"mended_by_two"::"has_part"::"points_of"::"is_point"::"with_point"::"held_kind"::"_law_cell_at"::"_law_mixed"::"_law_next"::"_law_some"::"_law_table"::"_law_kind"::"_law_net"::"_law_talk"::"_law_ring"::"_law_chain"::"_law_meeting"::"_law_spoilt_kind"::"_law_case"::"_law_names"::"_law_kind_renamed"::"_law_renamed"::[]
def qV:Program:=view PySem.Challenge.pw_anywait_k31_whole_names [76]
def hl:LeftO PySem.Challenge.pw_anywait_k31_whole_names qV lo (fun s=>recOk [] s) (Hook.obs Kh) (Hook.val Kh) 5400:=fun w=>by
 rw[PySem.W.Fast.te4187177175401517315,PySem.W.Fast.te5923862056798008813,PySem.W.Fast.te14364793385576792824]
 kernel_rfl
end Tx
end
section
namespace L2
open PySem PySem.Spec PyProof.Rows
abbrev Key:=Sum Int Str
def uR:Key->Value->Bool
 |.inl k,v=>Value.isInt k v
 |.inr x,v=>Value.isStrOf x v
def acf(w:World):Key->Int
 |.inl k=>hashInt k
 |.inr x=>hashStr w x
theorem cB:∀{k:Key}{v:Value},uR k v=true->(∃i t,k=Sum.inl i/\v=Value.int i t)\/(∃x t,k=Sum.inr x/\v=Value.str x t)
 |.inl i,v,h=>by
  obtain⟨t,e⟩:=Value.isInt_shape h
  exact .inl ⟨i,t,rfl,e⟩
 |.inr x,v,h=>by
  obtain⟨t,e⟩:=Value.isStrOf_shape h
  exact .inr ⟨x,t,rfl,e⟩
def HX i t:uR (.inl i) (.int i t)=true:=by simp[uR,Value.isInt]
def HW x t:uR (.inr x) (.str x t)=true:=by simp[uR,Value.isStrOf]
def XJ a b:decide ((Sum.inl a:Key)=Sum.inl b)=(a==b):=by
 by_cases e:a=b
 ·subst e;simp
 ·rw[QEz (fun q=>e (Sum.inl.inj q))]
  exact(beq_eq_false_iff_ne.mpr e).symm
def XD a b:decide ((Sum.inr a:Key)=Sum.inr b)=decide (a=b):=by
 by_cases e:a=b
 ·subst e;simp
 ·rw[QEz (fun q=>e (Sum.inr.inj q)),QEz e]
def XH a b:decide ((Sum.inl a:Key)=Sum.inr b)=false:=QEz (fun q=>nomatch q)
def XF a b:decide ((Sum.inr a:Key)=Sum.inl b)=false:=QEz (fun q=>nomatch q)
noncomputable def fK(prog:Program)(w:World):PySem.KeyKind prog w Key where
 is:=uR
 hash:=acf w
 inj:=fun v a b ha hb=>by
  rcases cB ha with ⟨i,t,rfl,rfl⟩|⟨x,t,rfl,rfl⟩
  ·rcases cB hb with ⟨j,u,rfl,e⟩|⟨y,u,rfl,e⟩
   ·injection e with e1 _;rw[e1]
   ·exact nomatch e
  ·rcases cB hb with ⟨j,u,rfl,e⟩|⟨y,u,rfl,e⟩
   ·exact nomatch e
   ·injection e with e1 _;rw[e1]
 byValue:=fun k v h=>by
  rcases cB h with ⟨i,t,rfl,rfl⟩|⟨x,t,rfl,rfl⟩<;>rfl
 pyHash:=fun hv h=>by
  rcases cB hv with ⟨i,t,rfl,rfl⟩|⟨x,t,rfl,rfl⟩
  ·exact wpAny_pyHash_int h
  ·exact wpAny_pyHash_str h
 eqBool:=fun hu hv h=>by
  rcases cB hu with ⟨i,t,rfl,rfl⟩|⟨x,t,rfl,rfl⟩
  ·rcases cB hv with ⟨j,u,rfl,rfl⟩|⟨y,u,rfl,rfl⟩
   ·rw[XJ]at h;exact wpAny_eqBool_int h
   ·rw[XH]at h;exact SeqAt.EqAt.int_str i t y u _ _ _ _ h
  ·rcases cB hv with ⟨j,u,rfl,rfl⟩|⟨y,u,rfl,rfl⟩
   ·rw[XF]at h;exact SeqAt.EqAt.str_int x t j u _ _ _ _ h
   ·rw[XD]at h;exact wpAny_eqBool_str h
 «strs»:=fun k x t v h=>by
  rcases cB h with ⟨i,u,rfl,e⟩|⟨y,u,rfl,e⟩
  ·exact nomatch e
  ·injection e with e1 _
   subst e1
   cases v<;>rfl
def zj prog w i t:(fK prog w).is (.inl i) (.int i t)=true:=HX i t
def zg prog w x t:(fK prog w).is (.inr x) (.str x t)=true:=HW x t
inductive V where
 |non|bl (b:Bool)|int (i:Int)|str (x:Str)|ref (a:Addr)|ty (n:String)
 deriving DecidableEq
noncomputable def RelV:V->Value->Prop
 |.non,u=>u=Value.none
 |.bl b,u=>u=Value.bool b
 |.int i,u=>∃t,u=Value.int i t
 |.str x,u=>∃t,u=Value.str x t
 |.ref a,u=>u=Value.ref a
 |.ty n,u=>u=Value.type n
abbrev Vals:List V->List Value->Prop:=Paired RelV
theorem Vals.length{us:List Value}(r:Vals xs us):xs.length=us.length:=Paired.length r
theorem Vals.get:∀{xs:List V}{us:List Value}{i:Nat}{x:V},Vals xs us->xs[i]? =some x->∃u,us[i]? =some u/\RelV x u
 |_,_,_,_,.nil=>fun e=>by simp at e
 |_,_,0,_,.cons r _=>fun e=>by simp at e;subst e;exact⟨_,rfl,r⟩
 |_,_,i+1,x,.cons _ t=>fun e=>by
  obtain⟨u,h1,h2⟩:=Vals.get t (by simpa using e)
  exact⟨u,by simpa using h1,h2⟩
theorem Vals.set{u:Value}(r:RelV x u):∀{xs:List V}{us:List Value}(i:Nat),Vals xs us->Vals (xs.set i x) (us.set i u)
 |_,_,_,.nil=>.nil
 |_,_,0,.cons _ t=>.cons r t
 |_,_,i+1,.cons q t=>.cons q (Vals.set r i t)
theorem Vals.append:∀{xs ys:List V}{us ws:List Value},Vals xs us->Vals ys ws->Vals (xs++ys) (us++ws)
 |_,_,_,_,.nil=>fun s=>s
 |_,_,_,_,.cons r t=>fun s=>.cons r (Vals.append t s)
theorem Vals.take:∀{xs:List V}{us:List Value}(n:Nat),Vals xs us->Vals (xs.take n) (us.take n)
 |_,_,0,_=>.nil
 |_,_,_+1,.nil=>.nil
 |_,_,n+1,.cons r t=>.cons r (Vals.take n t)
theorem Vals.drop:∀{xs:List V}{us:List Value}(n:Nat),Vals xs us->Vals (xs.drop n) (us.drop n)
 |_,_,0,r=>r
 |_,_,_+1,.nil=>.nil
 |_,_,n+1,.cons _ t=>Vals.drop n t
def sY:Option V->Option Value->Prop
 |some v,some u=>RelV v u
 |none,none=>True
 |_,_=>False
noncomputable def KV{κ:Type}:List (κ×V)->List (κ×Value)->Prop:=Paired fun(p:κ×V)(q:κ×Value)=>p.1=q.1/\RelV p.2 q.2
def kV:Key->V
 |.inl i=>.int i
 |.inr x=>.str x
abbrev SK:=PyData
noncomputable instance skDec:DecidableEq PyData:=fun a b=>Classical.propDecidable (a=b)
abbrev SV:=SK×Addr×V
mutual
def hH(w:World):PyData->Int
 |.int i=>hashInt i
 |.str x=>acf w (.inr x)
 |.tuple xs=>reduceHash (Builtin.Tuple.tupleHashOf (hHs w xs))
 |_=>0
def hHs(w:World):List PyData->List Int
 |[]=>[]
 |x::xs=>hH w x::hHs w xs
end
abbrev Pn:SV->SK×Addr×Value->Prop:=fun p q=>p.1=q.1/\p.2.1=q.2.1/\RelV p.2.2 q.2.2
inductive HO where
 |lst (xs:List V)
 |tup (xs:List V)
 |dK (kvs:List (Key×V))|dS (xs:List SV)
 |ins (C dx:Addr) (fs:List (Str×V))
 |own (x:Addr)
 |met (f x:Addr)
 |frz (o:Obj) (u:HO)
 |tbl (ps:Array Value)
abbrev Hp:=Addr->Option HO
def upd(H:Hp)(a:Addr)(o:HO):Hp:=fun b=>if b=a then some o else H b
def aK{a:Addr}:upd H a o a=some o:=by unfold upd;rw[if_pos rfl]
def au{a b:Addr}(h:b≠a):upd H a o b=H b:=by unfold upd;rw[if_neg h]
def f9{H:Hp}{o:HO}(h:H a=some o)(h':H b=none):a≠b:=by
 intro e;subst e;rw[h]at h';cases h'
def TupOk(h:Heap)(a:Addr)(items:Array Value):Prop:=∃o,h.get? a=some o/\o.cls=.type "tuple"/\o.dict=none/\∃n,o.data=.seq items n
def TupOk.is{a:Addr}(x:TupOk h a items):IsTup h a items:=let ⟨o,e,c,_,d⟩:=x;⟨o,e,c,d⟩
def TupOk.new(h:Heap)items:TupOk (h.push {cls:=.type "tuple",data:=.seq items}) h.objs.size items:=⟨_,Qzq _ rfl,rfl,rfl,_,rfl⟩
section
variable(P:Program)(w:World)
noncomputable def b8(H:Hp)(h:Heap)(a:Addr):HO->Prop
 |.lst xs=>xs.length<=sizeLine/\∃(its:List Value)(n:Nat),Vals xs its/\h.get? a=some {cls:=.type "list",data:=.seq its.toArray n}
 |.tup xs=>xs.length<=sizeLine/\∃its:List Value,Vals xs its/\TupOk h a its.toArray
 |.dK kvs=>kvs.length<=sizeLine/\(a==sysModules)=false/\∃vs,KV kvs vs/\h.DictOf (fK P w) a vs
 |.dS xs=>xs.length<=sizeLine/\(a==sysModules)=false/\(xs.map (·.1)).Nodup/\∃(ys:List (SK×Addr×Value))(o:Obj)(es:Array DictEntry)(ep:Nat),Paired Pn xs ys/\h.get? a=some o/\o.ExactDict/\o.data=.dict es ep/\es.toList=ys.map fun y=>⟨hH w y.1,.ref y.2.1,y.2.2⟩
 |.ins C dx fs=>H dx=some (.own a)/\fs.length<=1000/\dx≠a/\h.get? a=some (PySem.W.instObj C dx)/\
   ∃mA,h.Ns1 dx mA/\(∀f,sY (fs.lookup f) (mA f))/\PySem.Within mA (fs.map (·.1))
 |.own _=>∃o,h.get? a=some o
 |.frz o u=>h.get? a=some o/\b8 H h a u
 |.tbl ps=>h.get? a=some {cls:=.none,data:=.fields ps}
 |.met f x=>h.get? a=some (PySem.W.methodObj (.ref f) (.ref x))
def oN(H:Hp)(h:Heap):Prop:=∀a o,H a=some o->b8 P w H h a o
end
section
variable{P:Program}{w:World}{H H':Hp}{h h':Heap}{a:Addr}{o:HO}
theorem b8.lt(x:b8 P w H h a o):a<h.objs.size:=by
 cases o with
 |lst xs=>obtain⟨_,_,_,_,e⟩:=x;exact Qqz e
 |tup xs=>obtain⟨_,_,_,p⟩:=x;exact p.is.lt
 |dK kvs=>obtain⟨_,_,_,_,o,_,_,e,_⟩:=x;exact Qqz e
 |dS xs=>obtain⟨_,_,_,_,o,_,_,_,e,_⟩:=x;exact Qqz e
 |ins C dx fs=>obtain⟨_,_,_,e,_⟩:=x;exact Qqz e
 |own y=>obtain⟨_,e⟩:=x;exact Qqz e
 |frz ob u=>obtain⟨e,_⟩:=x;exact Qqz e
 |tbl ps=>exact Qqz (x)
 |met f y=>exact Qqz (x)
theorem b8.stay(x:b8 P w H h a o)(k:∀b u,(b=a\/H b=some (.own a))->h.get? b=some u->h'.get? b=some u)
  (ho:∀b,H b=some (.own a)->H' b=some (.own a))(ht:∀b xs,H b=some (.tup xs)->H' b=some (.tup xs)):b8 P w H' h' a o:=by
 induction o with
 |lst xs=>obtain⟨z,its,n,r,e⟩:=x;exact⟨z,its,n,r,k _ _ (.inl rfl) e⟩
 |tup xs=>obtain⟨z,its,r,ob,e,c⟩:=x;exact⟨z,its,r,ob,k _ _ (.inl rfl) e,c⟩
 |dK kvs=>obtain⟨z,y,vs,r,ob,es,ep,e,c⟩:=x;exact⟨z,y,vs,r,ob,es,ep,k _ _ (.inl rfl) e,c⟩
 |dS xs=>obtain⟨z,y,nd,ys,ob,es,ep,pr,e,c⟩:=x;exact⟨z,y,nd,ys,ob,es,ep,pr,k _ _ (.inl rfl) e,c⟩
 |ins C dx fs=>
  obtain⟨d,z,ne,e,mA,⟨od,es,ep,e2,c⟩,r⟩:=x
  exact⟨ho _ d,z,ne,k _ _ (.inl rfl) e,mA,⟨od,es,ep,k _ _ (.inr d) e2,c⟩,r⟩
 |own y=>obtain⟨ob,e⟩:=x;exact⟨ob,k _ _ (.inl rfl) e⟩
 |frz ob u ih=>obtain⟨e,q⟩:=x;exact⟨k _ _ (.inl rfl) e,ih q⟩
 |tbl ps=>
  exact k a _ (.inl rfl) x
 |met f y=>
  exact k a _ (.inl rfl) x
theorem oN.lt(x:oN P w H h)(e:H a=some o):a<h.objs.size:=(x a o e).lt
def oN.fresh(x:oN P w H h)(e:h.objs.size<=a):H a=none:=by
 cases q:H a with
 |none=>rfl
 |some u=>exact absurd (Qvq (x.lt q) e) (Nat.lt_irrefl _)
def oN.kept(x:oN P w H h)(k:∀b u,h.get? b=some u->h'.get? b=some u):oN P w H h':=fun a o e=>
 (x a o e).stay (fun b u _ q=>k b u q) (fun _ q=>q) fun _ _ q=>q
def oN.laid(x:oN P w H h)(k:∀b u,h.get? b=some u->h'.get? b=some u)(hp:h.objs.size<=a)(new:b8 P w (upd H a o) h' a o):oN P w (upd H a o) h':=fun b u e=>by
 have hn:=x.fresh hp
 by_cases hb:b=a
 ·subst hb;rw[aK]at e;cases e;exact new
 ·rw[au hb]at e
  exact(x b u e).stay (fun c v _ q=>k c v q) (fun c q=>by rw[au (f9 q hn)];exact q) fun c xs q=>by rw[au (f9 q hn)];exact q
end
def Rd(H:Hp)(a:Addr)(u:HO):Prop:=H a=some u\/∃o,H a=some (.frz o u)
def Rd.ok{w:World}{h:Heap}{u:HO}(r:Rd H a u)(x:oN P w H h):b8 P w H h a u:=by
 rcases r with r|⟨o,r⟩
 ·exact x a u r
 ·obtain⟨_,q⟩:=x a _ r
  exact q
noncomputable def Mut:Option HO->Prop
 |some (.lst _)=>True
 |some (.dK _)=>True
 |some (.dS _)=>True
 |some (.ins _ _ _)=>True
 |_=>False
section
variable{P:Program}{w:World}{H:Hp}{h h':Heap}{x e:Addr}{o':HO}
def oN.write(ok:oN P w H h)(mu:Mut (H x))(he:e=x\/H e=some (.own x))(k:∀b u,b≠e->h.get? b=some u->h'.get? b=some u)(heo:∃u,h'.get? e=some u)
  (new:b8 P w (upd H x o') h' x o'):oN P w (upd H x o') h':=fun b u q=>by
 have nown:∀c y,H c=some (.own y)->c≠x:=fun c y r z=>by subst z;rw[r]at mu;exact mu
 by_cases hb:b=x
 ·subst hb;rw[aK]at q;cases q;exact new
 ·rw[au hb]at q
  by_cases hbe:b=e
  ·have q':H b=some (.own x):=by
    rcases he with z|z
    ·exact absurd (hbe.trans z) hb
    ·rw[hbe];exact z
   rw[q]at q';cases q'
   obtain⟨v,hv⟩:=heo
   exact⟨v,by rw[hbe];exact hv⟩
  ·refine(ok b u q).stay (fun c v hc r=>k c v ?_ r) (fun c r=>by rw[au (nown c b r)];exact r) fun c xs r=>by rw[au ((fun c xs r z=>by subst z;rw[r]at mu;exact mu) c xs r)];exact r
   rcases hc with rfl|hc
   ·exact hbe
   ·rintro rfl
    rcases he with z|z
    ·exact nown c b hc z
    ·rw[hc]at z;cases z;exact hb rfl
end
structure Un(fs ex:List Addr)(H H':Hp)(h h':Heap):Prop where
 keep:∀b o,h.get? b=some o->H b=none->b∉fs->b∉ex->h'.get? b=some o
 slot:∀b o,h.get? b=some o->H b=none->b∈fs->b∉ex->∃sl,h'.get? b=some {o with slots:=sl}
 free:∀b o,h.get? b=some o->H b=none->b∉ex->H' b=none
 there:∀b o,h.get? b=some o->b∉ex->∃o',h'.get? b=some o'
 tups:∀b xs,H b=some (.tup xs)->H' b=some (.tup xs)
 frzs:∀b o u,H b=some (.frz o u)->H' b=some (.frz o u)
 tbls:∀b ps,H b=some (.tbl ps)->∃more,H' b=some (.tbl (ps++more))
section
variable{fs fs' ex ex':List Addr}{H H1 H2:Hp}{h h1 h2 h':Heap}{a x e:Addr}{o:HO}
def Un.any(u:Un fs ex H H1 h h1){ob:Obj}(q:h.get? b=some ob)(n:H b=none)(hx:b∉ex):∃sl,h1.get? b=some {ob with slots:=sl}:=by
 by_cases hb:b∈fs
 ·exact u.slot b ob q n hb hx
 ·exact⟨ob.slots,u.keep b ob q n hb hx⟩
def Un.kept(k:∀b u,h.get? b=some u->h'.get? b=some u):Un fs ex H H h h':=
 ⟨fun b ob q _ _ _=>k b ob q,fun b ob q _ _ _=>⟨ob.slots,k b ob q⟩,fun _ _ _ n _=>n,fun b ob q _=>⟨ob,k b ob q⟩,fun _ _ q=>q,fun _ _ _ q=>q,fun _ ps q=>⟨#[],by rw[q];simp⟩⟩
def Un.refl:Un fs ex H H h h:=Un.kept fun _ _ q=>q
theorem Un.laid(k:∀b u,h.get? b=some u->h'.get? b=some u)(hp:h.objs.size<=a)(hn:H a=none):Un fs ex H (upd H a o) h h' where
 keep:=fun b u q _ _ _=>k b u q
 slot:=fun b u q _ _ _=>⟨u.slots,k b u q⟩
 free:=fun b u q n _=>by rw[au (Qvz (Qvq (Qqz q) hp))];exact n
 there:=fun b u q _=>⟨u,k b u q⟩
 tups:=fun b xs q=>by rw[au (f9 q hn)];exact q
 frzs:=fun b u xs q=>by rw[au (f9 q hn)];exact q
 tbls:=fun b ps q=>⟨#[],by rw[au (f9 q hn),q];simp⟩
def Un.write(mu:Mut (H x))(he:e=x\/H e=some (.own x))(k:∀b u,b≠e->h.get? b=some u->h'.get? b=some u)(heo:∃u,h'.get? e=some u):Un fs ex H (upd H x o) h h':=by
 have hx:∀b,H b=none->b≠x:=fun b n z=>by subst z;rw[n]at mu;exact mu
 have hb:∀b,H b=none->b≠e:=fun b n z=>by
  subst z
  rcases he with r|r
  ·exact hx b n r
  ·rw[n]at r;cases r
 have hm:∀b u,H b=some u->¬Mut (some u)->b≠x:=fun b u q nm z=>by subst z;rw[q]at mu;exact nm mu
 refine⟨fun b u q n _ _=>k b u (hb b n) q,fun b u q n _ _=>⟨u.slots,k b u (hb b n) q⟩,fun b u q n _=>by rw[au (hx b n)];exact n,fun b u q _=>?_,
  fun b xs q=>by rw[au (hm b _ q fun z=>z)];exact q,fun b u xs q=>by rw[au (hm b _ q fun z=>z)];exact q,fun b ps q=>⟨#[],by rw[au (hm b _ q fun z=>z),q];simp⟩⟩
 by_cases hbe:b=e
 ·subst hbe;exact heo
 ·exact⟨u,k b u hbe q⟩
end
def trk(h:Heap)(H:Hp):List Addr:=(List.range h.objs.size).filter fun a=>(H a).isSome
def Ie(h:Heap)(H:Hp):Heap:=PySem.W.hideAll h (trk h H)
def Ib h H:(Ie h H).objs.size=h.objs.size:=PySem.W.hideAll_size _ _
def Mq{H:Hp}{o:Obj}(e:h.get? b=some o)(n:H b=none):(Ie h H).get? b=some o:=
 PySem.W.hideAll_get _ e fun hm=>by
  have q:=(List.mem_filter.mp hm).2
  rw[n]at q;simp at q
def Rg{H:Hp}{o:Obj}(e:(Ie h H).get? b=some o):h.get? b=some o/\H b=none:=by
 have e':=PySem.W.of_hideAll _ e
 refine⟨e',?_⟩
 cases q:H b with
 |none=>rfl
 |some x=>
  have z:(Ie h H).get? b=none:=PySem.W.hideAll_none _ (List.mem_filter.mpr ⟨List.mem_range.mpr (Qqz e'),by simp[q]⟩)
  rw[z]at e;cases e
noncomputable def SJ(g h:Heap)(L:Addr):List (Addr×Obj):=(List.range h.objs.size).filterMap fun a=>if a=L\/(g.get? a).isSome=true then none else(h.get? a).map fun o=>(a,o)
def rest(g h:Heap)(L d:Addr):List (Addr×Obj):=(SJ g h L).filter fun p=>decide (p.1≠d)
structure Mod(K:QQq)(mg:QZz)(base:Heap):Prop where
 kin:K.In base
 glob:base.Ns mainGlobals mg
 blt:∃mb,base.Ns builtinsNs mb/\∀x:Str,x≠"__name__"->mb x=bootBuiltins x
 nolimit:base.NoLimit
structure Cx where
 prog:Program
 w:World
 K:QQq
 mg:Str->Option Value
 base:Heap
 A:Around
 N:List Str
 s₀:Shared
 H₀:Hp
 env:Env
 outer:List Env
 stack:List Env
 ex:List Addr
 fn:Str->Bool
 calm:Bool
 pn:List (Addr×Obj)
 xe:Value->Shared->Prop
def frs(l:List Env):List Addr:=l.filterMap (·.frame)
abbrev Cx.fs(X:Cx):List Addr:=frs X.outer
def Vis(sc:Scope)(x:Str):Prop:=sc.names.lookup x=some .local\/sc.names.lookup x=some .cell\/sc.names.lookup x=some .free
def Loc(sc:Scope)(x:Str):Prop:=sc.names.lookup x=some .local\/sc.names.lookup x=some .cell
def Look(env:Env)(h:Heap)(m:QZz)(x:Str)(u:Value):Prop:=
 (env.kindOf x=some .local/\m x=some u)\/((env.kindOf x=some .cell\/env.kindOf x=some .free)/\∃c,env.cells.lookup x=some c/\h.IsCell c (some u))
structure Cx.Ok(X:Cx):Prop where
 mod:Mod X.K X.mg X.base
 kind:X.env.scope.kind=.function
 glob:X.env.globals=mainGlobals
 blt:X.env.builtins=builtinsNs
 above:X.s₀.heap.objs.size<=X.env.locals
 inj:∀x y c,X.env.cells.lookup x=some c->X.env.cells.lookup y=some c->x=y
 has:∀x,(X.env.kindOf x=some .cell\/X.env.kindOf x=some .free)->∃c,X.env.cells.lookup x=some c
 cab:∀x c,X.fn x=true->X.env.cells.lookup x=some c->X.s₀.heap.objs.size<=c
 hd:X.calm=true->X.A.handled=none
 frames:X.A.frames=some X.stack
 stk:X.stack=X.outer\/(X.stack=X.env::X.outer/\X.env.frame=some X.env.locals)
 exf:∀b∈X.ex,b≠X.env.locals/\∀x c,X.env.cells.lookup x=some c->c≠b
 bs:∀b o,X.base.get? b=some o->X.s₀.heap.get? b=some o/\X.H₀ b=none
 bsz:X.base.objs.size<=X.s₀.heap.objs.size
 noex:∀b o,X.base.get? b=some o->b∉X.ex
 exfs:∀b∈X.ex,b∉X.fs
 lu:X.s₀.heap.FunFrames X.base X.outer
 frf:∀b∈X.fs,X.H₀ b=none
structure Inv(X:Cx)(γ:QQz)(σ:List (Option V))(H:Hp)(s:Shared):Prop where
 ok:X.Ok
 os:s.os=X.s₀.os
 bare:AllBare s.gens
 base:Un X.fs X.ex X.H₀ H X.s₀.heap s.heap
 loc:∃m,s.heap.Ns X.env.locals m/\∀(i:Nat)(x:Str)(v:V),X.N[i]? =some x->σ[i]? =some (some v)->Vis X.env.scope x->∃u,RelV v u/\Look X.env s.heap m x u
 cell:∀x c,X.env.cells.lookup x=some c->∃v,s.heap.IsCell c v
 free:H X.env.locals=none
 freeC:∀x c,X.env.cells.lookup x=some c->H c=none
 pin:∀p∈X.pn++γ,s.heap.get? p.1=some p.2/\H p.1=none/\p.1≠X.env.locals/\p.1∉X.fs/\∀v,p.2.data≠ .cell v
 hok:oN X.prog X.w H s.heap
 len:σ.length=X.N.length
section
variable{X:Cx}{γ:QQz}{σ:List (Option V)}{H H':Hp}{s:Shared}{h':Heap}
def Cx.Ok.afC(ok:X.Ok){o:Obj}(e:X.base.get? b=some o):b∉X.fs:=fun hb=>by
 have:=(ok.lu.mem hb).1
 rw[e]at this;cases this
theorem Inv.bs(I:Inv X γ σ H s):∀b o,X.base.get? b=some o->s.heap.get? b=some o/\H b=none:=fun b o e=>
 ⟨I.base.keep b o (I.ok.bs b o e).1 (I.ok.bs b o e).2 (I.ok.afC e) (I.ok.noex b o e),I.base.free b o (I.ok.bs b o e).1 (I.ok.bs b o e).2 (I.ok.noex b o e)⟩
def Inv.bk(I:Inv X γ σ H s):∀b o,X.base.get? b=some o->s.heap.get? b=some o:=fun b o e=>(I.bs b o e).1
theorem Inv.mod(I:Inv X γ σ H s):Mod X.K X.mg X.base:=I.ok.mod
def Inv.ZQ(I:Inv X γ σ H s):X.K.In s.heap:=I.ok.mod.kin.keeps I.bk
theorem Inv.lt(I:Inv X γ σ H s):X.env.locals<s.heap.objs.size:=let ⟨_,hn,_⟩:=I.loc;hn.lt
def Inv.sz(I:Inv X γ σ H s):X.s₀.heap.objs.size<=s.heap.objs.size:=Nat.le_trans I.ok.above (Nat.le_of_lt I.lt)
def Inv.afB(I:Inv X γ σ H s){a:Addr}(h:s.heap.objs.size<=a):a∉X.fs:=fun hb=>by
 obtain⟨_,o,ho,_⟩:=I.ok.lu.mem hb
 exact absurd (Qvq (Qqz ho) (Nat.le_trans I.sz h)) (Nat.lt_irrefl _)
def Inv.Y6(I:Inv X γ σ H s):∀x c,X.env.cells.lookup x=some c->c≠X.env.locals:=fun x c e z=>by
 obtain⟨v,o,ho,hd⟩:=I.cell x c e
 obtain⟨m,⟨o',es,ep,ho',hd',_⟩,_⟩:=I.loc
 rw[z,ho']at ho;cases ho;rw[hd']at hd;cases hd
theorem Inv.lu(I:Inv X γ σ H s):s.heap.FunFrames X.base X.outer:=by
 have all:∀l,(∀b∈frs l,b∈X.fs)->X.s₀.heap.FunFrames X.base l->s.heap.FunFrames X.base l:=by
  intro l
  induction l with
  |nil=>intro _ _;trivial
  |cons env r ih=>
   intro hs hl
   obtain⟨hk,⟨L,o,hf,hn,ho,hd⟩,hr⟩:=hl
   have hL:=hs L (by unfold frs;rw[List.filterMap_cons,hf];exact QYz)
   obtain⟨sl,e⟩:=I.base.slot L o ho (I.ok.frf L hL) hL fun z=>I.ok.exfs L z hL
   exact⟨hk,⟨L,_,hf,hn,e,hd⟩,ih (fun b hb=>hs b (by unfold frs;rw[List.filterMap_cons,hf];exact QYq _ hb)) hr⟩
 exact all X.outer (fun _ hb=>hb) I.ok.lu
theorem Inv.stack(I:Inv X γ σ H s):s.heap.FunFrames X.base X.stack:=by
 rcases I.ok.stk with e|⟨e,hf⟩
 ·rw[e];exact I.lu
 ·rw[e]
  obtain⟨m,hn,_⟩:=I.loc
  exact .cons (by rw[I.ok.kind];decide) hf hn (Heap.get?_none_of_le (Nat.le_trans I.ok.bsz I.ok.above)) I.lu
def Inv.Bb(I:Inv X γ σ H s):∀b∈frs X.stack,b∈X.env.locals::X.fs:=fun b hb=>by
 rcases I.ok.stk with e|⟨e,hf⟩
 ·rw[e]at hb;exact QYq _ hb
 ·rw[e]at hb
  unfold frs at hb
  rw[List.filterMap_cons,hf]at hb
  exact hb
def Inv.Eb(I:Inv X γ σ H s):∀b∈frs X.stack,H b=none:=fun b hb=>by
 rcases QCq.mp (I.Bb b hb)with e|hb
 ·rw[e];exact I.free
 ·obtain⟨_,o,ho,_⟩:=I.ok.lu.mem hb
  exact I.base.free b o ho (I.ok.frf b hb) fun z=>I.ok.exfs b z hb
def Inv.step{t':Nat}{ch:List Addr}(I:Inv X γ σ H s)
  (hch:∀b∈ch,(b∈X.ex\/X.s₀.heap.objs.size<=b)/\b≠X.env.locals/\(∀x c,X.env.cells.lookup x=some c->c≠b)/\∀p∈X.pn++γ,p.1≠b)
  (keep:∀b o,b≠X.env.locals->b∉X.fs->b∉ch->s.heap.get? b=some o->H b=none->h'.get? b=some o)
  (slot:∀b o,b≠X.env.locals->b∈X.fs->b∉ch->s.heap.get? b=some o->H b=none->∃sl,h'.get? b=some {o with slots:=sl})(free:∀b o,b∉ch->s.heap.get? b=some o->H b=none->H' b=none)
  (there:∀b o,b∉ch->s.heap.get? b=some o->∃o',h'.get? b=some o')
  (tups:∀b xs,H b=some (.tup xs)->H' b=some (.tup xs))(frzs:∀b o u,H b=some (.frz o u)->H' b=some (.frz o u))(tbls:∀b ps,H b=some (.tbl ps)->∃more,H' b=some (.tbl (ps++more)))
  (ns:∀m,s.heap.Ns X.env.locals m->h'.Ns X.env.locals m)(hok:oN X.prog X.w H' h')(hg:AllBare g'):
  Inv X γ σ H' {s with heap:=h',gens:=g',drawn:=d',toks:=t'}:=by
 have neL:∀b o,X.s₀.heap.get? b=some o->b≠X.env.locals:=fun b o e=>Qvz (Qvq (Qqz e) I.ok.above)
 have neC:∀b o,X.s₀.heap.get? b=some o->b∉X.ex->b∉ch:=fun b o e hx hb=>by
  rcases (hch b hb).1 with z|z
  ·exact hx z
  ·exact absurd (Qvq (Qqz e) z) (Nat.lt_irrefl _)
 have cellK:∀x c,X.env.cells.lookup x=some c->∀v,s.heap.IsCell c v->h'.IsCell c v:=fun x c e v⟨o,ho,hd⟩=>by
  have nch:=fun z=>(hch c z).2.2.1 x c e rfl
  by_cases hc:c∈X.fs
  ·obtain⟨sl,q⟩:=slot c o (I.Y6 x c e) hc nch ho (I.freeC x c e)
   exact⟨_,q,hd⟩
  ·exact⟨o,keep c o (I.Y6 x c e) hc nch ho (I.freeC x c e),hd⟩
 refine⟨I.ok,I.os,hg,⟨fun b o e n hb hx=>?_,fun b o e n hb hx=>?_,fun b o e n hx=>?_,fun b o e hx=>?_,fun b xs e=>tups b xs (I.base.tups b xs e),fun b o xs e=>frzs b o xs (I.base.frzs b o xs e),fun b ps e=>?_⟩,?_,fun x c e=>?_,?_,fun x c e=>?_,fun p hp=>?_,hok,I.len⟩
 ·exact keep b o (neL b o e) hb (neC b o e hx) (I.base.keep b o e n hb hx) (I.base.free b o e n hx)
 ·obtain⟨sl,e1⟩:=I.base.slot b o e n hb hx
  obtain⟨sl',e2⟩:=slot b _ (neL b o e) hb (neC b o e hx) e1 (I.base.free b o e n hx)
  exact⟨sl',e2⟩
 ·obtain⟨o',e1⟩:=I.base.there b o e hx
  exact free b o' (neC b o e hx) e1 (I.base.free b o e n hx)
 ·obtain⟨o',e1⟩:=I.base.there b o e hx
  exact there b o' (neC b o e hx) e1
 ·obtain⟨m1,e1⟩:=I.base.tbls b ps e
  obtain⟨m2,e2⟩:=tbls b _ e1
  exact⟨m1++m2,by rw[e2,Array.append_assoc]⟩
 ·obtain⟨m,hn,hl⟩:=I.loc
  refine⟨m,ns m hn,fun i x v e1 e2 e3=>?_⟩
  obtain⟨u,r,l⟩:=hl i x v e1 e2 e3
  refine⟨u,r,?_⟩
  rcases l with l|⟨k,c,e,z⟩
  ·exact .inl l
  ·exact .inr ⟨k,c,e,cellK x c e _ z⟩
 ·obtain⟨v,z⟩:=I.cell x c e
  exact⟨v,cellK x c e v z⟩
 ·obtain⟨m,⟨o,_,_,ho,_⟩,_⟩:=I.loc
  exact free _ o (fun z=>(hch _ z).2.1 rfl) ho I.free
 ·obtain⟨v,o,ho,hd⟩:=I.cell x c e
  exact free c o (fun z=>(hch c z).2.2.1 x c e rfl) ho (I.freeC x c e)
 ·obtain⟨e,n,ne,nf,d⟩:=I.pin p hp
  have nch:=fun z=>(hch p.1 z).2.2.2 p hp rfl
  exact⟨keep p.1 p.2 ne nf nch e n,free p.1 p.2 nch e n,ne,nf,d⟩
def Inv.un(I:Inv X γ σ H s)(u:Un X.fs [] H H' s.heap h')(hok:oN X.prog X.w H' h'):Inv X γ σ H' {s with heap:=h',toks:=t'}:=by
 obtain⟨m,⟨o,es,ep,ho,r⟩,_⟩:=id I.loc
 obtain⟨sl,hL⟩:=u.any ho I.free (by simp)
 exact I.step (ch:=[]) (fun _ z=>nomatch z) (fun b o _ hb _ e n=>u.keep b o e n hb (by simp)) (fun b o _ hb _ e n=>u.slot b o e n hb (by simp)) (fun b o _ e n=>u.free b o e n (by simp)) (fun b o _ e=>u.there b o e (by simp)) u.tups u.frzs u.tbls (fun m' hm=>by
  obtain⟨o',es',ep',ho',r'⟩:=hm
  rw[ho]at ho';cases ho'
  exact⟨_,es',ep',hL,r'⟩) hok I.bare
def Inv.call{t':Nat}{ch:List Addr}(I:Inv X γ σ H s)(u:Un (frs X.stack) ch H H' s.heap h')(hok:oN X.prog X.w H' h')(hg:AllBare g')
  (hch:∀b∈ch,(b∈X.ex\/X.s₀.heap.objs.size<=b)/\b≠X.env.locals/\(∀x c,X.env.cells.lookup x=some c->c≠b)/\∀p∈X.pn++γ,p.1≠b):
  Inv X γ σ H' {s with heap:=h',gens:=g',drawn:=d',toks:=t'}:=by
 obtain⟨m,⟨o,es,ep,ho,r⟩,_⟩:=id I.loc
 obtain⟨sl,hL⟩:=u.any ho I.free fun z=>(hch _ z).2.1 rfl
 exact I.step hch (fun b o hL hb hc e n=>u.keep b o e n (fun z=>(QCq.mp (I.Bb b z)).elim hL hb) hc) (fun b o _ _ hc e n=>u.any e n hc) (fun b o hc e n=>u.free b o e n hc) (fun b o hc e=>u.there b o e hc) u.tups u.frzs u.tbls (fun m' hm=>by
  obtain⟨o',es',ep',ho',r'⟩:=hm
  rw[ho]at ho';cases ho'
  exact⟨_,es',ep',hL,r'⟩) hok hg
def Inv.turned{it:Addr}(I:Inv X γ σ H s)(k:∀b o,b≠it->s.heap.get? b=some o->h'.get? b=some o)(hn:H it=none)(hL:it≠X.env.locals)
  (h1:it∈X.ex\/X.s₀.heap.objs.size<=it)(h2:∀x c,X.env.cells.lookup x=some c->c≠it)(h3:∀p∈X.pn++γ,p.1≠it):Inv X γ σ H {s with heap:=h',toks:=t'}:=by
 have nit:∀b u,H b=some u->b≠it:=fun b u e z=>by rw[z,hn]at e;cases e
 refine I.step (ch:=[it]) (fun b hb=>?_) (fun b o _ _ hc e _=>k b o (fun z=>hc (by simp[z])) e) (fun b o _ _ hc e _=>⟨o.slots,k b o (fun z=>hc (by simp[z])) e⟩) (fun _ _ _ _ n=>n)
  (fun b o hc e=>⟨o,k b o (fun z=>hc (by simp[z])) e⟩) (fun _ _ e=>e) (fun _ _ _ e=>e) (fun b ps e=>⟨#[],by rw[e];simp⟩) (fun m hm=>?_) (fun b u e=>?_) I.bare
 ·have e:b=it:=by simpa using hb
  subst e
  exact⟨h1,hL,h2,h3⟩
 ·obtain⟨o,es,ep,ho,r⟩:=hm
  exact⟨o,es,ep,k _ o (Ne.symm hL) ho,r⟩
 ·refine(I.hok b u e).stay (fun c v hc q=>k c v ?_ q) (fun _ q=>q) fun _ _ q=>q
  rcases hc with z|z
  ·rw[z];exact nit b u e
  ·exact nit c _ z
def Inv.tok(I:Inv X γ σ H s)t:Inv X γ σ H {s with toks:=t}:=I.un Un.refl I.hok
theorem Inv.kept(I:Inv X γ σ H s)(k:∀b u,s.heap.get? b=some u->h'.get? b=some u):Inv X γ σ H {s with heap:=h',toks:=t'}:=I.un (Un.kept k) (I.hok.kept k)
theorem Inv.laid{a:Addr}{o:HO}(I:Inv X γ σ H s)(k:∀b u,s.heap.get? b=some u->h'.get? b=some u)(hp:s.heap.objs.size<=a)(new:b8 X.prog X.w (upd H a o) h' a o):
  Inv X γ σ (upd H a o) {s with heap:=h',toks:=t'}:=I.un (Un.laid k hp (I.hok.fresh hp)) (I.hok.laid k hp new)
theorem Inv.write{o:HO}(I:Inv X γ σ H s)(mu:Mut (H x))(he:e=x\/H e=some (.own x))(k:∀b u,b≠e->s.heap.get? b=some u->h'.get? b=some u)(heo:∃u,h'.get? e=some u)
  (new:b8 X.prog X.w (upd H x o) h' x o):Inv X γ σ (upd H x o) {s with heap:=h',toks:=t'}:=I.un (Un.write mu he k heo) (I.hok.write mu he k heo new)
def Inv.Es(I:Inv X γ σ H s)(h:∀p∈pins',s.heap.get? p.1=some p.2/\H p.1=none/\p.1≠X.env.locals/\p.1∉X.fs/\∀v,p.2.data≠ .cell v):Inv X pins' σ H s:=
 ⟨I.ok,I.os,I.bare,I.base,I.loc,I.cell,I.free,I.freeC,fun p hp=>(QXz.mp hp).elim (fun z=>I.pin p (QWz _ z)) (h p),I.hok,I.len⟩
def yZ{N:List Str}(hN:N.Nodup){i j:Nat}(a:N[i]? =some x)(b:N[j]? =some x):i=j:=by
 obtain⟨h1,e1⟩:=QCz.mp a
 obtain⟨h2,e2⟩:=QCz.mp b
 exact(List.getElem_inj hN).mp (e1.trans e2.symm)
def uo{A:Around}{i:Nat}{v:V}{u:Value}(I:Inv X γ σ H s)(hN:X.N.Nodup)(hi:X.N[i]? =some x)(hx:Loc X.env.scope x)(r:RelV v u)
  (h:∀s',Inv X γ (σ.set i (some v)) H s'->(∃a,Heap.SameBut a s.heap s'.heap/\(a=X.env.locals\/X.env.cells.lookup x=some a))->Q () s')(hf:X.fn x=true\/X.env.scope.names.lookup x=some .local:=by first|exact .inl rfl|exact .inr rfl|assumption):wpAny M A (storeName X.env x u) Q E s:=by
 obtain⟨m,hn,hl⟩:=id I.loc
 have hiσ:i<σ.length:=by rw[I.len];exact(QCz.mp hi).1
 have Y6:=I.Y6
 have tracked:∀{a:Addr}{h':Heap},(∃o,s.heap.get? a=some o/\H a=none)->Heap.SameBut a s.heap h'->oN X.prog X.w H h':=fun{a h'}ha hs b ob e=>by
  obtain⟨_,_,hfree⟩:=ha
  refine(I.hok b ob e).stay (fun c w' hc q=>(hs.2 c ?_).trans q) (fun _ q=>q) fun _ _ q=>q
  rintro rfl
  rcases hc with rfl|hc
  ·rw[hfree]at e;cases e
  ·rw[hfree]at hc;cases hc
 rcases hx with hk|hk
 ·refine wpAny_storeName_local hk hn (fun h' hn' hs=>?_) (by rw[I.ok.kind];rfl)
  obtain⟨oL,_,_,hoL,_⟩:=id hn
  refine h _ ⟨I.ok,I.os,I.bare,⟨fun b o e n hb hx=>?_,fun b o e n hb hx=>?_,I.base.free,fun b o e hx=>?_,I.base.tups,I.base.frzs,I.base.tbls⟩,⟨_,hn',fun j y v' e1 e2 e3=>?_⟩,fun y c e=>?_,I.free,I.freeC,fun p hp=>?_,tracked ⟨oL,hoL,I.free⟩ hs,by simpa using I.len⟩ ⟨_,hs,.inl rfl⟩
  ·exact(hs.2 b (Qvz (Qvq (Qqz e) I.ok.above))).trans (I.base.keep b o e n hb hx)
  ·obtain⟨sl,e1⟩:=I.base.slot b o e n hb hx
   exact⟨sl,(hs.2 b (Qvz (Qvq (Qqz e) I.ok.above))).trans e1⟩
  ·obtain⟨o',e1⟩:=I.base.there b o e hx
   exact⟨o',(hs.2 b (Qvz (Qvq (Qqz e) I.ok.above))).trans e1⟩
  ·by_cases hj:j=i
   ·subst hj
    rw[hi]at e1;cases e1
    rw[Qwq hiσ]at e2
    cases e2
    exact⟨u,r,.inl ⟨hk,by simp⟩⟩
   ·rw[Qxz (Ne.symm hj)]at e2
    obtain⟨u',r',q⟩:=hl j y v' e1 e2 e3
    refine⟨u',r',?_⟩
    rcases q with ⟨k,e⟩|⟨k,c,e,z⟩
    ·refine .inl ⟨k,?_⟩
     have:y≠x:=fun e=>hj (yZ hN e1 (e▸hi))
     simp[this,e]
    ·exact .inr ⟨k,c,e,z.sameBut hs (Y6 y c e)⟩
  ·obtain⟨w',z⟩:=I.cell y c e
   exact⟨w',z.sameBut hs (Y6 y c e)⟩
  ·obtain⟨e,n,ne,nf,d⟩:=I.pin p hp
   exact⟨(hs.2 p.1 ne).trans e,n,ne,nf,d⟩
 ·have hfn:X.fn x=true:=by
   rcases hf with z|z
   ·exact z
   ·rw[z]at hk;cases hk
  obtain⟨c,hc⟩:=I.ok.has x (.inl hk)
  obtain⟨w',z⟩:=I.cell x c hc
  refine wpAny_storeName_cell I.ok.kind hk hc z (fun h' hc' hs=>?_)
  obtain⟨oc,hoc,hocd⟩:=id z
  refine h {s with heap:=h'} ⟨I.ok,I.os,I.bare,⟨fun b o e n hb hx=>?_,fun b o e n hb hx=>?_,I.base.free,fun b o e hx=>?_,I.base.tups,I.base.frzs,I.base.tbls⟩,⟨m,hn.sameBut hs (Ne.symm (Y6 x c hc)),fun j y v' e1 e2 e3=>?_⟩,fun y c' e=>?_,I.free,I.freeC,fun p hp=>?_,tracked ⟨oc,hoc,I.freeC x c hc⟩ hs,by simpa using I.len⟩ ⟨c,hs,.inr hc⟩
  ·exact(hs.2 b (Qvz (Qvq (Qqz e) (I.ok.cab x c hfn hc)))).trans (I.base.keep b o e n hb hx)
  ·obtain⟨sl,e1⟩:=I.base.slot b o e n hb hx
   exact⟨sl,(hs.2 b (Qvz (Qvq (Qqz e) (I.ok.cab x c hfn hc)))).trans e1⟩
  ·obtain⟨o',e1⟩:=I.base.there b o e hx
   exact⟨o',(hs.2 b (Qvz (Qvq (Qqz e) (I.ok.cab x c hfn hc)))).trans e1⟩
  ·by_cases hj:j=i
   ·subst hj
    rw[hi]at e1;cases e1
    rw[Qwq hiσ]at e2
    cases e2
    exact⟨u,r,.inr ⟨.inl hk,c,hc,hc'⟩⟩
   ·rw[Qxz (Ne.symm hj)]at e2
    obtain⟨u',r',q⟩:=hl j y v' e1 e2 e3
    refine⟨u',r',?_⟩
    rcases q with q|⟨k,c',e,z'⟩
    ·exact .inl q
    ·refine .inr ⟨k,c',e,z'.sameBut hs ?_⟩
     rintro rfl
     exact hj (yZ hN e1 (I.ok.inj _ _ _ e hc▸hi))
  ·by_cases hcc:c'=c
   ·subst hcc;exact⟨_,hc'⟩
   ·obtain⟨w2,z2⟩:=I.cell y c' e
    exact⟨w2,z2.sameBut hs hcc⟩
  ·obtain⟨e,n,ne,nf,d⟩:=I.pin p hp
   refine⟨(hs.2 p.1 ?_).trans e,n,ne,nf,d⟩
   intro q
   rw[q,hoc]at e
   exact d w' (by rw[<- (QEq e)];exact hocd)
def yt{A:Around}{i:Nat}{v:V}{u:Value}(I:Inv X γ σ H s)(hN:X.N.Nodup)(hi:X.N[i]? =some x)(hx:Loc X.env.scope x)(r:RelV v u)
  (h:∀s',Inv X γ (σ.set i (some v)) H s'->Q () s')(hf:X.fn x=true\/X.env.scope.names.lookup x=some .local:=by first|exact .inl rfl|exact .inr rfl|assumption):wpAny M A (storeName X.env x u) Q E s:=
 uo I hN hi hx r (fun s' I' _=>h s' I') hf
def Inv.call'{ch:List Addr}(I:Inv X γ σ H s)(ho:s'.os=s.os)(u:Un (frs X.stack) ch H H' s.heap s'.heap)(hok:oN X.prog X.w H' s'.heap)(hg:AllBare s'.gens)
  (hch:∀b∈ch,(b∈X.ex\/X.s₀.heap.objs.size<=b)/\b≠X.env.locals/\(∀x c,X.env.cells.lookup x=some c->c≠b)/\∀p∈X.pn++γ,p.1≠b):Inv X γ σ H' s':=by
 obtain⟨h',g',d',t',o'⟩:=s'
 subst ho
 exact I.call u hok hg hch
end
abbrev XK:=Value->Option Addr->Hp->Prop
abbrev St:=List (Option V)
abbrev VK:=V->Hp->Prop
abbrev TE:=St->Hp->VK->Prop
abbrev TT:=St->Hp->(Bool->Hp->Prop)->Prop
abbrev TA:=St->Hp->(List V->Hp->Prop)->Prop
structure Ends where
 nx:St->Hp->Prop
 rt:VK
 bk:St->Hp->Prop:=fun _ _=>False
 ct:St->Hp->Prop:=fun _ _=>False
abbrev TS:=Ends->St->Hp->Prop
def EP(X:Cx)(γ:QQz)(σ:St)(Q:VK)(u:Value)(s':Shared):Prop:=∃v H',Inv X γ σ H' s'/\RelV v u/\Q v H'
def TP(X:Cx)(γ:QQz)(σ:St)(Q:Bool->Hp->Prop)(b:Bool)(s':Shared):Prop:=∃H',Inv X γ σ H' s'/\Q b H'
def AP(X:Cx)(γ:QQz)(σ:St)(Q:List V->Hp->Prop)(us:List Value)(s':Shared):Prop:=∃vs H',Inv X γ σ H' s'/\Vals vs us/\Q vs H'
def SP(X:Cx)(γ:QQz)(D:Ends)(f:Flow)(s':Shared):Prop:=
 match f with
 |.next=>∃ζ H',Inv X γ ζ H' s'/\D.nx ζ H'
 |.brk=>∃ζ H',Inv X γ ζ H' s'/\D.bk ζ H'
 |.cont=>∃ζ H',Inv X γ ζ H' s'/\D.ct ζ H'
 |.ret u=>∃v ζ H',Inv X γ ζ H' s'/\RelV v u/\D.rt v H'
def PE(X:Cx)(e:Expr)(t:TE):Prop:=
 ∀(γ:QQz)(s:Shared)(σ:St)(H:Hp)(Q:VK),Inv X γ σ H s->t σ H Q->wpAny (model X.prog X.w) X.A (eval e X.env) (EP X γ σ Q) X.xe s
def PT(X:Cx)(e:Expr)(t:TT):Prop:=
 ∀(γ:QQz)(s:Shared)(σ:St)(H:Hp)(Q:Bool->Hp->Prop),Inv X γ σ H s->t σ H Q->wpAny (model X.prog X.w) X.A (isTrue e X.env (eval e X.env)) (TP X γ σ Q) X.xe s
def PW(X:Cx)(e:Expr)(t:TT):Prop:=
 ∀(whole:Sem Value)(γ:QQz)(s:Shared)(σ:St)(H:Hp)(Q:Bool->Hp->Prop),Inv X γ σ H s->t σ H Q->wpAny (model X.prog X.w) X.A (isTrue e X.env whole) (TP X γ σ Q) X.xe s
def PW.pt{e:Expr}(h:PW X e t):PT X e t:=h _
def PA(X:Cx)(es:List Expr)(t:TA):Prop:=
 ∀(pos:Pos)(γ:QQz)(s:Shared)(σ:St)(H:Hp)(Q:List V->Hp->Prop),Inv X γ σ H s->t σ H Q->wpAny (model X.prog X.w) X.A (spliced (backTo pos (starEach es X.env))) (AP X γ σ Q) X.xe s
def PS(X:Cx)(st:Stmt)(t:TS):Prop:=
 ∀(γ:QQz)(s:Shared)(σ:St)(H:Hp)(D:Ends),Inv X γ σ H s->t D σ H->wpAny (model X.prog X.w) X.A (exec st X.env) (SP X γ D) X.xe s
def xT(X:Cx)(st:List Stmt)(t:TS):Prop:=
 ∀(γ:QQz)(s:Shared)(σ:St)(H:Hp)(D:Ends),Inv X γ σ H s->t D σ H->wpAny (model X.prog X.w) X.A (execs st X.env) (SP X γ D) X.xe s
def cu{t:Sem α}{Q Q':α->Shared->Prop}{A:Around}{s:Shared}(h:wpAny M A t Q E s)(hQ:∀a s,Q a s->Q' a s):wpAny M A t Q' E s:=QGq h hQ fun _ _ x=>x
section
variable{X:Cx}
def bin{ta tb:TE}(ha:PE X a ta)(hb:PE X b tb){s:Shared}{σ:St}{R:V->V->Hp->Prop}(I:Inv X γ σ H s)(h:ta σ H fun x H1=>tb σ H1 fun y H2=>R x y H2)
{Q:α->Shared->Prop} {f:Value->Value->Sem α}
  (hf:∀v u s2 x y H2,Inv X γ σ H2 s2->RelV x v->RelV y u->R x y H2->wpAny (model X.prog X.w) X.A (f v u) Q X.xe s2):
  wpAny (model X.prog X.w) X.A (eval a X.env) (fun v ι=>wpAny (model X.prog X.w) X.A (eval b X.env) (fun u s₂=>wpAny (model X.prog X.w) X.A (f v u) Q X.xe s₂) X.xe ι) X.xe s:=by
 refine cu (ha γ s σ H _ I h) fun v s1⟨x,H1,I1,r1,q1⟩=>?_
 refine cu (hb γ s1 σ H1 _ I1 q1) fun u s2⟨y,H2,I2,r2,q2⟩=>?_
 exact hf v u s2 x y H2 I2 r1 r2 q2
def JC(i:Nat):TE:=fun σ H Q=>∃v,σ[i]? =some (some v)/\Q v H
def tC(v:V):TE:=fun _ H Q=>Q v H
def Kz{x:Str}{pos:Pos}(hN:X.N[i]? =some x)(hv:Vis X.env.scope x)(hd:(x==("__debug__":Str))=false:=by decide)(hcd:(x==("__classdict__":Str))=false:=by decide):PE X (.Name x pos) (JC i):=by
 intro γ s σ H Q I h
 obtain⟨v,e,h⟩:=h
 obtain⟨m,hn,hl⟩:=I.loc
 obtain⟨u,r,l⟩:=hl i x v hN e hv
 have fin:EP X γ σ Q u s:=⟨v,H,I,r,h⟩
 rcases l with ⟨hk,hm⟩|⟨hk,c,hc,hcell⟩
 ·exact wpAny_Name (wpAny_loadName_local I.ok.kind hk hn hm fin) hd
 ·rcases hk with hk|hk
  ·exact wpAny_Name (wpAny_loadName_cell I.ok.kind hk hc hcell fin) hd
  ·exact wpAny_Name (wpAny_loadName_free I.ok.kind hk hc hcell fin hcd) hd
def W6{i j pos}:PE X (.Constant (.int i) j pos) (tC (.int i)):=fun _ _ _ H _ I h=>wpAny_Constant_int ⟨.int i,H,I.tok _,⟨_,rfl⟩,h⟩
def abU{b j pos}:PE X (.Constant (.bool b) j pos) (tC (.bl b)):=fun _ _ _ H _ I h=>Constant_bool ⟨.bl b,H,I,rfl,h⟩
def W4{j pos}:PE X (.Constant .none j pos) (tC .non):=fun _ _ _ H _ I h=>Constant_none ⟨.non,H,I,rfl,h⟩
def W3{x j pos}:PE X (.Constant (.str x) j pos) (tC (.str x)):=fun _ _ _ H _ I h=>Calls.Constant_str ⟨.str x,H,I.tok _,⟨_,rfl⟩,h⟩
def Gl(X:Cx)(x:Str):Prop:=X.env.kindOf x=some .globalImplicit
def Fx{γ:QQz}{σ:St}{x:Str}{pos:Pos}(I:Inv X γ σ H s)(hg:Gl X x)(hm:X.mg x=some u)(h:Q u s)
  (hd:(x==("__debug__":Str))=false:=by decide):wpAny (model X.prog X.w) X.A (eval (.Name x pos) X.env) Q E s:=
 Calls.Name_function_global I.ok.kind hg (Calls.loadGlobal_global (by rw[I.ok.glob];exact I.mod.glob.keeps I.bk) hm h) hd
def iI{E:QZq}{s:Shared}{σ:St}{x:Str}{pos:Pos}(I:Inv X γ σ H s)(hg:Gl X x)(hm:X.mg x=none)(hv:bootBuiltins x=some u)(h:Q u s)
  (hn:x≠"__name__":=by decide)(hd:(x==("__debug__":Str))=false:=by decide):wpAny (model X.prog X.w) X.A (eval (.Name x pos) X.env) Q E s:=by
 obtain⟨mb,h1,h2⟩:=I.mod.blt
 exact Calls.Name_function_global I.ok.kind hg (Calls.loadGlobal_builtin (by rw[I.ok.glob];exact I.mod.glob.keeps I.bk) hm (by rw[I.ok.blt];exact h1.keeps I.bk) ((h2 x hn).trans hv) h) hd
def QX{v:V}{pos:Pos}(hg:Gl X x)(hm:X.mg x=some u)(r:RelV v u)(hd:(x==("__debug__":Str))=false:=by decide):PE X (.Name x pos) (tC v):=
 fun _ _ _ H _ I h=>Fx I hg hm ⟨v,H,I,r,h⟩ hd
def Q4{v:V}{pos:Pos}(hg:Gl X x)(hm:X.mg x=none)(hv:bootBuiltins x=some u)(r:RelV v u)(hn:x≠"__name__":=by decide)(hd:(x==("__debug__":Str))=false:=by decide):PE X (.Name x pos) (tC v):=
 fun _ _ _ H _ I h=>iI I hg hm hv ⟨v,H,I,r,h⟩ hn hd
variable{a b:Expr}{ta tb:TE}{pos:Pos}
variable{tA tB':TT}{rest:List Expr}
def aew(t u:TT):TT:=fun σ H Q=>t σ H fun c H1=>if c=true then u σ H1 Q else Q false H1
def tOr(t u:TT):TT:=fun σ H Q=>t σ H fun c H1=>if c=true then Q true H1 else u σ H1 Q
def aer(t:TT):TT:=fun σ H Q=>t σ H fun c H1=>Q (!c) H1
def QH(ha:PT X a tA):PW X (.BoolOp .And [a] pos) tA:=by
 intro wh γ s σ H Q I h
 refine isTrue_and (cu (ha γ s σ H Q I h) fun c s1 e=>?_)
 cases c with
 |true=>exact isTrue_and_nil e
 |false=>exact e
def WK(ha:PT X a tA):PW X (.BoolOp .Or [a] pos) tA:=by
 intro wh γ s σ H Q I h
 refine isTrue_or (cu (ha γ s σ H Q I h) fun c s1 e=>?_)
 cases c with
 |false=>exact isTrue_or_nil e
 |true=>exact e
def WL(ha:PT X a tA)(hb:PW X (.BoolOp .And (b::rest) pos) tB'):PW X (.BoolOp .And (a::b::rest) pos) (aew tA tB'):=by
 intro wh γ s σ H Q I h
 refine isTrue_and (cu (ha γ s σ H _ I h) fun c s1⟨H1,I1,q1⟩=>?_)
 cases c with
 |true=>exact hb wh γ s1 σ H1 Q I1 q1
 |false=>exact⟨H1,I1,q1⟩
def abJ(ha:PT X a tA)(hb:PW X (.BoolOp .Or (b::rest) pos) tB'):PW X (.BoolOp .Or (a::b::rest) pos) (tOr tA tB'):=by
 intro wh γ s σ H Q I h
 refine isTrue_or (cu (ha γ s σ H _ I h) fun c s1⟨H1,I1,q1⟩=>?_)
 cases c with
 |true=>exact⟨H1,I1,q1⟩
 |false=>exact hb wh γ s1 σ H1 Q I1 q1
def WR(ha:PT X a tA):PT X (.UnaryOp .Not a pos) (aer tA):=by
 intro γ s σ H Q I h
 exact isTrue_not (ha γ s σ H _ I h)
noncomputable def aa1(ta tb:TE):TE:=fun σ H Q=>ta σ H fun x H1=>∃c,x=.bl c/\if c=true then tb σ H1 Q else Q (.bl false) H1
noncomputable def aeq(ta tb:TE):TE:=fun σ H Q=>ta σ H fun x H1=>∃c,x=.bl c/\if c=true then Q (.bl true) H1 else tb σ H1 Q
def KH{op}(h:PE X a t):PE X (.BoolOp op [a] pos) t:=fun γ s σ H Q I hw=>BoolOp_one (h γ s σ H Q I hw)
def W8(ha:PE X a ta)(hb:PE X (.BoolOp .And (b::rest) pos) tb):PE X (.BoolOp .And (a::b::rest) pos) (aa1 ta tb):=by
 intro γ s σ H Q I h
 refine BoolOp_and (cu (ha γ s σ H _ I h) fun v s1⟨x,H1,I1,r1,q1⟩=>?_)
 obtain⟨c,rfl,q1⟩:=q1
 cases r1
 refine wpAny_truthy_bool ?_
 cases c with
 |true=>exact hb γ s1 σ H1 Q I1 q1
 |false=>exact⟨.bl false,H1,I1,rfl,q1⟩
def abS(ha:PE X a ta)(hb:PE X (.BoolOp .Or (b::rest) pos) tb):PE X (.BoolOp .Or (a::b::rest) pos) (aeq ta tb):=by
 intro γ s σ H Q I h
 refine BoolOp_or (cu (ha γ s σ H _ I h) fun v s1⟨x,H1,I1,r1,q1⟩=>?_)
 obtain⟨c,rfl,q1⟩:=q1
 cases r1
 refine wpAny_truthy_bool ?_
 cases c with
 |false=>exact hb γ s1 σ H1 Q I1 q1
 |true=>exact⟨.bl true,H1,I1,rfl,q1⟩
noncomputable def tIf(t:TT)(ta tb:TE):TE:=fun σ H Q=>t σ H fun c H1=>if c=true then ta σ H1 Q else tb σ H1 Q
def KN(hc:PT X c tA)(ha:PE X a ta)(hb:PE X b tb):PE X (.IfExp c a b pos) (tIf tA ta tb):=by
 intro γ s σ H Q I h
 refine wpAny_IfExp (cu (hc γ s σ H _ I h) fun d s1⟨H1,I1,q1⟩=>?_)
 cases d with
 |true=>exact ha γ s1 σ H1 Q I1 q1
 |false=>exact hb γ s1 σ H1 Q I1 q1
end
def jm(K:QQq)(H:Hp)(a:Addr)(xs:List V):Prop:=
 Rd H a (.lst xs)\/
  ∃(o:Obj)(its:Array Value)(n:Nat),K.lookup a=some o/\o.cls=.type "list"/\o.dict=none/\o.data=.seq its n/\its.size<=sizeLine/\Vals xs its.toList
def jg(K:QQq)(H:Hp)(a:Addr)(xs:List V):Prop:=
 Rd H a (.tup xs)\/
  ∃(o:Obj)(its:Array Value)(n:Nat),K.lookup a=some o/\o.cls=.type "tuple"/\o.dict=none/\o.data=.seq its n/\its.size<=sizeLine/\Vals xs its.toList
noncomputable def agM:Value->Option V
 |.none=>some .non
 |.bool b=>some (.bl b)
 |.int i _=>some (.int i)
 |.str x _=>some (.str x)
 |.ref a=>some (.ref a)
 |.type n=>some (.ty n)
 |_=>none
def RelV.abs{u:Value}(r:RelV x u):agM u=some x:=by
 cases x with
 |non=>cases r;rfl
 |bl _=>cases r;rfl
 |int _=>obtain⟨t,rfl⟩:=r;rfl
 |str _=>obtain⟨t,rfl⟩:=r;rfl
 |ref _=>cases r;rfl
 |ty _=>cases r;rfl
def RelV.inj{x y:V}{u:Value}(r:RelV x u)(q:RelV y u):x=y:=QEq (r.abs.symm.trans q.abs)
theorem Vals.inj:∀{xs ys:List V}{us:List Value},Vals xs us->Vals ys us->xs=ys
 |_,_,_,.nil,.nil=>rfl
 |_,_,_,.cons r t,.cons r' t'=>by rw[r.inj r',Vals.inj t t']
section
variable{X:Cx}{γ:QQz}{σ:St}{H:Hp}{s:Shared}{a:Addr}{xs ys:List V}
def Inv.list(I:Inv X γ σ H s)(h:jm X.K H a xs):∃its:List Value,Vals xs its/\PlainL s.heap a its.toArray/\xs.length<=sizeLine:=by
 rcases h with h|⟨o,its,n,hk,hc,hd,hs,hz,r⟩
 ·obtain⟨z,its,n,r,e⟩:=h.ok I.hok
  exact⟨its,r,⟨_,n,e,rfl,rfl,rfl⟩,z⟩
 ·refine⟨its.toList,r,⟨o,n,I.ZQ a o hk,hc,hd,by simpa using hs⟩,?_⟩
  have e:=r.length
  simp only[Array.length_toList]at e
  omega
def Inv.Aw(I:Inv X γ σ H s)(h:jg X.K H a xs):∃its:List Value,Vals xs its/\TupOk s.heap a its.toArray/\xs.length<=sizeLine:=by
 rcases h with h|⟨o,its,n,hk,hc,hn,hs,hz,r⟩
 ·obtain⟨z,its,r,p⟩:=h.ok I.hok
  exact⟨its,r,p,z⟩
 ·refine⟨its.toList,r,⟨o,I.ZQ a o hk,hc,hn,n,by simpa using hs⟩,?_⟩
  have e:=r.length
  simp only[Array.length_toList]at e
  omega
def Inv.tuple(I:Inv X γ σ H s)(h:jg X.K H a xs):∃its:List Value,Vals xs its/\IsTup s.heap a its.toArray/\xs.length<=sizeLine:=by
 obtain⟨its,r,p,z⟩:=I.Aw h
 exact⟨its,r,p.is,z⟩
def Inv.zx(I:Inv X γ σ H s)(h:jm X.K H a xs)(h':jm X.K H a ys):xs=ys:=by
 obtain⟨its,r,⟨o,n,e,_,_,d⟩,_⟩:=I.list h
 obtain⟨its',r',⟨o',n',e',_,_,d'⟩,_⟩:=I.list h'
 rw[e]at e';cases e'
 rw[d]at d'
 injection d' with d1 _
 have:its=its':=by simpa using congrArg Array.toList d1
 subst this
 exact r.inj r'
def Inv.ul(I:Inv X γ σ H s)(h:jg X.K H a xs)(h':jg X.K H a ys):xs=ys:=by
 obtain⟨its,r,⟨o,e,_,n,d⟩,_⟩:=I.tuple h
 obtain⟨its',r',⟨o',e',_,n',d'⟩,_⟩:=I.tuple h'
 rw[e]at e';cases e'
 rw[d]at d'
 injection d' with d1 _
 have:its=its':=by simpa using congrArg Array.toList d1
 subst this
 exact r.inj r'
end
abbrev Cx.wish(X:Cx)(E:QZq):Cx:={X with xe:=E}
abbrev Cx.nox(X:Cx):Cx:=X.wish fun _ _=>False
theorem Cx.Ok.wish{X:Cx}(ok:X.Ok)E:(X.wish E).Ok:=
 ⟨ok.mod,ok.kind,ok.glob,ok.blt,ok.above,ok.inj,ok.has,ok.cab,ok.hd,ok.frames,ok.stk,ok.exf,ok.bs,ok.bsz,ok.noex,ok.exfs,ok.lu,ok.frf⟩
def Cx.Ok.jr{X:Cx}(ok:(X.wish E).Ok):X.Ok:=
 ⟨ok.mod,ok.kind,ok.glob,ok.blt,ok.above,ok.inj,ok.has,ok.cab,ok.hd,ok.frames,ok.stk,ok.exf,ok.bs,ok.bsz,ok.noex,ok.exfs,ok.lu,ok.frf⟩
section
variable{X:Cx}{γ:QQz}{σ:St}{H:Hp}{s:Shared}{E:QZq}
theorem Inv.wish(I:Inv X γ σ H s)E:Inv (X.wish E) γ σ H s:=⟨I.ok.wish E,I.os,I.bare,I.base,I.loc,I.cell,I.free,I.freeC,I.pin,I.hok,I.len⟩
theorem Inv.jr(I:Inv (X.wish E) γ σ H s):Inv X γ σ H s:=⟨I.ok.jr,I.os,I.bare,I.base,I.loc,I.cell,I.free,I.freeC,I.pin,I.hok,I.len⟩
theorem SP.jr{f:Flow}(h:SP (X.wish E) γ D f s'):SP X γ D f s':=by
 cases f with
 |next=>obtain⟨ζ,H',I,q⟩:=h;exact⟨ζ,H',I.jr,q⟩
 |brk=>obtain⟨ζ,H',I,q⟩:=h;exact⟨ζ,H',I.jr,q⟩
 |cont=>obtain⟨ζ,H',I,q⟩:=h;exact⟨ζ,H',I.jr,q⟩
 |ret u=>obtain⟨v,ζ,H',I,r,q⟩:=h;exact⟨v,ζ,H',I.jr,r,q⟩
theorem xT.nox{st:List Stmt}(h:xT X.nox st t):xT X st t:=fun γ s σ H D I hw=>
 QGq (h γ s σ H D (I.wish _) hw) (fun _ _ q=>q.jr) fun _ _ z=>False.elim z
end
section
variable{X:Cx}{st:Stmt}{rest:List Stmt}{t u:TS}{e:Expr}{te:TE}{pos:Pos}
def aaV:TS:=fun D σ H=>D.nx σ H
def aaP(t u:TS):TS:=fun D σ H=>t {D with nx:=u D} σ H
def QL:xT X [] aaV:=fun _ _ σ H _ I h=>wpAny_execs_nil ⟨σ,H,I,h⟩
def Kp(h1:PS X st t)(h2:xT X rest u):xT X (st::rest) (aaP t u):=by
 intro γ s σ H D I h
 refine wpAny_execs_cons (cu (h1 γ s σ H {D with nx:=u D} I h) fun f s1 q=>?_)
 cases f with
 |next=>
  obtain⟨ζ,H',I',q⟩:=q
  exact h2 γ s1 ζ H' D I' q
 |ret v=>exact q
 |brk=>exact q
 |cont=>exact q
def Inv.quiet{σ:St}{H:Hp}(I:Inv X γ σ H s):interactive X.env=false:=by simp[interactive,I.ok.kind]
def aaY(te:TE):TS:=fun D σ H=>te σ H fun _ H1=>D.nx σ H1
def wj(he:PE X e te)(hs:swapsWith e none pos.line X.env=pure false:=by rfl):PS X (.Expr e pos) (aaY te):=by
 intro γ s σ H D I h
 exact wpAny_Expr_any (cu (he γ s σ H _ I h) fun v s1⟨x,H1,I1,r1,q1⟩=>⟨σ,H1,I1,q1⟩) I.quiet hs
def aaR(te:TE):TS:=fun D σ H=>te σ H D.rt
def nU(he:PE X e te):PS X (.Return (some e) pos) (aaR te):=by
 intro γ s σ H D I h
 exact wpAny_Return_some (cu (he γ s σ H _ I h) fun v s1⟨x,H1,I1,r1,q1⟩=>⟨x,σ,H1,I1,r1,q1⟩)
def aaQ:TS:=fun D _ H=>D.rt .non H
def QM:PS X (.Return none pos) aaQ:=fun _ _ σ H _ I h=>wpAny_Return_none ⟨.non,σ,H,I,rfl,h⟩
def aet(c:TT)(t u:TS):TS:=fun D σ H=>c σ H fun b H1=>if b=true then t D σ H1 else u D σ H1
def abO{a b:List Stmt}(hc:PT X c tc)(ha:xT X a t)(hb:xT X b u):PS X (.If c a b pos) (aet tc t u):=by
 intro γ s σ H D I h
 refine wpAny_If (cu (hc γ s σ H _ I h) fun d s1⟨H1,I1,q1⟩=>?_)
 cases d with
 |true=>exact ha γ s1 σ H1 D I1 q1
 |false=>exact hb γ s1 σ H1 D I1 q1
end
abbrev TG:=V->St->Hp->(St->Hp->Prop)->Prop
abbrev Zd:=List V->St->Hp->(St->Hp->Prop)->Prop
def PG(X:Cx)(target:Expr)(t:TG):Prop:=
 ∀(γ:QQz)(s:Shared)(σ:St)(H:Hp)(v:V)(u:Value)(Q:St->Hp->Prop),Inv X γ σ H s->RelV v u->t v σ H Q->
  wpAny (model X.prog X.w) X.A (assign target X.env u) (fun _ s'=>∃ζ H',Inv X γ ζ H' s'/\Q ζ H') X.xe s
def PGs(X:Cx)(ts:List Expr)(t:Zd):Prop:=
 ∀(γ:QQz)(s:Shared)(σ:St)(H:Hp)(vs:List V)(us:List Value)(Q:St->Hp->Prop),Inv X γ σ H s->Vals vs us->t vs σ H Q->
  wpAny (model X.prog X.w) X.A (assignInOrder ((assignEach ts X.env).map (·.2)) us) (fun _ s'=>∃ζ H',Inv X γ ζ H' s'/\Q ζ H') X.xe s
abbrev ade:=V->V->V->Hp->(Hp->Prop)->Prop
def Jc(X:Cx)(t:ade):Prop:=
 ∀(γ:QQz)(s:Shared)(σ:St)(H:Hp)(o i v:V)(ov iv u:Value)(Q:Hp->Prop),Inv X γ σ H s->RelV o ov->RelV i iv->RelV v u->t o i v H Q->
  wpAny (model X.prog X.w) X.A (setItem ov iv u) (fun _ s'=>∃H',Inv X γ σ H' s'/\Q H') X.xe s
section
variable{X:Cx}{pos:Pos}
def U4(i:Nat):TG:=fun v σ H Q=>Q (σ.set i (some v)) H
def QV{x:Str}(hN:X.N.Nodup)(hi:X.N[i]? =some x)(hx:Loc X.env.scope x)(hf:X.fn x=true\/X.env.scope.names.lookup x=some .local:=by first|exact .inl rfl|exact .inr rfl|assumption):PG X (.Name x pos) (U4 i):=by
 intro γ s σ H v u Q I r h
 exact wpAny_assign_Name (yt I hN hi hx r (fun s' I'=>⟨_,H,I',h⟩) hf)
def agn:Zd:=fun vs σ H Q=>vs=[]/\Q σ H
def acM(t:TG)(u:Zd):Zd:=fun vs σ H Q=>∃v r,vs=v::r/\t v σ H fun ζ H'=>u r ζ H' Q
def QT:PGs X [] agn:=by
 intro γ s σ H vs us Q I r h
 obtain⟨e,h⟩:=h
 subst e
 cases r
 exact assignInOrder_nil ⟨σ,H,I,h⟩
theorem Kw{es:List Expr}{u:Zd}(h1:PG X e t)(h2:PGs X es u)
  (hs:(assignEach (e::es) X.env).map (·.2)=assign e X.env::(assignEach es X.env).map (·.2):=by rfl):PGs X (e::es) (acM t u):=by
 intro γ s σ H vs us Q I r h
 obtain⟨v,vr,e1,h⟩:=h
 subst e1
 cases r with
 |cons r rr=>
  rw[hs]
  exact assignInOrder_cons (cu (h1 γ s σ H _ _ _ I r h) fun _ s1⟨ξ,H1,I1,q1⟩=>h2 γ s1 ξ H1 _ _ Q I1 rr q1)
noncomputable def agl(K:QQq)(n:Nat)(t:Zd):TG:=fun v σ H Q=>∃a xs,v=.ref a/\jg K H a xs/\xs.length=n/\t xs σ H Q
def WX{k:Nat}{t:Zd}(hc:X.calm=true)(h:PGs X es t)
  (hn:(assignEach es X.env).length=n:=by rfl)(hst:(assignEach es X.env).findIdx? (·.1)=none:=by rfl):PG X (.Tuple es k pos) (agl X.K n t):=by
 intro γ s σ H v u Q I r hw
 obtain⟨a,xs,e1,hq,hl,hw⟩:=hw
 subst e1
 cases r
 obtain⟨its,rv,ht,hz⟩:=I.tuple hq
 exact assign_Tuple_tuple (I.ok.hd hc) ht (by simp[hn,<-hl,rv.length]) hst fun h' hx=>h γ _ σ H xs _ Q (I.kept (t':=s.toks) fun b o e=>hx b o (Qvz (Qqz e)) e) (by simpa using rv) hw
noncomputable def agm(to ti:TE)(t:ade):TG:=fun v σ H Q=>to σ H fun o H1=>ti σ H1 fun i H2=>t o i v H2 fun H3=>Q σ H3
def WY{to ti:TE}(ho:PE X o to)(hi:PE X i ti)(hs:Jc X t)
  (ha:∀v,assign (.Subscript o i pos) X.env v=(do
   let ov<-holding [v] (eval o X.env)
   let iv<-holding [v,ov] (eval i X.env)
   standAt pos
   holding [v,ov,iv] (setItem ov iv v)
   release [v,ov,iv] []):=by intro _;rfl):PG X (.Subscript o i pos) (agm to ti t):=by
 intro γ s σ H v u Q I r h
 refine QKq (Qqq (cu (ho γ s σ H _ I h) fun ov s1⟨x,H1,I1,r1,q1⟩=>?_))
 exact QKq (Qqq (cu (hi γ s1 σ H1 _ I1 q1) fun iv s2⟨y,H2,I2,r2,q2⟩=>QKq (wpAny_standAt (QKq (Qqq (cu (hs γ s2 σ H2 x y v ov iv u _ I2 r1 r2 r q2) fun _ s3⟨H3,I3,q3⟩=>wpAny_release ⟨σ,H3,I3,q3⟩))))))
def aa0(te:TE)(g:TG):TS:=fun D σ H=>te σ H fun x H1=>g x σ H1 D.nx
def Kr{te:TE}(he:PE X e te)(hg:PG X tg g)(hs:swapsWithSole [tg] e pos.line X.env=pure false:=by rfl)(hw:swappedStores [tg] e X.env=pure none:=by rfl)
  (h1:(assignEach [tg] X.env).map (·.2)=[assign tg X.env]:=by rfl):PS X (.Assign [tg] e pos) (aa0 te g):=by
 intro γ s σ H D I h
 refine wpAny_Assign_stores (cu (he γ s σ H _ I h) fun v s1⟨x,H1,I1,r1,q1⟩=>?_) hs hw
 rw[h1]
 exact cu (hg γ s1 σ H1 x v _ I1 r1 q1) fun _ s2 q=>q
def WT{x:Str}{te:TE}(hN:X.N.Nodup)(hi:X.N[i]? =some x)(hx:Loc X.env.scope x)(he:PE X e te)(hs:swapsWith e (some (.Name x pos')) pos.line X.env=pure false:=by rfl)(hf:X.fn x=true\/X.env.scope.names.lookup x=some .local:=by first|exact .inl rfl|exact .inr rfl|assumption):
  PS X (.Assign [.Name x pos'] e pos) (aa0 te (U4 i)):=by
 intro γ s σ H D I h
 exact wpAny_Assign_Name (cu (he γ s σ H _ I h) fun v s1⟨y,H1,I1,r1,q1⟩=>yt I1 hN hi hx r1 (fun s2 I2=>⟨_,H1,I2,q1⟩) hf) hs
end
section
variable{X:Cx}{pos:Pos}
noncomputable def VR(c:TT)(tb:TS):TS:=fun D σ H=>∃W:Nat->St->Hp->Prop,(∃m,W m σ H)/\∀m σ H,W m σ H->
 c σ H fun b H1=>if b=true then∃N:St->Hp->Prop,(∀ζ H',N ζ H'->∃m',m'<m/\W m' ζ H')/\tb {D with nx:=N,ct:=N,bk:=D.nx} σ H1 else D.nx σ H1
def Kq{body:List Stmt}{tb:TS}(hp:PassesOwn (model X.prog X.w) X.A X.env X.xe)(hc:PT X c tc)(hb:xT X body tb):PS X (.While c body [] pos) (VR tc tb):=by
 intro γ s σ H D I h
 obtain⟨W,⟨m0,w0⟩,turn⟩:=h
 refine wpAny_While (codeAny_whileLoop (fun n s'=>∃ζ H',Inv X γ ζ H' s'/\W n ζ H') ?_ m0 ⟨σ,H,I,w0⟩)
 rintro n s1 ⟨ξ,H1,I1,w1⟩
 refine wpAny_passesOwn hp (cu (hc γ s1 ξ H1 _ I1 (turn n ξ H1 w1)) fun b s2⟨H2,I2,q2⟩=>?_)
 cases b with
 |true=>
  obtain⟨N,hN,q2⟩:=q2
  refine wpAny_passesOwn hp (cu (hb γ s2 ξ H2 _ I2 q2) fun f s3 q3=>?_)
  cases f with
  |next=>
   obtain⟨σ3,H3,I3,n3⟩:=q3
   obtain⟨m',hm,w3⟩:=hN σ3 H3 n3
   exact⟨m',hm,σ3,H3,I3,w3⟩
  |cont=>
   obtain⟨σ3,H3,I3,n3⟩:=q3
   obtain⟨m',hm,w3⟩:=hN σ3 H3 n3
   exact⟨m',hm,σ3,H3,I3,w3⟩
  |brk=>exact q3
  |ret v=>exact q3
 |false=>
  exact wpAny_execs_nil ⟨ξ,H2,I2,q2⟩
end
structure It where
 go:Nat->Hp->Prop
 yld:Nat->Hp->V->Hp->Prop
 stop:Nat->Hp->Prop
def fP(X:Cx)(γ:QQz)(H:Hp)(b:Addr):Prop:=
 H b=none/\b≠X.env.locals/\b∉X.fs/\(b∈X.ex\/X.s₀.heap.objs.size<=b)/\(∀x c,X.env.cells.lookup x=some c->c≠b)/\∀p∈X.pn++γ,p.1≠b
def Inv.zL{X:Cx}{σ:St}{H H':Hp}{b:Addr}(I:Inv X γ σ H s)(hb:s.heap.objs.size<=b)(hn:H' b=none):fP X γ H' b:=by
 refine⟨hn,Nat.ne_of_gt (Qvq I.lt hb),I.afB hb,.inr (Nat.le_trans I.sz hb),fun x c e z=>?_,fun p hp z=>?_⟩
 ·obtain⟨v,q⟩:=I.cell x c e
  exact absurd (Qvq q.lt (by rw[z];exact hb)) (Nat.lt_irrefl _)
 ·exact absurd (Qvq (Qqz (I.pin p hp).1) (by rw[z];exact hb)) (Nat.lt_irrefl _)
structure Turn(P:Program)(w:World)(K:QQq)(tg:Expr)(J:It)(fp:List Addr)(it:Addr)(tn:Nat->Heap->Prop):Prop where
 mem:it∈fp
 obj:∀i h,tn i h->∀b∈fp,∃o,h.get? b=some o/\∀v,o.data≠ .cell v
 keep:∀i h h',tn i h->(∀b∈fp,∀o,h.get? b=some o->h'.get? b=some o)->tn i h'
 item:∀(X:Cx),X.prog=P->X.w=w->X.K=K->X.calm=true->∀(i:Nat)(γ:QQz)(s:Shared)(σ:St)(H:Hp)(E:QZq),Inv X γ σ H s->(∀b∈fp,fP X γ H b)->tn i s.heap->J.go i H->
  wpAny (model P w) X.A (pyNext (.ref it)) (fun r s1=>∃u,r=some u/\
   wpAny (model P w) X.A (letOwnedTupleGo tg (.ref it) u) (fun _ s2=>∃x H',Inv X γ σ H' s2/\RelV x u/\J.yld i H x H'/\tn (i+1) s2.heap/\∀b∈fp,H' b=none) E s1) E s
 done:∀(X:Cx),X.prog=P->X.w=w->X.K=K->X.calm=true->∀(i:Nat)(γ:QQz)(s:Shared)(σ:St)(H:Hp)(E:QZq),Inv X γ σ H s->(∀b∈fp,fP X γ H b)->tn i s.heap->J.stop i H->
  wpAny (model P w) X.A (pyNext (.ref it)) (fun r s1=>r=none/\Inv X γ σ H s1) E s
 self:∀(A:Around)(i:Nat)(s:Shared)(Q:QZq)(E:QZq),tn i s.heap->Q (.ref it) s->wpAny (model P w) A (pyIter (.ref it)) Q E s
abbrev TI:=St->Hp->(It->Hp->Prop)->Prop
def PIE(X:Cx)(γ:QQz)(σ:St)(tg:Expr)(R:It->Hp->Prop)(itv:Value)(s2:Shared):Prop:=
 ∃(it:Addr)(fp:List Addr)(tn:Nat->Heap->Prop)(J:It)(H':Hp),itv=.ref it/\Inv X γ σ H' s2/\Turn X.prog X.w X.K tg J fp it tn/\tn 0 s2.heap/\(∀b∈fp,fP X γ H' b)/\R J H'
def PI(X:Cx)(tg iter:Expr)(wi:TI):Prop:=
 ∀(γ:QQz)(s:Shared)(σ:St)(H:Hp)(R:It->Hp->Prop),Inv X γ σ H s->wi σ H R->
  wpAny (model X.prog X.w) X.A (eval iter X.env) (fun v s1=>wpAny (model X.prog X.w) X.A (pyIter v) (PIE X γ σ tg R) X.xe s1) X.xe s
def FZ {A : Around} {s : Shared} {it : Addr} {o : Obj} {vs : Array Value} (ho : s.heap.get? it = some o) (hc : o.cls = .type n) (hd : o.data = .fields vs)
    (hn : ["enumerate", "zip", "dict_itemiterator", "dict_reverseitemiterator", "odict_iterator", "itertools.zip_longest", "itertools.pairwise"].contains n = false) (hQ : Q () s) : wpAny M A (letOwnedTupleGo tg (.ref it) u) Q E s := by
  cases tg <;> first
    | exact QKz hQ
    | (cases u <;> first
        | exact QKz hQ
        | (refine QKq (wpAny_load ho ?_)
           rw [hc, hd]
           show wpAny M A (if _ = true then _ else _) Q E s
           rw [if_neg (by intro h; rw [hn, Bool.false_and] at h; cases h)]
           exact QKz hQ))
noncomputable def Itl(K:QQq)(a:Addr):It:=
 ⟨fun i H=>∃xs x,jm K H a xs/\xs[i]? =some x,fun i H x H'=>H'=H/\∀xs,jm K H a xs->xs[i]? =some x,fun i H=>∃xs,jm K H a xs/\xs.length<=i⟩
noncomputable def Itt(K:QQq)(a:Addr):It:=
 ⟨fun i H=>∃xs x,jg K H a xs/\xs[i]? =some x,fun i H x H'=>H'=H/\∀xs,jg K H a xs->xs[i]? =some x,fun i H=>∃xs,jg K H a xs/\xs.length<=i⟩
noncomputable def Itr(lo:Int)(n:Nat):It:=⟨fun i _=>i<n,fun i H x H'=>H'=H/\x=.int (lo+i),fun i _=>n<=i⟩
theorem GQ{w:World}{K:QQq}a it:Turn P w K tg (Itl K a) [it] it (fun i h=>h.IsListIter it a i) where
 mem:=by simp
 obj:=fun i h st b hb=>by
  have e:b=it:=by simpa using hb
  subst e
  obtain⟨o,e,c,d⟩:=st
  exact⟨o,e,fun v z=>by rw[d]at z;cases z⟩
 keep:=fun i h h' st k=>st.at fun o e=>k it (by simp) o e
 item:=by
  intro X hP hw hK hc i γ s σ H E I hf st hg
  subst hP hw hK
  obtain⟨xs,x,hq,hx⟩:=hg
  obtain⟨its,rv,p,hz⟩:=I.list hq
  obtain⟨u,hu,ru⟩:=rv.get hx
  obtain⟨f0,f1,f2,f3,f4,f5⟩:=hf it (by simp)
  refine wpAny_pyNext_list_item st p.isList (by simpa using hu) fun h' st' sb=>?_
  obtain⟨o,e,c,d⟩:=id st'
  exact⟨u,rfl,FZ e c d (by decide) ⟨x,H,I.turned (t':=s.toks) (fun b o hb e=>(sb.2 b hb).trans e) f0 f1 f3 f4 f5,ru,⟨rfl,fun ys hy=>by rw[I.zx hy hq];exact hx⟩,st',fun b hb=>(hf b hb).1⟩⟩
 done:=by
  intro X hP hw hK hc i γ s σ H E I hf st hg
  subst hP hw hK
  obtain⟨xs,hq,hx⟩:=hg
  obtain⟨its,rv,p,hz⟩:=I.list hq
  obtain⟨f0,f1,f2,f3,f4,f5⟩:=hf it (by simp)
  have hl:=rv.length
  exact wpAny_pyNext_list_end (I.ok.hd hc) st p.isList (by simp;omega) fun h' eb=>⟨rfl,I.turned (fun b o hb e=>eb b o hb e) f0 f1 f3 f4 f5⟩
 self:=fun _ _ _ _ _ st h=>wpAny_pyIter_listiter st h
theorem Aq{w:World}{K:QQq}a it:Turn P w K tg (Itt K a) [it] it (fun i h=>h.IsTupleIter it a i) where
 mem:=by simp
 obj:=fun i h st b hb=>by
  have e:b=it:=by simpa using hb
  subst e
  obtain⟨o,e,c,d⟩:=st
  exact⟨o,e,fun v z=>by rw[d]at z;cases z⟩
 keep:=fun i h h' st k=>st.at fun o e=>k it (by simp) o e
 item:=by
  intro X hP hw hK hc i γ s σ H E I hf st hg
  subst hP hw hK
  obtain⟨xs,x,hq,hx⟩:=hg
  obtain⟨its,rv,p,hz⟩:=I.tuple hq
  obtain⟨u,hu,ru⟩:=rv.get hx
  obtain⟨f0,f1,f2,f3,f4,f5⟩:=hf it (by simp)
  refine wpAny_pyNext_tuple_item st (p) (by simpa using hu) fun h' st' sb=>?_
  obtain⟨o,e,c,d⟩:=id st'
  exact⟨u,rfl,FZ e c d (by decide) ⟨x,H,I.turned (t':=s.toks) (fun b o hb e=>(sb.2 b hb).trans e) f0 f1 f3 f4 f5,ru,⟨rfl,fun ys hy=>by rw[I.ul hy hq];exact hx⟩,st',fun b hb=>(hf b hb).1⟩⟩
 done:=by
  intro X hP hw hK hc i γ s σ H E I hf st hg
  subst hP hw hK
  obtain⟨xs,hq,hx⟩:=hg
  obtain⟨its,rv,p,hz⟩:=I.tuple hq
  obtain⟨f0,f1,f2,f3,f4,f5⟩:=hf it (by simp)
  have hl:=rv.length
  exact wpAny_pyNext_tuple_end (I.ok.hd hc) st (p) (by simp;omega) fun h' eb=>⟨rfl,I.turned (fun b o hb e=>eb b o hb e) f0 f1 f3 f4 f5⟩
 self:=fun _ _ _ _ _ st h=>wpAny_pyIter_tupleiter st h
theorem Av{w:World}{K:QQq}it lo n:Turn P w K tg (Itr lo n) [it] it (fun i h=>IsRangeIter h it (lo+(i:Nat)*1) ((n:Int)- (i:Nat)) 1) where
 mem:=by simp
 obj:=fun i h st b hb=>by
  have e:b=it:=by simpa using hb
  subst e
  exact⟨_,st,fun v z=>by
   cases z⟩
 keep:=fun i h h' st k=>k it (by simp) _ st
 item:=by
  intro X hP hw hK hc i γ s σ H E I hf st hg
  subst hP hw hK
  obtain⟨f0,f1,f2,f3,f4,f5⟩:=hf it (by simp)
  refine(Walks.range (prog:=X.prog) (w:=X.w) (I.ok.hd hc) it lo 1 n).item i s _ _ hg st fun v h' tk hv st' kk=>?_
  obtain⟨t,rfl⟩:=hv
  refine⟨_,rfl,FZ st' rfl rfl (by decide) ⟨.int _,H,(I.turned (fun b o hb e=>kk b o (by simpa using hb) e) f0 f1 f3 f4 f5),⟨t,?_⟩,⟨rfl,rfl⟩,st',fun b hb=>(hf b hb).1⟩⟩
  rw[Int.mul_one]
 done:=by
  intro X hP hw hK hc i γ s σ H E I hf st hg
  obtain⟨f0,f1,f2,f3,f4,f5⟩:=hf it (by simp)
  exact wpAny_pyNext_range_end (I.ok.hd hc) st (by have:n<=i:=hg;omega) fun h' eb=>⟨rfl,I.turned (fun b o hb e=>eb b o hb e) f0 f1 f3 f4 f5⟩
 self:=fun _ _ _ _ _ st h=>wpAny_pyIter_rangeiter st h
section
variable{X:Cx}{tg:Expr}
def J3{σ:St}{H:Hp}{R:It->Hp->Prop}{lo hi:Int}{tk:Nat}(I:Inv X γ σ H s)(h1: -(2 ^62)<=lo)(h2:lo<2 ^62)(h3: -(2 ^62)<=hi)(h4:hi<2 ^62)
  (q:R (Itr lo (hi-lo).toNat) H):wpAny (model X.prog X.w) X.A (pyIter (.ref s.heap.objs.size)) (PIE X γ σ tg R) E {s with heap:=s.heap.push {cls:=.type "range",data:=.fields #[.int lo t,.int hi u,.int 1 v]},toks:=tk}:=by
 refine wpAny_pyIter_range (IsRange.new ..) (small_one h1 h2 h3 h4) ?_
 have I1:Inv X γ σ H {s with heap:=s.heap.push {cls:=.type "range",data:=.fields #[.int lo t,.int hi u,.int 1 v]},toks:=tk}:=I.kept fun b o e=>QWq _ e
 refine⟨(s.heap.push {cls:=.type "range",data:=.fields #[.int lo t,.int hi u,.int 1 v]}).objs.size,[(s.heap.push {cls:=.type "range",data:=.fields #[.int lo t,.int hi u,.int 1 v]}).objs.size],_,_,H,rfl,
  I1.kept fun b o e=>QWq _ e,Av _ lo (hi-lo).toNat,?_,fun b hb=>?_,q⟩
 ·have e1:lo+((0:Nat))*1=lo:=by simp
  have e2:(((hi-lo).toNat:Nat))- ((0:Nat))=Builtin.Range.rangeSize lo hi 1:=by rw[rangeSize_one];split<;>omega
  rw[e1,e2]
  exact Qzq _ rfl
 ·have e:b=(s.heap.push {cls:=.type "range",data:=.fields #[.int lo t,.int hi u,.int 1 v]}).objs.size:=by simpa using hb
  subst e
  exact I1.zL (QVz _) (I1.hok.fresh (QVz _))
noncomputable def acC(ta:TA):TI:=fun σ H R=>ta σ H fun vs H1=>∃j:Int,vs=[.int j]/\ -(2 ^62)<=j/\j<2 ^62/\R (Itr 0 j.toNat) H1
def Hs{ta:TA}(hg:Gl X "range")(hm:X.mg "range"=none)(ha:PA X [a] ta)(hs:starEach [a] X.env=[(false,eval a X.env)]:=by rfl):PI X tg (.Call (.Name "range" p) [a] [] pos) (acC ta):=by
 intro γ s σ H R I h
 refine Call_ (iI I hg hm boot_range (PyProof.Rows.callWith_type1 (cu (ha pos γ s σ H _ I h) fun us s1⟨vs,H1,I1,r1,q1⟩=>?_) hs rfl))
 obtain⟨j,e,q1,q2,q⟩:=q1
 subst e
 cases r1 with
 |cons r rr=>
  cases rr
  obtain⟨t,rfl⟩:=r
  exact call_range_1 (J3 I1 (by omega) (by omega) q1 q2 (by simpa using q))
noncomputable def aeu(wi:TI)(g:TG)(tb:TS):TS:=fun D σ H=>wi σ H fun J H1=>∃W:Nat->Nat->St->Hp->Prop,(∃m,W 0 m σ H1)/\∀i m σ H,W i m σ H->
 (J.stop i H/\D.nx σ H)\/(J.go i H/\∃N:St->Hp->Prop,(∀ζ H',N ζ H'->∃m',m'<m/\W (i+1) m' ζ H')/\∀x H',J.yld i H x H'->g x σ H' fun φ H2=>tb {D with nx:=N,ct:=N,bk:=D.nx} φ H2)
noncomputable def qL(fp:List Addr)(h:Heap):List (Addr×Obj):=fp.filterMap fun b=>(h.get? b).map fun o=>(b,o)
def iH{h:Heap}{o:Obj}(hb:b∈fp)(e:h.get? b=some o):(b,o)∈qL fp h:=List.mem_filterMap.mpr ⟨b,hb,by rw[e];rfl⟩
def Hx{h:Heap}(hp:p∈qL fp h):p.1∈fp/\h.get? p.1=some p.2:=by
 obtain⟨b,hb,e⟩:=List.mem_filterMap.mp hp
 cases q:h.get? b with
 |none=>rw[q]at e;cases e
 |some o=>
  rw[q]at e
  have e':=QEq e
  subst e'
  exact⟨hb,q⟩
def Inv.pinned{σ:St}{s:Shared}(I:Inv X γ σ H s)(hf:∀b∈fp,fP X γ H b)(ho:∀b∈fp,∃o,s.heap.get? b=some o/\∀v,o.data≠ .cell v):Inv X (γ++qL fp s.heap) σ H s:=
 I.Es fun p hp=>(QXz.mp hp).elim (fun z=>I.pin p (QVq _ z)) fun z=>by
  obtain⟨hb,e⟩:=Hx z
  obtain⟨f0,f1,f2,_⟩:=hf p.1 hb
  obtain⟨o,e',d⟩:=ho p.1 hb
  rw[e]at e';cases e'
  exact⟨e,f0,f1,f2,d⟩
def Inv.lY{σ:St}{H:Hp}(I:Inv X (γ++pl) σ H s):Inv X γ σ H s:=I.Es fun p hp=>I.pin p (QVq _ (QWz _ hp))
theorem WW{body:List Stmt}{g:TG}{pos:Pos}(hp:PassesOwn (model X.prog X.w) X.A X.env X.xe)(hc:X.calm=true)(hi:PI X tg iter wi)(hg:PG X tg g)(hb:xT X body tb)
  (hs:∀x,foldedSetIterable iter X.env x=pure x:=by intro _;rfl):PS X (.For tg iter body [] pos) (aeu wi g tb):=by
 intro γ s σ H D I h
 refine wpAny_For (cu (hi γ s σ H _ I h) fun v s1 h1=>cu h1 fun itv s2 h2=>?_) hs
 obtain⟨it,fp,tn,J,H2,e,I2,T,st2,f2,W,⟨m0,w0⟩,turn⟩:=h2
 subst e
 have stat:∀{H':Hp},(∀b∈fp,H' b=none)->∀b∈fp,fP X γ H' b:=fun hn b hb=>⟨hn b hb,(f2 b hb).2⟩
 refine codeAny_forLoop_any (fun n s'=>∃i ζ H',Inv X γ ζ H' s'/\tn i s'.heap/\(∀b∈fp,H' b=none)/\W i n ζ H') ?_ m0 ⟨0,σ,H2,I2,st2,fun b hb=>(f2 b hb).1,w0⟩
 rintro n s3 ⟨i,σ3,H3,I3,st3,fr3,w3⟩
 rcases turn i n σ3 H3 w3 with ⟨stop,qn⟩|⟨go,N,hN,step⟩
 ·refine wpAny_passesOwn hp (cu (T.done X rfl rfl rfl hc i γ s3 σ3 H3 X.xe I3 (stat fr3) st3 stop) fun r s4⟨hr,I4⟩=>?_)
  subst hr
  exact wpAny_execs_nil ⟨σ3,H3,I4,qn⟩
 ·refine wpAny_passesOwn hp (cu (T.item X rfl rfl rfl hc i γ s3 σ3 H3 X.xe I3 (stat fr3) st3 go) fun r s4⟨u,hr,h4⟩=>?_)
  subst hr
  refine wpAny_passesOwn hp (cu h4 fun _ s5⟨x,H5,I5,r5,y5,st5,fr5⟩=>?_)
  refine wpAny_passesOwn hp (cu (hg _ s5 σ3 H5 x u _ (I5.pinned (stat fr5) (T.obj _ _ st5)) r5 (step x H5 y5)) fun _ s6⟨σ6,H6,I6,q6⟩=>?_)
  refine wpAny_passesOwn hp (cu (hb _ s6 σ6 H6 _ I6 q6) fun f s7 q7=>?_)
  have again:∀{σ7:St}{H7:Hp},Inv X _ σ7 H7 s7->N σ7 H7->∃m,m<n/\∃i ζ H',Inv X γ ζ H' s7/\tn i s7.heap/\(∀b∈fp,H' b=none)/\W i m ζ H':=fun{σ7 H7}I7 n7=>by
   obtain⟨m',hm,w7⟩:=hN σ7 H7 n7
   refine⟨m',hm,i+1,σ7,H7,I7.lY,T.keep _ _ _ st5 fun b hb o e=>(I7.pin (b,o) (QVq _ (QVq _ (iH hb e)))).1,fun b hb=>?_,w7⟩
   obtain⟨o,e,d⟩:=T.obj _ _ st5 b hb
   exact(I7.pin (b,o) (QVq _ (QVq _ (iH hb e)))).2.1
  cases f with
  |next=>obtain⟨σ7,H7,I7,n7⟩:=q7;exact again I7 n7
  |cont=>obtain⟨σ7,H7,I7,n7⟩:=q7;exact again I7 n7
  |brk=>obtain⟨σ7,H7,I7,q7⟩:=q7;exact⟨σ7,H7,I7.lY,q7⟩
  |ret v=>obtain⟨x7,σ7,H7,I7,r7,q7⟩:=q7;exact⟨x7,σ7,H7,I7.lY,r7,q7⟩
end
abbrev R2:=V->V->Hp->VK->Prop
def fM(X:Cx)(f:Value->Value->Sem Value)(r:R2):Prop:=
 ∀(γ:QQz)(s:Shared)(σ:St)(H:Hp)(x y:V)(v u:Value)(Q:VK),Inv X γ σ H s->RelV x v->RelV y u->r x y H Q->
  wpAny (model X.prog X.w) X.A (f v u) (EP X γ σ Q) X.xe s
def UnR(X:Cx)(f:Value->Sem Value)(r:V->Hp->VK->Prop):Prop:=
 ∀(γ:QQz)(s:Shared)(σ:St)(H:Hp)(x:V)(v:Value)(Q:VK),Inv X γ σ H s->RelV x v->r x H Q->
  wpAny (model X.prog X.w) X.A (f v) (EP X γ σ Q) X.xe s
def fJ(X:Cx)(f:Value)(r:List V->Hp->VK->Prop):Prop:=
 ∀(γ:QQz)(s:Shared)(σ:St)(H:Hp)(xs:List V)(us:List Value)(Q:VK),Inv X γ σ H s->Vals xs us->r xs H Q->
  wpAny (model X.prog X.w) X.A (call f us) (EP X γ σ Q) X.xe s
def agP(X:Cx)(r:V->Hp->(Bool->Hp->Prop)->Prop):Prop:=
 ∀(γ:QQz)(s:Shared)(σ:St)(H:Hp)(x:V)(v:Value)(Q:Bool->Hp->Prop),Inv X γ σ H s->RelV x v->r x H Q->
  wpAny (model X.prog X.w) X.A (truthy v) (TP X γ σ Q) X.xe s
def ZD(r:R2)(ta tb:TE):TE:=fun σ H Q=>ta σ H fun x H1=>tb σ H1 fun y H2=>r x y H2 Q
def tUn(r:V->Hp->VK->Prop)(ta:TE):TE:=fun σ H Q=>ta σ H fun x H1=>r x H1 Q
noncomputable def rI(C:Int->Int->Prop)(g:Int->Int->V):R2:=fun x y H Q=>∃i j,x=.int i/\y=.int j/\C i j/\Q (g i j) H
def Pj(g:Int->Int->V):R2:=fun x y H Q=>∃i j,x=.int i/\y=.int j/\Q (g i j) H
def rU(g:Int->V):V->Hp->VK->Prop:=fun x H Q=>∃i,x=.int i/\Q (g i) H
section
variable{X:Cx}{a b c:Expr}{ta tb tc:TE}{pos:Pos}
def Y7(ha:PE X a ta)(hb:PE X b tb){s:Shared}{σ:St}{R:V->V->Hp->Prop}(I:Inv X γ σ H s)
  (h:ta σ H fun x H1=>tb σ H1 fun y H2=>R x y H2){f:Value->Value->Sem Value}
  (hf:∀v u s2 x y H2,Inv X γ σ H2 s2->RelV x v->RelV y u->R x y H2->wpAny (model X.prog X.w) X.A (f v u) Q X.xe s2):
  wpAny (model X.prog X.w) X.A (eval a X.env) (fun v ι=>wpAny (model X.prog X.w) X.A (eval b X.env) (fun u s₂=>wpAny (model X.prog X.w) X.A (f v u) Q X.xe s₂) X.xe ι) X.xe s:=by
 exact cu (ha γ s σ H _ I h) fun v s1⟨x,H1,I1,r1,q1⟩=>cu (hb γ s1 σ H1 _ I1 q1) fun u s2⟨y,H2,I2,r2,q2⟩=>hf v u s2 x y H2 I2 r1 r2 q2
def Et{r:R2}(ho:fM X (binaryOp op) r)(ha:PE X a ta)(hb:PE X b tb):PE X (.BinOp a op b pos) (ZD r ta tb):=by
 intro γ s σ H Q I h
 exact wpAny_BinOp (Y7 ha hb I h fun v u s2 x y H2 I2 rx ry q=>ho γ s2 σ H2 x y v u Q I2 rx ry q)
def abR{r:V->Hp->VK->Prop}(ho:UnR X (unaryOp op) r)(ha:PE X a ta):PE X (.UnaryOp op a pos) (tUn r ta):=by
 intro γ s σ H Q I h
 exact UnaryOp_ (cu (ha γ s σ H _ I h) fun v s1⟨x,H1,I1,r1,q1⟩=>ho γ s1 σ H1 x v Q I1 r1 q1)
def opI{C:Int->Int->Prop}{g:Int->Int->Int}
  (rule:∀(i j:Int)(t u:Tok)(s:Shared)(Q:QZq)(E:QZq),C i j->Q (.int (g i j) s.toks) {s with toks:=s.toks+1}->wpAny (model X.prog X.w) X.A (f (.int i t) (.int j u)) Q E s):
  fM X f (rI C fun i j=>.int (g i j)):=by
 intro γ s σ H x y v u Q I rx ry h
 obtain⟨i,j,rfl,rfl,hc,q⟩:=h
 obtain⟨t,rfl⟩:=rx
 obtain⟨t',rfl⟩:=ry
 exact rule i j t t' s _ _ hc ⟨.int _,H,I.tok _,⟨_,rfl⟩,q⟩
def ab2{g:Int->Int->Int}
  (rule:∀(i j:Int)(t u:Tok)(s:Shared)(Q:QZq)(E:QZq),Q (.int (g i j) s.toks) {s with toks:=s.toks+1}->wpAny (model X.prog X.w) X.A (f (.int i t) (.int j u)) Q E s):
  fM X f (Pj fun i j=>.int (g i j)):=by
 intro γ s σ H x y v u Q I rx ry h
 obtain⟨i,j,rfl,rfl,q⟩:=h
 obtain⟨t,rfl⟩:=rx
 obtain⟨t',rfl⟩:=ry
 exact rule i j t t' s _ _ ⟨.int _,H,I.tok _,⟨_,rfl⟩,q⟩
def Xn{g:Int->Int->Bool}
  (rule:∀(i j:Int)(t u:Tok)(s:Shared)(Q:QZq)(E:QZq),Q (.bool (g i j)) s->wpAny (model X.prog X.w) X.A (f (.int i t) (.int j u)) Q E s):
  fM X f (Pj fun i j=>.bl (g i j)):=by
 intro γ s σ H x y v u Q I rx ry h
 obtain⟨i,j,rfl,rfl,q⟩:=h
 obtain⟨t,rfl⟩:=rx
 obtain⟨t',rfl⟩:=ry
 exact rule i j t t' s _ _ ⟨.bl _,H,I,rfl,q⟩
def S5(i j:Int):Prop:=(-(2 ^64)<i/\i<2 ^64)\/(-(2 ^64)<j/\j<2 ^64)
def S5.ok(h:S5 i j):IntMulOk i j:=by
 rcases h with ⟨h1,h2⟩|⟨h1,h2⟩
 ·exact .of_left (intBits_le_64 h1 h2)
 ·exact .of_right (intBits_le_64 h1 h2)
def Xl:fM X (binaryOp .Add) (Pj fun i j=>.int (i+j)):=ab2 fun _ _ _ _ _ _ _ q=>add_int q
def Xb:fM X (binaryOp .Sub) (Pj fun i j=>.int (i-j)):=ab2 fun _ _ _ _ _ _ _ q=>sub_int q
def Xd:fM X (binaryOp .Mult) (rI S5 fun i j=>.int (i*j)):=opI fun _ _ _ _ _ _ _ hc q=>mul_int q hc.ok
def Xe:fM X (binaryOp .Mod) (rI (fun _ j=>0<j) fun i j=>.int (i%j)):=opI fun i j _ _ _ _ _ hc q=>by
 have h1:=hc
 exact mod_int' (by omega) (by rw[Int.fmod_eq_emod_of_nonneg i (by omega)];exact q)
def unI{g:Int->Int}
  (rule:∀(i:Int)(t:Tok)(s:Shared)(Q:QZq)(E:QZq),Q (.int (g i) s.toks) {s with toks:=s.toks+1}->wpAny (model X.prog X.w) X.A (f (.int i t)) Q E s):
  UnR X f (rU fun i=>.int (g i)):=by
 intro γ s σ H x v Q I rx h
 obtain⟨i,rfl,q⟩:=h
 obtain⟨t,rfl⟩:=rx
 exact rule i t s _ _ ⟨.int (g i),H,I.tok _,⟨_,rfl⟩,q⟩
def VJ:UnR X (unaryOp .USub) (rU fun i=>.int (-i)):=unI fun _ _ _ _ _ q=>neg_int q
end
noncomputable def Qm:V->V->Bool
 |.non,.non=>true|.non,.int _=>true|.int _,.non=>true|.non,.bl _=>true|.bl _,.non=>true|.non,.str _=>true|.str _,.non=>true
 |.int _,.int _=>true|.bl _,.bl _=>true|.str _,.str _=>true
 |.int _,.str _=>true|.str _,.int _=>true|.bl _,.str _=>true|.str _,.bl _=>true
 |_,_=>false
def rEq:R2:=fun x y H Q=>Qm x y=true/\Q (.bl (decide (x=y))) H
def rNe:R2:=fun x y H Q=>Qm x y=true/\Q (.bl (!decide (x=y))) H
def Gn:decide (V.int i=V.int j)=(i==j):=by
 rw[Bool.eq_iff_iff]
 simp
def Np:decide (V.bl i=V.bl j)=(i==j):=by
 rw[Bool.eq_iff_iff]
 simp
def Gm:decide (V.str i=V.str j)=(i==j):=by
 rw[Bool.eq_iff_iff]
 simp
section
variable{X:Cx}{a b c:Expr}{ta tb tc:TE}{pos:Pos}
def bG{σ:St}{H:Hp}{Q:VK}(I:Inv X γ σ H s)(q:Q (.bl k) H)(e:k=k'):EP X γ σ Q (.bool k') s:=by
 subst e
 exact⟨.bl k,H,I,rfl,q⟩
def ab0:fM X (compareOp .Eq) rEq:=by
 intro γ s σ H x y v u Q I rx ry h
 obtain⟨hs,q⟩:=h
 cases x with
 |non=>
  cases rx
  cases y with
  |non=>cases ry;exact PySem.EqNone.eq_none_none (bG I q (by simp))
  |bl j=>cases ry;exact PySem.EqNone.eq_none_bool (bG I q (by simp))
  |int j=>obtain⟨t',rfl⟩:=ry;exact PySem.EqNone.eq_none_int (bG I q (by simp))
  |str j=>obtain⟨t',rfl⟩:=ry;exact PySem.EqNone.eq_none_str (bG I q (by simp))
  |_=>exact absurd (hs) Qjz
 |bl i=>
  cases rx
  cases y with
  |non=>cases ry;exact PySem.EqNone.eq_bool_none (bG I q (by simp))
  |bl j=>cases ry;exact eq_bool (bG I q Np)
  |str j=>obtain⟨t',rfl⟩:=ry;exact PySem.EqMixed.eq_bool_str (bG I q (by simp))
  |_=>exact absurd (hs) Qjz
 |int i=>
  obtain⟨t,rfl⟩:=rx
  cases y with
  |non=>cases ry;exact PySem.EqNone.eq_int_none (bG I q (by simp))
  |int j=>obtain⟨t',rfl⟩:=ry;exact eq_int (bG I q Gn)
  |str j=>obtain⟨t',rfl⟩:=ry;exact PySem.EqMixed.eq_int_str (bG I q (by simp))
  |_=>exact absurd (hs) Qjz
 |str i=>
  obtain⟨t,rfl⟩:=rx
  cases y with
  |non=>cases ry;exact PySem.EqNone.eq_str_none (bG I q (by simp))
  |bl j=>cases ry;exact PySem.EqMixed.eq_str_bool (bG I q (by simp))
  |int j=>obtain⟨t',rfl⟩:=ry;exact PySem.EqMixed.eq_str_int (bG I q (by simp))
  |str j=>obtain⟨t',rfl⟩:=ry;exact eq_str (bG I q Gm)
  |_=>exact absurd (hs) Qjz
 |_=>cases y<;>exact absurd (hs) Qjz
def abW:fM X (compareOp .NotEq) rNe:=by
 intro γ s σ H x y v u Q I rx ry h
 obtain⟨hs,q⟩:=h
 cases x with
 |non=>
  cases rx
  cases y with
  |non=>cases ry;exact PySem.EqNone.ne_none_none (bG I q (by simp))
  |bl j=>cases ry;exact PySem.EqNone.ne_none_bool (bG I q (by simp))
  |int j=>obtain⟨t',rfl⟩:=ry;exact PySem.EqNone.ne_none_int (bG I q (by simp))
  |str j=>obtain⟨t',rfl⟩:=ry;exact PySem.EqNone.ne_none_str (bG I q (by simp))
  |_=>exact absurd (hs) Qjz
 |bl i=>
  cases rx
  cases y with
  |non=>cases ry;exact PySem.EqNone.ne_bool_none (bG I q (by simp))
  |bl j=>cases ry;exact ne_bool (bG I q (congrArg not Np))
  |str j=>obtain⟨t',rfl⟩:=ry;exact PySem.EqMixed.ne_bool_str (bG I q (by simp))
  |_=>exact absurd (hs) Qjz
 |int i=>
  obtain⟨t,rfl⟩:=rx
  cases y with
  |non=>cases ry;exact PySem.EqNone.ne_int_none (bG I q (by simp))
  |int j=>obtain⟨t',rfl⟩:=ry;exact ne_int (bG I q (congrArg not Gn))
  |str j=>obtain⟨t',rfl⟩:=ry;exact PySem.EqMixed.ne_int_str (bG I q (by simp))
  |_=>exact absurd (hs) Qjz
 |str i=>
  obtain⟨t,rfl⟩:=rx
  cases y with
  |non=>cases ry;exact PySem.EqNone.ne_str_none (bG I q (by simp))
  |bl j=>cases ry;exact PySem.EqMixed.ne_str_bool (bG I q (by simp))
  |int j=>obtain⟨t',rfl⟩:=ry;exact PySem.EqMixed.ne_str_int (bG I q (by simp))
  |str j=>obtain⟨t',rfl⟩:=ry;exact ne_str (bG I q (congrArg not Gm))
  |_=>exact absurd (hs) Qjz
 |_=>cases y<;>exact absurd (hs) Qjz
def abX:fM X (compareOp .Lt) (Pj fun i j=>.bl (decide (i<j))):=Xn fun _ _ _ _ _ _ _ q=>lt_int q
def abY:fM X (compareOp .LtE) (Pj fun i j=>.bl (decide (i<=j))):=Xn fun _ _ _ _ _ _ _ q=>le_int q
def abZ:fM X (compareOp .Gt) (Pj fun i j=>.bl (decide (j<i))):=Xn fun _ _ _ _ _ _ _ q=>gt_int q
def Hv:fM X (compareOp .In) (fun x y H Q=>∃i j,x=.str i/\y=.str j/\Q (.bl (!(Builtin.Str.occurrences j i 0 j.length 1).isEmpty)) H):=by
 intro γ s σ H x y v u Q I rx ry h
 obtain⟨i,j,rfl,rfl,q⟩:=h
 obtain⟨t,rfl⟩:=rx
 obtain⟨t',rfl⟩:=ry
 exact in_str (bG I q rfl)
def Xg:fM X (compareOp .Is) (fun x y H Q=>y=.non/\Q (.bl (decide (x=.non))) H):=by
 intro γ s σ H x y v u Q I rx ry h
 obtain⟨rfl,q⟩:=h
 cases ry
 refine is_none_gen (bG I q ?_)
 cases x<;>first
  |(cases rx;rfl)
  |(obtain⟨t,rfl⟩:=rx;rfl)
def Q7:fM X (compareOp .IsNot) (fun x y H Q=>y=.non/\Q (.bl (!decide (x=.non))) H):=by
 intro γ s σ H x y v u Q I rx ry h
 obtain⟨rfl,q⟩:=h
 cases ry
 refine isnot_none_gen (bG I q ?_)
 cases x<;>first
  |(cases rx;rfl)
  |(obtain⟨t,rfl⟩:=rx;rfl)
def fM.or{f:Value->Value->Sem Value}{r r':R2}(h:fM X f r)(h':fM X f r'):fM X f (fun x y H Q=>r x y H Q\/r' x y H Q):=by
 intro γ s σ H x y v u Q I rx ry q
 rcases q with q|q
 ·exact h γ s σ H x y v u Q I rx ry q
 ·exact h' γ s σ H x y v u Q I rx ry q
def Q0{r:R2}(ho:fM X (compareOp op) r)(ha:PE X a ta)(hb:PE X b tb)(hm:behindInMarks op b=false):PE X (.Compare a [op] [b] pos) (ZD r ta tb):=by
 intro γ s σ H Q I h
 exact wpAny_Compare1 (Y7 ha hb I h fun v u s2 x y H2 I2 rx ry q=>ho γ s2 σ H2 x y v u Q I2 rx ry q) hm
def Tv(t:TE):TT:=fun σ H Q=>t σ H fun x H'=>∃k,x=.bl k/\Q k H'
def QK{r:R2}(ho:fM X (compareOp op) r)(ha:PE X a ta)(hb:PE X b tb)(hm:behindInMarks op b=false):PT X (.Compare a [op] [b] pos) (Tv (ZD r ta tb)):=by
 intro γ s σ H Q I h
 refine wpAny_isTrue_Compare1 (cu (ha γ s σ H _ I h) fun v s1⟨x,H1,I1,r1,q1⟩=>cu (hb γ s1 σ H1 _ I1 q1) fun u s2⟨y,H2,I2,r2,q2⟩=>
  cu (ho γ s2 σ H2 x y v u _ I2 r1 r2 q2) fun c s3⟨z,H3,I3,r3,k,e,q3⟩=>?_) hm
 subst e
 cases r3
 exact wpAny_truthy_bool ⟨H3,I3,q3⟩
noncomputable def Az(r r':R2)(ta tb tc:TE):TE:=fun σ H Q=>ta σ H fun x H1=>tb σ H1 fun y H2=>r x y H2 fun z H3=>∃k,z=.bl k/\
 (if k=true then tc σ H3 fun w' H4=>r' y w' H4 Q else Q (.bl false) H3)
theorem KY{r r':R2}(ho:fM X (compareOp op) r)(ho':fM X (compareOp op') r')(ha:PE X a ta)(hb:PE X b tb)(hc:PE X c tc)
  (hm:lastMarks [op,op'] [b,c]=false:=by with_unfolding_all rfl):PE X (.Compare a [op,op'] [b,c] pos) (Az r r' ta tb tc):=by
 intro γ s σ H Q I h
 refine Compare_chain (cu (ha γ s σ H _ I h) fun v s1⟨x,H1,I1,r1,q1⟩=>chain_link (cu (hb γ s1 σ H1 _ I1 q1) fun u s2⟨y,H2,I2,r2,q2⟩=>
  cu (ho γ s2 σ H2 x y v u _ I2 r1 r2 q2) fun d s3⟨z,H3,I3,r3,k,e,q3⟩=>?_)) hm
 subst e
 cases r3
 refine wpAny_truthy_bool ?_
 cases k with
 |false=>exact ite_ff ⟨.bl false,H3,I3,rfl,q3⟩
 |true=>exact ite_tt (chain_last (cu (hc γ s3 σ H3 _ I3 q3) fun w' s4⟨z',H4,I4,r4,q4⟩=>ho' γ s4 σ H4 y z' u w' Q I4 r2 r4 q4))
theorem Ko{r r':R2}(ho:fM X (compareOp op) r)(ho':fM X (compareOp op') r')(ha:PE X a ta)(hb:PE X b tb)(hc:PE X c tc)
  (hm:lastMarks [op,op'] [b,c]=false:=by with_unfolding_all rfl):PT X (.Compare a [op,op'] [b,c] pos) (Tv (Az r r' ta tb tc)):=by
 intro γ s σ H Q I h
 refine isTrue_chain (cu (ha γ s σ H _ I h) fun v s1⟨x,H1,I1,r1,q1⟩=>test_link (cu (hb γ s1 σ H1 _ I1 q1) fun u s2⟨y,H2,I2,r2,q2⟩=>
  cu (ho γ s2 σ H2 x y v u _ I2 r1 r2 q2) fun d s3⟨z,H3,I3,r3,k,e,q3⟩=>?_)) hm
 subst e
 cases r3
 refine wpAny_truthy_bool ?_
 cases k with
 |false=>
  obtain⟨k',e',q'⟩:=q3
  cases e'
  exact ite_ff ⟨H3,I3,q'⟩
 |true=>
  refine ite_tt (test_last (cu (hc γ s3 σ H3 _ I3 q3) fun w' s4⟨z',H4,I4,r4,q4⟩=>cu (ho' γ s4 σ H4 y z' u w' _ I4 r2 r4 q4) fun d' s5⟨z2,H5,I5,r5,k2,e2,q5⟩=>?_))
  subst e2
  cases r5
  exact wpAny_truthy_bool ⟨H5,I5,q5⟩
def Oz(K:QQq)(x:V)(H:Hp)(k:Bool):Prop:=
 match x with
 |.non=>k=false
 |.bl b=>k=b
 |.int i=>k=(i !=0)
 |.str y=>y.length<=sizeLine/\k=((y.length:Int) !=0)
 |.ref p=>(∃xs,jm K H p xs/\k= !xs.isEmpty)\/(∃xs,jg K H p xs/\k= !xs.isEmpty)\/∃kvs,H p=some (.dK kvs)/\k= !kvs.isEmpty
 |_=>False
def Cj{kvs:List (κ×V)}{vs:List (κ×Value)}(r:KV kvs vs):(!vs.isEmpty)= !kvs.isEmpty:=by
 cases r<;>rfl
def rC{its:List Value}(r:Vals xs its):(!its.toArray.isEmpty)= !xs.isEmpty:=by
 cases r<;>simp
def wI:(sizeLine:Nat)<2 ^63:=by rw[sizeLine_eq];decide
def Ju:agP X (fun x H Q=>∃k,Oz X.K x H k/\Q k H):=by
 intro γ s σ H x v Q I rx h
 obtain⟨k,e,q⟩:=h
 have hs:=sizeLine_eq
 cases x with
 |non=>
  cases rx
  subst e
  exact truthy_none ⟨H,I,q⟩
 |bl b=>
  cases rx
  subst e
  exact wpAny_truthy_bool ⟨H,I,q⟩
 |int i=>
  obtain⟨t,rfl⟩:=rx
  subst e
  exact PySem.P.truthy_int ⟨H,I,q⟩
 |str y=>
  obtain⟨t,rfl⟩:=rx
  obtain⟨hy,e'⟩:y.length<=sizeLine/\k=((y.length:Int) !=0):=e
  subst e'
  exact PySem.P.truthy_str (by omega) ⟨H,I.tok _,q⟩
 |ref p=>
  cases rx
  have e':=e
  rcases e' with ⟨xs,hx,e'⟩|⟨xs,hx,e'⟩|⟨kvs,hx,e'⟩
  ·subst e'
   obtain⟨its,r,pl,hz⟩:=I.list hx
   have hlen:=r.length
   exact wpAny_truthy_list pl.isList (by simp only[Qyq];omega) ⟨H,I.tok _,by rw[rC r];exact q⟩
  ·subst e'
   obtain⟨its,r,pl,hz⟩:=I.tuple hx
   have hlen:=r.length
   exact truthy_tuple pl (by simp only[Qyq];omega) ⟨H,I.tok _,by rw[rC r];exact q⟩
  ·subst e'
   obtain⟨hz,hS,vs,r,m⟩:kvs.length<=sizeLine/\(p==sysModules)=false/\∃vs,KV kvs vs/\s.heap.DictOf _ p vs:=I.hok p _ hx
   have hlen:=Paired.length r
   exact wpAny_truthy_dict hS m (by omega) ⟨H,I.tok _,by rw[Cj r];exact q⟩
 |_=>exact(e).elim
def Km(ha:PE X a ta)(he:∀whole,isTrue a X.env whole=(do let v<-whole;standAt a.pos;holding [v] (truthy v))):
  PT X a (fun σ H Q=>ta σ H fun x H'=>∃k,Oz X.K x H' k/\Q k H'):=by
 intro γ s σ H Q I h
 exact isTrue_plain (cu (ha γ s σ H _ I h) fun v s1⟨x,H1,I1,r1,q1⟩=>Ju γ s1 σ H1 x v Q I1 r1 q1) (he _)
def vals1{us:List Value}(r:Vals [x] us):∃u,us=[u]/\RelV x u:=by
 cases r with
 |cons r1 r2=>cases r2;exact⟨_,rfl,r1⟩
def IV:fJ X (.type "int") (fun xs H Q=>(∃i,xs=[.int i]/\Q (.int i) H)\/∃k,xs=[.bl k]/\Q (.int (if k then 1 else 0)) H):=by
 intro γ s σ H xs us Q I r h
 rcases h with ⟨i,rfl,q⟩|⟨k,rfl,q⟩
 ·obtain⟨u,rfl,t,rfl⟩:=vals1 r
  exact call_int_int ⟨.int i,H,I,⟨_,rfl⟩,q⟩
 ·obtain⟨u,rfl,r1⟩:=vals1 r
  cases r1
  exact call_int_bool ⟨.int _,H,I.tok _,⟨_,rfl⟩,q⟩
def Zf(K:QQq)(x:V)(H:Hp)(n:Nat):Prop:=
 match x with
 |.str y=>y.length<=sizeLine/\n=y.length
 |.ref p=>(∃xs,jm K H p xs/\n=xs.length)\/∃xs,jg K H p xs/\n=xs.length
 |_=>False
def NQ:fJ X (.builtin "len") (fun xs H Q=>∃x n,xs=[x]/\Zf X.K x H n/\Q (.int n) H):=by
 intro γ s σ H xs us Q I r h
 obtain⟨x,n,rfl,e,q⟩:=h
 obtain⟨u,rfl,rx⟩:=vals1 r
 have hs:=sizeLine_eq
 cases x with
 |str y=>
  obtain⟨t,rfl⟩:=rx
  obtain⟨hy,e'⟩:y.length<=sizeLine/\n=y.length:=e
  subst e'
  exact len_str (by omega) ⟨.int _,H,I.tok _,⟨_,rfl⟩,q⟩
 |ref p=>
  cases rx
  have e':=e
  rcases e' with ⟨xs,hx,e'⟩|⟨xs,hx,e'⟩
  ·subst e'
   obtain⟨its,r',pl,hz⟩:=I.list hx
   have hlen:=r'.length
   exact Calls.call_len_list pl.isList (by simp only[Qyq];omega) ⟨.int xs.length,H,I.tok _,⟨_,by simp only[Qyq];rw[hlen]⟩,q⟩
  ·subst e'
   obtain⟨its,r',pl,hz⟩:=I.tuple hx
   have hlen:=r'.length
   exact len_tuple pl (by simp only[Qyq];omega) ⟨.int xs.length,H,I.tok _,⟨_,by simp only[Qyq];rw[hlen]⟩,q⟩
 |_=>exact(e).elim
end
section
variable{prog:Program}{w:World}{A:Around}{E:QZq}{s:Shared}{K:QQq}{x dx C f:Addr}{mA:QZz}{name:Str}{v:Value}
end
def sY.some_of{o:Option Value}(r:sY (some v) o):∃u,o=some u/\RelV v u:=by
 cases o with
 |none=>exact(r).elim
 |some u=>exact⟨u,rfl,r⟩
section
variable{P:Program}{w:World}{H H':Hp}{h h':Heap}{a C dx:Addr}{fs fs':List (Str×V)}
end
section
variable{X:Cx}{γ:QQz}{σ:St}{H:Hp}{s:Shared}{a C dx:Addr}{fs:List (Str×V)}{f:Str}{v:V}{A:Around}{E:QZq}
end
section
variable{X:Cx}{o e value:Expr}{f:Str}{pos pos' tpos:Pos}{ta tv:TE}
end
section
variable{X:Cx}{γ:QQz}{σ:St}{H:Hp}{s:Shared}{A:Around}{E:QZq}{Q:QZq}{c:Value}{b:Bool}
end
structure jj(k:Nat)(A:Around):Prop where
 hd:A.handled=none
 dp:A.depth+3*k+5<recursionLimit
 un:A.units+16*k+200<cLine
theorem jj.deeper{A:Around}(r:jj (k+1) A)env:jj k (A.deeper env):=
 ⟨r.hd,by have:=r.dp;show A.depth+1+3*k+5<_;omega,by have:=r.un;show A.units+3+16*k+200<_;omega⟩
theorem jj.in1{k:Nat}{A:Around}(r:jj (k+1) A):jj k A.in1:=
 ⟨r.hd,by have:=r.dp;show A.depth+3*k+5<_;omega,by have:=r.un;show A.units+1+16*k+200<_;omega⟩
theorem jj.depth{A:Around}(r:jj k A):A.depth<recursionLimit:=by have:=r.dp;omega
def aaU:TA:=fun _ H Q=>Q [] H
def JG(ta:TE)(tr:TA):TA:=fun σ H Q=>ta σ H fun x H1=>tr σ H1 fun xs H2=>Q (x::xs) H2
section
variable{X:Cx}{e:Expr}{es:List Expr}{te:TE}{t:TA}{pos:Pos}
def eQ:PA X [] aaU:=fun _ _ _ _ H Q I h=>Calls.spliced_nil ⟨[],H,I,.nil,h⟩
def cI(ha:PE X e te)(hr:PA X es t)(hs:starEach (e::es) X.env=(false,eval e X.env)::starEach es X.env:=by rfl):PA X (e::es) (JG te t):=by
 intro pos γ s σ H Q I h
 rw[hs]
 exact Calls.spliced_cons (cu (ha γ s σ H _ I h) fun u s1⟨x,H1,I1,r1,q1⟩=>cu (hr pos γ s1 σ H1 _ I1 q1) fun us s2⟨xs,H2,I2,r2,q2⟩=>⟨x::xs,H2,I2,.cons r1 r2,q2⟩)
noncomputable def aep(t:TA):TE:=fun σ H Q=>t σ H fun xs H1=>xs.length<=sizeLine/\∀p,H1 p=none->Q (.ref p) (upd H1 p (.tup xs))
noncomputable def aes(t:TA):TE:=fun σ H Q=>t σ H fun xs H1=>xs.length<=sizeLine/\∀p,H1 p=none->Q (.ref p) (upd H1 p (.lst xs))
def W2{x1}(h:PA X es t):PE X (.Tuple es x1 pos) (aep t):=by
 intro γ s σ H Q I hq
 refine wpAny_Tuple_spliced (cu (h pos γ s σ H _ I hq) fun us s1⟨xs,H1,I1,r,z,q⟩=>⟨by rw[<-r.length];exact z,?_⟩)
 refine⟨.ref s1.heap.objs.size,upd H1 s1.heap.objs.size _,I1.laid (fun b u e=>QWq _ e) (QVz _) ?_,rfl,q _ (I1.hok.fresh (QVz _))⟩
 exact⟨z,us,r,TupOk.new _ _⟩
def W5(h:PA X es t):PE X (.List es pos) (aes t):=by
 intro γ s σ H Q I hq
 refine wpAny_List_spliced (cu (h pos γ s σ H _ I hq) fun us s1⟨xs,H1,I1,r,z,q⟩=>⟨by rw[<-r.length];exact z,?_⟩)
 refine⟨.ref s1.heap.objs.size,upd H1 s1.heap.objs.size _,I1.laid (fun b u e=>QWq _ e) (QVz _) ?_,rfl,q _ (I1.hok.fresh (QVz _))⟩
 exact⟨z,us,0,r,Qzq _ rfl⟩
end
abbrev Sp:=List V->Hp->VK->XK->Prop
abbrev O8:=List Env->Hp->Shared->XK->Value->Shared->Prop
structure Je(P:Program)(w:World)(K:QQq)(mg:QZz)(base:Heap)(A:Around)(outer:List Env)(s:Shared)(H:Hp):Prop where
 frames:A.frames=some outer
 mod:Mod K mg base
 bs:∀b o,base.get? b=some o->s.heap.get? b=some o/\H b=none
 bsz:base.objs.size<=s.heap.objs.size
 lu:s.heap.FunFrames base outer
 frf:∀b∈frs outer,H b=none
 hok:oN P w H s.heap
 bare:AllBare s.gens
def CE(outer:List Env)(P:Program)(w:World)(H:Hp)(s:Shared)(Q:VK)(u:Value)(s':Shared):Prop:=
 ∃v H',s'.os=s.os/\AllBare s'.gens/\Un (frs outer) [] H H' s.heap s'.heap/\oN P w H' s'.heap/\RelV v u/\Q v H'
def CR(CX:O8)(outer:List Env)(P:Program)(w:World)(H:Hp)(s:Shared)(Q:VK)(E:XK)(r:Result)(s':Shared):Prop:=
 match r with
 |.ok (.ret u)=>CE outer P w H s Q u s'
 |.ok _=>False
 |.error e=>CX outer H s E e s'
structure oO(P:Program)(w:World)(K:QQq)(mg:QZz)(base:Heap)(CX:O8)(k:Nat)(f:Addr)(fd:FuncData)(ps:List Str)(sp:Sp):Prop where
 len:∀vs H Q E,sp vs H Q E->vs.length=ps.length
 run:∀(A:Around)(outer:List Env)(s:Shared)(H:Hp)(args:Args)(us:List Value)(vs:List V)(Q:VK)(E:XK),jj k A->Je P w K mg base A outer s H->BindsTo s fd args (ps.zip us)->Vals vs us->sp vs H Q E->
  codeAny (model P w) A (.call (.ref f) args) (CR CX outer P w H s Q E) s
theorem Je.in1{P:Program}{w:World}{K:QQq}{mg:QZz}{base:Heap}{A:Around}{outer:List Env}{s:Shared}{H:Hp}(e:Je P w K mg base A outer s H):
  Je P w K mg base A.in1 outer s H:=⟨e.frames,e.mod,e.bs,e.bsz,e.lu,e.frf,e.hok,e.bare⟩
section
variable{X:Cx}{γ:QQz}{σ:St}{H:Hp}{s s':Shared}
def Inv.env0(I:Inv X γ σ H s):Je X.prog X.w X.K X.mg X.base X.A X.stack s H:=
 ⟨I.ok.frames,I.ok.mod,I.bs,Nat.le_trans I.ok.bsz I.sz,I.stack,I.Eb,I.hok,I.bare⟩
def Inv.after{u:Value}(I:Inv X γ σ H s)(h:CE X.stack X.prog X.w H s Q u s'):EP X γ σ Q u s':=by
 obtain⟨v,H',os,bare,un,hok,r,q⟩:=h
 obtain⟨hh,g,d,t,os'⟩:=s'
 obtain rfl:os'=s.os:=os
 exact⟨v,H',I.call un hok bare (fun b z=>absurd z (by simp)),r,q⟩
end
noncomputable def aaZ(sp:Sp)(dvs:List V)(E:XK)(t:TA):TE:=fun σ H Q=>t σ H fun vs H1=>sp (vs++dvs) H1 Q E
def Binds(K:QQq)(fd:FuncData)(ps:List Str)(ds:List Value):Prop:=
 ∀(s:Shared)(us:List Value),K.In s.heap->(us++ds).length=ps.length->BindsTo s fd ⟨us,[]⟩ (ps.zip (us++ds))
def Binds.all{K:QQq}{fd:FuncData}(h:∀us:List Value,us.length=ps.length->bindArgs fd ⟨us,[]⟩=pure (ps.zip us)):Binds K fd ps []:=fun s us _ hl=>by
 rw[List.append_nil]at hl⊢
 exact .of_eq (h us hl)
def DP(CX:O8)(X:Cx)(E:XK):Prop:=∀(γ:QQz)(σ:St)(H:Hp)(s:Shared)(e:Value)(s':Shared),Inv X γ σ H s->CX X.stack H s E e s'->X.xe e s'
section
variable{X:Cx}{CX:O8}{k:Nat}{f C:Addr}{fd:FuncData}{ps:List Str}{sp:Sp}{dvs:List V}{ds:List Value}{E:XK}{x m:Str}{p pos apos:Pos}{e o:Expr}{es:List Expr}{ta:TE}{t:TA}
theorem Wm{σ:St}{H:Hp}{Q:VK}{vs:List V}(F:oO X.prog X.w X.K X.mg X.base CX k f fd ps sp)(hr:jj k X.A)(hb:Binds X.K fd ps ds)(hd:Vals dvs ds)(hx:DP CX X E)
  (I:Inv X γ σ H s)(r:Vals vs us)(h:sp (vs++dvs) H Q E):wpAny (model X.prog X.w) X.A (call (.ref f) us) (EP X γ σ Q) X.xe s:=by
 have r2:=r.append hd
 refine wpAny_call (codeAny_mono (F.run X.A X.stack s H ⟨us,[]⟩ _ _ Q E hr I.env0 (hb s us I.ZQ (by rw[<-r2.length];exact F.len _ _ _ _ h)) r2 h) fun r s' hq=>?_)
 cases r with
 |error e=>exact hx γ σ H s e s' I hq
 |ok fl=>
  cases fl with
  |ret u=>exact I.after hq
  |next=>exact False.elim hq
  |brk=>exact False.elim hq
  |cont=>exact False.elim hq
def Q3(F:oO X.prog X.w X.K X.mg X.base CX k f fd ps sp)(hr:jj k X.A)(hg:Gl X x)(hm:X.mg x=some (.ref f))(hk:PySem.W.keepIn X.K (.ref f)=true)(hb:Binds X.K fd ps ds)(hd:Vals dvs ds)(hx:DP CX X E)
  (ha:PA X (e::es) t)(hdb:(x==("__debug__":Str))=false:=by decide)(he:starEach (e::es) X.env=(false,eval e X.env)::starEach es X.env:=by rfl)(hpl:(backTo pos (starEach es X.env)).any (·.1)=false:=by rfl):
  PE X (.Call (.Name x p) (e::es) [] pos) (aaZ sp dvs E t):=by
 intro γ s σ H Q I h
 exact wpAny_Call_Name_kw (Fx I hg hm (PySem.W.callWith_K I.ok.mod.kin hk (cu (ha pos γ s σ H _ I h) fun us s1⟨vs,H1,I1,r,q⟩=>⟨I1.ZQ,Wm F hr hb hd hx I1 r q⟩) he hpl) hdb)
end
section
variable{X:Cx}{CX:O8}{k:Nat}{f C:Addr}{fd:FuncData}{ps ks:List Str}{sp:Sp}{E:XK}{x m:Str}{p pos apos kpos:Pos}{e o:Expr}{es:List Expr}{kws:List Keyword}{te ta:TE}{t tk:TA}{nm:Option Str}
variable{g:List Value->List Value->List Value}{gV:List V->List V->List V}
end
structure km(N P:List Str)(sc:Scope):Prop where
 kind:sc.kind=.function
 co:sc.isCoroutine=false
 gen:sc.isGenerator=false
 nd:N.Nodup
 pre:N.take P.length=P
 par:∀x∈P,sc.names.lookup x=some .local\/sc.names.lookup x=some .cell
 nofree:∀y∈sc.names,y.2≠ .free
theorem vH{kindOf:Str->Option NameKind}:∀{binds:List (Str×Value)}{m:QZz},(∀v,(x,v)∉binds)->bindL kindOf binds m x=m x
 |[],_,_=>rfl
 |(n,v)::r,m,h=>by
  unfold bindL
  rw[vH fun w hw=>h w (QYq _ hw)]
  split
  ·have:x≠n:=by rintro rfl;exact h v QYz
   simp[this]
  ·rfl
theorem vJ{kindOf:Str->Option NameKind}:∀{binds:List (Str×Value)}{m:QZz},(∀v,(x,v)∉binds)->bindC kindOf binds m x=m x
 |[],_,_=>rfl
 |(n,v)::r,m,h=>by
  unfold bindC
  rw[vJ fun w hw=>h w (QYq _ hw)]
  split
  ·rfl
  ·have:x≠n:=by rintro rfl;exact h v QYz
   simp[this]
theorem vI{kindOf:Str->Option NameKind}{x:Str}{v:Value}:∀{P:List Str}{vs:List Value}{i:Nat}{m:QZz},P.Nodup->P[i]? =some x->vs[i]? =some v->kindOf x=some .local->
  bindL kindOf (P.zip vs) m x=some v
 |[],_,_,_,_,h,_,_=>by simp at h
 |_::_,[],_,_,_,_,h,_=>by simp at h
 |p::P,w::vs,0,m,nd,h1,h2,hk=>by
  simp at h1 h2;subst h1;subst h2
  show bindL kindOf ((p,w)::P.zip vs) m p=_
  unfold bindL
  rw[vH fun v hv=>(List.nodup_cons.mp nd).1 (List.of_mem_zip hv).1,if_pos hk]
  simp
 |p::P,w::vs,i+1,m,nd,h1,h2,hk=>by
  unfold bindL
  exact vI (List.nodup_cons.mp nd).2 (by simpa using h1) (by simpa using h2) hk
theorem vK{kindOf:Str->Option NameKind}{x:Str}{v:Value}:∀{P:List Str}{vs:List Value}{i:Nat}{m:QZz},P.Nodup->P[i]? =some x->vs[i]? =some v->kindOf x≠some .local->
  bindC kindOf (P.zip vs) m x=some v
 |[],_,_,_,_,h,_,_=>by simp at h
 |_::_,[],_,_,_,_,h,_=>by simp at h
 |p::P,w::vs,0,m,nd,h1,h2,hk=>by
  simp at h1 h2;subst h1;subst h2
  show bindC kindOf ((p,w)::P.zip vs) m p=_
  unfold bindC
  rw[vJ fun v hv=>(List.nodup_cons.mp nd).1 (List.of_mem_zip hv).1,if_neg hk]
  simp
 |p::P,w::vs,i+1,m,nd,h1,h2,hk=>by
  unfold bindC
  exact vK (List.nodup_cons.mp nd).2 (by simpa using h1) (by simpa using h2) hk
def start(N:List Str)(vs:List V):St:=vs.map some++List.replicate (N.length-vs.length) none
noncomputable def CZ(CX:O8)(P:Program)(w:World)(K:QQq)(mg:QZz)(base:Heap)(N:List Str)(qual:Str)(scope:Scope)(f:Addr)(cd:Value)(A:Around)(outer:List Env)(s:Shared)(H:Hp)(E:XK):Cx where
 prog:=P
 w:=w
 K:=K
 mg:=mg
 base:=base
 A:=A.deeper (envOfC qual scope s.heap.objs.size f cd)
 N:=N
 s₀:=s
 H₀:=H
 env:=envOfC qual scope s.heap.objs.size f cd
 outer:=outer
 stack:=envOfC qual scope s.heap.objs.size f cd::outer
 ex:=[]
 calm:=true
 fn:=fun _=>true
 pn:=[]
 xe:=fun e s'=>wpAny (model P w) (A.deeper (envOfC qual scope s.heap.objs.size f cd)) (leaving (envOfC qual scope s.heap.objs.size f cd) e) (fun _ s''=>CX outer H s E e s'') (fun e' s''=>CX outer H s E e' s'') s'
def z7{sc:Scope}{n:Nat}(h:sc.names.lookup x=some .cell):∃c,(cellsFrom n sc.names []).lookup x=some c:=by
 exact Option.isSome_iff_exists.mp (PySem.W.cellsFrom_some sc.names n [] (.inl h))
def Ia{CX:O8}{w:World}{K:QQq}{base:Heap}{qual:Str}{f:Addr}{A:Around}{s s1:Shared}{E:XK}
  (S:km N ps scope)(hd:A.handled=none)(e0:Je P w K mg base A outer s H)(hl:vs.length=ps.length)(r:Vals vs us)
  (x:InCallC s s.heap.objs.size (bindL (envOfC qual scope s.heap.objs.size f cd).kindOf (ps.zip us) fun _=>none) (cellsFrom (s.heap.objs.size+1) scope.names []) (bindC (envOfC qual scope s.heap.objs.size f cd).kindOf (ps.zip us) fun _=>none) s1):
  Inv (CZ CX P w K mg base N qual scope f cd A outer s H E) [] (start N vs) H s1:=by
 have hpl:ps.length<=N.length:=by have:=congrArg List.length S.pre;rw[List.length_take]at this;omega
 obtain⟨h1,tk,rfl,hk⟩:=x.done
 have noA:∀b:Addr,b∉(CZ CX P w K mg base N qual scope f cd A outer s H E).ex:=fun b z=>absurd (show b∈([])from z) (by simp)
 refine⟨⟨e0.mod,S.kind,rfl,rfl,QVz _,fun y z c h1 h2=>?_,fun y hy=>?_,fun y c _ h=>?_,fun _=>hd,Around.frames_deeper e0.frames,.inr ⟨rfl,rfl⟩,fun b z=>absurd z (noA b),e0.bs,e0.bsz,fun b _ _=>noA b,fun b z=>absurd z (noA b),e0.lu,e0.frf⟩,
  rfl,e0.bare,Un.kept hk,⟨_,x.toInCall.ns,fun i y v h1 h2 h3=>?_⟩,fun y c h=>⟨_,x.cell y c h⟩,e0.hok.fresh (QVz _),fun y c h=>?_,fun p hp=>absurd (show p∈([])from hp) (by simp),e0.hok.kept hk,?_⟩
 ·exact name_of_addr x.apart (PySem.mem_of_lookup h1) (PySem.mem_of_lookup h2)
 ·have hy:=hy
  rcases hy with hy|hy
  ·exact z7 hy
  ·exact absurd rfl (S.nofree _ (PySem.mem_of_lookup hy))
 ·exact Nat.le_of_lt (x.above y c (PySem.mem_of_lookup h))
 ·have hi:i<vs.length:=by
   unfold start at h2
   by_cases hi:i<vs.length
   ·exact hi
   ·rw[QIz (by simpa using hi)]at h2
    rw[List.getElem?_replicate]at h2
    split at h2<;>cases h2
  have ha:vs[i]? =some v:=by
   unfold start at h2
   rw[Qwz (by simpa using hi),QFz]at h2
   cases e:vs[i]? with
   |none=>rw[e]at h2;cases h2
   |some a=>rw[e]at h2;cases h2;rfl
  obtain⟨u,hu,rv⟩:=r.get ha
  have hp:ps[i]? =some y:=by
   rw[<-S.pre,List.getElem?_take_of_lt (by omega)];exact h1
  have ndP:ps.Nodup:=by rw[<-S.pre];exact S.nd.sublist (List.take_sublist _ _)
  refine⟨u,rv,?_⟩
  rcases S.par y (QBz hp)with k|k
  ·exact .inl ⟨k,vI ndP hp hu k⟩
  ·obtain⟨c,e⟩:=z7 k
   refine .inr ⟨.inl k,c,e,?_⟩
   have q:=x.cell y c e
   rw[vK ndP hp hu (by show scope.names.lookup y≠_;rw[k];decide)]at q
   exact q
 ·exact e0.hok.fresh (Nat.le_of_lt (x.above y c (PySem.mem_of_lookup h)))
 ·unfold start
  show _=N.length
  rw[QTq,QAq,List.length_replicate]
  omega
def acN{CX:O8}{w:World}{K:QQq}{base:Heap}{k:Nat}{name qual:Str}{body:List Stmt}{dV kV doc pm cdv ct oc:Value}
{N ps:List Str} (lk:K.lookup f=some ⟨oc,od,.func (PySem.W.fnOf name qual params body scope dV kV doc pm an cdv ct),osl⟩) (hcd:PySem.W.codeIn K cdv qual=true) (S:km N ps scope)
  (len:∀vs H Q E,sp vs H Q E->vs.length=ps.length)
  (hbody:∀(A:Around)(outer:List Env)(s:Shared)(H:Hp)(vs:List V)(Q:VK)(E:XK),jj k (A.deeper (envOfC qual scope s.heap.objs.size f cdv))->sp vs H Q E->
   ∃t,xT (CZ CX P w K mg base N qual scope f cdv A outer s H E) body t/\t {nx:=fun _ H'=>Q .non H',rt:=Q} (start N vs) H):
  oO P w K mg base CX (k+1) f (PySem.W.fnOf name qual params body scope dV kV doc pm an cdv ct) ps sp:=by
 refine⟨len,fun A outer s H args us vs Q E hr e0 hb r hsp=>?_⟩
 have hl:=len _ _ _ _ hsp
 have KX:=e0.mod.kin.keeps fun b o e=>(e0.bs b o e).1
 have lim:=e0.mod.nolimit.keeps fun b o e=>(e0.bs b o e).1
 have hkind:∀y∈ps.zip us,scope.names.lookup y.1=some .local\/(scope.names.lookup y.1=some .cell/\((cellsFrom (s.heap.objs.size+1) scope.names []).lookup y.1).isSome=true):=fun⟨n,v⟩hy=>by
  rcases S.par n (List.of_mem_zip hy).1 with q|q
  ·exact .inl q
  ·exact .inr ⟨q,PySem.W.cellsFrom_some _ _ _ (.inl q)⟩
 refine codeAny_call_function hr.depth (KX _ _ lk) rfl S.co S.gen rfl (PySem.W.codeRec_of KX hcd) (hb _ _ _ _ ?_)
 refine wpAny_newFunctionEnv_cells S.kind hkind fun env he s1 x=>?_
 subst he
 refine⟨lim.keeps x.toInCall.keep,codeAny_func ?_⟩
 obtain⟨t,ht,hq⟩:=hbody A outer s H vs Q E (hr.deeper _) hsp
 have I:Inv (CZ CX P w K mg base N qual scope f cdv A outer s H E) [] _ H s1:=Ia S hr.hd e0 hl r x
 refine QGq (ht [] s1 _ H _ I hq) (fun fl s' hs=>?_) fun e s' hs=>hs
 have fin:∀{ζ:St}{H':Hp}{v:V}{u:Value},Inv (CZ CX P w K mg base N qual scope f cdv A outer s H E) [] ζ H' s'->RelV v u->Q v H'->CE outer P w H s Q u s':=
  fun{ζ H' v u}J rv q=>⟨v,H',J.os,J.bare,J.base,J.hok,rv,q⟩
 cases fl with
 |ret u=>
  obtain⟨v,ζ,H',J,rv,q⟩:=hs
  exact fin J rv q
 |next=>
  obtain⟨ζ,H',J,q⟩:=hs
  exact fin (v:=V.non) J rfl q
 |brk=>
  obtain⟨_,_,_,q⟩:=hs
  exact False.elim q
 |cont=>
  obtain⟨_,_,_,q⟩:=hs
  exact False.elim q
section
variable{X:Cx}{x:Str}{p pos:Pos}{e:Expr}{es:List Expr}{t:TA}{id T:String}{r:List V->Hp->VK->Prop}
def tCB(r:List V->Hp->VK->Prop)(t:TA):TE:=fun σ H Q=>t σ H fun vs H1=>r vs H1 Q
def qM(hc:fJ X (.builtin id) r)(hg:Gl X x)(hm:X.mg x=none)(hv:bootBuiltins x=some (.builtin id))(ha:PA X (e::es) t)(hn:x≠"__name__":=by decide)(hdb:(x==("__debug__":Str))=false:=by decide)
  (he:starEach (e::es) X.env=(false,eval e X.env)::starEach es X.env:=by rfl)(hpl:(backTo pos (starEach es X.env)).any (·.1)=false:=by rfl):PE X (.Call (.Name x p) (e::es) [] pos) (tCB r t):=by
 intro γ s σ H Q I h
 exact wpAny_Call_Name_kw (iI I hg hm hv (PyProof.Rows.callWith_builtin1 (cu (ha pos γ s σ H _ I h) fun us s1⟨vs,H1,I1,r1,q1⟩=>hc γ s1 σ H1 vs us Q I1 r1 q1) he hpl) hn hdb)
def nW(hc:fJ X (.type T) r)(hg:Gl X x)(hm:X.mg x=none)(hv:bootBuiltins x=some (.type T))(ha:PA X (e::es) t)(hn:x≠"__name__":=by decide)(hdb:(x==("__debug__":Str))=false:=by decide)
  (he:starEach (e::es) X.env=(false,eval e X.env)::starEach es X.env:=by rfl)(hpl:(backTo pos (starEach es X.env)).any (·.1)=false:=by rfl):PE X (.Call (.Name x p) (e::es) [] pos) (tCB r t):=by
 intro γ s σ H Q I h
 exact wpAny_Call_Name_kw (iI I hg hm hv (PyProof.Rows.callWith_type1 (cu (ha pos γ s σ H _ I h) fun us s1⟨vs,H1,I1,r1,q1⟩=>hc γ s1 σ H1 vs us Q I1 r1 q1) he hpl) hn hdb)
end
end L2
namespace HT
open PySem PyProof.Rows
section
open PySem.SeqAt
open PySem.AutoSeq1 (wpAny_loadPart')
open PySem.MeetsSeq PySem.MeetsSeq2 PySem.MeetsSeq3
end
section
variable{prog:Program}{w:World}{A:Around}{E:QZq}{s:Shared}
def R7{vs ws:List Value}(ht:IsTup s.heap t vs.toArray)(hb:IsTup s.heap b ws.toArray)(hv:vs≠[])
  (h1:ws=[]->Q (.ref t) s)(h2:ws≠[]->Q (.ref s.heap.objs.size) {s with heap:=s.heap.push {cls:=.type "tuple",data:=.seq (vs++ws).toArray}})
  (hsz:vs.length+ws.length<=sizeLine):wpAny (model prog w) A (binaryOp .Add (.ref t) (.ref b)) Q E s:=by
 obtain⟨⟨cls,dd,data,sl⟩,ho,hc,n,hd⟩:=id ht
 obtain⟨⟨cls2,dd2,data2,sl2⟩,ho2,hc2,n2,hd2⟩:=id hb
 subst hc hd hc2 hd2
 have e:vs.toArray++ws.toArray=(vs++ws).toArray:=by simp
 by_cases hw:ws=[]
 ·exact concat_meets ⟨_,ho,rfl⟩ ⟨_,ho2,rfl⟩ noFill_tuple_add seq_tuple_add PySem.F.slot_tuple_add PySem.F.entry_tuple_add (PySem.F.args_tuple_add_2 _ _)
   (tuple_addW1 t b vs.toArray ws.toArray n n2 dd dd2 sl sl2 (by simpa using hv) (by simp[hw])) ⟨ho,ho2,h1 hw⟩
 ·refine concat_meets ⟨_,ho,rfl⟩ ⟨_,ho2,rfl⟩ noFill_tuple_add seq_tuple_add PySem.F.slot_tuple_add PySem.F.entry_tuple_add (PySem.F.args_tuple_add_2 _ _)
   (tuple_addW2 t b vs.toArray ws.toArray n n2 dd dd2 sl sl2 (by simpa using hv) (by simpa using hw) (by rw[Qyq,Qyq];exact hsz)) ⟨ho,ho2,?_⟩
  rw[e]
  exact h2 hw
noncomputable def fG(n d:Nat):Option Int->Nat
 |none=>d
 |some v=>if v<0 then(v+(n:Int)).toNat else min v.toNat n
def my n d:fG n d none=d:=rfl
def Gu v(n d:Nat):(if v<0 then max (v+(n:Int)) 0 else min v (n:Int))=((fG n d (some v):Nat):Int):=by
 show(if v<0 then max (v+n) 0 else min v n)=(((if v<0 then(v+(n:Int)).toNat else min v.toNat n):Nat))
 by_cases hv:v<0
 ·simp only[if_pos hv];omega
 ·simp only[if_neg hv];omega
def DN lo hi(n:Nat):Builtin.Slice.sliceAdjust lo hi 1 (n:Int)=(((fG n 0 lo:Nat):Int),((fG n n hi:Nat):Int)):=by
 have h1:¬(1<0):=by omega
 unfold Builtin.Slice.sliceAdjust
 refine Prod.ext ?_ ?_
 ·cases lo with
  |none=>rfl
  |some v=>exact Gu v n 0
 ·cases hi with
  |none=>rfl
  |some v=>exact Gu v n n
def BL(i j:Nat):Builtin.Slice.slicePlaces (i:Int) (j:Int) 1=j-i:=by
 unfold Builtin.Slice.slicePlaces
 split<;>omega
def qp{o:Option Int}(p:IsPart v o)(h:Q o s):wpAny (model prog w) A (Builtin.Slice.slicePartIndex v) Q E s:=by
 cases p with
 |none=>exact slicePart_none h
 |int i t=>exact slicePart_int h
def gU{sl:Addr}{lo hi:Option Int}{n:Nat}(hs:s.heap.IsSliceOf sl vl vu .none)(pl:IsPart vl lo)(pu:IsPart vu hi)
  (h:Q (((fG n 0 lo:Nat):Int),1,fG n n hi-fG n 0 lo) s):wpAny (model prog w) A (Builtin.Slice.sliceApplied (.ref sl) (pure (n:Int))) Q E s:=by
 obtain⟨os,hos,hcs,hds⟩:=id hs
 refine QKq (QKq (QGz hos hds rfl (QKq (QGz hos hds rfl (QKq (QGz hos hds rfl (QKz ?_)))))))
 refine QKq (slicePart_none ?_)
 refine QKq (qp pl (QKq (qp pu (QKq (QKz ?_)))))
 show wpAny _ _ (match Builtin.Slice.sliceAdjust lo hi 1 n with|(lo,hi)=>pure (lo,(1:Int),Builtin.Slice.slicePlaces lo hi 1)) _ _ s
 rw[DN lo hi n]
 show wpAny _ _ (pure ((fG n 0 lo:Int),1,Builtin.Slice.slicePlaces ((fG n 0 lo:Nat)) ((fG n n hi:Nat)) 1)) _ _ s
 rw[BL]
 exact QKz h
def Ku(xs:Array Value)(i k:Nat):((List.range k).filterMap fun(m:Nat)=>xs[((i:Int)+(m:Int)*1).toNat]?).toArray=((xs.toList.drop i).take k).toArray:=by
 have e:(fun(m:Nat)=>xs[(i+(m:Int)*1).toNat]?)=fun m=>xs[i+m]? :=by
  funext m
  have:(i+(m:Int)*1).toNat=i+m:=by omega
  rw[this]
 rw[e]
 have:=pick_run xs i k
 rw[List.filterMap_map]at this
 have e2:((fun x=>xs[x]?)∘fun x=>i+x)=fun m=>xs[i+m]? :=rfl
 rw[e2]at this
 rw[this]
theorem mR{t sl:Addr}{vl vu:Value}{lo hi:Option Int}(ht:IsTup s.heap t items)(hs:s.heap.IsSliceOf sl vl vu .none)(pl:IsPart vl lo)(pu:IsPart vu hi)
  (hw:¬(fG items.size 0 lo=0/\fG items.size items.size hi=items.size))
  (h:Q (.ref s.heap.objs.size) {s with heap:=s.heap.push {cls:=.type "tuple",data:=.seq ((items.toList.drop (fG items.size 0 lo)).take (fG items.size items.size hi-fG items.size 0 lo)).toArray}})
  (hsz:items.size<=sizeLine):wpAny (model prog w) A (getItem (.ref t) (.ref sl)) Q E s:=by
 have htake:sizeOk (.seq ((items.toList.drop (fG items.size 0 lo)).take (fG items.size items.size hi-fG items.size 0 lo)).toArray):=by
  show((items.toList.drop _).take _).toArray.size<=sizeLine
  rw[Qyq,List.length_take,List.length_drop,Array.length_toList]
  omega
 obtain⟨os,hos,hcs,hds⟩:=id hs
 unfold getItem
 try with_reducible refine Qqq ?_
 first|refine QKq _|skip
 refine QKq (wpAny_sequenceKey ht.typeIs (by decide) ?_)
 refine QKq (wpAny_callSpecial?_slot ht.typeIs PyProof.Rows.slot_tuple_getitem
  (Qzz PyProof.Rows.slot_tuple_getitem ht.typeIs entry_tuple_getitem ?_ (args_tuple_getitem _ _)))
 show wpAny _ _ (Builtin.Tuple.tupleItemsOf _>>=_) _ _ s
 refine QKq (tupleItemsOf_ ht ?_)
 refine QKq (wpAny_typeOf ⟨os,hos,hcs⟩ ?_)
 refine QKq (gU hs pl pu ?_)
 have hno:¬((((fG items.size 0 lo):Int)==0&&(1:Int)==1&&(fG items.size items.size hi-fG items.size 0 lo)==items.size)=true):=by
  intro q
  rw[QUq,QUq]at q
  have q1:=eq_of_beq q.1.1
  have q2:=eq_of_beq q.2
  exact hw ⟨by omega,by omega⟩
 show wpAny _ _ (if (((fG items.size 0 lo):Int)==0&&1==1&&_==items.size)=true then _ else _) _ _ s
 rw[if_neg hno,Ku]
 first
  |exact QKq (Qjq (QKz ⟨_,rfl,QKz h⟩) htake)
  |exact QKq _
  |exact QKq (QKq _)
  |exact QKq (QKq _)
end
end HT
namespace L2
open PySem PySem.Spec PyProof.Rows
abbrev TO:=St->Hp->(Option Int->Hp->Prop)->Prop
def PO(X:Cx)(e:Option Expr)(t:TO):Prop:=
 ∀(γ:QQz)(s:Shared)(σ:St)(H:Hp)(Q:Option Int->Hp->Prop),Inv X γ σ H s->t σ H Q->
  wpAny (model X.prog X.w) X.A (evalPart e X.env) (fun u s'=>∃o H',Inv X γ σ H' s'/\IsPart u o/\Q o H') X.xe s
def Qc:TO:=fun _ H Q=>Q none H
def aaS(t:TE):TO:=fun σ H Q=>t σ H fun x H1=>∃i,x=.int i/\Q (some i) H1
section
variable{X:Cx}{e:Expr}{te:TE}{lo hi:Option Expr}{tl th:TO}{pos p2:Pos}
def QS:PO X none Qc:=by
 intro γ s σ H Q I h
 exact QKz ⟨none,H,I,.none,h⟩
def QR(h:PE X e te):PO X (some e) (aaS te):=by
 intro γ s σ H Q I hw
 refine cu (h γ s σ H _ I hw) fun u s1⟨x,H1,I1,r1,q1⟩=>?_
 obtain⟨i,rfl,q⟩:=q1
 obtain⟨t,rfl⟩:=r1
 exact⟨some i,H1,I1,.int i t,q⟩
def SN(X:Cx)(r:V->Option Int->Option Int->Hp->VK->Prop):Prop:=
 ∀(γ:QQz)(s:Shared)(σ:St)(H:Hp)(x:V)(v vl vu:Value)(lo hi:Option Int)(sl:Addr)(Q:VK),Inv X γ σ H s->RelV x v->s.heap.IsSliceOf sl vl vu .none->IsPart vl lo->IsPart vu hi->r x lo hi H Q->
  ∃T id,typeLookup (.type T) "__getitem__"=pure (some (.builtin id))/\s.TypeIs v T/\wpAny (model X.prog X.w) X.A (getItem v (.ref sl)) (EP X γ σ Q) X.xe s
def SN.or{r r':V->Option Int->Option Int->Hp->VK->Prop}(h:SN X r)(h':SN X r'):SN X (fun x lo hi H Q=>r x lo hi H Q\/r' x lo hi H Q):=by
 intro γ s σ H x v vl vu lo hi sl Q I rx hs pl pu q
 rcases q with q|q
 ·exact h γ s σ H x v vl vu lo hi sl Q I rx hs pl pu q
 ·exact h' γ s σ H x v vl vu lo hi sl Q I rx hs pl pu q
noncomputable def tSl(r:V->Option Int->Option Int->Hp->VK->Prop)(te:TE)(tl th:TO):TE:=fun σ H Q=>te σ H fun x H1=>tl σ H1 fun l H2=>th σ H2 fun u H3=>r x l u H3 Q
def KD(hr:SN X r)(he:PE X e te)(hl:PO X lo tl)(hu:PO X hi th):PE X (.Subscript e (.Slice lo hi none p2) pos) (tSl r te tl th):=by
 intro γ s σ H Q I h
 refine Subscript_ (cu (he γ s σ H _ I h) fun v s1⟨x,H1,I1,r1,q1⟩=>?_)
 refine wpAny_Slice (cu (hl γ s1 σ H1 _ I1 q1) fun vl s2⟨l,H2,I2,pl,q2⟩=>cu (hu γ s2 σ H2 _ I2 q2) fun vu s3⟨u,H3,I3,pu,q3⟩=>?_)
 refine QKz ?_
 obtain⟨T,id,hT,ht,hg⟩:=hr γ {s3 with heap:=s3.heap.push {cls:=.type "slice",data:=.fields #[vl,vu,.none]}} σ H3 x v vl vu l u s3.heap.objs.size Q (I3.kept fun b ob q=>QWq _ q) r1 (Heap.IsSliceOf.new ..) pl pu q3
 exact tail_any ht hT hg (by with_unfolding_all rfl)
noncomputable def xF(xs:List V)(lo hi:Option Int):List V:=(xs.drop (HT.fG xs.length 0 lo)).take (HT.fG xs.length xs.length hi-HT.fG xs.length 0 lo)
def o6 xs lo hi:(xF xs lo hi).length<=xs.length:=by
 unfold xF
 rw[List.length_take,List.length_drop]
 omega
noncomputable def aby(K:QQq):V->Option Int->Option Int->Hp->VK->Prop:=fun x lo hi H Q=>∃a xs,x=.ref a/\jg K H a xs/\
 ¬(HT.fG xs.length 0 lo=0/\HT.fG xs.length xs.length hi=xs.length)/\∀p,H p=none->Q (.ref p) (upd H p (.tup (xF xs lo hi)))
def Wf:SN X (aby X.K):=by
 intro γ s σ H x v vl vu lo hi sl Q I rx hs pl pu h
 obtain⟨a,xs,rfl,hx,hw,q⟩:=h
 cases rx
 obtain⟨its,r,ht,hz⟩:=I.tuple hx
 have hlen:its.toArray.size=xs.length:=by rw[Qyq];exact r.length.symm
 refine⟨"tuple",_,PyProof.Rows.slot_tuple_getitem.lookup,ht.typeIs,?_⟩
 refine HT.mR ht hs pl pu (by rw[hlen];exact hw) ?_ (by rw[hlen];exact hz)
 rw[hlen]
 refine⟨.ref s.heap.objs.size,_,I.laid (fun b ob q=>QWq _ q) (QVz _) ?_,rfl,q _ (I.hok.fresh (QVz _))⟩
 exact⟨Nat.le_trans (o6 xs lo hi) hz,_,(r.drop _).take _,TupOk.new _ _⟩
noncomputable def abI(K:QQq):R2:=fun x y H Q=>∃a b xs ys,x=.ref a/\y=.ref b/\jg K H a xs/\jg K H b ys/\xs≠[]/\xs.length+ys.length<=sizeLine/\
 (ys=[]->Q (.ref a) H)/\(ys≠[]->∀p,H p=none->Q (.ref p) (upd H p (.tup (xs++ys))))
def Vals.bL{us:List Value}(r:Vals xs us):us=[]↔xs=[]:=by
 cases r with
 |nil=>simp
 |cons _ _=>simp
def Ra:fM X (binaryOp .Add) (abI X.K):=by
 intro γ s σ H x y v u Q I rx ry h
 obtain⟨a,b,xs,ys,rfl,rfl,ha,hb,hx,hz,q1,q2⟩:=h
 cases rx
 cases ry
 obtain⟨its,r1,p1,_⟩:=I.tuple ha
 obtain⟨its2,r2,p2,_⟩:=I.tuple hb
 refine HT.R7 p1 p2 (fun z=>hx (r1.bL.mp z)) (fun z=>⟨.ref a,H,I,rfl,q1 (r2.bL.mp z)⟩) (fun z=>?_) (by rw[<-r1.length,<-r2.length];exact hz)
 refine⟨.ref s.heap.objs.size,_,I.laid (fun b ob q=>QWq _ q) (QVz _) ?_,rfl,q2 (fun w=>z (r2.bL.mpr w)) _ (I.hok.fresh (QVz _))⟩
 exact⟨by rw[QTq];exact hz,_,r1.append r2,TupOk.new _ _⟩
end
noncomputable def Rw(n:Nat)(i:Int):Option Nat:=if 0<=i then(if i<n then some i.toNat else none)else if-(n:Int)<=i then some (i+n).toNat else none
def Y9{α:Type}(xs:List α)(i:Int):Option α:=(Rw xs.length i).bind fun j=>xs[j]?
def FQ{i:Int}(h:Rw n i=some j):seqIndex? i n=some j/\j<n/\ -(n:Int)<=i/\i<n:=by
 unfold Rw at h
 by_cases h0:0<=i
 ·rw[if_pos h0]at h
  by_cases h1:i<n
  ·rw[if_pos h1]at h
   have e:=QEq h
   exact⟨by rw[seqIndex_of h0 h1,e],by omega,by omega,h1⟩
  ·rw[if_neg h1]at h;cases h
 ·rw[if_neg h0]at h
  by_cases h1: -n<=i
  ·rw[if_pos h1]at h
   have e:=QEq h
   exact⟨by rw[seqIndex_neg (by omega) h1,e],by omega,h1,by omega⟩
  ·rw[if_neg h1]at h;cases h
def xQ{xs:List α}{v:α}(h:Y9 xs i=some v):∃j,seqIndex? i xs.length=some j/\xs[j]? =some v/\j<xs.length/\ -(xs.length:Int)<=i/\i<xs.length:=by
 unfold Y9 at h
 cases e:Rw xs.length i with
 |none=>rw[e]at h;cases h
 |some j=>
  rw[e]at h
  obtain⟨h1,h2,h3,h4⟩:=FQ e
  exact⟨j,h1,h,h2,h3,h4⟩
def xR(b:Expr):Prop:=∀o i,subscripted b false o i=operate [o,i] (getItem o i)
def Jh(X:Cx)(r:R2):Prop:=
 ∀(value slice:Expr)(γ:QQz)(s:Shared)(σ:St)(H:Hp)(x y:V)(v u:Value)(Q:VK),Inv X γ σ H s->RelV x v->RelV y u->r x y H Q->
  subscripted slice false v u=operate [v,u] (getItem v u)->wpAny (model X.prog X.w) X.A (subscriptTail value slice v u) (EP X γ σ Q) X.xe s
def MtR(X:Cx)(id:String)(r:V->List V->Hp->VK->Prop):Prop:=
 ∀(γ:QQz)(s:Shared)(σ:St)(H:Hp)(x:V)(xs:List V)(v:Value)(us:List Value)(Q:VK),Inv X γ σ H s->RelV x v->Vals xs us->r x xs H Q->
  wpAny (model X.prog X.w) X.A (call (.builtin id) (v::us)) (EP X γ σ Q) X.xe s
section
variable{X:Cx}{a b:Expr}{ta tb:TE}{pos:Pos}
def Jh.or{r r':R2}(h:Jh X r)(h':Jh X r'):Jh X (fun x y H Q=>r x y H Q\/r' x y H Q):=by
 intro value slice γ s σ H x y v u Q I rx ry q hs
 rcases q with q|q
 ·exact h value slice γ s σ H x y v u Q I rx ry q hs
 ·exact h' value slice γ s σ H x y v u Q I rx ry q hs
def Uj(hr:Jh X r)(ha:PE X a ta)(hb:PE X b tb)(hs:xR b):PE X (.Subscript a b pos) (ZD r ta tb):=by
 intro γ s σ H Q I h
 exact Subscript_ (Y7 ha hb I h fun v u s2 x y H2 I2 rx ry q=>hr a b γ s2 σ H2 x y v u Q I2 rx ry q (hs _ _))
noncomputable def WD(K:QQq):R2:=fun x y H Q=>∃p xs i v,x=.ref p/\y=.int i/\jm K H p xs/\Y9 xs i=some v/\Q v H
noncomputable def Wz(K:QQq):R2:=fun x y H Q=>∃p xs i v,x=.ref p/\y=.int i/\jg K H p xs/\Y9 xs i=some v/\Q v H
noncomputable def Kd:R2:=fun x y H Q=>∃z i c,x=.str z/\y=.int i/\z.length<=sizeLine/\Y9 z.cps.toList i=some c/\Q (.str ⟨#[c]⟩) H
def FP:Jh X (WD X.K):=by
 intro value slice γ s σ H x y v u Q I rx ry h hs
 obtain⟨p,xs,i,z,rfl,rfl,hq,he,q⟩:=h
 cases rx
 obtain⟨t,rfl⟩:=ry
 obtain⟨its,r,pl,hz⟩:=I.list hq
 obtain⟨j,h1,h2,h3,h4,h5⟩:=xQ he
 obtain⟨w,ew,rw'⟩:=r.get h2
 have hl:=r.length
 have hn:=wI
 have fin:EP X γ σ Q w s:=⟨z,H,I,rw',q⟩
 by_cases h0:0<=i
 ·have hj:i.toNat=j:=by
   rw[seqIndex_of h0 h5]at h1
   exact QEq h1
  exact item_listR pl.isList h0 (by omega) (by rw[hj];simpa using ew) fin hs
 ·have hj:(i+its.toArray.size).toNat=j:=by
   rw[seqIndex_neg (by omega) h4]at h1
   rw[Qyq,<-hl]
   exact QEq h1
  exact subscriptTail_builtinR pl.isList.typeIs slot_list_getitem.lookup
   (wpAny_getItem_list_neg pl.isList (by omega) (by rw[Qyq]<;>omega) (by omega) (by rw[hj];simpa using ew) ⟨rfl,fin⟩) hs
def LQ:Jh X (Wz X.K):=by
 intro value slice γ s σ H x y v u Q I rx ry h hs
 obtain⟨p,xs,i,z,rfl,rfl,hq,he,q⟩:=h
 cases rx
 obtain⟨t,rfl⟩:=ry
 obtain⟨its,r,pl,hz⟩:=I.tuple hq
 obtain⟨j,h1,h2,h3,h4,h5⟩:=xQ he
 obtain⟨w,ew,rw'⟩:=r.get h2
 have hn:=wI
 exact subscriptTail_builtinR pl.typeIs slot_tuple_getitem.lookup
  (getItem_tuple pl (by omega) (by omega) (by rw[Qyq,<-r.length];exact h1) (by simpa using ew) ⟨rfl,⟨z,H,I,rw',q⟩⟩) hs
def XR:Jh X Kd:=by
 intro value slice γ s σ H x y v u Q I rx ry h hs
 obtain⟨z,i,c,rfl,rfl,hz,he,q⟩:=h
 obtain⟨t,rfl⟩:=rx
 obtain⟨t',rfl⟩:=ry
 obtain⟨j,h1,h2,h3,h4,h5⟩:=xQ he
 have hl:z.cps.toList.length=z.length:=by simp[Str.length]
 rw[hl]at h1 h4 h5
 have hn:=wI
 exact tail_any (typeIs_str s z t) slot_str_getitem.lookup (getItem_str (c:=c) (by
  have e1:decide (i< -(2 ^63:Int))=false:=QEz (by omega)
  have e2:decide (i>=2 ^63)=false:=QEz (by omega)
  rw[e1,e2,Bool.or_false]) (by rw[h1];simpa using h2) ⟨.str ⟨#[c]⟩,H,I.tok _,⟨_,rfl⟩,q⟩) hs
def rIx(K:QQq):R2:=fun x y H Q=>WD K x y H Q\/Wz K x y H Q\/Kd x y H Q
def LR:Jh X (rIx X.K):=FP.or (LQ.or XR)
def Cd(its:List Value)n j u:Obj.mapSeq (·.setIfInBounds j u) {cls:=.type "list",data:=.seq its.toArray n}={cls:=.type "list",data:=.seq (its.set j u).toArray n}:=by
 simp[Obj.mapSeq]
theorem Inv.lst{γ:QQz}{σ:St}{H:Hp}{s:Shared}{p:Addr}{xs:List V}(I:Inv X γ σ H s)(h:H p=some (.lst xs)):
  ∃(its:List Value)(n:Nat),Vals xs its/\s.heap.get? p=some {cls:=.type "list",data:=.seq its.toArray n}/\xs.length<=sizeLine:=by
 obtain⟨z,its,n,r,e⟩:=I.hok p _ h
 exact⟨its,n,r,e,z⟩
def Inv.Xu{σ:St}{H:Hp}{p:Addr}{its its':List Value}{n n':Nat}(I:Inv X γ σ H s)(h:H p=some (.lst xs))
  (ho:s.heap.get? p=some {cls:=.type "list",data:=.seq its.toArray n})(hf:f {cls:=.type "list",data:=.seq its.toArray n}={cls:=.type "list",data:=.seq its'.toArray n'})(r:Vals ys its')(hz:ys.length<=sizeLine)t:
  Inv X γ σ (upd H p (.lst ys)) {s with heap:=s.heap.update p f,toks:=t}:=by
 have e:(s.heap.update p f).get? p=some {cls:=.type "list",data:=.seq its'.toArray n'}:=by
  rw[Heap.get?_update_self f ho (by rw[hf]<;>rfl),hf]
 refine I.write (by rw[h];trivial) (.inl rfl) (fun b u hb q=>(Heap.get?_update_other _ _ (Ne.symm hb)).trans q) ⟨_,e⟩ ?_
 exact⟨hz,its',n',r,e⟩
noncomputable def T8:V->V->V->Hp->(Hp->Prop)->Prop:=fun o i v H Q=>∃p xs k j,o=.ref p/\i=.int k/\H p=some (.lst xs)/\Rw xs.length k=some j/\Q (upd H p (.lst (xs.set j v)))
def set_list:Jc X T8:=by
 intro γ s σ H o i v ov iv u Q I ro ri rv h
 obtain⟨p,xs,k,j,rfl,rfl,hp,hj,q⟩:=h
 cases ro
 obtain⟨t,rfl⟩:=ri
 obtain⟨its,n,r,ho,hz⟩:=I.lst hp
 obtain⟨h1,h2,h3,h4⟩:=FQ hj
 have hl:=r.length
 have hn:=wI
 have I':=
  I.Xu hp ho (Cd its n j u) (r.set rv j) (by rw[List.length_set];exact hz) s.toks
 by_cases h0:0<=k
 ·have hk:k.toNat=j:=by
   rw[seqIndex_of h0 h4]at h1
   exact QEq h1
  exact PySem.W.ki_setAt ho h0 (by omega) (by rw[Qyq,<-hl];exact h4) (by rw[hk];exact⟨_,I',q⟩)
 ·have hk:(k+its.toArray.size).toNat=j:=by
   rw[seqIndex_neg (by omega) h3]at h1
   rw[Qyq,<-hl]
   exact QEq h1
  exact PySem.W.ki_setBack ho (by omega) (by rw[Qyq,<-hl];exact h3) (by omega) (by rw[hk];exact⟨_,I',q⟩)
def v5 lo hi n:(sliceBounds lo hi none n).1=((HT.fG n 0 lo:Nat):Int)/\(sliceBounds lo hi none n).2.1=((HT.fG n n hi:Nat):Int)/\(sliceBounds lo hi none n).2.2=1:=by
 refine⟨?_,?_,rfl⟩
 ·cases lo with
  |none=>simp[sliceBounds,HT.fG]
  |some i=>
   simp only[sliceBounds,HT.fG,Option.getD_none,show 1>0 by decide,if_true]
   by_cases h:i<0
   ·simp only[h,if_true]<;>omega
   ·simp only[h,if_false]<;>omega
 ·cases hi with
  |none=>simp[sliceBounds,HT.fG]
  |some i=>
   simp only[sliceBounds,HT.fG,Option.getD_none,show 1>0 by decide,if_true]
   by_cases h:i<0
   ·simp only[h,if_true]<;>omega
   ·simp only[h,if_false]<;>omega
def tK(its:List Value)lo hi:slicePick its.toArray lo hi none=((its.drop (HT.fG its.length 0 lo)).take (HT.fG its.length its.length hi-HT.fG its.length 0 lo)).toArray:=by
 obtain⟨h1,h2,h3⟩:=v5 lo hi its.toArray.size
 unfold slicePick
 rw[h1,h2,h3]
 simp only[sliceRange_one,pick_run,Qyq]<;>rfl
noncomputable def abz(K:QQq):V->Option Int->Option Int->Hp->VK->Prop:=fun x lo hi H Q=>∃a xs,x=.ref a/\jm K H a xs/\∀p,H p=none->Q (.ref p) (upd H p (.lst (xF xs lo hi)))
def Qg:SN X (abz X.K):=by
 intro γ s σ H x v vl vu lo hi sl Q I rx hs pl pu h
 obtain⟨a,xs,rfl,hx,q⟩:=h
 cases rx
 obtain⟨its,r,ht,hz⟩:=I.list hx
 have hlen:=r.length
 refine⟨"list",_,slot_list_getitem.lookup,ht.isList.typeIs,?_⟩
 refine wpAny_getItem_list_slice ht.isList hs pl pu .none (by simp) ?_ (by rw[Qyq]<;>omega)
 rw[tK,<-hlen]
 refine⟨.ref s.heap.objs.size,_,I.laid (fun b ob q=>QWq _ q) (QVz _) ?_,rfl,q _ (I.hok.fresh (QVz _))⟩
 exact⟨Nat.le_trans (o6 xs lo hi) hz,_,0,(r.drop _).take _,Qzq _ rfl⟩
def jf:V->Bool
 |.non=>true
 |.bl _=>true
 |.int _=>true
 |.str _=>true
 |_=>false
noncomputable def M9:V->V->Bool
 |.non,.non=>true
 |.bl a,.bl b=>a==b
 |.bl a,.int b=>(if a then 1 else 0)==b
 |.int a,.bl b=>a==(if b then 1 else 0)
 |.int a,.int b=>a==b
 |.str a,.str b=>a==b
 |_,_=>false
def YM{s:Shared}{u v:Value}(ry:RelV y u)(rx:RelV x v)(fy:jf y=true)(fx:jf x=true):SeqAt.EqAt A s u v (M9 y x):=by
 cases y with
 |non=>
  cases ry
  cases x with
  |non=>cases rx;exact SeqAt.EqAt.same _
  |bl b=>cases rx;exact SeqAt.EqAt.none_bool b
  |int b=>obtain⟨t,rfl⟩:=rx;exact SeqAt.EqAt.none_int b t
  |str b=>obtain⟨t,rfl⟩:=rx;exact SeqAt.EqAt.none_str b t
  |_=>exact absurd (fx) Qjz
 |bl a=>
  cases ry
  cases x with
  |non=>cases rx;exact SeqAt.EqAt.bool_none a
  |bl b=>cases rx;exact SeqAt.EqAt.bool_bool a b
  |int b=>obtain⟨t,rfl⟩:=rx;exact SeqAt.EqAt.bool_int a b t
  |str b=>obtain⟨t,rfl⟩:=rx;exact SeqAt.EqAt.bool_str a b t
  |_=>exact absurd (fx) Qjz
 |int a=>
  obtain⟨t',rfl⟩:=ry
  cases x with
  |non=>cases rx;exact SeqAt.EqAt.int_none a t'
  |bl b=>cases rx;exact SeqAt.EqAt.int_bool a t' b
  |int b=>obtain⟨t,rfl⟩:=rx;exact SeqAt.EqAt.int_int a t' b t
  |str b=>obtain⟨t,rfl⟩:=rx;exact SeqAt.EqAt.int_str a t' b t
  |_=>exact absurd (fx) Qjz
 |str a=>
  obtain⟨t',rfl⟩:=ry
  cases x with
  |non=>cases rx;exact SeqAt.EqAt.str_none a t'
  |bl b=>cases rx;exact SeqAt.EqAt.str_bool a t' b
  |int b=>obtain⟨t,rfl⟩:=rx;exact SeqAt.EqAt.str_int a t' b t
  |str b=>obtain⟨t,rfl⟩:=rx;exact SeqAt.EqAt.str_str a t' b t
  |_=>exact absurd (fx) Qjz
 |_=>exact absurd (fy) Qjz
noncomputable def Vb(x:V)(u:Value):Bool:=match u with
 |.none=>M9 .non x
 |.bool b=>M9 (.bl b) x
 |.int i _=>M9 (.int i) x
 |.str z _=>M9 (.str z) x
 |_=>false
def CP{u:Value}(r:RelV y u)(f:jf y=true):Vb x u=M9 y x:=by
 cases y with
 |non=>cases r;rfl
 |bl b=>cases r;rfl
 |int i=>obtain⟨t,rfl⟩:=r;rfl
 |str z=>obtain⟨t,rfl⟩:=r;rfl
 |_=>exact absurd (f) Qjz
theorem m6{x:V}:∀{xs:List V}{us:List Value},Vals xs us->xs.all jf=true->us.any (Vb x)=xs.any fun y=>M9 y x
 |_,_,.nil=>fun _=>rfl
 |y::xs,u::us,.cons r t=>fun f=>by
  rw[List.all_cons,QUq]at f
  rw[List.any_cons,List.any_cons,CP r f.1,m6 t f.2]
theorem gb{A:Around}{s:Shared}{x:V}{v:Value}(rx:RelV x v)(fx:jf x=true):∀{xs:List V}{us:List Value},Vals xs us->xs.all jf=true->∀u∈us,SeqAt.EqAt A s u v (Vb x u)
 |_,_,.nil=>fun _=>fun u hu=>by cases hu
 |y::xs,u::us,.cons r t=>fun f=>fun u' hu=>by
  rw[List.all_cons,QUq]at f
  rcases QCq.mp hu with rfl|hu
  ·rw[CP r f.1];exact YM r rx f.1 fx
  ·exact gb rx fx t f.2 u' hu
def inV(x:V)(xs:List V):Bool:=xs.any fun y=>M9 y x
noncomputable def rIn(K:QQq)(neg:Bool):R2:=fun x y H Q=>∃p xs,y=.ref p/\(jm K H p xs\/jg K H p xs)/\jf x=true/\xs.all jf=true/\Q (.bl (if neg then !inV x xs else inV x xs)) H
def Hw:fM X (compareOp .In) (rIn X.K false):=by
 intro γ s σ H x y v u Q I rx ry h
 obtain⟨p,xs,rfl,hq,fx,fs,q⟩:=h
 cases ry
 rcases hq with hq|hq
 ·obtain⟨its,r,pl,hz⟩:=I.list hq
  refine SeqAt.in_listAt _ pl.isList (fun w hw=>gb rx fx r fs w (by simpa using hw)) ⟨.bl _,H,I,rfl,?_⟩
  rw[show its.toArray.any _=its.any (Vb x) by simp,m6 r fs]
  exact q
 ·obtain⟨its,r,pl,hz⟩:=I.tuple hq
  refine SeqAt.in_tupleAt _ pl (fun w hw=>gb rx fx r fs w (by simpa using hw)) ⟨.bl _,H,I,rfl,?_⟩
  rw[show its.toArray.any _=its.any (Vb x) by simp,m6 r fs]
  exact q
def wz:fM X (compareOp .NotIn) (rIn X.K true):=by
 intro γ s σ H x y v u Q I rx ry h
 obtain⟨p,xs,rfl,hq,fx,fs,q⟩:=h
 cases ry
 rcases hq with hq|hq
 ·obtain⟨its,r,pl,hz⟩:=I.list hq
  refine SeqAt.notIn_listAt _ pl.isList (fun w hw=>gb rx fx r fs w (by simpa using hw)) ⟨.bl _,H,I,rfl,?_⟩
  rw[show its.toArray.any _=its.any (Vb x) by simp,m6 r fs]
  exact q
 ·obtain⟨its,r,pl,hz⟩:=I.tuple hq
  refine SeqAt.notIn_tupleAt _ pl (fun w hw=>gb rx fx r fs w (by simpa using hw)) ⟨.bl _,H,I,rfl,?_⟩
  rw[show its.toArray.any _=its.any (Vb x) by simp,m6 r fs]
  exact q
def xM:fJ X (.type "list") (fun xs H Q=>∃p ys,xs=[.ref p]/\(jm X.K H p ys\/jg X.K H p ys)/\∀l,H l=none->Q (.ref l) (upd H l (.lst ys))):=by
 intro γ s σ H xs us Q I r h
 obtain⟨p,ys,rfl,hq,q⟩:=h
 obtain⟨u,rfl,rx⟩:=vals1 r
 cases rx
 have fin:∀its,Vals ys its->ys.length<=sizeLine->∀h' c',_->
   h'.get? s.heap.objs.size=some {cls:=.type "list",dict:=none,data:=.seq its.toArray c',slots:= #[]}->EP X γ σ Q _ {s with heap:=h'}:=fun its r' hz h' c' kp e=>
  ⟨.ref s.heap.objs.size,_,I.laid kp (QVz _) (show b8 X.prog X.w _ h' _ (.lst ys)from⟨hz,its,c',r',e⟩),rfl,q _ (I.hok.fresh (QVz _))⟩
 rcases hq with hq|hq
 ·obtain⟨its,r',pl,hz⟩:=I.list hq
  have hlen:=r'.length
  obtain⟨o,ho,hc,n,hd⟩:=pl.isList
  exact call_list_seq p (.inl rfl) ho hc hd (fun h' c' kp e=>fin its r' hz h' c' kp e) (by simp only[Qyq]<;>omega)
 ·obtain⟨its,r',pl,hz⟩:=I.tuple hq
  have hlen:=r'.length
  obtain⟨o,ho,hc,n,hd⟩:=pl
  exact call_list_seq p (.inr rfl) ho hc hd (fun h' c' kp e=>fin its r' hz h' c' kp e) (by simp only[Qyq]<;>omega)
def uc:fJ X (.type "tuple") (fun xs H Q=>∃p ys,xs=[.ref p]/\((jm X.K H p ys/\∀l,H l=none->Q (.ref l) (upd H l (.tup ys)))\/(jg X.K H p ys/\Q (.ref p) H))):=by
 intro γ s σ H xs us Q I r h
 obtain⟨p,ys,rfl,h⟩:=h
 obtain⟨u,rfl,rx⟩:=vals1 r
 cases rx
 rcases h with ⟨hq,q⟩|⟨hq,q⟩
 ·obtain⟨its,r',pl,hz⟩:=I.list hq
  have hlen:=r'.length
  refine call_tuple_list pl.isList (fun h' kp=>?_) (by simp only[Qyq]<;>omega)
  have I1:=I.kept (t':=s.toks) kp
  have I2:=
   I1.laid (t':=s.toks) (fun b o e=>QWq _ e) (QVz _) (show b8 X.prog X.w _ _ _ (.tup ys)from⟨hz,its,r',TupOk.new _ _⟩)
  exact⟨.ref h'.objs.size,_,I2,rfl,q _ (I1.hok.fresh (QVz _))⟩
 ·obtain⟨its,r',pl,hz⟩:=I.tuple hq
  exact call_tuple_same pl ⟨.ref p,H,I,rfl,q⟩
def tyV(K:QQq)(T:String)(x:V)(H:Hp):Prop:=match x with
 |.str _=>T="str"
 |.int _=>T="int"
 |.ref p=>(T="list"/\∃xs,jm K H p xs)\/(T="tuple"/\∃o,K.lookup p=some o/\o.cls=.type "tuple"/\o.dict=none)
 |_=>False
theorem VL{σ:St}{H:Hp}{T:String}{x:V}(I:Inv X γ σ H s)(r:RelV x v)(ty:tyV X.K T x H):
  s.TypeIs v T/\∀a,v=.ref a->∃ob,s.heap.get? a=some ob/\ob.dict=none:=by
 cases x with
 |str z=>
  obtain⟨t,rfl⟩:=r
  cases (ty)
  exact⟨typeIs_str s z t,fun _ e=>nomatch e⟩
 |int i=>
  obtain⟨t,rfl⟩:=r
  cases (ty)
  exact⟨typeIs_int s i t,fun _ e=>nomatch e⟩
 |ref p=>
  cases r
  rcases ty with ⟨rfl,xs,hq⟩|⟨rfl,o,hk,hc,hd⟩
  ·obtain⟨its,_,pl,_⟩:=I.list hq
   refine⟨pl.isList.typeIs,fun a e=>?_⟩
   cases e
   obtain⟨o,n,e,c,hd,_⟩:=pl
   exact⟨o,e,hd⟩
  ·refine⟨⟨o,I.ZQ p o hk,hc⟩,fun a e=>?_⟩
   cases e
   exact⟨o,I.ZQ _ o hk,hd⟩
 |_=>exact False.elim ty
noncomputable def tBM(K:QQq)(T:String)(r:V->List V->Hp->VK->Prop)(to:TE)(t:TA):TE:=fun σ H Q=>to σ H fun x H1=>tyV K T x H1/\t σ H1 fun xs H2=>r x xs H2 Q
variable{o e:Expr}{es:List Expr}{to:TE}{t:TA}{name:Str}{apos cpos:Pos}{T id:String}{r:V->List V->Hp->VK->Prop}
def abT(pa:PlainAttrs T)(slot:Slot T name id)(hty:typeOf (.builtin id)=pure (.type "method_descriptor"))(hm:MtR X id r)(ho:PE X o to)(ha:PA X (e::es) t)
  (hbase:attributeBase o name X.env (eval o X.env)=eval o X.env:=by rfl)
  (hfew:((backTo cpos (starEach (e::es) X.env)).all (fun x=> !x.1)&&(backToKw cpos (keywordEach [] X.env)).all (fun x=>x.1.isSome)
   &&decide ((e::es).length+([]:List Keyword).length+(if ([]:List Keyword).isEmpty then 0 else 1)<30))=true:=by rfl)
  (hline:(apos.endLine==cpos.line)=true:=by rfl)(hs:starEach (e::es) X.env=(false,eval e X.env)::starEach es X.env:=by rfl)(hplain:(backTo cpos (starEach es X.env)).any (·.1)=false:=by rfl):
  PE X (.Call (.Attribute o name apos) (e::es) [] cpos) (tBM X.K T r to t):=by
 intro γ s σ H Q I h
 refine wpAny_Call_method_late hbase hfew hline rfl (cu (ho γ s σ H _ I h) fun v s1⟨x,H1,I1,r1,ty,q1⟩=>?_)
 obtain⟨h1,h2⟩:=VL I1 r1 ty
 refine⟨T,id,pa,slot,hty,h1,h2,?_⟩
 have hA:=ha cpos γ s1 σ H1 _ I1 q1
 rw[hs]at hA⊢
 exact Calls.callWith_builtin (by show(false||(backTo cpos _).any (·.1))=false;rw[hplain]<;>rfl) (Calls.evalArgs_plain (cu hA fun us s2⟨vs,H2,I2,r2,q2⟩=>hm γ s2 σ H2 x vs v us Q I2 r1 r2 q2))
end
def MtM(X:Cx)(id:String)(r:V->List V->Hp->VK->Prop):Prop:=
 ∀(γ:QQz)(s:Shared)(σ:St)(H:Hp)(x:V)(xs:List V)(v:Value)(us:List Value)(Q:VK),Inv X γ σ H s->RelV x v->Vals xs us->r x xs H Q->
  wpAny (model X.prog X.w) X.A (call (.builtin id) (v::us)) (EP X γ σ Q) X.xe s
theorem Vals.one:∀{x:V}{us:List Value},Vals [x] us->∃u,us=[u]/\RelV x u
 |_,_,.cons r .nil=>⟨_,rfl,r⟩
theorem Vals.two:∀{x y:V}{us:List Value},Vals [x,y] us->∃u v,us=[u,v]/\RelV x u/\RelV y v
 |_,_,_,.cons r (.cons q .nil)=>⟨_,_,rfl,r,q⟩
theorem Vals.eraseIdx:∀{xs:List V}{us:List Value}(i:Nat),Vals xs us->Vals (xs.eraseIdx i) (us.eraseIdx i)
 |_,_,_,.nil=>.nil
 |_,_,0,.cons _ t=>t
 |_,_,i+1,.cons r t=>.cons r (Vals.eraseIdx i t)
theorem uO{α:Type}:∀(l:List α)(i:Nat),(l.eraseIdx i).length<=l.length
 |[],_=>QVz _
 |_::_,0=>Nat.le_succ _
 |_::r,i+1=>Nat.succ_le_succ (uO r i)
section
variable{X:Cx}{γ:QQz}{σ:St}{H:Hp}{s:Shared}{l b:Addr}{xs ys zs:List V}
def Inv.Xw{its its':List Value}{n:Nat}{t':Nat}(I:Inv X γ σ H s)(hH:H l=some (.lst xs))
  (e:s.heap.get? l=some {cls:=.type "list",data:=.seq its.toArray n})(hf:f its.toArray=its'.toArray)(hv:Vals ys its')(hz:ys.length<=sizeLine):
  Inv X γ σ (upd H l (.lst ys)) {s with heap:=s.heap.update l (Obj.mapSeq f),toks:=t'}:=by
 have q:=PySem.IsL.update e f
 rw[hf]at q
 refine I.write (by rw[hH];exact trivial) (.inl rfl) (fun b' u hb hu=>(Heap.get?_update_other s.heap _ (Ne.symm hb)).trans hu) ⟨_,q⟩ ?_
 exact⟨hz,its',_,hv,q⟩
def Inv.afF{t':Nat}(I:Inv X γ σ H s)(hv:Vals ys its)(hz:ys.length<=sizeLine):
  Inv X γ σ (upd H s.heap.objs.size (.lst ys)) {s with heap:=s.heap.push {cls:=.type "list",data:=.seq its.toArray},toks:=t'}:=
 I.laid (fun _ _ q=>QWq _ q) (QVz _) ⟨hz,its,0,hv,Qzq _ rfl⟩
theorem Inv.fresh(I:Inv X γ σ H s):H s.heap.objs.size=none:=I.hok.fresh (QVz _)
def Inv.Xv(I:Inv X γ σ H s)(hH:H l=some (.lst xs)):xs.length<=sizeLine/\∃(its:List Value)(n:Nat),Vals xs its/\xs.length=its.length/\s.heap.get? l=some {cls:=.type "list",data:=.seq its.toArray n}:=by
 obtain⟨z,its,n,r,e⟩:=I.hok l _ hH
 exact⟨z,its,n,r,r.length,e⟩
def K6{n:Nat}(h:n<=sizeLine):Builtin.List.listTooLong n=false:=by
 unfold Builtin.List.listTooLong
 exact QEz (by omega)
end
section
variable{X:Cx}
noncomputable def QG:V->List V->Hp->VK->Prop:=fun x vs H Q=>∃l xs y,x=.ref l/\vs=[y]/\H l=some (.lst xs)/\xs.length<sizeLine/\Q .non (upd H l (.lst (xs++[y])))
def uJ:MtM X "list.append" QG:=by
 intro γ s σ H x vs v us Q I rx rv h
 obtain⟨l,xs,y,rfl,rfl,hH,hz,q⟩:=h
 cases rx
 obtain⟨u,rfl,ru⟩:=rv.one
 obtain⟨z,its,n,r,hl,e⟩:=I.Xv hH
 refine call_meets F.slot_list_append ⟨_,e,rfl⟩ F.entry_list_append (F.args_list_append_2 _ _) (PySem.list_append l its.toArray n u (by rw[Qyq];omega)) ⟨e,?_⟩
 refine⟨.non,_,I.Xw hH e (by simp) (r.append (.cons ru .nil)) ?_,rfl,q⟩
 rw[QTq,List.length_singleton]
 omega
noncomputable def Ww:V->List V->Hp->VK->Prop:=fun x vs H Q=>∃l xs i k y,x=.ref l/\vs=[.int i]/\H l=some (.lst xs)/\ -(2 ^63)<=i/\i<2 ^63/\seqIndex? i xs.length=some k/\xs[k]? =some y/\Q y (upd H l (.lst (xs.eraseIdx k)))
def Lg:MtM X "list.pop" Ww:=by
 intro γ s σ H x vs v us Q I rx rv h
 obtain⟨l,xs,i,k,y,rfl,rfl,hH,h1,h2,hk,hy,q⟩:=h
 cases rx
 obtain⟨u,rfl,ru⟩:=rv.one
 obtain⟨t,rfl⟩:=ru
 obtain⟨z,its,n,r,hl,e⟩:=I.Xv hH
 obtain⟨w,hw,rw'⟩:=r.get hy
 refine call_meets F.slot_list_pop ⟨_,e,rfl⟩ F.entry_list_pop (F.args_list_pop_2 _ _)
  (MeetsSeq.list_pop_at l its.toArray n i t k w (fitsIndex_both h1 h2) (by rw[Qyq,<-hl];exact hk) (by rw[<-Array.getElem?_toList];exact hw) (by rw[Qyq];omega)) ⟨e,?_⟩
 refine⟨y,_,I.Xw hH e ?_ (r.eraseIdx k) ?_,rw',q⟩
 ·show its.toArray.eraseIdxIfInBounds k=(its.eraseIdx k).toArray
  rw[List.eraseIdxIfInBounds_toArray]
 ·have:=uO xs k
  omega
end
section
variable{prog:Program}{w:World}{A:Around}{E:QZq}{s:Shared}
end
section
variable{X:Cx}
end
section
variable{κ:Type}[DecidableEq κ]
def jq(kvs:List (κ×V))(k:κ):Option V:=(kvs.find? fun kv=>decide (kv.1=k)).map (·.2)
noncomputable def putK(kvs:List (κ×V))(k:κ)(v:V):List (κ×V):=
 if (kvs.any fun kv=>decide (kv.1=k))=true then kvs.map (fun kv=>if kv.1=k then(kv.1,v)else kv)else kvs++[(k,v)]
def lV{p:κ×V}{k:κ}(e:p.1=k):jq (p::r) k=some p.2:=by simp[jq,List.find?_cons,e]
def lW{p:κ×V}{k:κ}(e:¬p.1=k):jq (p::r) k=jq r k:=by simp[jq,List.find?_cons,e]
theorem yd(k:κ):∀kvs:List (κ×V),(kvs.any fun kv=>decide (kv.1=k))=(jq kvs k).isSome
 |[]=>rfl
 |p::r=>by
  rw[List.any_cons]
  by_cases e:p.1=k
  ·simp only[lV e,QFq e,Bool.true_or,Option.isSome_some]
  ·rw[lW e,QEz e,Bool.false_or];exact yd k r
def oZ(kvs:List (κ×V))(k:κ)v:(putK kvs k v).length<=kvs.length+1:=by
 unfold putK
 split
 ·rw[QAq];omega
 ·rw[QTq,QBq,List.length_nil];omega
def sY.g8{u:Option Value}(r:sY o u):o.isSome=u.isSome:=by
 cases o with
 |none=>cases u with
  |none=>rfl
  |some _=>exact(r).elim
 |some _=>cases u with
  |none=>exact(r).elim
  |some _=>rfl
theorem sY.getD{u:Option Value}{d':Value}(r:sY o u)(rd:RelV d d'):RelV (o.getD d) (u.getD d'):=by
 cases o with
 |none=>cases u with
  |none=>exact rd
  |some _=>exact(r).elim
 |some _=>cases u with
  |none=>exact(r).elim
  |some _=>exact r
def KV.val{vs:List (κ×Value)}(r:KV kvs vs)(k:κ):sY (jq kvs k) (valueAt vs k):=by
 induction r with
 |nil=>exact True.intro
 | @cons p q ps qs h t ih=>
  obtain⟨h1,h2⟩:=h
  by_cases e:p.1=k
  ·have b:valueAt (q::qs) k=some q.2:=by simp[valueAt,List.find?_cons,h1.symm.trans e]
   rw[lV e,b];exact h2
  ·have e':¬q.1=k:=fun z=>e (h1.trans z)
   have b:valueAt (q::qs) k=valueAt qs k:=by simp[valueAt,List.find?_cons,e']
   rw[lW e,b];exact ih
theorem KV.any{vs:List (κ×Value)}(r:KV kvs vs)(k:κ):(kvs.any fun kv=>decide (kv.1=k))=vs.any fun kv=>decide (kv.1=k):=by
 induction r with
 |nil=>rfl
 |cons h t ih=>rw[List.any_cons,List.any_cons,ih,h.1]
theorem KV.repl{vs:List (κ×Value)}(r:KV kvs vs)(k:κ){u:Value}(ry:RelV y u):
  KV (kvs.map fun kv=>if kv.1=k then(kv.1,y)else kv) (vs.map fun kv=>if kv.1=k then(kv.1,u)else kv):=by
 induction r with
 |nil=>exact .nil
 | @cons p q ps qs h t ih=>
  rw[Qyz,Qyz]
  refine .cons ?_ ih
  obtain⟨h1,h2⟩:=h
  by_cases e:p.1=k
  ·rw[if_pos e,if_pos (h1.symm.trans e)];exact⟨h1,ry⟩
  ·rw[if_neg e,if_neg (fun z=>e (h1.trans z))];exact⟨h1,h2⟩
def KV.put{vs:List (κ×Value)}(r:KV kvs vs)(k:κ){u:Value}(ry:RelV y u):KV (putK kvs k y) (stored vs k u):=by
 unfold putK stored
 rw[r.any k]
 by_cases e:(vs.any fun kv=>decide (kv.1=k))=true
 ·rw[if_pos e,if_pos e];exact r.repl k ry
 ·rw[if_neg e,if_neg e];exact Paired.snoc r ⟨rfl,ry⟩
theorem KV.length{kvs:List (κ×V)}(r:KV kvs vs):kvs.length=vs.length:=Paired.length r
end
def uU{w:World}{u:Value}(r:RelV (kV k) u):(fK P w).is k u=true:=by
 cases k with
 |inl i=>obtain⟨t,e⟩:=(r);subst e;exact zj P w i t
 |inr x=>obtain⟨t,e⟩:=(r);subst e;exact zg P w x t
section
variable{P:Program}{w:World}{H:Hp}{h:Heap}{a:Addr}
def Em(ok:oN P w H h)(e:Rd H a u):b8 P w H h a u:=e.ok ok
def mX(ok:oN P w H h)(e:Rd H a (.dK kvs)):kvs.length<=sizeLine/\(a==sysModules)=false/\∃vs,KV kvs vs/\h.DictOf (fK P w) a vs:=
 show b8 P w H h a _ from Em ok e
def Nh(ok:oN P w H h)(e:H a=some (.dK kvs)):kvs.length<=sizeLine/\(a==sysModules)=false/\∃vs,KV kvs vs/\h.DictOf (fK P w) a vs:=mX ok (.inl e)
end
def ud(H:Hp)(a:Addr)(y:V)(r:Option V):Prop:=
 ∃kvs k,Rd H a (.dK kvs)/\y=kV k/\r=jq kvs k
def O5(H:Hp)(a:Addr)(y v:V)(H':Hp):Prop:=
 ∃kvs k,H a=some (.dK kvs)/\y=kV k/\kvs.length<sizeLine/\H'=upd H a (.dK (putK kvs k v))
theorem ud.k{a:Addr}{k:Key}(e:H a=some (.dK kvs)):ud H a (kV k) (jq kvs k):=⟨kvs,k,.inl e,rfl,rfl⟩
theorem O5.k{a:Addr}{k:Key}(e:H a=some (.dK kvs))(hl:kvs.length<sizeLine):O5 H a (kV k) v (upd H a (.dK (putK kvs k v))):=⟨kvs,k,e,rfl,hl,rfl⟩
section
variable{X:Cx}{γ:QQz}{σ:St}{H:Hp}{s:Shared}{a:Addr}{y v:V}{u r:Value}{o:Option V}{A:Around}{E:QZq}
def Inv.big(I:Inv X γ σ H s):sysModules<s.heap.objs.size:=by
 exact Nat.lt_trans (by decide) ((I.mod.glob.keeps I.bk).lt)
def Iw(hu:A.units+1<cLine)(I:Inv X γ σ H s)(g:ud H a y (some v))(ry:RelV y u)(h:∀w' s',Inv X γ σ H s'->RelV v w'->Q w' s'):
  wpAny (model X.prog X.w) A (getItem (.ref a) u) Q E s:=by
 obtain⟨kvs,k,e,ey,l⟩:=g
 subst ey
 obtain⟨z,hd,vs,rel,dd⟩:=mX I.hok e
 obtain⟨w',hw,rw'⟩:=sY.some_of (by rw[l];exact rel.val k)
 exact wpAny_getItem_of (uU ry) dd.mapOf hw (h w' _ (I.tok _) rw')
def agE(hu:A.units+1<cLine)(I:Inv X γ σ H s)(g:ud H a y o)(ry:RelV y u)(h:∀s',Inv X γ σ H s'->Q (.bool o.isSome) s'):
  wpAny (model X.prog X.w) A (compareOp .In u (.ref a)) Q E s:=by
 obtain⟨kvs,k,e,ey,l⟩:=g
 subst ey
 obtain⟨z,hd,vs,rel,dd⟩:=mX I.hok e
 refine wpAny_in_of (uU ry) hd dd.mapOf ?_
 rw[<- (rel.val k).g8,<-l]
 exact h _ (I.tok _)
def R5(hu:A.units+1<cLine)(I:Inv X γ σ H s)(g:ud H a y o)(ry:RelV y u)(h:∀s',Inv X γ σ H s'->Q (.bool (!o.isSome)) s'):
  wpAny (model X.prog X.w) A (compareOp .NotIn u (.ref a)) Q E s:=by
 obtain⟨kvs,k,e,ey,l⟩:=g
 subst ey
 obtain⟨z,hd,vs,rel,dd⟩:=mX I.hok e
 refine wpAny_notIn_of (uU ry) hd dd.mapOf ?_
 rw[<- (rel.val k).g8,<-l]
 exact h _ (I.tok _)
def j8{t':Nat}(I:Inv X γ σ H s)(mu:Mut (H a))(hs:Heap.SameBut a s.heap h')(he:∃q,h'.get? a=some q)(new:b8 X.prog X.w (upd H a ob) h' a ob):
  Inv X γ σ (upd H a ob) {s with heap:=h',toks:=t'}:=
 I.write mu (.inl rfl) (fun b q hb z=>(hs.2 b hb).trans z) he new
def Ni{w:World}{h':Heap}{vs:List (Key×Value)}(z:kvs.length<=sizeLine)(hd:(a==sysModules)=false)(rel:KV kvs vs)(dd:h'.DictOf (fK P w) a vs):
  b8 P w H' h' a (.dK kvs):=⟨z,hd,vs,rel,dd⟩
def Iv{Q:Unit->Shared->Prop}(hu:A.units+1<cLine)(I:Inv X γ σ H s)(g:O5 H a y v H')(ry:RelV y u)(rv:RelV v r)(h:∀s',Inv X γ σ H' s'->Q () s'):
  wpAny (model X.prog X.w) A (setItem (.ref a) u r) Q E s:=by
 obtain⟨kvs,k,e,ey,l,eH⟩:=g
 subst ey eH
 obtain⟨z,hd,vs,rel,dd⟩:=Nh I.hok e
 have hz:vs.length<=sizeLine:=by rw[<-rel.length];exact z
 refine wpAny_setItem_pairs (uU ry) dd fun h' dd' hs=>h _ ?_
 exact j8 I (by rw[e];exact True.intro) hs (let ⟨q,_,_,hq,_⟩:=dd';⟨q,hq⟩) (Ni (by have:=oZ kvs k v;omega) hd (rel.put k rv) dd')
end
section
variable{X:Cx}{γ:QQz}{σ:St}{H:Hp}{s:Shared}{a:Addr}{kvs:List (Key×V)}{k:Key}{u:Value}{A:Around}{E:QZq}
def acR(I:Inv X γ σ H s)(e:Rd H a (.dK kvs))(h:∀t s',Inv X γ σ H s'->Q (.int kvs.length t) s'):wpAny (model X.prog X.w) A (call (.builtin "len") [.ref a]) Q E s:=by
 obtain⟨z,hd,vs,rel,dd⟩:=mX I.hok e
 refine call_len_dict hd dd (by rw[<-rel.length];rw[sizeLine_eq]at z;omega) ?_
 rw[<-rel.length]
 exact h _ _ (I.tok _)
end
def zW{X:Cx}{σ:St}{H:Hp}{a:Addr}{y:V}(I:Inv X γ σ H s)(g:ud H a y o):s.TypeIs (.ref a) "dict":=by
 obtain⟨kvs,k,e,_,_⟩:=g
 obtain⟨_,_,vs,_,dd⟩:=mX I.hok e
 exact dd.typeIs
section
variable{X:Cx}{o i e value:Expr}{pos pos' tpos:Pos}{td ty tv:TE}
end
def rT{w:World}(h:Heap)(hb:sysModules<h.objs.size):b8 P w H (h.push {cls:=.type "dict",data:=.dict #[]}) h.objs.size (.dK []):=
 ⟨QIq _,beq_eq_false_iff_ne.mpr (Ne.symm (Qvz hb)),[],.nil,Heap.DictOf.new h⟩
def V0:TE:=fun _ H Q=>∀p,H p=none->Q (.ref p) (upd H p (.dK []))
section
variable{X:Cx}{pos:Pos}
def KQ:PE X (.Dict [] [] pos) V0:=fun γ s σ H Q I h=>
 wpAny_Dict_empty ⟨.ref s.heap.objs.size,_,I.laid (fun _ _ q=>QWq _ q) (QVz _) (rT s.heap I.big),rfl,h _ (I.hok.fresh (QVz _))⟩
end
noncomputable def vW:List (TE×TE)->St->Hp->(List (V×V)->Hp->Prop)->Prop
 |[],_,H,Q=>Q [] H
 |(tk,tv)::r,σ,H,Q=>tk σ H fun x H1=>tv σ H1 fun y H2=>vW r σ H2 fun ps H3=>Q ((x,y)::ps) H3
abbrev VV:List (V×V)->List (Value×Value)->Prop:=Paired fun p q=>RelV p.1 q.1/\RelV p.2 q.2
def PPs(X:Cx)(pos:Pos)(keys:List (Option Expr))(values:List Expr)(m8:List (TE×TE)):Prop:=
 ∀(γ:QQz)(s:Shared)(σ:St)(H:Hp)(Q:List (V×V)->Hp->Prop),Inv X γ σ H s->vW m8 σ H Q->
  wpAny (model X.prog X.w) X.A (evalPairs (pairTrees keys values X.env pos)) (fun vs s'=>∃ps H',Inv X γ σ H' s'/\VV ps vs/\Q ps H') X.xe s
def QQ{pos:Pos}:PPs X pos [] [] []:=fun γ s σ H Q I h=>pairTrees_nil_walk ⟨[],H,I,.nil,h⟩
def Ks{pos:Pos}{ks:List (Option Expr)}{tk tv:TE}(hk:PE X k tk)(hv:PE X v tv)(hr:PPs X pos ks vs m8):
  PPs X pos (some k::ks) (v::vs) ((tk,tv)::m8):=fun γ s σ H Q I h=>
 pairTrees_cons_walk (cu (hk γ s σ H _ I h) fun u s1⟨x,H1,I1,rx,q1⟩=>cu (hv γ s1 σ H1 _ I1 q1) fun w2 s2⟨y,H2,I2,ry,q2⟩=>
  cu (hr γ s2 σ H2 _ I2 q2) fun ws s3⟨ps,H3,I3,rel,q3⟩=>⟨(x,y)::ps,H3,I3,.cons ⟨rx,ry⟩ rel,q3⟩)
structure M2(X:Cx)(o:Expr)(m:Str)(apos:Pos)(e f:Expr)(cpos:Pos):Prop where
 base:attributeBase o m X.env (eval o X.env)=eval o X.env
 few:((backTo cpos (starEach [e,f] X.env)).all (fun x=> !x.1)&&(backToKw cpos (keywordEach [] X.env)).all (fun x=>x.1.isSome)
  &&decide (([e,f]:List Expr).length+([]:List Keyword).length+(if ([]:List Keyword).isEmpty then 0 else 1)<30))=true
 line:(apos.endLine==cpos.line)=true
 trees:backTo cpos (starEach [e,f] X.env)=[(false,eval e X.env),(false,eval f X.env)]
def IsD(H:Hp)(a:Addr):Prop:=∃kvs,Rd H a (.dK kvs)
def X3{X:Cx}{σ:St}{H:Hp}{a:Addr}(I:Inv X γ σ H s)(d:IsD H a):
  s.TypeIs (.ref a) "dict"/\(∀b,Value.ref a=.ref b->∃ob,s.heap.get? b=some ob/\ob.dict=none)/\(a==sysModules)=false:=by
 obtain⟨kvs,e⟩:=d
 obtain⟨_,hd,vs,_,dd⟩:=mX I.hok e
 refine⟨dd.typeIs,fun b q=>?_,hd⟩
 cases q
 obtain⟨ob,_,_,h1,h2,_⟩:=dd
 exact⟨ob,h1,h2.2.1⟩
section
variable{X:Cx}{γ:QQz}{σ:St}{H:Hp}{s:Shared}{a:Addr}{y d:V}{u r:Value}{o:Option V}{A:Around}{E:QZq}
def YZ(hu:A.units+1<cLine)(I:Inv X γ σ H s)(g:ud H a y o)(ry:RelV y u)(rd:RelV d r)(h:∀w' s',Inv X γ σ H s'->RelV (o.getD d) w'->Q w' s'):
  wpAny (model X.prog X.w) A (call (.builtin "dict.get") [.ref a,u,r]) Q E s:=by
 obtain⟨kvs,k,e,ey,l⟩:=g
 subst ey
 obtain⟨z,hd,vs,rel,dd⟩:=mX I.hok e
 refine call_meetsIn PySem.F.slot_dict_get dd.typeIs PySem.F.entry_dict_get (PySem.F.args_dict_get_3 _ _ _) (meets_dict_get_default _ a (uU ry) hd r) ⟨_,dd.mapOf,h _ _ (I.tok _) ?_⟩
 rw[l]
 exact(rel.val k).getD rd
end
noncomputable def V1(td ty tx:TE):TE:=fun σ H Q=>td σ H fun x H1=>∃a,x=.ref a/\IsD H1 a/\ty σ H1 fun y H2=>tx σ H2 fun z H3=>∃o,ud H3 a y o/\Q (o.getD z) H3
section
variable{X:Cx}{o e f:Expr}{apos cpos:Pos}{td ty tx:TE}
def KR(hu:X.A.units+1<cLine)(ho:PE X o td)(he:PE X e ty)(hf:PE X f tx)(m:M2 X o "get" apos e f cpos):PE X (.Call (.Attribute o "get" apos) [e,f] [] cpos) (V1 td ty tx):=by
 intro γ s σ H Q I h
 refine wpAny_Call_method m.base m.few m.line PySem.F.plainAttrs_dict PySem.F.slot_dict_get PySem.F.type_dict_get (cu (ho γ s σ H _ I h) fun u s1⟨x,H1,I1,rx,a,ex,d,q1⟩=>?_)
 subst ex
 obtain rfl:u=Value.ref a:=rx
 obtain⟨t1,t2,_⟩:=X3 I1 d
 refine⟨t1,t2,?_⟩
 rw[m.trees]
 refine Calls.callWith_builtin rfl (Calls.evalArgs_plain (Calls.spliced_cons (cu (he γ s1 σ H1 _ I1 q1) fun iv s2⟨y,H2,I2,ry,q2⟩=>
  Calls.spliced_cons (cu (hf γ s2 σ H2 _ I2 q2) fun fv s3⟨z,H3,I3,rz,ov,g,q3⟩=>Calls.spliced_nil ?_))))
 exact YZ hu I3 g ry rz fun w' s4 I4 rw'=>⟨_,H3,I4,rw',q3⟩
end
section
variable{X:Cx}{γ:QQz}{σ:St}{H:Hp}{s:Shared}{a:Addr}{kvs:List (Key×V)}{A:Around}{E:QZq}
end
section
variable{X:Cx}{γ:QQz}{σ:St}{H:Hp}{s:Shared}{a:Addr}{y:V}{u:Value}{A:Around}{E:QZq}
end
end L2
namespace Att
open PySem PySem.W PySem.Calls PyProof.Rows
def pF{h:Heap}:∀(ns:List Int)(vs:List Value),WellAll P h vs (ns.map WData.int)->IntsAre vs ns:=by
 intro ns
 induction ns with
 |nil=>
  intro vs w
  cases w
  exact .nil
 |cons n ns ih=>
  intro vs w
  cases w with
  |cons a b=>
   cases a
   exact .cons _ _ (ih _ b)
theorem G9{l:OpenLaw}(hn:l.most=some n){h:Heap}
  (hpre:l.row.toRowW.claim.pre args=true)(hwl:WellAll P h vals args):
  ∃a vs ns,vals=[Value.ref a]/\args=[WData.list (ns.map WData.int)]/\h.get? a=some {cls:=.type "list",data:=.seq vs.toArray}/\IntsAre vs ns/\ns.length<=n:=by
 obtain⟨d,r,rfl,h1,h2⟩:=hasAllW_cons ((pre_splitW hpre).1)
 obtain rfl:=hasAllW_nil h2
 obtain⟨xs,rfl,h3⟩:=hasW_list h1
 obtain⟨ns,rfl⟩:=items_int h3
 have hlen:ns.length<=n:=by
  have h4:(WTm.not (.lt (.lit (.int n)) (.len (.arg 0)))).holds [] {args:=[.list (ns.map .int)]}=true:=by
   have h4:=(holds_andW ((pre_splitW hpre).2)).1
   rw[hn]at h4
   exact h4
  have h5:=condW_of h4 (w_not (w_lt w_lit (w_len_list (w_arg rfl))))
  refine Nat.le_of_not_lt fun q=>?_
  first
   |(rw[QFq q']at h5;exact absurd h5 (by decide))
   |(simp at h5;omega)
 cases hwl with
 |cons w1 w2=>
  cases w2
  cases w1 with
  |list ho hall=>exact⟨_,_,ns,rfl,rfl,ho,pF ns _ hall,hlen⟩
def Hq(l:OpenLaw)args:l.row.toRowW.claim.post args (.bool true) args=true:=
 postW_of
  (show WShape.has [] _ .bool=true by first|rfl|decide|simp[WShape.has,WShape.arms,WShape.armsAll])
  (w_eq_bool (w_res rfl) w_lit) rfl
def Ab{l:OpenLaw}{n:Nat}{loose:List Str}{YP:World->Heap->Prop}
  (hn:l.most=some n)(hdf:d.params.defaults=[])
  (call:∀(w:World)(s₀ ι:Shared)(mg mb:QZz)(fa:Addr)(o:Obj)(pm cd doc:Value)(a:Addr)(vs:List Value)(ns:List Int),
   Ground q loose [] XP w s₀ mg mb ι.heap->YP w ι.heap->
   ι.heap.get? fa=some o->o.data=.func (docDef d.name d.params d.body d.scope pm cd doc)->ι.heap.CodeRec cd d.name->mg d.name=some (.ref fa)->
   ι.heap.get? a=some {cls:=.type "list",data:=.seq vs.toArray}->IntsAre vs ns->ns.length<=n->ι.gens= #[]->
   codeAny (model l.prog w) callerA (.call (.ref fa) ⟨[.ref a],[]⟩) (fun r s'=>r=.ok (.ret (.bool true))/\OldK ι.heap s'.heap/\s'.os=ι.os/\AllBare s'.gens) ι):
  WalkO q loose XP YP l.row.toRowW d [] (fun f vs=>PySem.call f vs):=by
 intro w s₀ ι mg mb G Y fa o pm cd doc dV kV ho hd hcd hD hmg hg args vals as hpre hlay hrd hwl hlo
 obtain rfl:dV=.none:=Dflts.none hD hdf
 obtain rfl:kV=.none:=Dflts.noKw hD
 obtain⟨a,vs,ns,rfl,rfl,hobj,hints,hlen⟩:=G9 hn hpre hwl
 refine enter_call (codeAny_mono (call w s₀ ι mg mb fa o pm cd doc a vs ns G Y ho (fd_plain hd) hcd hmg hobj hints hlen hg) fun r s' hq=>?_)
 obtain⟨rfl,h2,h3,h4⟩:=hq
 exact⟨.inl ⟨.bool true,.bool true,[],rfl,fun _=>rfl,.bool true,Hq l _,fun _=>⟨List.Pairwise.nil,fun _ hm=>(nomatch hm)⟩⟩,h2,h3,h4⟩
section
variable{prog:Program}{w:World}{A:Around}{E:QZq}{s:Shared}{K:Frag}
end
end Att
namespace L2
open PySem PySem.Spec PyProof.Rows
theorem ug:∀{vs:List Value}{ns:List Int},IntsAre vs ns->Vals (ns.map V.int) vs
 |_,_,.nil=>.nil
 |_,_,.cons n t h=>.cons ⟨t,rfl⟩ (ug h)
def Only(H:Hp):Prop:=∀b,H b=none\/∃o xs,H b=some (.frz o (.lst xs))
theorem Lr{w:World}{K:QQq}{CX:O8}{fa a:Addr}{x:Str}{ι:Shared}
  (KX:K.In ι.heap)(hns:ι.heap.Ns mainGlobals mg)(hb:ι.heap.Ns builtinsNs mb)(hbb:∀x:Str,x≠"__name__"->mb x=bootBuiltins x)(hlim:ι.heap.NoLimit)(hg:ι.gens= #[])
  (ha:ι.heap.get? a=some {cls:=.type "list",data:=.seq vs.toArray})(hi:IntsAre vs ns)(hl:ns.length<=sizeLine)(hr:jj k callerA)
  (F:∀base:Heap,K.In base->base.Ns mainGlobals mg->oO P w K mg base CX k fa fd [x] sp)(hbind:∀(s:Shared)(u:Value),BindsTo s fd ⟨[u],[]⟩ [(x,u)])
  (hsp:∀H:Hp,Only H->jm K H a (ns.map V.int)->sp [.ref a] H (fun v _=>v=.bl true) fun _ _ _=>False)
  (hCX:∀H e s',CX [] H ι (fun _ _ _=>False) e s'->False):
  codeAny (model P w) callerA (.call (.ref fa) ⟨[.ref a],[]⟩) (fun r s'=>r=.ok (.ret (.bool true))/\OldK ι.heap s'.heap/\s'.os=ι.os/\AllBare s'.gens) ι:=by
 have rv:=ug hi
 have core:∀H:Hp,Only H->jm K H a (ns.map V.int)->oN P w H ι.heap->(∀b,H b≠none->b=a)->(H a≠none->K.lookup a=none)->
   codeAny (model P w) callerA (.call (.ref fa) ⟨[.ref a],[]⟩) (fun r s'=>r=.ok (.ret (.bool true))/\OldK ι.heap s'.heap/\s'.os=ι.os/\AllBare s'.gens) ι:=by
  intro H hO hS hok hA hK
  have mZ:∀{b:Addr}{o:Obj},ι.heap.get? b=some o->H b=none->(Ie ι.heap H).get? b=some o:=fun e n=>Mq e n
  have noA:∀{b:Addr}{o:Obj}{es:Array DictEntry}{ep:Nat},ι.heap.get? b=some o->o.data=.dict es ep->H b=none:=fun{b o es ep}e d=>by
   cases q:H b with
   |none=>rfl
   |some u=>
    have e':=hA b (by rw[q];simp)
    subst e'
    rw[ha]at e;cases e
    cases d
  have nsK:∀{b:Addr}{m:QZz},ι.heap.Ns b m->(Ie ι.heap H).Ns b m:=fun{b m}⟨o,es,ep,e,d,r⟩=>⟨o,es,ep,mZ e (noA e d),d,r⟩
  have hKb:=fun b o e=>mZ (KX b o e) (by
   cases q:H b with
   |none=>rfl
   |some u=>
    have e':=hA b (by rw[q];simp)
    subst e'
    rw[hK (by rw[q];simp)]at e;cases e)
  have hM:Mod K mg _:=⟨hKb,nsK hns,⟨mb,nsK hb,hbb⟩,let ⟨mc,h1,h2⟩:=hlim;⟨mc,nsK h1,h2⟩⟩
  refine codeAny_mono ((F _ hKb (nsK hns)).run callerA [] ι H ⟨[.ref a],[]⟩ [.ref a] [.ref a] _ _ hr ⟨rfl,hM,fun b o e=>Rg e,Nat.le_of_eq (Ib _ _),trivial,fun b hb=>absurd (show b∈([])from hb) (by simp),hok,.of_eq hg⟩ (hbind ι _) (.cons rfl .nil) (hsp H hO hS)) fun r s' h=>?_
  cases r with
  |error e=>exact(hCX H e s' h).elim
  |ok fl=>
   cases fl with
   |next=>exact False.elim h
   |brk=>exact False.elim h
   |cont=>exact False.elim h
   |ret u=>
    obtain⟨v,H',os,bare,un,hok',r',q⟩:=h
    subst q
    obtain rfl:u=Value.bool true:=r'
    refine⟨rfl,OldK.of_keep fun b o e=>?_,os,bare⟩
    cases q:H b with
    |none=>exact un.keep b o e q (by intro z;exact absurd (show b∈([])from z) (by simp)) (by simp)
    |some u=>
     rcases hO b with z|⟨ob,xs,z⟩
     ·rw[q]at z;cases z
     ·obtain⟨e1,_⟩:=hok b _ z
      obtain⟨e2,_⟩:=hok' b _ (un.frzs b ob _ z)
      rw[e]at e1;cases e1
      exact e2
 cases hk:K.lookup a with
 |some o=>
  have e:=KX a o hk
  rw[ha]at e
  cases e
  refine core _ (fun _=>.inl rfl) (.inr ⟨_,vs.toArray,_,hk,rfl,rfl,rfl,by rw[Qyq,hi.length];exact hl,by simpa using rv⟩) (fun b u z=>by have z':=z;cases z') (fun b z=>absurd rfl z) fun z=>absurd rfl z
 |none=>
  refine core (fun b=>if b=a then some _ else none) (fun b=>?_) (.inl (.inr ⟨{cls:=.type "list",data:=.seq vs.toArray},if_pos rfl⟩)) (fun b u z=>?_) (fun b z=>?_) fun _=>hk
  ·by_cases hb:b=a
   ·exact .inr ⟨_,_,if_pos hb⟩
   ·exact .inl (if_neg hb)
  ·by_cases hb:b=a
   ·cases ((if_pos hb).symm.trans z)
    subst hb
    exact⟨ha,by rw[QAq];exact hl,vs,_,rv,ha⟩
   ·cases ((if_neg hb).symm.trans z)
  ·by_cases hb:b=a
   ·exact hb
   ·exact absurd (if_neg hb) z
def Pr{l:PySem.W.OpenLaw}{n k:Nat}{loose:List Str}{YP:World->Heap->Prop}{K:Params->QQq}{CX:World->O8}{sp:World->Sp}
  (hn:l.most=some n)(hn2:n<=sizeLine)(hdf:d.params.defaults=[])(hr:jj k callerA)
  (hY:∀(w:World)(h:Heap),YP w h->(K w.params).In h)
  (F:∀(w:World)(mg:QZz)(fa:Addr)(h:Heap),(K w.params).In h->h.Ns mainGlobals mg->mg d.name=some (.ref fa)->
   ∃fd:FuncData,(∀(s:Shared)(u:Value),BindsTo s fd ⟨[u],[]⟩ [(x,u)])/\
    ∀base:Heap,(K w.params).In base->base.Ns mainGlobals mg->oO l.prog w (K w.params) mg base (CX w) k fa fd [x] (sp w))
  (hsp:∀(w:World)(H:Hp)(a:Addr)(ns:List Int),ns.length<=n->Only H->jm (K w.params) H a (ns.map V.int)->sp w [.ref a] H (fun v _=>v=.bl true) fun _ _ _=>False)
  (hCX:∀(w:World)(H:Hp)(s:Shared)(e:Value)(s':Shared),CX w [] H s (fun _ _ _=>False) e s'->False):
  PySem.W.WalkO q loose XP YP l.row.toRowW d [] (fun f vs=>PySem.call f vs):=by
 refine Att.Ab hn hdf fun w s₀ ι mg mb fa o pm cd doc a vs ns G Y ho hd hcd hmg hobj hints hlen hg=>?_
 have KX:=hY w _ Y
 obtain⟨fd,hb,hF⟩:=F w mg fa _ KX G.T.g hmg
 exact Lr KX G.T.g G.T.b G.T.builtins G.T.nolimit hg hobj hints (Nat.le_trans hlen hn2) hr hF hb (fun H hO hS=>hsp w H a ns hlen hO hS) fun H e s'=>hCX w H ι e s'
abbrev O9:O8:=fun _ _ _ _ _ _=>False
abbrev E0:XK:=fun _ _ _=>False
def abV:DP O9 X E0:=fun _ _ _ _ _ _ _ h=>h.elim
structure Zh(K:QQq)(x qual:Str)(st:Stmt)(f:Addr)(fd:FuncData):Prop where
 ex:∃(oc:Value)(od:Option Addr)(kV doc pm:Value)(an:Option Addr)(cdv ct:Value)(osl:Array (Option Value)),
  fd=PySem.W.fnOf x qual (eF st) (eE st) (bj st) .none kV doc pm an cdv ct/\K.lookup f=some ⟨oc,od,.func fd,osl⟩/\PySem.W.codeIn K cdv qual=true
 kp:PySem.W.keepIn K (.ref f)=true
section
variable{P:Program}{w:World}{K:QQq}{mg:QZz}{base:Heap}
def Zh.ok{st:Stmt}{fd:FuncData}{k:Nat}(F:Zh K x qual st f fd)(S:km N ps (bj st))(len:∀vs H Q E,sp vs H Q E->vs.length=ps.length)
  (hbody:∀(cdv:Value)(A:Around)(outer:List Env)(s:Shared)(H:Hp)(vs:List V)(Q:VK)(E:XK),jj k (A.deeper (envOfC qual (bj st) s.heap.objs.size f cdv))->sp vs H Q E->
   ∃t,xT (CZ O9 P w K mg base N qual (bj st) f cdv A outer s H E).nox (eE st) t/\t {nx:=fun _ H'=>Q .non H',rt:=Q} (start N vs) H):oO P w K mg base O9 (k+1) f fd ps sp:=by
 obtain⟨oc,od,kV,doc,pm,an,cdv,ct,osl,rfl,lk,hcd⟩:=F.ex
 refine acN lk hcd S len fun A outer s H vs Q E hr hsp=>?_
 obtain⟨t,h,q⟩:=hbody cdv A outer s H vs Q E hr hsp
 exact⟨t,h.nox,q⟩
def Zh.binds{st:Stmt}{f:Addr}{ps:List Str}(F:Zh K x qual st f fd)
  (h:∀(kV doc pm:Value)(an:Option Addr)(cdv ct:Value)(us:List Value),us.length=ps.length->bindArgs (PySem.W.fnOf x qual (eF st) (eE st) (bj st) .none kV doc pm an cdv ct) ⟨us,[]⟩=pure (ps.zip us)):Binds K fd ps []:=by
 obtain⟨oc,od,kV,doc,pm,an,cdv,ct,osl,rfl,lk,hcd⟩:=F.ex
 exact .all (h kV doc pm an cdv ct)
def YH{st:Stmt}{f:Addr}{od an:Option Addr}{kV doc pm cdv ct:Value}(l:K.lookup f=some ⟨oc,od,.func (PySem.W.fnOf x qual (eF st) (eE st) (bj st) .none kV doc pm an cdv ct),osl⟩)
  (c:PySem.W.codeIn K cdv qual=true)(k:PySem.W.keepIn K (.ref f)=true):Zh K x qual st f (PySem.W.fnOf x qual (eF st) (eE st) (bj st) .none kV doc pm an cdv ct):=⟨⟨oc,od,kV,doc,pm,an,cdv,ct,osl,rfl,l,c⟩,k⟩
end
def G8(h:n<=1000):n<sizeLine:=Nat.lt_of_le_of_lt h (by decide)
section
variable{X:Cx}
end
end L2
end
section
namespace Mini
open PySem L2 PySem.SeqAt
mutual
def cn:PyData->PyData
 |.bool b=>.int (if b then 1 else 0)
 |.tuple xs=>.tuple (cns xs)
 |d=>d
def cns:List PyData->List PyData
 |[]=>[]
 |x::xs=>cn x::cns xs
end
mutual
def hk:PyData->Bool
 |.int _=>true
 |.bool _=>true
 |.str x=>PyData.strOk x
 |.tuple xs=>hks xs
 |_=>false
def hks:List PyData->Bool
 |[]=>true
 |x::xs=>hk x&&hks xs
end
mutual
def dr:PyData->Nat
 |.tuple xs=>CQ xs+1
 |_=>1
def CQ:List PyData->Nat
 |[]=>0
 |x::xs=>dr x+CQ xs
end
mutual
theorem Vc:∀d,dr (cn d)=dr d
 |.tuple xs=>by simp only[cn,dr,Ng xs]
 |.bool _=>rfl
 |.none=>rfl
 |.int _=>rfl
 |.str _=>rfl
 |.list _=>rfl
 |.dict _=>rfl
theorem Ng:∀xs,CQ (cns xs)=CQ xs
 |[]=>rfl
 |x::xs=>by simp only[cns,CQ,Vc x,Ng xs]
end
mutual
theorem xJ:∀d:PyData,hk d=true->d.canLay0=true
 |.int _=>fun _=>rfl
 |.bool _=>fun _=>rfl
 |.str x=>fun h=>h
 |.tuple xs=>fun h=>Gx xs h
 |.none=>fun h=>by cases h
 |.list _=>fun h=>by cases h
 |.dict _=>fun h=>by cases h
theorem Gx:∀xs:List PyData,hks xs=true->PyData.canLayAll0 xs=true
 |[]=>fun _=>rfl
 |x::xs=>fun h=>by
  simp only[hks,QUq]at h
  simp only[PyData.canLayAll0,xJ x h.1,Gx xs h.2,Bool.and_self]
end
mutual
theorem CK:∀a b:PyData,hk a=true->hk b=true->PyData.eqv a b=decide (cn a=cn b)
 |.int i,.int j=>fun _ _=>by rw[Bool.eq_iff_iff];simp[PyData.eqv,cn]
 |.int i,.bool b=>fun _ _=>by rw[Bool.eq_iff_iff];cases b<;>simp[PyData.eqv,cn]
 |.bool a,.int j=>fun _ _=>by rw[Bool.eq_iff_iff];cases a<;>simp[PyData.eqv,cn]
 |.bool a,.bool b=>fun _ _=>by cases a<;>cases b<;>simp[PyData.eqv,cn]
 |.str x,.str y=>fun _ _=>by rw[Bool.eq_iff_iff];simp[PyData.eqv,cn]
 |.tuple xs,.tuple ys=>fun h g=>by
  simp only[PyData.eqv,cn,PyData.tuple.injEq]
  exact Gd xs ys h g
 |.int _,.str _=>fun _ _=>by simp[PyData.eqv,cn]
 |.int _,.tuple _=>fun _ _=>by simp[PyData.eqv,cn]
 |.bool b,.str _=>fun _ _=>by simp[PyData.eqv,cn]
 |.bool b,.tuple _=>fun _ _=>by simp[PyData.eqv,cn]
 |.str _,.int _=>fun _ _=>by simp[PyData.eqv,cn]
 |.str _,.bool b=>fun _ _=>by simp[PyData.eqv,cn]
 |.str _,.tuple _=>fun _ _=>by simp[PyData.eqv,cn]
 |.tuple _,.int _=>fun _ _=>by simp[PyData.eqv,cn]
 |.tuple _,.bool b=>fun _ _=>by simp[PyData.eqv,cn]
 |.tuple _,.str _=>fun _ _=>by simp[PyData.eqv,cn]
 |.none,_=>fun h _=>by cases h
 |.list _,_=>fun h _=>by cases h
 |.dict _,_=>fun h _=>by cases h
 |.int _,.none=>fun _ h=>by cases h
 |.int _,.list _=>fun _ h=>by cases h
 |.int _,.dict _=>fun _ h=>by cases h
 |.bool _,.none=>fun _ h=>by cases h
 |.bool _,.list _=>fun _ h=>by cases h
 |.bool _,.dict _=>fun _ h=>by cases h
 |.str _,.none=>fun _ h=>by cases h
 |.str _,.list _=>fun _ h=>by cases h
 |.str _,.dict _=>fun _ h=>by cases h
 |.tuple _,.none=>fun _ h=>by cases h
 |.tuple _,.list _=>fun _ h=>by cases h
 |.tuple _,.dict _=>fun _ h=>by cases h
theorem Gd:∀xs ys:List PyData,hks xs=true->hks ys=true->PyData.eqvAll xs ys=decide (cns xs=cns ys)
 |[],[]=>fun _ _=>by simp[PyData.eqvAll,cns]
 |[],_::_=>fun _ _=>by simp[PyData.eqvAll,cns]
 |_::_,[]=>fun _ _=>by simp[PyData.eqvAll,cns]
 |x::xs,y::ys=>fun h g=>by
  simp only[hks,QUq]at h g
  simp only[PyData.eqvAll,cns,List.cons.injEq,CK x y h.1 g.1,Gd xs ys h.2 g.2]
  by_cases p:cn x=cn y<;>by_cases q:cns xs=cns ys<;>simp[p,q]
end
theorem xq:∀{xs:List PyData}{x:PyData},x∈xs->x.depth<=PyData.depthAll xs
 |y::ys,x,h=>by
  have e:PyData.depthAll (y::ys)=max y.depth (PyData.depthAll ys):=by simp[PyData.depthAll]
  rcases QCq.mp h with rfl|h
  ·omega
  ·have:=xq h;omega
theorem Cp:∀{xs:List PyData}{x:PyData},hks xs=true->x∈xs->hk x=true
 |y::ys,x,g,h=>by
  simp only[hks,QUq]at g
  rcases QCq.mp h with rfl|h
  ·exact g.1
  ·exact Cp g.2 h
mutual
theorem qG{h h':Heap}{a:Addr}{o:Obj}{es:Array DictEntry}{ep:Nat}(ho:h.get? a=some o)(hd:o.data=.dict es ep)(hs:Heap.SameBut a h h'):∀(d:PyData){v:Value}{as:List Addr},hk d=true->Reads h v d as->Reads h' v d as
 |.int _,_,_,_,r=>by cases r;exact .int _ _
 |.bool _,_,_,_,r=>by cases r;exact .bool _
 |.str _,_,_,_,r=>by cases r;exact .str _ _
 |.tuple xs,_,_,g,r=>by
  cases r with
  | @tuple b o' vs n xs as h1 h2 h3 h4=>
   have ne:b≠a:=fun z=>by
    subst z
    rw[ho]at h1
    cases h1
    rw[hd]at h3
    cases h3
   exact .tuple ((hs.2 b ne).trans h1) h2 h3 (oW ho hd hs xs g h4)
 |.none,_,_,g,_=>by cases g
 |.list _,_,_,g,_=>by cases g
 |.dict _,_,_,g,_=>by cases g
theorem oW{h h':Heap}{a:Addr}{o:Obj}{es:Array DictEntry}{ep:Nat}(ho:h.get? a=some o)(hd:o.data=.dict es ep)(hs:Heap.SameBut a h h'):∀(xs:List PyData){vs:List Value}{as:List Addr},hks xs=true->ReadsAll h vs xs as->ReadsAll h' vs xs as
 |[],_,_,_,r=>by cases r;exact .nil
 |x::xs,_,_,g,r=>by
  simp only[hks,QUq]at g
  cases r with
  |cons r1 r2=>exact .cons (qG ho hd hs x g.1 r1) (oW ho hd hs xs g.2 r2)
end
section
variable{prog:Program}{w:World}{E:QZq}
def u5{A:Around}{s:Shared}{b:Bool}{Q:Int->Shared->Prop}(h:Q (hashInt (if b then 1 else 0)) {s with toks:=s.toks+1}):wpAny (model prog w) A (pyHash (.bool b)) Q E s:=by
 refine PySem.W.pyHash_slot (T:="bool") rfl F.slot_bool_hash entry_int_hash (args_int_hash _) (beq_builtin_none _) (.inl rfl) ?_
 cases b
 ·exact(show wpAny _ _ (mkInt 0>>=fun x=>ret x) _ _ s from QKq (wpAny_mkInt (QKz ⟨_,_,rfl,h⟩)))
 ·exact(show wpAny _ _ (mkInt 1>>=fun x=>ret x) _ _ s from QKq (wpAny_mkInt (QKz ⟨_,_,rfl,h⟩)))
theorem FW:∀xs ys:List PyData,hHs w (xs++ys)=hHs w xs++hHs w ys
 |[]=>fun _=>rfl
 |x::xs=>fun ys=>by simp only[QLz,hHs,FW xs ys]
theorem Gr:∀xs ys:List PyData,cns (xs++ys)=cns xs++cns ys
 |[]=>fun _=>rfl
 |x::xs=>fun ys=>by simp only[QLz,cns,Gr xs ys]
theorem Gh:∀xs ys:List PyData,CQ (xs++ys)=CQ xs+CQ ys
 |[]=>fun _=>by simp[CQ]
 |x::xs=>fun ys=>by simp only[QLz,CQ,Gh xs ys];omega
def Rz:∀(n:Nat)(d:PyData){A:Around}{s:Shared}{v:Value}{as:List Addr}{Q:Int->Shared->Prop},d.depth<=n->hk d=true->Reads s.heap v d as->A.units+d.depth<cLine->Q (hH w (cn d)) {s with toks:=s.toks+dr d}->wpAny (model prog w) A (pyHash v) Q E s:=by
 intro n
 induction n with
 |zero=>
  intro d A s v as Q hn g r hu h
  cases d with
  |int i=>cases r;exact wpAny_pyHash_int h
  |bool b=>cases r;exact u5 h
  |str x=>cases r;exact wpAny_pyHash_str h
  |tuple xs=>simp[PyData.depth]at hn
  |_=>cases g
 |succ n ih=>
  intro d A s v as Q hn g r hu h
  cases d with
  |int i=>cases r;exact wpAny_pyHash_int h
  |bool b=>cases r;exact u5 h
  |str x=>cases r;exact wpAny_pyHash_str h
  |tuple xs=>
   have de:(PyData.tuple xs).depth=PyData.depthAll xs+1:=by simp[PyData.depth,Nat.add_comm]
   cases r with
   | @tuple a o vs m xs as ho hc hd h4=>
    have hu0:A.units<cLine:=by omega
    refine PySem.W.pyHash_slot (T:="tuple") ⟨o,ho,hc⟩ F.slot_tuple_hash F.entry_tuple_hash (F.args_tuple_hash_1 _) (beq_builtin_none _) (.inr hu0) ?_
    show wpAny _ A.in1 (Builtin.Tuple.tupleItemsOf (.ref a)>>=_) _ _ s
    refine QKq (wpAny_tupleItemsOf (n:=m) ho hd (QKq ?_))
    rw[<-Array.forIn_toList]
    refine wpAny_forIn_list _ (fun rest(b:Array Int)s'=>∃done left bs,xs=done++left/\ReadsAll s.heap rest left bs/\b.toList=hHs w (cns done)/\s'={s with toks:=s.toks+CQ done}) _ ?_ ?_ _ _ ⟨[],xs,as,rfl,h4,rfl,rfl⟩
    ·rintro x rest b s' ⟨done,left,bs,rfl,hl,hb,rfl⟩
     cases hl with
     | @cons _ _ k ks _ bs' h1 hl'=>
      have mk:k∈done++k::ks:=QVq _ QYz
      have dk:=xq mk
      have hu1:A.in1.units+k.depth<cLine:=by
       have:A.in1.units<=A.units+1:=by simp[Around.in1]
       omega
      refine QKq (ih k (s:={s with toks:=s.toks+CQ done}) (by omega) (Cp g mk) h1 hu1 ?_)
      have hb':(b.push (hH w (cn k))).toList=hHs w (cns (done++[k])):=by rw[Gr,FW,Array.toList_push,hb];rfl
      have ht:(CQ done+dr k)=CQ (done++[k]):=by rw[Gh];simp[CQ]
      first
       |exact QKz ⟨done++[k],ks,bs',by simp,hl',hb',by rw[<-ht];simp[Nat.add_assoc]⟩
       |exact QKq (QKz (QKz ⟨done++[k],ks,bs',by simp,hl',hb',by rw[<-ht];simp[Nat.add_assoc]⟩))
    ·rintro b s' ⟨done,left,bs,rfl,hl,hb,rfl⟩
     cases hl
     rw[List.append_nil]at h
     show wpAny _ A.in1 (retInt (Builtin.Tuple.tupleHashOf b.toList)) _ E _
     rw[hb]
     refine(show wpAny _ A.in1 (mkInt (Builtin.Tuple.tupleHashOf (hHs w (cns done)))>>=fun x=>ret x) _ E _ from QKq (wpAny_mkInt (QKz ⟨_,_,rfl,?_⟩)))
     simpa[hH,cn,dr,Nat.add_assoc]using h
  |_=>cases g
def fQ{A:Around}{s:Shared}{v:Value}(d:Nat)(hv:carriedByValue v=true){R:Bool->Shared->Prop}(r:R true s):wpAny (model prog w) A (eqIsQuiet d v) R E s:=by
 rw[eqIsQuiet_byValue d hv]
 exact QKz r
def Ho{A:Around}{s:Shared}{d:Nat}{a:Addr}{o:Obj}{its:Array Value}{n:Nat}{Q:Bool->Shared->Prop}(ho:s.heap.get? a=some o)(hc:o.cls=.type "tuple")(hd:o.data=.seq its n)(hq:∀v∈its.toList,∀R:Bool->Shared->Prop,R true s->wpAny (model prog w) A (eqIsQuiet d v) R E s)(q:Q true s):
  wpAny (model prog w) A (eqIsQuiet (d+1) (.ref a)) Q E s:=by
 have hT:s.TypeIs (.ref a) "tuple":=⟨o,ho,hc⟩
 unfold eqIsQuiet
 refine QKq (wpAny_specialOf hT F.slot_tuple_eq.lookup (show wpAny _ A (isInstance (.ref a) (.type "tuple")>>=_) _ E s from QKq (wpAny_isInstance hT isSubtype_tuple_tuple ?_)))
 rw[if_neg (by decide)]
 refine QKq (wpAny_seqItems (n:=n) ho hd (QKq ?_))
 show wpAny _ A (forIn its _ _) _ E s
 rw[<-Array.forIn_toList]
 refine wpAny_forIn_list _ (fun rest r s'=>s'=s/\r=(none,())/\∀v∈rest,v∈its.toList) _ (fun v rest r s'=>?_) (fun r s'=>?_) _ _ ⟨rfl,rfl,fun v hv=>hv⟩
 ·rintro ⟨rfl,rfl,hm⟩
  exact QKq (hq v (hm v QYz) _ (QKz ⟨rfl,rfl,fun u hu=>hm u (QYq _ hu)⟩))
 ·rintro ⟨rfl,rfl,_⟩
  exact QKz q
theorem yF{h:Heap}:∀{xs:List PyData}{vs:List Value}{as:List Addr},ReadsAll h vs xs as->∀v∈vs,∃x∈xs,∃bs,Reads h v x bs
 |[],_,_,r,v,hv=>by cases r;cases hv
 |x::xs,_,_,r,v,hv=>by
  cases r with
  |cons r1 r2=>
   rcases QCq.mp hv with rfl|hv
   ·exact⟨x,QYz,_,r1⟩
   ·obtain⟨y,hy,q⟩:=yF r2 v hv
    exact⟨y,QYq _ hy,q⟩
def Kl{A:Around}{s:Shared}:∀(n:Nat)(d:PyData){v:Value}{as:List Addr}{Q:Bool->Shared->Prop},d.depth<=n->hk d=true->Reads s.heap v d as->Q true s->wpAny (model prog w) A (eqIsQuiet (n+1) v) Q E s:=by
 intro n
 induction n with
 |zero=>
  intro d v as Q hn g r q
  cases d with
  |int i=>cases r;exact fQ _ rfl q
  |bool b=>cases r;exact fQ _ rfl q
  |str x=>cases r;exact fQ _ rfl q
  |tuple xs=>simp[PyData.depth]at hn
  |_=>cases g
 |succ n ih=>
  intro d v as Q hn g r q
  cases d with
  |int i=>cases r;exact fQ _ rfl q
  |bool b=>cases r;exact fQ _ rfl q
  |str x=>cases r;exact fQ _ rfl q
  |tuple xs=>
   have de:(PyData.tuple xs).depth=PyData.depthAll xs+1:=by simp[PyData.depth,Nat.add_comm]
   cases r with
   | @tuple a o vs m xs as ho hc hd h4=>
    refine Ho ho hc hd (fun v hv R r=>?_) q
    obtain⟨x,hx,bs,rx⟩:=yF h4 v hv
    have:=xq hx
    exact ih x (by omega) (Cp g hx) rx r
  |_=>cases g
def Jd(h:Heap)(k:SK)(a:Addr):Prop:=∃d as,hk d=true/\d.depth<=7/\cn d=k/\Reads h (.ref a) d as
def Jd.inj{h:Heap}{a:Addr}{x y:SK}(g:Jd h x a)(f:Jd h y a):x=y:=by
 obtain⟨d,as,h1,_,rfl,r⟩:=g
 obtain⟨e,bs,_,_,rfl,r'⟩:=f
 rw[SeqAt.Reads.unique d e _ as bs (xJ d h1) r r']
noncomputable def eN(prog:Program)(w:World):HeapKind prog w SK where
 is:=Jd
 hash:=hH w
 draws:=dr
 room:=fun A=>A.units+8<cLine
 inj:=fun g f=>g.inj f
 keeps:=fun x ho hd hs=>let ⟨d,as,h1,h2,h3,r⟩:=x;⟨d,as,h1,h2,h3,qG ho hd hs d h1 r⟩
 pyHash:=fun hu x q=>by
  obtain⟨d,as,h1,h2,rfl,r⟩:=x
  rw[Vc]at q
  exact Rz 7 d h2 h1 r (by omega) q
 eqBool:=fun hu g f q=>by
  obtain⟨d,as,h1,h2,rfl,r⟩:=g
  obtain⟨e,bs,h3,h4,rfl,r'⟩:=f
  rw[<-CK d e h1 h3]at q
  exact SeqAt.eqAt_reads d e _ _ _ _ as bs r r' (xJ d h1) (xJ e h3) (by have:min d.depth e.depth<=d.depth:=Nat.min_le_left _ _;omega) _ _ _ _ q
 quiet:=fun x q=>by
  obtain⟨d,as,h1,h2,_,r⟩:=x
  exact Kl 7 d h2 h1 r q
end
end Mini
end
section
namespace Mini
open PySem L2
def pJ(h:Heap)(d:Addr)(es:Array DictEntry)(ep:Nat):Prop:=∃o,h.get? d=some o/\o.ExactDict/\o.data=.dict es ep
section
def I9(y:(d==sysModules)=false)(B:pJ s.heap d es ep)
  (q:Q (.ref s.heap.objs.size) {s with heap:=s.heap.push {cls:=.type "dict_keyiterator",data:=.fields #[.ref d,.int 0 0,.int es.size 0,.int ep 0]}}):wpAny (model prog w) A (pyIter (.ref d)) Q E s:=by
 obtain⟨o,h1,h2,h3⟩:=B
 have t:s.TypeIs (.ref d) "dict":=⟨o,h1,h2.1⟩
 refine wpAny_pyIter_slot t F.slot_dict_iter (Qzz F.slot_dict_iter t F.entry_dict_iter ?_ (F.args_dict_iter_1 _))
 refine QKq (QKq (wpAny_notOrdered_dict t (QKz ?_)))
 show wpAny _ _ (Builtin.Dict.showsAll d>>=_) _ _ s;unfold Builtin.Dict.showsAll;rw[if_neg (by rw[y];decide)]
 refine QKq (QKz (QKq (wpAny_dictEntries h1 h3 (QKq (wpAny_dictEpoch h1 h3 ?_)))))
 refine QKq (Qjq (QKz ⟨_,rfl,"dict_keyiterator",_,⟨_,Qzq _ rfl,rfl⟩,F.slot_dict_keyiterator_next.lookup,q⟩))
def Ja{Q:Option Value->Shared->Prop}(st:s.heap.IsKeyIter it d i es.size ep)(B:pJ s.heap d es ep)(x:es[i]? =some e)
  (q:∀h',h'.IsKeyIter it d (i+1) es.size ep->Heap.SameBut it s.heap h'->Q (some e.key) {s with heap:=h'}):wpAny (model prog w) A (pyNext (.ref it)) Q E s:=by
 obtain⟨o,g1,g2,g3⟩:=id st
 obtain⟨od,h1,h2,h3⟩:=B
 refine QKq (wpAny_attempt (wpAny_callSpecial?_slot st.typeIs F.slot_dict_keyiterator_next (Qzz F.slot_dict_keyiterator_next st.typeIs F.entry_dict_keyiterator_next ?_ (F.args_dict_keyiterator_next_1 _))))
 refine QKq (QKz (QKq (QKq ?_)))
 first|refine QKq (wpAny_typeNameOfWhole_keyiter st.typeIs (QKz ?_))|refine QKq _
 refine QKq (wpAny_fieldsOf g1 g3 ?_)
 refine QKq (QKz (QKq (wpAny_dictEntries h1 h3 ?_)))
 rw[if_neg (by simp)]
 refine QKq (QKz (QKq (wpAny_dictEpoch h1 h3 ?_)))
 rw[if_neg (by simp)]
 refine QKz ?_
 simp only[show¬(i<0) by omega,if_false,Int.toNat_natCast,x]
 refine QKq ?_
 first|refine QKq (wpAny_typeNameOfWhole_keyiter st.typeIs (QKz ?_))|refine QKq _
 refine QKq (wpAny_isOneOf_keyiter st.typeIs ?_)
 show wpAny _ _ (setField _ 1 (rawInt (i+1))>>=_) _ _ s;refine QKq (wpAny_setField g1 g3 (by simp) ?_)
 have st':(s.heap.update it (Obj.mapFields (·.setIfInBounds 1 (rawInt (i+1))))).IsKeyIter it d (i+1) es.size ep:=⟨_,Heap.get?_update_self _ g1 (Obj.isFreed_of_fields (Obj.data_mapFields g3 _)),(Obj.cls_mapFields ..).trans g2,by rw[Obj.data_mapFields g3];simp[rawInt]⟩
 exact QKq (Qqq (QKq (wpAny_isOneOf_keyiter (s:={s with heap:=s.heap.update it (Obj.mapFields (·.setIfInBounds 1 (rawInt (i+1))))}) st'.typeIs (QKz (QKz ⟨_,rfl,QKz (q _ st' (Heap.SameBut.update ..))⟩)))))
def Od(hh:A.handled=none)(st:s.heap.IsKeyIter it d i es.size ep)(B:pJ s.heap d es ep)(x:es.size<=i)
  (q:∀h',Heap.ExtBut it s.heap h'->Q none {s with heap:=h'}):wpAny (model prog w) A (pyNext (.ref it)) Q E s:=by
 obtain⟨o,g1,g2,g3⟩:=id st
 obtain⟨od,h1,h2,h3⟩:=B
 refine QKq (wpAny_attempt (wpAny_callSpecial?_slot st.typeIs F.slot_dict_keyiterator_next (Qzz F.slot_dict_keyiterator_next st.typeIs F.entry_dict_keyiterator_next ?_ (F.args_dict_keyiterator_next_1 _))))
 refine QKq (QKz (QKq (QKq ?_)))
 first|refine QKq (wpAny_typeNameOfWhole_keyiter st.typeIs (QKz ?_))|refine QKq _
 refine QKq (wpAny_fieldsOf g1 g3 ?_)
 refine QKq (QKz (QKq (wpAny_dictEntries h1 h3 ?_)))
 rw[if_neg (by simp)]
 refine QKq (QKz (QKq (wpAny_dictEpoch h1 h3 ?_)))
 rw[if_neg (by simp)]
 refine QKz ?_
 simp only[show¬(i<0) by omega,if_false,Int.toNat_natCast,Array.getElem?_eq_none x]
 refine QKq ?_
 first|refine QKq (wpAny_typeNameOfWhole_keyiter st.typeIs (QKz ?_))|refine QKq _
 show wpAny _ _ (setField _ 0 .none>>=_) _ _ s;refine QKq (wpAny_setField g1 g3 (by simp) ?_)
 show wpAny _ _ _ _ _ _;refine QKq ?_
 refine QKq (Qjq (QKq (wpAny_of_eq (by first|rfl|(simp only[firstArgMember];rfl)) ?_)) (by size_fits))
 refine Qjq ?_ (by size_fits);simp only[raiseNew]
 refine QKq (wpAny_handled ?_);rw[show A.in1.handled=none from hh]
 refine QKq (QKz (wpAny_throw ?_));refine QKq (wpAny_isInstance ⟨_,Qzq _ rfl,rfl⟩ isSubtype_stop ?_)
 exact QKz (q _ (((Heap.SameBut.update ..).extBut.push _).push _))
end
section
variable{s:Shared}
def pJ.stay(B:pJ h d es ep)(k:∀o,h.get? d=some o->h'.get? d=some o):pJ h' d es ep:=let ⟨o,e,r⟩:=B;⟨o,k _ e,r⟩
def pJ.lt(B:pJ h d es ep):d<h.objs.size:=let ⟨_,e,_⟩:=B;Qqz e
def pJ.type(B:pJ s.heap d es ep):s.TypeIs (.ref d) "dict":=let ⟨o,e,c,_⟩:=B;⟨o,e,c.1⟩
theorem Dt(hh:A.handled=none)(ne:d≠it):Walks prog w A it [it,d] [it] es.size (fun i v=>∃e,es[i]? =some e/\v=e.key) (fun i h=>h.IsKeyIter it d i es.size ep/\pJ h d es ep) where
 sub:=fun b hb=>QCq.mpr (.inl (QDz.mp hb))
 frame:=fun _ _ _ st k=>⟨st.1.at fun o e=>k it QYz o e,st.2.stay fun o e=>k d (QYq _ QYz) o e⟩
 item:=fun i s Q E hi st q=>Ja st.1 st.2 (Array.getElem?_eq_getElem hi) fun h' st' sb=>q _ h' s.toks ⟨es[i],Array.getElem?_eq_getElem hi,rfl⟩ ⟨st',st.2.stay fun o e=>(sb.2 d ne).trans e⟩ fun b o hb e=>(sb.2 b fun z=>hb (QDz.mpr z)).trans e
 done:=fun s Q E st q=>Od hh st.1 st.2 (QVz _) fun h' eb=>q h' s.toks fun b o hb e=>eb b o (fun z=>hb (QDz.mpr z)) e
 self:=fun _ _ _ _ st q=>wpAny_pyIter_keyiter st.1 q
theorem Oc(y:(d==sysModules)=false):PySem.W.KdlSrc prog w "dict" d d es.size (fun i v=>∃e,es[i]? =some e/\v=e.key) (fun h=>pJ h d es ep) where
 type:=fun _ B=>B.type
 there:=fun _ B=>⟨B.lt,B.lt⟩
 keep:=fun _ _ B k=>B.stay fun o e=>k d (.inl rfl) o e
 notList:=by decide
 notTuple:=by decide
 hint:=fun _ _ _ _ B q=>PySem.W.kdl_hint_dict B.type q
 iter:=fun _ _ hh B=>⟨_,_,(fun _ _ q=>I9 y B q),Dt hh (Qvz B.lt),⟨⟨_,Qzq _ rfl,rfl,rfl⟩,B.stay fun o e=>QWq _ e⟩⟩
end
end Mini
end
section
namespace Mini
open PySem L2 PyProof.Rows
def tu(b:Bool)(h:Heap)(it l:Addr)(k:Nat):Prop:=match b with|true=>h.IsListIter it l k|false=>h.IsTupleIter it l k
def xX(b:Bool)(h:Heap)(l:Addr)(xs:Array Value):Prop:=match b with|true=>h.IsList l xs|false=>h.IsTuple l xs
def tu.at{h h':Heap}{k:Nat}(x:tu b h it l k)(e:∀o,h.get? it=some o->h'.get? it=some o):tu b h' it l k:=by
 cases b<;>exact Exists.elim x fun o⟨h1,h2⟩=>⟨o,e o h1,h2⟩
def xX.at{h h':Heap}{xs:Array Value}(x:xX b h l xs)(e:∀o,h.get? l=some o->h'.get? l=some o):xX b h' l xs:=by
 cases b<;>exact Exists.elim x fun o⟨h1,h2⟩=>⟨o,e o h1,h2⟩
def tu.obj{h:Heap}{k:Nat}(x:tu b h it l k):∃o,h.get? it=some o/\∀v,o.data≠ .cell v:=by
 cases b<;>exact Exists.elim x fun o⟨h1,_,h2⟩=>⟨o,h1,fun v z=>by rw[h2]at z;cases z⟩
def tu.lt{h:Heap}{k:Nat}(x:tu b h it l k):it<h.objs.size:=let ⟨_,e,_⟩:=x.obj;Qqz e
section
def mG{i:Nat}{items}{Q:QZq}(hit:s.heap.IsTupleIter it l i)
  (hl:s.heap.IsTuple l items)(hx:items[i]? =some x)
  (hQ:∀h',h'.IsTupleIter it l (i+1)->Heap.SameBut it s.heap h'->Q x {s with heap:=h'}):
  wpAny (model prog w) A (Builtin.SmallTypes.nextOf (.ref it)) Q E s:=by
 obtain⟨o,ho,hc,hd⟩:=id hit
 obtain⟨ol,hol,_,nl,hdl⟩:=hl
 refine QKq (wpAny_callSpecial?_slot hit.typeIs PySem.F.slot_tuple_iterator_next
  (Qzz PySem.F.slot_tuple_iterator_next hit.typeIs PySem.F.entry_tuple_iterator_next ?_ (PySem.F.args_tuple_iterator_next_1 _)))
 show wpAny _ _ (field _ 0>>=_) _ _ s
 refine QKq (QGz ho hd rfl ?_)
 refine QKq (QGz ho hd rfl ?_)
 refine QKq (wpAny_seqItems hol hdl ?_)
 simp only[Int.toNat_natCast,hx]
 refine QKq (wpAny_setField ho hd (by simp) (QKz ⟨x,rfl,QKz (hQ _ ?_ (Heap.SameBut.update ..))⟩))
 exact⟨_,Heap.get?_update_self _ ho (Obj.isFreed_of_fields (Obj.data_mapFields hd _)),(Obj.cls_mapFields ..).trans hc,by
  rw[Obj.data_mapFields hd];simp[rawInt]⟩
def nY{i:Nat}{items}(hh:A.handled=none)
  (hit:s.heap.IsTupleIter it l i)(hl:s.heap.IsTuple l items)(hx:items[i]? =none)
  (hE:∀h' e,Heap.ExtBut it s.heap h'->(∃o,h'.get? e=some o/\o.cls=.type "StopIteration")->E (.ref e) {s with heap:=h'}):
  wpAny (model prog w) A (Builtin.SmallTypes.nextOf (.ref it)) Q E s:=by
 obtain⟨o,ho,hc,hd⟩:=id hit
 obtain⟨ol,hol,_,nl,hdl⟩:=hl
 refine QKq (wpAny_callSpecial?_slot hit.typeIs PySem.F.slot_tuple_iterator_next
  (Qzz PySem.F.slot_tuple_iterator_next hit.typeIs PySem.F.entry_tuple_iterator_next ?_ (PySem.F.args_tuple_iterator_next_1 _)))
 show wpAny _ _ (field _ 0>>=_) _ _ s
 refine QKq (QGz ho hd rfl ?_)
 refine QKq (QGz ho hd rfl ?_)
 refine QKq (wpAny_seqItems hol hdl ?_)
 simp only[Int.toNat_natCast,hx]
 refine QKq (wpAny_rule (QKq (wpAny_setField ho hd (by simp) ?_)))
 refine QKq ?_
 refine QKq (Qjq ?_ (by size_fits))
 refine QKq (wpAny_of_eq (by first|rfl|(simp only[firstArgMember];rfl)) ?_)
 refine Qjq ?_ (by size_fits)
 refine QKq (wpAny_handled ?_)
 first|rw[show A.in1.handled=none from hh]|rw[hh]
 refine QKq (QKz (wpAny_throw (hE _ _ (((Heap.SameBut.update ..).extBut.push _).push _) ⟨_,Qzq _ rfl,rfl⟩)))
theorem eU{it l:Addr}{items}{Q:QZq}(hit:tu b s.heap it l i)
  (hl:xX b s.heap l items)(hx:items[i]? =some x)(hQ:∀h',tu b h' it l (i+1)->Heap.SameBut it s.heap h'->Q x {s with heap:=h'}):
  wpAny (model prog w) A (Builtin.SmallTypes.nextOf (.ref it)) Q E s:=by
 cases b with
 |true=>exact wpAny_nextOf_list_item hit hl hx hQ
 |false=>exact mG hit hl hx hQ
theorem jR{it l:Addr}{items}(hh:A.handled=none)
  (hit:tu b s.heap it l i)(hl:xX b s.heap l items)(hx:items[i]? =none)
  (hE:∀h' e,Heap.ExtBut it s.heap h'->(∃o,h'.get? e=some o/\o.cls=.type "StopIteration")->E (.ref e) {s with heap:=h'}):
  wpAny (model prog w) A (Builtin.SmallTypes.nextOf (.ref it)) Q E s:=by
 cases b with
 |true=>exact wpAny_nextOf_list_end hh hit hl hx hE
 |false=>exact nY hh hit hl hx hE
end
def jc(h:Heap)(z TI TO:Addr)(f0 f1:Value):Prop:=
 h.get? z=some {cls:=.type "zip",dict:=none,data:=.fields #[f0,f1,.bool false,.ref TI,.ref TO],slots:= #[]}
def F0(f0:Value):Prop:=f0=.none\/∃T:Nat,f0=rawInt T
section
def lU{a:Addr}(h:Q (s.heap.get? a) s):wpAny M A (loadIfAlive a) Q E s:=fun Γ p hΓ=>by
 show Sem.wp M Γ _ _ _ p s
 exact(QKz (M:=M) (E:=E) h) Γ p hΓ
theorem yc{z TI TO:Addr}{f0 f1:Value}(hz:jc s.heap z TI TO f0 f1)(h0:F0 f0)(hQ1:Q true s)
  (hQ2:∀h' g1,jc h' z TI TO f0 g1->Heap.SameBut z s.heap h'->Q false {s with heap:=h'}):wpAny (model prog w) A (Builtin.SmallTypes.ownedTupleIsFree (.ref z)) Q E s:=by
 rcases h0 with rfl|⟨T,rfl⟩
 ·exact QKq (QGz hz rfl rfl (QKz hQ1))
 ·refine QKq (QGz hz rfl rfl ?_)
  refine QKq (lU ?_)
  cases hT:s.heap.get? _ with
  |none=>exact QKz hQ1
  |some o=>
   refine QKq (QGz hz rfl (x:=f1) rfl ?_)
   by_cases hf:(f1 != .bool true)=true
   ·rw[if_pos hf]
    refine QKq (wpAny_setField_rec hz (by simp) fun h' hz' hs'=>QKz (hQ2 h' _ hz' hs'))
   ·rw[if_neg hf]
    exact QKz (hQ2 s.heap f1 hz (Heap.SameBut.refl ..))
structure Ox(z TI TO i1 i2:Addr)(b1 b2:Bool)(l1 l2:Addr)(k1 k2:Nat)(T:Addr)(x y:Value)(h h':Heap):Prop where
 zr:∃f0 f1,jc h' z TI TO f0 f1/\F0 f0
 ti:IsPair h' TI (.ref i1) (.ref i2)
 to:∃a b,IsPair h' TO a b
 it1:tu b1 h' i1 l1 k1
 it2:tu b2 h' i2 l2 k2
 new:IsPair h' T x y
 size:h'.objs.size=T+1
 keep:∀c o,c≠z->c≠TO->c≠i1->c≠i2->h.get? c=some o->h'.get? c=some o
def GJ{z TI TO i1 i2 l1 l2:Addr}{k1 k2:Nat}{xs ys:Array Value}{Q:QZq}(D:ZipApart z TI TO i1 i2 l1 l2)
  (hz:jc s.heap z TI TO f0 f1)(h0:F0 f0)(hTI:IsPair s.heap TI (.ref i1) (.ref i2))(hTO:IsPair s.heap TO a b)
  (h1:tu b1 s.heap i1 l1 k1)(h2:tu b2 s.heap i2 l2 k2)(hl1:xX b1 s.heap l1 xs)(hl2:xX b2 s.heap l2 ys)(hx:xs[k1]? =some x)(hy:ys[k2]? =some y)
  (hQ:∀h',Ox z TI TO i1 i2 b1 b2 l1 l2 (k1+1) (k2+1) s.heap.objs.size x y s.heap h'->Q (.ref s.heap.objs.size) {s with heap:=h'}):
  wpAny (model prog w) A (Builtin.«zip.__next__» ⟨[.ref z],[]⟩) (fun fin s'=>∃v,fin=.done (.ret v)/\Q v s') E s:=by
 show wpAny _ _ (field (.ref z) 2>>=_) _ _ _
 refine QKq (QGz hz rfl rfl ?_)
 refine QKq (QGz hz rfl rfl ?_)
 refine QKq (wpAny_seqItems hTI rfl ?_)
 refine QKq (yc hz h0 ?_ ?_)
 ·--the tuple of its own is used again
  refine QKq (wpAny_rule ?_)
  refine QKq (QGz hz rfl rfl ?_)
  refine QKq (wpAny_setField_rec hz (by simp) fun Δ ω θ=>?_)
  replace ω:jc Δ z TI TO .ellipsis f1:=ω
  refine QKq ?_
  refine QKq (QKq (wpAny_onRaise ?_))
  refine QKq (eU (h1.at fun o e=>θ.extBut _ _ D.i1z e) (hl1.at fun o e=>θ.extBut _ _ D.l1z e) hx fun h₂ h1₂ μ=>QKz ?_)
  have hTO₂:=μ.extBut _ _ D.TOi1 (θ.extBut _ _ D.TOz hTO)
  refine QKq (wpAny_seqItems hTO₂ rfl ?_)
  refine QKq (wpAny_updateSeq_pair hTO₂ fun h₃ hTO₃ ψ=>?_)
  replace hTO₃:IsPair h₃ TO x b:=hTO₃
  refine QKq (wpAny_letGo (QKz ?_))
  refine QKq (QKq (wpAny_onRaise ?_))
  refine QKq (eU (h2.at fun o e=>ψ.extBut _ _ D.TOi2.symm (μ.extBut _ _ D.i12.symm (θ.extBut _ _ D.i2z e)))
   (hl2.at fun o e=>ψ.extBut _ _ D.l2TO (μ.extBut _ _ D.l2i1 (θ.extBut _ _ D.l2z e))) hy fun h₄ h2₄ χ=>QKz ?_)
  have hTO₄:=χ.extBut _ _ D.TOi2 hTO₃
  refine QKq (wpAny_seqItems hTO₄ rfl ?_)
  refine QKq (wpAny_updateSeq_pair hTO₄ fun Ω hTO₅ Ξ=>?_)
  replace hTO₅:IsPair Ω TO x y:=hTO₅
  refine QKq (wpAny_letGo (QKz (QKz ?_)))
  refine QKq (wpAny_seqItems hTO₅ rfl ?_)
  refine QKq (wpAny_newTuple ?_)
  have hsz:Ω.objs.size=s.heap.objs.size:=by rw[Ξ.1,χ.1,ψ.1,μ.1,θ.1]
  have hz₅:=Ξ.extBut _ _ D.TOz.symm (χ.extBut _ _ D.i2z.symm (ψ.extBut _ _ D.TOz.symm (μ.extBut _ _ D.i1z.symm ω)))
  have hk₅:∀c o,c≠z->c≠TO->c≠i1->c≠i2->s.heap.get? c=some o->Ω.get? c=some o:=fun c o c1 c2 c3 c4 e=>
   Ξ.extBut _ _ c2 (χ.extBut _ _ c4 (ψ.extBut _ _ c2 (μ.extBut _ _ c3 (θ.extBut _ _ c1 e))))
  have hzlt:=Qqz hz₅
  refine QKq ?_
  refine QKq (wpAny_setField_rec (QWq _ hz₅) (by simp) fun h₇ hz₇ hs₇=>?_)
  replace hz₇:jc h₇ z TI TO (rawInt Ω.objs.size) f1:=hz₇
  refine wpAny_setField_rec hz₇ (by simp) fun h₈ hz₈ hs₈=>?_
  replace hz₈:jc h₈ z TI TO (rawInt Ω.objs.size) (.bool false):=hz₈
  have up:∀c o,c≠z->Ω.get? c=some o->h₈.get? c=some o:=fun c o c1 e=>hs₈.extBut _ _ c1 (hs₇.extBut _ _ c1 (QWq _ e))
  have hT₈:=hs₈.extBut _ _ (Nat.ne_of_gt hzlt) (hs₇.extBut _ _ (Nat.ne_of_gt hzlt) (Qzq _ rfl))
  have hz8:h₈.objs.size=Ω.objs.size+1:=by rw[hs₈.1,hs₇.1,Heap.size_push]
  rw[hsz]at hz₈ hT₈ hz8
  refine QKz ⟨_,rfl,?_⟩
  rw[hsz]
  exact hQ h₈ ⟨⟨_,_,hz₈,.inr ⟨_,rfl⟩⟩,up _ _ D.TIz (hk₅ _ _ D.TIz D.TITO D.TIi1 D.TIi2 hTI),⟨_,_,up _ _ D.TOz hTO₅⟩,(h1₂.at fun o e=>Ξ.extBut _ _ D.TOi1.symm (χ.extBut _ _ D.i12 (ψ.extBut _ _ D.TOi1.symm e))).at fun o e=>up _ o D.i1z e,(h2₄.at fun o e=>Ξ.extBut _ _ D.TOi2.symm e).at fun o e=>up _ o D.i2z e,hT₈,hz8,fun c o c1 c2 c3 c4 e=>up c o c1 (hk₅ c o c1 c2 c3 c4 e)⟩
 ·--it was kept:a new one
  intro Δ g1 ω θ
  refine QKq ?_
  refine QKq (QKq (Qqq ?_))
  refine QKq (eU (h1.at fun o e=>θ.extBut _ _ D.i1z e) (hl1.at fun o e=>θ.extBut _ _ D.l1z e) hx fun h₂ h1₂ μ=>QKz ?_)
  refine QKz ?_
  refine QKq (QKq (Qqq ?_))
  refine QKq (eU (h2.at fun o e=>μ.extBut _ _ D.i12.symm (θ.extBut _ _ D.i2z e))
   (hl2.at fun o e=>μ.extBut _ _ D.l2i1 (θ.extBut _ _ D.l2z e)) hy fun h₄ h2₄ χ=>QKz ?_)
  refine QKz (QKz ?_)
  have hsz:h₄.objs.size=s.heap.objs.size:=by rw[χ.1,μ.1,θ.1]
  have hk:∀c o,c≠z->c≠i1->c≠i2->s.heap.get? c=some o->h₄.get? c=some o:=fun c o c1 c3 c4 e=>χ.extBut _ _ c4 (μ.extBut _ _ c3 (θ.extBut _ _ c1 e))
  refine QKq (wpAny_newTuple (QKz ⟨_,rfl,?_⟩) (by show 2<=sizeLine;rw[sizeLine_eq];decide))
  have T:Ox z TI TO i1 i2 b1 b2 l1 l2 (k1+1) (k2+1) s.heap.objs.size x y s.heap (h₄.push {cls:=.type "tuple",data:=.seq #[x,y]}):=by
   refine⟨⟨f0,g1,QWq _ (χ.extBut _ _ D.i2z.symm (μ.extBut _ _ D.i1z.symm ω)),h0⟩,QWq _ (hk _ _ D.TIz D.TIi1 D.TIi2 hTI),⟨a,b,QWq _ (hk _ _ D.TOz D.TOi1 D.TOi2 hTO)⟩,
    h1₂.at fun o e=>QWq _ (χ.extBut _ _ D.i12 e),h2₄.at fun o e=>QWq _ e,?_,by rw[Heap.size_push,hsz],fun c o c1 c2 c3 c4 e=>QWq _ (hk c o c1 c3 c4 e)⟩
   rw[<-hsz]
   exact Qzq _ rfl
  rw[hsz]
  exact hQ _ T
theorem Jj{z TI TO i1 i2 l1 l2:Addr}{k1 k2:Nat}{a b f0 f1:Value}(hh:A.handled=none)(D:ZipApart z TI TO i1 i2 l1 l2)
  (hz:jc s.heap z TI TO f0 f1)(h0:F0 f0)(hTI:IsPair s.heap TI (.ref i1) (.ref i2))(hTO:IsPair s.heap TO a b)
  (h1:tu b1 s.heap i1 l1 k1)(h2:tu b2 s.heap i2 l2 k2)(hl1:xX b1 s.heap l1 xs)(hl2:xX b2 s.heap l2 ys)(hend:xs[k1]? =none\/ys[k2]? =none)
  (hE:∀h' e,(∀c o,c≠z->c≠TO->c≠i1->c≠i2->s.heap.get? c=some o->h'.get? c=some o)->(∃o,h'.get? e=some o/\o.cls=.type "StopIteration")->E (.ref e) {s with heap:=h'}):
  wpAny (model prog w) A (Builtin.«zip.__next__» ⟨[.ref z],[]⟩) Q E s:=by
 show wpAny _ _ (field _ 2>>=_) _ _ _
 refine QKq (QGz hz rfl rfl ?_)
 refine QKq (QGz hz rfl rfl ?_)
 refine QKq (wpAny_seqItems hTI rfl ?_)
 refine QKq (yc hz h0 ?_ ?_)
 ·simp only[if_true]
  refine QKq (wpAny_rule ?_)
  refine QKq (QGz hz rfl rfl ?_)
  refine QKq (wpAny_setField_rec hz (by simp) fun Δ ω θ=>?_)
  replace ω:jc Δ z TI TO .ellipsis f1:=ω
  refine QKq ?_
  refine QKq (QKq (wpAny_onRaise ?_))
  cases hx:xs[k1]? with
  |none=>
   refine QKq (jR hh (h1.at fun o e=>θ.extBut _ _ D.i1z e) (hl1.at fun o e=>θ.extBut _ _ D.l1z e) hx fun h₂ e μ he=>?_)
   obtain⟨oe,hoe,hce⟩:=he
   have hz₂:jc h₂ z TI TO .ellipsis f1:=μ _ _ D.i1z.symm ω
   refine wpAny_setField_rec hz₂ (by simp) fun h₃ _ ψ=>hE h₃ e (fun c o c1 _ c3 _ x=>ψ.extBut _ _ c1 (μ _ _ c3 (θ.extBut _ _ c1 x))) ⟨oe,ψ.extBut _ _ (fun x=>by subst x;unfold jc at hz₂;rw[hz₂]at hoe;cases hoe;simp at hce) hoe,hce⟩
  |some x=>
   have hy:ys[k2]? =none:=by
    rcases hend with h|h
    ·rw[hx]at h;cases h
    ·exact h
   refine QKq (eU (h1.at fun o e=>θ.extBut _ _ D.i1z e) (hl1.at fun o e=>θ.extBut _ _ D.l1z e) hx fun h₂ h1₂ μ=>QKz ?_)
   have hTO₂:=μ.extBut _ _ D.TOi1 (θ.extBut _ _ D.TOz hTO)
   refine QKq (wpAny_seqItems hTO₂ rfl ?_)
   refine QKq (wpAny_updateSeq_pair hTO₂ fun h₃ hTO₃ ψ=>?_)
   refine QKq (wpAny_letGo (QKz ?_))
   refine QKq (QKq (wpAny_onRaise ?_))
   refine QKq (jR hh (h2.at fun o e=>ψ.extBut _ _ D.TOi2.symm (μ.extBut _ _ D.i12.symm (θ.extBut _ _ D.i2z e)))
    (hl2.at fun o e=>ψ.extBut _ _ D.l2TO (μ.extBut _ _ D.l2i1 (θ.extBut _ _ D.l2z e))) hy fun h₄ e χ he=>?_)
   obtain⟨oe,hoe,hce⟩:=he
   have hz₄:jc h₄ z TI TO .ellipsis f1:=χ _ _ D.i2z.symm (ψ.extBut _ _ D.TOz.symm (μ.extBut _ _ D.i1z.symm ω))
   refine wpAny_setField_rec hz₄ (by simp) fun Ω _ Ξ=>hE Ω e (fun c o c1 c2 c3 c4 x=>Ξ.extBut _ _ c1 (χ _ _ c4 (ψ.extBut _ _ c2 (μ.extBut _ _ c3 (θ.extBut _ _ c1 x))))) ⟨oe,Ξ.extBut _ _ (fun x=>by subst x;unfold jc at hz₄;rw[hz₄]at hoe;cases hoe;simp at hce) hoe,hce⟩
 ·intro Δ g1 ω θ
  refine QKq ?_
  refine QKq (QKq (Qqq ?_))
  cases hx:xs[k1]? with
  |none=>
   exact QKq (jR hh (h1.at fun o e=>θ.extBut _ _ D.i1z e) (hl1.at fun o e=>θ.extBut _ _ D.l1z e) hx fun h₂ e μ he=>hE h₂ e (fun c o c1 _ c3 _ x=>μ _ _ c3 (θ.extBut _ _ c1 x)) he)
  |some x=>
   have hy:ys[k2]? =none:=by
    rcases hend with h|h
    ·rw[hx]at h;cases h
    ·exact h
   refine QKq (eU (h1.at fun o e=>θ.extBut _ _ D.i1z e) (hl1.at fun o e=>θ.extBut _ _ D.l1z e) hx fun h₂ h1₂ μ=>QKz ?_)
   refine QKz ?_
   refine QKq (QKq (Qqq ?_))
   exact QKq (jR hh (h2.at fun o e=>μ.extBut _ _ D.i12.symm (θ.extBut _ _ D.i2z e))
    (hl2.at fun o e=>μ.extBut _ _ D.l2i1 (θ.extBut _ _ D.l2z e)) hy fun h₄ e χ he=>hE h₄ e (fun c o c1 _ c3 c4 x=>χ _ _ c4 (μ.extBut _ _ c3 (θ.extBut _ _ c1 x))) he)
def pB{z TI TO i1 i2 l1 l2:Addr}{k1 k2:Nat}{x y a b f0 f1:Value}(D:ZipApart z TI TO i1 i2 l1 l2)
  (hz:jc s.heap z TI TO f0 f1)(h0:F0 f0)(hTI:IsPair s.heap TI (.ref i1) (.ref i2))(hTO:IsPair s.heap TO a b)
  (h1:tu b1 s.heap i1 l1 k1)(h2:tu b2 s.heap i2 l2 k2)(hl1:xX b1 s.heap l1 xs)(hl2:xX b2 s.heap l2 ys)(hx:xs[k1]? =some x)(hy:ys[k2]? =some y)
  (hQ:∀h',Ox z TI TO i1 i2 b1 b2 l1 l2 (k1+1) (k2+1) s.heap.objs.size x y s.heap h'->Q (some (.ref s.heap.objs.size)) {s with heap:=h'}):
  wpAny (model prog w) A (pyNext (.ref z)) Q E s:=by
 have hT:s.TypeIs (.ref z) "zip":=⟨_,hz,rfl⟩
 exact QKq (wpAny_attempt (wpAny_callSpecial?_slot hT PySem.F.slot_zip_next
  (Qzz PySem.F.slot_zip_next hT PySem.F.entry_zip_next
   (GJ D hz h0 hTI hTO h1 h2 hl1 hl2 hx hy fun h' T=>QKz (hQ h' T)) (PySem.F.args_zip_next_1 _))))
def qJ{z TI TO i1 i2 l1 l2:Addr}{k1 k2:Nat}{a b f0 f1:Value}(hh:A.handled=none)(D:ZipApart z TI TO i1 i2 l1 l2)
  (hz:jc s.heap z TI TO f0 f1)(h0:F0 f0)(hTI:IsPair s.heap TI (.ref i1) (.ref i2))(hTO:IsPair s.heap TO a b)
  (h1:tu b1 s.heap i1 l1 k1)(h2:tu b2 s.heap i2 l2 k2)(hl1:xX b1 s.heap l1 xs)(hl2:xX b2 s.heap l2 ys)(hend:xs[k1]? =none\/ys[k2]? =none)
  (hQ:∀h',(∀c o,c≠z->c≠TO->c≠i1->c≠i2->s.heap.get? c=some o->h'.get? c=some o)->Q none {s with heap:=h'}):wpAny (model prog w) A (pyNext (.ref z)) Q E s:=by
 have hT:s.TypeIs (.ref z) "zip":=⟨_,hz,rfl⟩
 refine QKq (wpAny_attempt (wpAny_callSpecial?_slot hT PySem.F.slot_zip_next
  (Qzz PySem.F.slot_zip_next hT PySem.F.entry_zip_next (Jj hh D hz h0 hTI hTO h1 h2 hl1 hl2 hend fun h' e hk he=>?_) (PySem.F.args_zip_next_1 _))))
 obtain⟨o,ho,hc⟩:=he
 exact QKq (wpAny_isInstance ⟨o,ho,hc⟩ isSubtype_stop (QKz (hQ _ hk)))
end
section
theorem HN{z TI TO T:Addr}{f0 f1:Value}(hz:jc s.heap z TI TO f0 f1)(h0:F0 f0)
  (hQ:∀h' g0,jc h' z TI TO g0 f1->F0 g0->Heap.SameBut z s.heap h'->Q () {s with heap:=h'}):wpAny (model prog w) A (letOwnedTupleGo tg (.ref z) (.ref T)) Q E s:=by
 have same:=hQ s.heap f0 hz h0 (Heap.SameBut.refl ..)
 have go:wpAny (model prog w) A (do
   let o<-load z
   match o.cls,o.data with
   |.type n,.fields vs=>
    if ["enumerate","zip","dict_itemiterator","dict_reverseitemiterator","odict_iterator","itertools.zip_longest","itertools.pairwise"].contains n&&vs[0]? ==some (rawInt T)then
     rule "for.unpacks-the-owned-tuple"
     updateField z 0 .none
   |_,_=>pure ()) Q E s:=by
  refine QKq (wpAny_load hz ?_)
  show wpAny _ _ (if (["enumerate","zip","dict_itemiterator","dict_reverseitemiterator","odict_iterator","itertools.zip_longest","itertools.pairwise"].contains "zip"&&
   (#[f0,f1,.bool false,.ref TI,.ref TO])[0]? ==some _)=true then _ else _) Q E s
  split
  ·exact QKq (wpAny_rule (wpAny_setField_rec hz (by simp) fun h' hz' hs'=>hQ h' .none hz' (.inl rfl) hs'))
  ·exact QKz same
 cases tg<;>first
  |exact QKz same
  |exact go
def iD{z TI TO:Addr}{f0 f1:Value}(hz:jc s.heap z TI TO f0 f1)(h:Q (.ref z) s):wpAny (model prog w) A (pyIter (.ref z)) Q E s:=by
 have hT:s.TypeIs (.ref z) "zip":=⟨_,hz,rfl⟩
 exact wpAny_pyIter_slot hT PySem.F.slot_zip_iter (Qzz PySem.F.slot_zip_iter hT PySem.F.entry_zip_iter (QKz ⟨_,rfl,"zip",_,hT,PySem.F.slot_zip_next.lookup,h⟩) (PySem.F.args_zip_iter_1 _))
end
def itN(b:Bool):String:=if b then "list_iterator" else "tuple_iterator"
abbrev zH1(b1:Bool)(h:Heap)(l1:Addr):Heap:=h.push {cls:=.type (itN b1),data:=.fields #[.ref l1,.int 0 0]}
abbrev zH2(b1 b2:Bool)(h:Heap)(l1 l2:Addr):Heap:=(zH1 b1 h l1).push {cls:=.type (itN b2),data:=.fields #[.ref l2,.int 0 0]}
abbrev zH3(b1 b2:Bool)(h:Heap)(l1 l2:Addr):Heap:=(zH2 b1 b2 h l1 l2).push {cls:=.type "tuple",data:=.seq #[.ref h.objs.size,.ref (zH1 b1 h l1).objs.size]}
abbrev zH4(b1 b2:Bool)(h:Heap)(l1 l2:Addr):Heap:=(zH3 b1 b2 h l1 l2).push {cls:=.type "tuple",data:=.seq #[.none,.none]}
abbrev Zj(b1 b2:Bool)(h:Heap)(l1 l2:Addr):Heap:=(zH4 b1 b2 h l1 l2).push {cls:=.type "zip",data:=.fields #[.none,.bool false,.bool false,.ref (zH2 b1 b2 h l1 l2).objs.size,.ref (zH3 b1 b2 h l1 l2).objs.size]}
def Ji b1 b2 l1 l2 xs ys:
  Meets (Builtin.«zip.__new__» ⟨[.type "zip",.ref l1,.ref l2],[]⟩) (fun _ R s=>xX b1 s.heap l1 xs/\xX b2 s.heap l2 ys/\
   R (.ok (.ret (.ref (zH4 b1 b2 s.heap l1 l2).objs.size))) {s with heap:=Zj b1 b2 s.heap l1 l2}):=
 .of_wp fun prog w A R s h=>by
  obtain⟨hp,g,d,tk,os⟩:=s;obtain⟨hl1,hl2,h⟩:=h
  have hsub:=sub_zip
  cases b1<;>cases b2
  ·have hL1:Heap.IsTuple (Shared.heap ⟨hp,g,d,tk,os⟩) l1 xs:=hl1
   have hL2:Heap.IsTuple (Shared.heap ⟨hp.push {cls:=.type "tuple_iterator",data:=.fields #[.ref l1,.int 0 0]},g,d,tk,os⟩) l2 ys:=hl2.at (b:=false) fun o e=>QWq _ e
   wp_walk using wpAny_pyIter_tuple hL1,wpAny_pyIter_tuple hL2
   exact⟨_,rfl,h⟩
  ·have hL1:Heap.IsTuple (Shared.heap ⟨hp,g,d,tk,os⟩) l1 xs:=hl1
   have hL2:Heap.IsList (Shared.heap ⟨hp.push {cls:=.type "tuple_iterator",data:=.fields #[.ref l1,.int 0 0]},g,d,tk,os⟩) l2 ys:=hl2.at (b:=true) fun o e=>QWq _ e
   wp_walk using wpAny_pyIter_tuple hL1,wpAny_pyIter_list hL2
   exact⟨_,rfl,h⟩
  ·have hL1:Heap.IsList (Shared.heap ⟨hp,g,d,tk,os⟩) l1 xs:=hl1
   have hL2:Heap.IsTuple (Shared.heap ⟨hp.push {cls:=.type "list_iterator",data:=.fields #[.ref l1,.int 0 0]},g,d,tk,os⟩) l2 ys:=hl2.at (b:=false) fun o e=>QWq _ e
   wp_walk using wpAny_pyIter_list hL1,wpAny_pyIter_tuple hL2
   exact⟨_,rfl,h⟩
  ·have hL1:Heap.IsList (Shared.heap ⟨hp,g,d,tk,os⟩) l1 xs:=hl1
   have hL2:Heap.IsList (Shared.heap ⟨hp.push {cls:=.type "list_iterator",data:=.fields #[.ref l1,.int 0 0]},g,d,tk,os⟩) l2 ys:=hl2.at (b:=true) fun o e=>QWq _ e
   wp_walk using wpAny_pyIter_list hL1,wpAny_pyIter_list hL2
   exact⟨_,rfl,h⟩
end Mini
end
section
namespace Mini
open PySem
def q9{w:World}{E:QZq}{a:Addr}{k:Nat}
  (hx:s.heap.get? a=some {cls:=.type "list",dict:=none,data:=.seq xs k,slots:=sl})(hA:A.handled=none)
  (h:∀h' tk,(∀b o,s.heap.get? b=some o->h'.get? b=some o)->Q none {s with heap:=h',toks:=tk}):
  wpAny (model prog w) A (getAttr? (.ref a) "keys") Q E s:=by
 obtain⟨hp,g,d,tk,os⟩:=s
 have hT:∀tk',(⟨hp,g,d,tk',os⟩:Shared).TypeIs (.ref a) "list":=fun _=>⟨_,hx,rfl⟩
 have f1:=sub_AttributeError
 have f3:=F.slot_list_getattribute.lookup
 have f4:=F.slot_list_getattribute.bind (.ref a)
 have f5:=am_list_getattr_none
 repeat (any_goals (first|assumption|exact hT _|((with_reducible show wpAny _ _ (call (Value.builtin "list.__getattribute__") _ _) _ _ _);refine call_meets F.slot_list_getattribute (hT _) am_entry_list_getattribute (F.args_list_getattribute_2 _ _) (meets_getattribute_miss_list a xs k sl "keys" _ (am_miss_of_fast (by kernel_rfl)) (by decide+kernel) (by size_fits)) ⟨hx,hA,fun h' tk' e hx'=>?_⟩)|wp_step))
 obtain⟨t',u',he⟩:=hx'.there
 unfold getattributeRaised
 repeat (any_goals (first|assumption|wp_step))
 all_goals exact h _ _ hx'.keeps
def pD{w:World}{E:QZq}{a:Addr}{k:Nat}
  (hx:s.heap.get? a=some {cls:=.type "tuple",dict:=none,data:=.seq xs k,slots:=sl})(hA:A.handled=none)
  (h:∀h' tk,(∀b o,s.heap.get? b=some o->h'.get? b=some o)->Q none {s with heap:=h',toks:=tk}):
  wpAny (model prog w) A (getAttr? (.ref a) "keys") Q E s:=by
 obtain⟨hp,g,d,tk,os⟩:=s
 have hT:∀tk',(⟨hp,g,d,tk',os⟩:Shared).TypeIs (.ref a) "tuple":=fun _=>⟨_,hx,rfl⟩
 have f1:=sub_AttributeError
 have f3:=F.slot_tuple_getattribute.lookup
 have f4:=F.slot_tuple_getattribute.bind (.ref a)
 have f5:=am_tuple_getattr_none
 repeat (any_goals (first|assumption|exact hT _|((with_reducible show wpAny _ _ (call (Value.builtin "tuple.__getattribute__") _ _) _ _ _);refine call_meets F.slot_tuple_getattribute (hT _) am_entry_tuple_getattribute (F.args_tuple_getattribute_2 _ _) (meets_getattribute_miss_tuple a xs k sl "keys" _ (am_miss_of_fast (by kernel_rfl)) (by decide+kernel) (by size_fits)) ⟨hx,hA,fun h' tk' e hx'=>?_⟩)|wp_step))
 obtain⟨t',u',he⟩:=hx'.there
 unfold getattributeRaised
 repeat (any_goals (first|assumption|wp_step))
 all_goals exact h _ _ hx'.keeps
def kJ:typeLookup (.type "zip") "__getattr__"=pure none:=by rw[typeLookup_type,builtinLookup_eq_fast];kernel_rfl
def cD:Slot "zip" "__getattribute__" "zip.__getattribute__":=
 .of (owner:="zip") (n:="__getattribute__") (by rw[typeLookup_type,builtinLookup_eq_fast];kernel_rfl) (by decide+kernel) (by decide+kernel) (by decide+kernel)
  (by first|exact .inl (by decide+kernel)|exact .inr (by decide+kernel)) (by rw[isSubtype_type];kernel_rfl)
def gn:entryFor table "zip.__getattribute__"=some Builtin.«object.__getattribute__»:=
 entryFor_alias (id':="object.__getattribute__") (by kernel_rfl) (by decide+kernel) (by decide+kernel) (by kernel_rfl)
def gR a b:argsOk "zip.__getattribute__" ⟨[a,b],[]⟩:=by
 unfold argsOk;kernel_rfl
def fL(a:Addr)(xs:Array Value)(sl:Array (Option Value))(name:Str)(u:Tok)(hmiss:typeLookup (.type "zip") name=pure none)(hname:(["__module__","__name__","__qualname__","__doc__","__annotations__"]:List Str).contains name=false)(hsz:name.length+100<=sizeLine:=by size_fits):
  Meets (Builtin.«object.__getattribute__» ⟨[.ref a,.str name u],[]⟩) (fun A R s=>s.heap.get? a=some {cls:=.type "zip",dict:=none,data:=.fields xs,slots:=sl}/\raisesAttr (.ref a) name A R s):=
 Meets.of_wp fun prog w A R s hs=>by
  obtain⟨hp,g,d,tk,os⟩:=s
  obtain⟨hx,hs⟩:=hs
  repeat (any_goals (first|assumption|wp_step))
  simp only[hname,Qxq,if_false]
  repeat (any_goals (first|assumption|wp_step))
  exact wpAny_raiseAttrError hs.1 hs.2 (attrMsg_fits (by decide+kernel) hsz)
def tW{w:World}{E:QZq}{a:Addr}{sl:Array (Option Value)}
  (hx:s.heap.get? a=some {cls:=.type "zip",dict:=none,data:=.fields xs,slots:=sl})(hA:A.handled=none)
  (h:∀h' tk,(∀b o,s.heap.get? b=some o->h'.get? b=some o)->Q none {s with heap:=h',toks:=tk}):
  wpAny (model prog w) A (getAttr? (.ref a) "keys") Q E s:=by
 obtain⟨hp,g,d,tk,os⟩:=s
 have hT:∀tk',(⟨hp,g,d,tk',os⟩:Shared).TypeIs (.ref a) "zip":=fun _=>⟨_,hx,rfl⟩
 have f1:=sub_AttributeError
 have f3:=cD.lookup
 have f4:=cD.bind (.ref a)
 have f5:=kJ
 repeat (any_goals (first|assumption|exact hT _|((with_reducible show wpAny _ _ (call (Value.builtin "zip.__getattribute__") _ _) _ _ _);refine call_meets cD (hT _) gn (gR _ _) (fL a xs sl "keys" _ (am_miss_of_fast (by kernel_rfl)) (by decide+kernel) (by size_fits)) ⟨hx,hA,fun h' tk' e hx'=>?_⟩)|wp_step))
 obtain⟨t',u',he⟩:=hx'.there
 unfold getattributeRaised
 repeat (any_goals (first|assumption|wp_step))
 all_goals exact h _ _ hx'.keeps
inductive D where
 |non|bl (b:Bool)|int (i:Int)|str (x:Str)
 |tup (xs:List D)|lst (xs:List D)|dU (ks:List D) (vs:List D)|gH (ks:List D) (vs:List D)
 deriving Inhabited
inductive Ob where
 |lst (xs:List D)|dct (ks vs:List D)|sdt (ks vs:List D)
 deriving Inhabited
noncomputable def Ob.d:Ob->D
 |.lst xs=>.lst xs
 |.dct ks vs=>.dU ks vs
 |.sdt ks vs=>.gH ks vs
inductive Sl where
 |un|val (d:D)|own (o:Ob)|bor (o:Ob)
 deriving Inhabited
abbrev Ev:=List Sl
inductive Rv where
 |val (d:D)|new (o:Ob)|ref (i:Nat)
noncomputable def Rv.jl:Rv->Option D
 |.val d=>some d
 |.new o=>some o.d
 |_=>none
noncomputable def Rv.Be:Rv->Option Sl
 |.val d=>some (.val d)
 |.new o=>some (.own o)
 |_=>none
def aJ:List Rv->Option (List D)
 |[]=>some []
 |r::rs=>r.jl.bind fun d=>(aJ rs).map (d:: ·)
inductive Out(α:Type)where
 |ok (a:α) (σ:Ev)|exc (c:Nat) (σ:Ev)|bad
noncomputable def Out.bind{α β:Type}:Out α->(α->Ev->Out β)->Out β
 |.ok a σ,f=>f a σ
 |.exc c σ,_=>.exc c σ
 |.bad,_=>.bad
noncomputable def Out.ak{β:Type}:Out Rv->(D->Ev->Out β)->Out β
 |.ok (.val d) σ,f=>f d σ
 |.ok (.new o) σ,f=>f o.d σ
 |.ok _ _,_=>.bad
 |.exc c σ,_=>.exc c σ
 |.bad,_=>.bad
noncomputable def Out.cC{β:Type}(tr:D->Option Bool)(r:Out Rv)(f:Bool->Ev->Out β):Out β:=
 r.ak fun d σ=>match tr d with|some b=>f b σ|none=>.bad
noncomputable def Out.map{α β:Type}(g:α->β):Out α->Out β
 |.ok a σ=>.ok (g a) σ
 |.exc c σ=>.exc c σ
 |.bad=>.bad
def lift{α:Type}(σ:Ev):Option α->Out α
 |some a=>.ok a σ
 |none=>.bad
inductive Ze where
 |add|sub|mul|mod
 deriving DecidableEq
inductive Cm where
 |eq|ne|lt|le|gt|isin|notin|dZ|notN
 deriving DecidableEq
inductive Ty where
 |tup|lst|str|bool|int
 deriving DecidableEq
inductive Bi where
 |all|any|tuple|list|sorted|int|dict|len
 deriving DecidableEq
inductive Tg where
 |name (i:Nat)|tup (is:List Nat)
inductive E where
 |var (i:Nat)|con (d:D)|glob (k:Nat)
 |nil|cons (h t:E)
 |tup (es:E)|lis (es:E)
 |op (o:Ze) (a b:E)|neg (a:E)|cmp (o:Cm) (a b:E)|chain (π υ:Cm) (a b c:E)
 |and (es:E)|or (es:E)|not (a:E)|ite (c a b:E)
 |idx (a i:E)|slc (a lo hi:E)|noneE
 |call (f:Nat) (args:E)|ref (i:Nat)|rd (e:E)
 |isi (a:E) (t:Ty)|bi (b:Bi) (a:E)
 |range1 (a:E)|zip (a b:E)
 |count (a b:E)|popAt (i:Nat) (a:E)|index (a b:E)
 |get2 (d k x:E)|dsp (es:E)|enum (a:E)|emp
 |comp (nl:Nat) (tg:Tg) (it:E) (cond:E) (elt:E)
inductive S where
 |nil|cons (h t:S)
 |set (i:Nat) (e:E)|setT (is:List Nat) (e:E)|setIx (i:Nat) (ix e:E)
 |expr (e:E)|append (i:Nat) (e:E)|extend (i:Nat) (e:E)
 |ret (e:E)|ite (c:E) (a b:S)|callx (f:Nat) (args:E)
 |for_ (tg:Tg) (it:E) (b:S)|while_ (c:E) (b:S)
 |raise (c:Nat)|brk|cont
abbrev AAG:E:=.con (.int 1)
abbrev AAH:E:=.con (.int 0)
abbrev AAL:E:=.con (.bl true)
abbrev AAP:E:=.con (.int 2)
abbrev AAQ:S:=.cons (.ret (.con (.bl false))) .nil
abbrev AAR:E:=.cons (.var 1) (.cons (.var 2) .nil)
abbrev AAS:E:=.cons (.var 0) .nil
abbrev AAT:E:=.cons (.var 1) .nil
abbrev AAV:E:=.cons (.var 3) .nil
abbrev AAX:E:=.cons (.var 6) (.cons (.var 7) .nil)
abbrev AAZ:E:=.con (.int 3)
abbrev AAa:E:=.cons (.con (.str "same")) (.cons (.con (.str "not")) .nil)
abbrev AAb:E:=.idx (.var 0) AAG
abbrev AAc:E:=.idx (.var 0) AAH
abbrev AAd:E:=.call 41 (.cons (.var 0) (.cons (.ref 1) (.cons AAP .nil)))
abbrev AAe:S:=.cons (.set 3 (.op .add (.slc (.var 3) AAG .noneE) (.call 26 (.cons (.var 0) (.cons (.var 1) (.cons (.idx (.var 3) AAH) (.cons (.ref 2) .nil))))))) .nil
abbrev AAf:S:=.cons (.append 3 (.tup (.cons (.idx (.var 2) (.var 4)) (.cons (.tup (.cons (.con (.str "held")) (.cons (.tup (.cons (.con (.str "same")) (.cons (.idx (.var 2) (.op .sub (.var 4) AAG)) .nil))) (.cons (.idx (.var 2) (.op .mod (.op .add (.var 4) AAG) (.bi .len (.var 2)))) (.cons (.con (.bl false)) .nil))))) .nil)))) .nil
abbrev AAg:E:=.cmp .eq (.call 41 (.cons (.var 1) (.cons (.ref 2) (.cons AAP .nil)))) AAG
abbrev AAh:E:=.idx (.var 1) AAG
abbrev AAi:E:=.and (.cons (.cmp .ne (.idx (.var 6) AAH) (.idx (.var 5) AAH)) (.cons (.call 34 (.cons (.idx (.var 6) AAH) (.cons (.idx (.var 2) (.var 5)) .nil))) (.cons (.call 34 (.cons (.idx (.var 5) AAH) (.cons (.idx (.var 2) (.var 6)) .nil))) .nil)))
abbrev AAj:E:=.cmp .ne (.call 15 (.cons (.var 1) (.cons (.idx (.var 4) (.var 0)) (.cons (.var 4) .nil)))) (.idx (.var 4) (.var 0))
abbrev AAk:E:=.lis (.cons (.con (.str "z")) (.cons (.con (.str "y")) (.cons (.con (.str "gates")) (.cons (.con (.str "w")) (.cons (.con (.str "v")) (.cons (.con (.str "inp")) (.cons (.con (.str "t")) (.cons (.con (.str "s")) .nil))))))))
abbrev AAl:S:=.cons (.append 5 (.tup (.cons (.var 6) (.cons (.tup (.cons (.idx (.lis AAa) (.var 7)) AAV)) .nil)))) (.cons (.append 4 (.cmp .eq (.idx (.var 4) (.neg AAG)) (.cmp .eq (.var 7) AAH))) (.cons (.set 3 (.var 6)) .nil))
abbrev AAm:E:=.cons (.var 1) (.cons (.var 2) (.cons (.var 5) .nil))
abbrev AAn:E:=.or (.cons (.cmp .gt (.bi .len AAh) AAP) (.cons (.cmp .gt (.bi .len (.idx (.var 1) AAP)) AAZ) .nil))
abbrev AAo:E:=.or (.cons (.not (.call 9 (.cons (.idx (.var 1) AAH) (.cons (.var 2) (.cons AAH (.cons (.bi .len (.var 2)) .nil)))))) (.cons (.not (.call 3 (.cons AAh (.cons AAG (.cons (.glob 8) .nil))))) .nil))
abbrev AAp:E:=.idx (.var 0) AAP
abbrev AAq:E:=.idx (.var 2) AAG
abbrev AAr:E:=.cons (.var 3) (.cons (.var 6) AAS)
abbrev AAs:E:=.cons (.idx (.var 8) (.var 0)) (.cons (.idx (.var 8) (.var 1)) (.cons (.var 2) .nil))
abbrev AAt:E:=.call 3 (.cons (.var 0) (.cons AAP (.cons AAP .nil)))
abbrev AAu:E:=.con (.str "held")
abbrev AAv:E:=.comp 2 (.tup [0,1]) AAb AAL (.tup (.cons (.var 0) (.cons (.ite (.cmp .eq (.var 0) (.idx (.var 3) AAH)) (.call 38 (.cons (.var 1) AAV)) (.var 1)) .nil)))
abbrev AAw:E:=.or (.cons (.not (.call 3 (.cons AAc (.cons AAH (.cons (.glob 3) .nil))))) (.cons (.not (.call 3 (.cons AAb (.cons AAG (.cons (.glob 4) .nil))))) .nil))
abbrev AAx:E:=.and (.cons (.cmp .gt (.bi .len (.var 5)) (.var 3)) (.cons (.or (.cons (.cmp .gt (.bi .len (.var 5)) (.var 4)) (.cons (.cmp .eq AAd AAG) .nil))) .nil))
abbrev AAy:S:=.set 4 (.call 40 (.cons (.var 0) (.cons AAH (.cons (.con (.int 8)) .nil))))
abbrev AAz:S:=.set 6 (.call 30 (.cons (.var 0) (.cons (.var 1) (.cons (.var 2) (.cons (.var 5) (.cons (.op .add (.var 3) (.lis (.cons (.var 5) .nil))) .nil))))))
abbrev ABG:E:=.cmp .gt (.call 41 (.cons (.var 1) (.cons (.ref 2) (.cons AAZ .nil)))) AAH
abbrev ABH:E:=.idx (.var 1) AAH
abbrev ABI:E:=.cons (.var 6) .nil
abbrev ABJ:S:=.cons (.raise 0) .nil
abbrev ABK:E:=.cons (.con (.str "p")) (.cons (.con (.str "q")) (.cons (.con (.str "rr")) (.cons (.con (.str "go")) (.cons (.con (.str "abcdef")) .nil))))
abbrev ABL:S:=.cons (.ret (.tup (.cons AAu (.cons (.call 53 (.cons AAb AAT)) (.cons (.idx (.var 1) AAp) (.cons (.idx (.var 0) AAZ) .nil)))))) .nil
abbrev ABM:E:=.comp 2 (.tup [0,1]) AAb AAL (.tup (.cons (.idx (.var 4) (.var 0)) (.cons (.call 53 (.cons (.var 1) (.cons (.var 4) .nil))) .nil)))
abbrev ABN:E:=.idx (.var 2) AAH
abbrev ABO:E:=.con .non
abbrev ABP:S:=.set 4 (.call 28 (.cons (.var 0) (.cons (.var 1) (.cons (.idx (.var 3) AAH) (.cons (.idx (.var 2) (.idx (.var 3) AAH)) .nil)))))
abbrev ABQ:S:=.cons (.setIx 3 (.var 6) (.op .add (.idx (.var 3) (.var 2)) (.lis (.cons (.var 5) .nil)))) (.cons (.append 4 (.var 6)) .nil)
abbrev ABR:S:=.cons (.ret (.or (.cons (.bi .all (.var 4)) (.cons (.and (.cons (.var 1) (.cons (.bi .any (.var 4)) .nil))) .nil)))) .nil
abbrev ABS:E:=.con (.non)
abbrev ABT:E:=.cons (.var 2) AAV
abbrev ABU:E:=.bi .dict (.bi .list (.zip (.call 52 AAT) (.op .add (.slc (.var 3) (.var 4) .noneE) (.slc (.var 3) .noneE (.var 4)))))
abbrev ABV:S:=.setT [1,2] (.call 51 (.cons (.var 0) (.cons AAG .nil)))
abbrev ABW:E:=.con (.str "a")
abbrev ABX:S:=.expr (.call 17 (.cons (.var 0) AAT))
abbrev ABY:E:=.cons (.var 2) .nil
abbrev ABZ:E:=.or (.cons (.not (.call 3 (.cons (.var 0) (.cons AAZ (.cons AAZ .nil))))) (.cons (.not (.call 2 AAS)) .nil))
abbrev ABa:S:=.cons (.expr (.popAt 5 (.call 41 (.cons (.var 0) (.cons (.ref 1) (.cons (.bi .len (.var 5)) .nil)))))) .nil
abbrev ABb:E:=.cons (.var 0) (.cons (.call 44 (.cons (.var 1) (.cons (.ref 2) (.cons (.var 7) (.cons AAG .nil))))) .nil)
abbrev ABc:S:=.cons (.ret (.var 4)) .nil
abbrev ABd:E:=.cons (.con (.int 4)) .nil
abbrev ABe:E:=.comp 1 (.name 0) (.var 0) AAL (.call 4 (.cons AAb (.cons AAH (.cons (.op .sub (.var 3) AAG) .nil))))
abbrev ABf:E:=.call 13 AAS
abbrev ABg:E:=.comp 1 (.name 0) AAh AAL (.call 19 (.cons (.var 0) (.cons (.var 4) (.cons (.bi .len AAq) .nil))))
abbrev ABh:E:=.comp 2 (.tup [0,1]) (.zip (.var 0) (.slc (.var 0) AAG .noneE)) AAL (.cmp .lt (.var 0) (.var 1))
abbrev ABi:E:=.or (.cons (.cmp .eq AAc (.con (.str "same"))) (.cons (.cmp .eq AAc (.con (.str "not"))) .nil))
abbrev ABj:S:=.setIx 2 (.var 3) (.call 27 (.cons (.call 31 (.cons (.var 0) (.cons (.tup AAV) .nil))) AAT))
abbrev ABk:E:=.idx (.var 2) (.call 41 (.cons (.var 0) (.cons (.ref 1) (.cons (.bi .len (.var 2)) .nil))))
abbrev ABl:E:=.comp 2 (.tup [0,1]) AAb AAL (.call 11 (.cons (.var 1) (.cons (.var 3) (.cons AAH .nil))))
abbrev ABm:E:=.call 27 (.cons (.call 31 (.cons (.var 0) (.cons (.tup (.cons (.var 5) ABI)) .nil))) AAT)
abbrev ABn:E:=.cons (.bi .len (.var 1)) .nil
abbrev ABo:E:=.cons (.var 0) AAR
abbrev ABp:E:=.con (.str "both")
abbrev ABq:E:=.bi .list (.var 2)
abbrev ABr:E:=.and (.cons (.cmp .ne (.var 6) (.var 3)) (.cons (.cmp .notin (.var 6) (.var 5)) .nil))
abbrev ABs:E:=.idx (.var 3) (.var 0)
abbrev ABt:E:=.comp 1 (.name 0) AAb AAL AAc
abbrev ABu:S:=.cons (.ret (.tup (.cons AAc (.cons (.bi .tuple (.var 2)) (.cons AAp .nil))))) .nil
abbrev ABv:E:=.call 14 (.cons (.var 0) (.cons ABN .nil))
abbrev ABw:E:=.lis .nil
abbrev ABx:S:=.cons (.ret ABO) .nil
abbrev ABy:E:=.cons (.con (.bl false)) (.cons AAL .nil)
abbrev ABz:E:=.comp 2 (.tup [0,1]) (.var 5) AAL (.tup (.cons (.idx (.var 4) (.var 0)) AAT))
abbrev ACG:E:=.cmp .eq (.var 3) (.con (.str "table"))
abbrev ACH:E:=.cons (.var 0) (.cons (.call 41 (.cons (.var 1) (.cons (.ref 2) ABI))) .nil)
abbrev ACI:E:=.cons (.var 1) (.cons (.tup AAr) .nil)
abbrev ACJ:S:=.cons (.ret (.tup (.cons (.con (.str "taken")) (.cons (.var 4) ABI)))) .nil
abbrev ACL:E:=.cmp .ne (.call 20 AAX) (.call 20 AAR)
abbrev ACM:E:=.cmp .eq (.call 41 (.cons (.var 0) (.cons (.ref 2) (.cons AAP .nil)))) AAG
abbrev ACN:E:=.comp 1 (.name 0) (.slc (.var 8) AAP .noneE) AAL (.idx (.var 6) (.var 0))
abbrev ACO:E:=.comp 1 (.name 0) (.var 0) AAL (.cmp .eq (.count (.var 1) (.var 0)) AAG)
abbrev ACP:E:=.cons (.var 0) (.cons (.ref 2) .nil)
abbrev ACQ:E:=.con (.str "b")
abbrev ACR:S:=.cons (.ret (.tup (.cons AAc (.cons (.idx (.var 1) AAb) .nil)))) .nil
abbrev ACS:E:=.cons AAZ .nil
abbrev ACT:E:=.comp 1 (.name 0) (.idx (.var 8) AAG) AAL (.idx (.var 6) (.var 0))
abbrev ACU:E:=.con (.str "and")
abbrev ACV:E:=.bi .len (.var 0)
abbrev ACW:E:=.cons (.bi .tuple (.var 4)) .nil
abbrev ACX:E:=.op .add AAG (.call 41 (.cons (.var 0) (.cons (.ref 1) AAV)))
abbrev ACY:E:=.con (.str "or")
abbrev ACZ:E:=.comp 1 (.name 0) (.var 0) AAL (.call 8 (.cons (.var 0) ABY))
abbrev ACa:E:=.comp 1 (.name 0) (.var 0) AAL (.call 7 (.cons (.var 0) ABY))
abbrev ACb:E:=.not (.call 3 (.cons (.var 1) (.cons AAP (.cons AAP .nil))))
abbrev ACc:E:=.con (.str "q")
abbrev ACd:E:=.con (.str "p")
abbrev ACe:E:=.bi .tuple (.var 5)
abbrev ACf:S:=.setT [6,7] (.call 54 AAm)
abbrev ACg:S:=.set 2 (.dsp (.cons (.call 21 AAS) (.cons ABw .nil)))
abbrev ACh:E:=.cmp .ne (.var 9) (.var 10)
abbrev ACi:E:=.con (.str "same")
abbrev ACj:E:=.comp 1 (.name 0) (.var 0) AAL (.isi (.var 0) .bool)
abbrev ACk:E:=.cmp .eq (.var 0) (.var 4)
abbrev ACl:E:=.zip ABf (.var 1)
abbrev ACm:E:=.idx (.var 2) AAb
abbrev ACn:E:=.comp 3 (.tup [0,1,2]) (.var 11) AAL (.tup AAs)
abbrev ACo:S:=.cons (.ret (.op .add (.bi .list AAc) ABt)) .nil
abbrev ACp:E:=.bi .dict (.idx AAh AAq)
abbrev ACq:E:=.cmp .eq AAd AAG
abbrev ACr:S:=.cons (.ret (.tup (.cons (.var 5) ABI))) .nil
abbrev ACs:E:=.slc (.var 3) (.op .add (.var 4) AAG) .noneE
abbrev ACt:E:=.comp 1 (.name 0) (.var 1) AAL (.call 5 AAS)
abbrev ACu:S:=.set 11 (.call 32 AAR)
abbrev ACv:S:=.cons (.ret (.cmp .isin (.var 4) AAp)) .nil
abbrev ACw:E:=.cons (.cmp .notin (.var 6) (.var 3)) .nil
abbrev ACx:S:=.set 9 (.call 27 AAX)
abbrev ACy:S:=.set 8 (.call 27 AAR)
abbrev ACz:E:=.op .add ABN (.var 4)
abbrev ADG:S:=.cons (.ret AAL) .nil
abbrev ADH:E:=.cmp .eq (.var 4) AAP
abbrev ADJ:E:=.cmp .eq (.var 3) AAu
abbrev ADK:E:=.cons AAH .nil
abbrev ADL:E:=.cons AAG .nil
abbrev ADM:S:=.set 6 (.call 24 (.cons (.var 0) AAm))
abbrev ADN:S:=.set 4 ABw
abbrev ADP:E:=.cons (.var 4) .nil
abbrev ADQ:S:=.cons (.ret (.bi .any (.var 4))) .nil
abbrev ADR:S:=.cons (.ret (.bi .all (.var 4))) .nil
abbrev ADS:E:=.cmp .eq (.var 3) (.con (.str "not"))
abbrev ADT:E:=.cons (.call 7 (.cons AAp ABn)) .nil
abbrev ADU:S:=.set 6 (.op .add (.var 4) (.var 5))
abbrev ADV:E:=.cons (.var 1) ABT
abbrev ADW:E:=.cons (.var 0) AAT
abbrev ADX:S:=.cons (.set 2 (.call 37 ABT)) .nil
abbrev ADY:E:=.cons (.op .add (.var 2) AAG) .nil
abbrev ADZ:E:=.comp 1 (.name 0) (.var 0) AAL AAt
abbrev ADa:E:=.call 32 AAX
abbrev ADb:E:=.cmp .gt (.bi .len AAb) (.glob 9)
abbrev ADc:S:=.cons (.ret (.call 33 ABo)) .nil
abbrev ADd:S:=.cons (.ret (.call 16 ABo)) .nil
abbrev ADe:E:=.cons (.var 3) (.cons AAp .nil)
abbrev ADf:E:=.cons (.not (.call 6 AAT)) .nil
def small(i:Int):Bool:=decide (-18446744073709551616<i/\i<18446744073709551616)
def Jf(i:Int):Bool:=decide (-4611686018427387904<=i/\i<4611686018427387904)
def fits(n:Nat):Bool:=decide (n<=16777216)
def b2i(b:Bool):Int:=if b then 1 else 0
noncomputable def ix?(n:Nat)(i:Int):Option Nat:=
 let j:=if i<0 then i+n else i
 if 0<=j/\j<n then some j.toNat else none
def at?(xs:List D)(i:Int):Option D:=(ix? xs.length i).bind fun k=>xs[k]?
noncomputable def clip(n:Nat)(i:Int):Nat:=
 let j:=if i<0 then i+n else i
 if j<0 then 0 else if j>n then n else j.toNat
noncomputable def cut(xs:List D)(lo hi:Option Int):List D:=
 let a:=match lo with|some i=>clip xs.length i|none=>0
 let b:=match hi with|some i=>clip xs.length i|none=>xs.length
 (xs.take b).drop a
mutual
def cM:D->D->Bool
 |.non,.non=>true
 |.bl a,.bl b=>a==b
 |.bl a,.int j=>b2i a==j
 |.int i,.bl b=>i==b2i b
 |.int i,.int j=>i==j
 |.str x,.str y=>decide (x=y)
 |.tup xs,.tup ys=>pG xs ys
 |.lst xs,.lst ys=>pG xs ys
 |_,_=>false
def pG:List D->List D->Bool
 |[],[]=>true
 |x::xs,y::ys=>cM x y&&pG xs ys
 |_,_=>false
end
mutual
def dep:D->Nat
 |.tup xs=>dM xs+1
 |.lst xs=>dM xs+1
 |_=>0
def dM:List D->Nat
 |[]=>0
 |x::xs=>max (dep x) (dM xs)
end
def Ph(x:Str):Bool:=x.cps.all fun c=>decide (c<128)
mutual
def nd:D->Bool
 |.str x=>Ph x
 |.tup xs=>il xs
 |.lst xs=>il xs
 |.dU _ _=>false
 |.gH _ _=>false
 |_=>true
def il:List D->Bool
 |[]=>true
 |x::xs=>nd x&&il xs
end
noncomputable def flat:D->Bool
 |.non=>true
 |.bl _=>true
 |.int _=>true
 |.str _=>true
 |_=>false
def rR(a b:D):Bool:=(flat a&&flat b)||(nd a&&decide (dep a<=50)&&nd b)
def gP(a:D)(xs:List D):Bool:=(flat a&&xs.all flat)||(nd a&&decide (dep a<=50)&&il xs)
def aN(x:D):List D->Bool
 |[]=>false
 |y::ys=>cM y x||aN x ys
def Mj(x:D):List D->Nat
 |[]=>0
 |y::ys=>if cM y x then 0 else Mj x ys+1
def gh(x:D):List D->Nat
 |[]=>0
 |y::ys=>(if cM y x then 1 else 0)+gh x ys
noncomputable def kE:List Bool->List Bool->Bool
 |[],[]=>false
 |[],_::_=>true
 |_::_,[]=>false
 |x::xs,y::ys=>if x=y then kE xs ys else(!x&&y)
noncomputable def bools:List D->Option (List Bool)
 |[]=>some []
 |.bl b::r=>(bools r).map (b:: ·)
 |_=>none
mutual
def kA:D->Bool
 |.int _=>true
 |.bl _=>true
 |.str x=>Ph x
 |.tup xs=>LK xs
 |_=>false
def LK:List D->Bool
 |[]=>true
 |x::xs=>kA x&&LK xs
end
def cP:D->Bool
 |.tup xs=>LK xs&&decide (dM xs<=6)
 |_=>false
noncomputable def ltD:D->D->Option Bool
 |.int i,.int j=>some (decide (i<j))
 |.tup xs,.tup ys=>(bools xs).bind fun a=>(bools ys).map fun b=>kE a b
 |_,_=>none
noncomputable def gF:D->Option Bool
 |.non=>some false
 |.bl b=>some b
 |.int i=>some (i !=0)
 |.tup xs=>some (!xs.isEmpty)
 |.lst xs=>some (!xs.isEmpty)
 |_=>none
noncomputable def tX:Ty->D->Bool
 |.tup,.tup _=>true
 |.lst,.lst _=>true
 |.str,.str _=>true
 |.bool,.bl _=>true
 |.int,.int _=>true
 |.int,.bl _=>true
 |_,_=>false
noncomputable def bH(k:D):List D->List D->Option D
 |k'::ks,v::vs=>if cM k' k then some v else bH k ks vs
 |_,_=>none
noncomputable def keyOk:D->Bool
 |.str _=>true
 |.int _=>true
 |_=>false
def signs(x:Str):List D:=x.cps.toList.map fun c=>D.str ⟨#[c]⟩
noncomputable def items:D->Option (List D)
 |.tup xs=>some xs
 |.lst xs=>some xs
 |.str x=>if fits x.length then some (signs x)else none
 |_=>none
noncomputable def binop:Ze->D->D->Option Rv
 |.add,.int i,.int j=>some (.val (.int (i+j)))
 |.sub,.int i,.int j=>some (.val (.int (i-j)))
 |.mul,.int i,.int j=>if small i||small j then some (.val (.int (i*j)))else none
 |.mod,.int i,.int j=>if 0<j then some (.val (.int (i%j)))else none
 |.add,.tup xs,.tup ys=>if fits (xs.length+ys.length)then some (.val (.tup (xs++ys)))else none
 |.add,.lst xs,.lst ys=>if fits (xs.length+ys.length)then some (.new (.lst (xs++ys)))else none
 |_,_,_=>none
def aR:D->Bool
 |.non=>true
 |_=>false
noncomputable def aG:Cm->D->D->Option Bool
 |.eq,a,b=>if rR a b then some (cM a b)else none
 |.ne,a,b=>if rR a b then some (!cM a b)else none
 |.lt,a,b=>ltD a b
 |.gt,.int i,.int j=>some (decide (j<i))
 |.le,.int i,.int j=>some (decide (i<=j))
 |.isin,a,.tup xs=>if gP a xs then some (aN a xs)else none
 |.isin,a,.lst xs=>if gP a xs then some (aN a xs)else none
 |.isin,a,.dU ks _=>if keyOk a then some (aN a ks)else if cP a&&ks.isEmpty then some false else none
 |.isin,a,.gH ks _=>if cP a then some (aN a ks)else none
 |.isin,.str x,.str y=>if x.length=1 then some (aN (.str x) (signs y))else none
 |.notin,a,.tup xs=>if gP a xs then some (!aN a xs)else none
 |.notin,a,.lst xs=>if gP a xs then some (!aN a xs)else none
 |.notin,a,.dU ks _=>if keyOk a then some (!aN a ks)else if cP a&&ks.isEmpty then some true else none
 |.notin,a,.gH ks _=>if cP a then some (!aN a ks)else none
 |.dZ,a,.non=>some (aR a)
 |.notN,a,.non=>some (!aR a)
 |_,_,_=>none
noncomputable def jd:List D->Option (List (List Bool))
 |[]=>some []
 |.tup ys::r=>match bools ys with
  |some (b::bs)=>(jd r).map ((b::bs):: ·)
  |_=>none
 |_=>none
noncomputable def JW{α:Type}(f:Nat->Nat->Option Bool):PySem.W.KasT α->Option α
 |.ret a=>some a
 |.ask i j k=>match f i j with
  |some b=>JW f (k b)
  |none=>none
noncomputable def ac5(rs:List (List Bool))(i j:Nat):Option Bool:=(rs[i]?).bind fun a=>(rs[j]?).map fun b=>kE a b
noncomputable def rH(xs:List D):List Nat->Option (List D)
 |[]=>some []
 |i::is=>(xs[i]?).bind fun d=>(rH xs is).map (d:: ·)
noncomputable def ac4(xs:List D):Option (Nat->Nat->Option Bool):=match jd xs with
 |some rs=>some (ac5 rs)
 |none=>none
noncomputable def oV(xs:List D):Option (List D):=
 if xs.length<2 then some xs
 else if xs.length<64 then(ac4 xs).bind fun f=>(JW f (PySem.W.kas_sort xs.length)).bind fun p=>if p.size=xs.length then rH xs p.toList else none
 else none
noncomputable def qC(k v:D):List D->List D->List D
 |k'::ks,v'::vs=>(if cM k' k then v else v')::qC k v ks vs
 |_,_=>[]
noncomputable def putD(k v:D)(ks vs:List D):List D×List D:=if aN k ks then(ks,qC k v ks vs)else(ks++[k],vs++[v])
noncomputable def dictOf:List D->List D->List D->Option (List D×List D)
 |ks,vs,[]=>some (ks,vs)
 |ks,vs,.tup [k,v]::r=>if keyOk k then let p:=putD k v ks vs;dictOf p.1 p.2 r else none
 |_,_,_=>none
noncomputable def jB:List D->List D->List D->Option (List D×List D)
 |ks,vs,[]=>some (ks,vs)
 |ks,vs,.tup [k,v]::r=>if cP k then let p:=putD k v ks vs;jB p.1 p.2 r else none
 |_,_,_=>none
def aC:List D->List D->List D
 |x::xs,y::ys=>.tup [x,y]::aC xs ys
 |_,_=>[]
def b7(lo:Int):Nat->List D
 |0=>[]
 |n+1=>.int lo::b7 (lo+1) n
noncomputable def Sq:Bi->List D->Option Rv
 |.all,xs=>(bools xs).map fun bs=>.val (.bl (bs.all id))
 |.any,xs=>(bools xs).map fun bs=>.val (.bl (bs.any id))
 |.tuple,xs=>some (.val (.tup xs))
 |.list,xs=>some (.new (.lst xs))
 |.sorted,xs=>(oV xs).map fun ys=>.new (.lst ys)
 |.dict,xs=>((dictOf [] [] xs).map fun p=>Rv.new (.dct p.1 p.2)).or ((jB [] [] xs).map fun p=>.new (.sdt p.1 p.2))
 |.len,_=>none
 |.int,_=>none
def E.aq:E->Option Nat
 |.var i=>some i
 |_=>none
noncomputable def qH(i:Nat)(σ:Ev):Out Rv:=
 match σ[i]? with
 |some (.val d)=>.ok (.val d) σ
 |some (.own o)=>.ok (.val o.d) (σ.set i (.val o.d))
 |_=>.bad
noncomputable def bw(i:Nat)(σ:Ev):Option D:=
 match σ[i]? with
 |some (.val d)=>some d
 |some (.own o)=>some o.d
 |some (.bor o)=>some o.d
 |_=>none
noncomputable def HQ:D->Option Nat
 |.tup xs=>some xs.length
 |.lst xs=>some xs.length
 |.str x=>if fits x.length then some x.length else none
 |.dU ks _=>some ks.length
 |.gH ks _=>some ks.length
 |_=>none
noncomputable def getD(d:D)(i:D):Option D:=
 match d,i with
 |.tup xs,.int i=>at? xs i
 |.lst xs,.int i=>at? xs i
 |.dU ks vs,k=>if keyOk k then bH k ks vs else none
 |.gH ks vs,k=>if cP k then bH k ks vs else none
 |_,_=>none
noncomputable def cJ(d:D)(lo hi:Option Int):Option Rv:=
 match d with
 |.tup xs=>some (.val (.tup (cut xs lo hi)))
 |.lst xs=>some (.new (.lst (cut xs lo hi)))
 |_=>none
noncomputable def bQ(dZ:Bool)(d:D):Option (Option Int):=
 match dZ,d with
 |true,_=>some none
 |false,.int i=>some (some i)
 |_,_=>none
def E.dZ:E->Bool
 |.noneE=>true
 |_=>false
noncomputable def cj(i:Nat)(s:Sl)(σ:Ev):Option Ev:=
 match σ[i]? with
 |some (.bor _)=>none
 |some _=>some (σ.set i s)
 |none=>none
noncomputable def gG:List Nat->List D->Ev->Option Ev
 |[],[],σ=>some σ
 |i::is,d::ds,σ=>(cj i (.val d) σ).bind (gG is ds)
 |_,_,_=>none
noncomputable def bz:Tg->D->Ev->Option Ev
 |.name i,d,σ=>cj i (.val d) σ
 |.tup is,.tup ds,σ=>gG is ds σ
 |_,_,_=>none
noncomputable def cV(i:Nat)(f:Ob->Option Ob)(σ:Ev):Option Ev:=
 match σ[i]? with
 |some (.own o)=>(f o).map fun q=>σ.set i (.own q)
 |some (.bor o)=>(f o).map fun q=>σ.set i (.bor q)
 |_=>none
def wA(f:List D->Option (List D)):Ob->Option Ob
 |.lst xs=>(f xs).map .lst
 |_=>none
noncomputable def nT(i v:D):Ob->Option Ob
 |.lst xs=>match i with
  |.int i=>(ix? xs.length i).map fun j=>.lst (xs.set j v)
  |_=>none
 |.dct ks vs=>if keyOk i&&fits (ks.length+1)then let p:=putD i v ks vs;some (.dct p.1 p.2)else if cP i&&ks.isEmpty then some (.sdt [i] [v])else none
 |.sdt ks vs=>if cP i&&fits (ks.length+1)then let p:=putD i v ks vs;some (.sdt p.1 p.2)else none
inductive Res where
 |ok (r:Rv) (ps:List Sl)|exc (c:Nat) (ps:List Sl)|bad
structure Cf where
 fn:Nat->List Sl->Res
 gl:Nat->Option D
 turns:Nat
def j0(i:Nat):Rv->Bool
 |.ref j=>i==j
 |_=>false
def argv:Rv->Rv
 |.new o=>.val o.d
 |x=>x
noncomputable def enter:List Rv->Ev->Option (List Sl)
 |[],_=>some []
 |.val d::as,σ=>(enter as σ).map (.val d:: ·)
 |.new _::_,_=>none
 |.ref i::as,σ=>
  if as.any (j0 i)then none else
  match σ[i]? with
  |some (.own o)=>(enter as σ).map (.bor o:: ·)
  |some (.bor o)=>(enter as σ).map (.bor o:: ·)
  |_=>none
noncomputable def giveBack:List Rv->List Sl->Ev->Option Ev
 |[],[],σ=>some σ
 |.ref i::as,.bor o::ps,σ=>(cV i (fun _=>some o) σ).bind (giveBack as ps)
 |.ref _::_,_::_,_=>none
 |_::as,_::ps,σ=>giveBack as ps σ
 |_,_,_=>none
noncomputable def sE(c:Cf)(f:Nat)(as:List Rv)(σ:Ev):Out Rv:=
 match enter as σ with
 |none=>.bad
 |some ps=>
  match c.fn f ps with
  |.ok r qs=>match giveBack as qs σ with|some ζ=>.ok r ζ|none=>.bad
  |_=>.bad
noncomputable def aP(tg:Tg)(cond elt:Ev->Out Rv):List D->List D->Ev->Out (List D)
 |[],acc,σ=>.ok acc σ
 |x::xs,acc,σ=>
  match bz tg x σ with
  |none=>.bad
  |some σ₁=>(cond σ₁).cC gF fun b σ₂=>
   if b then(elt σ₂).ak fun d σ₃=>aP tg cond elt xs (acc++[d]) σ₃
   else aP tg cond elt xs acc σ₂
def di:Option D->Bool
 |some (.lst _)=>true
 |_=>false
def gf:D->Option (List D)
 |.lst xs=>some xs
 |_=>none
noncomputable def qK(k:Nat)(y:D)(σ:Ev):Out Rv:=
 match y,bw k σ with
 |.int i,some (.lst xs)=>if !fits xs.length then .bad else match ix? xs.length i with
  |some j=>match xs[j]?,cV k (wA fun xs=>some (xs.eraseIdx j)) σ with
   |some d,some ζ=>.ok (.val d) ζ
   |_,_=>.bad
  |none=>.bad
 |_,_=>.bad
def rE:Option D->Bool
 |some (.dU _ _)=>true
 |_=>false
noncomputable def z6(x y:D):Option Rv:=
 match x with
 |.tup xs=>if flat y&&xs.all flat then some (.val (.int (gh y xs)))else none
 |.lst xs=>if flat y&&xs.all flat then some (.val (.int (gh y xs)))else none
 |_=>none
noncomputable def acA(x y:D):Option Rv:=
 match x with
 |.lst xs=>if flat y&&xs.all flat&&aN y xs then some (.val (.int (Mj y xs)))else none
 |_=>none
noncomputable def rJ(d k x:D):Option D:=
 match d with
 |.dU ks vs=>if keyOk k then some ((bH k ks vs).getD x)else none
 |_=>none
def Io:List D->Option Rv
 |[k,v]=>if cP k then some (.new (.sdt [k] [v]))else none
 |_=>none
def zV(ds:List D):Option Rv:=if ds.length<=30&& !ds.isEmpty then Io ds else none
noncomputable def bK:D->Option (List D)
 |.tup xs=>some xs
 |.lst xs=>some xs
 |_=>none
def JP:D->Option (List D)
 |.gH ks _=>some ks
 |x=>bK x
noncomputable def b1(b:Bi)(x:D):Option Rv:=
 match b with
 |.list=>(JP x).bind (Sq .list)
 |.len=>(HQ x).map fun n=>.val (.int n)
 |.int=>match x with|.bl b=>some (.val (.int (b2i b)))|.int i=>some (.val (.int i))|_=>none
 |.sorted=>(gf x).bind (Sq .sorted)
 |b=>(bK x).bind (Sq b)
mutual
noncomputable def ev(c:Cf):E->Ev->Out Rv
 |.var i,σ=>qH i σ
 |.con d,σ=>.ok (.val d) σ
 |.glob k,σ=>match c.gl k with|some d=>.ok (.val d) σ|none=>.bad
 |.tup es,σ=>(evs c es σ).bind fun rs σ=>lift σ ((aJ rs).bind fun ds=>if fits ds.length then some (.val (.tup ds))else none)
 |.lis es,σ=>(evs c es σ).bind fun rs σ=>lift σ ((aJ rs).bind fun ds=>if fits ds.length then some (.new (.lst ds))else none)
 |.op o a b,σ=>(ev c a σ).ak fun x σ=>(ev c b σ).ak fun y σ=>lift σ (binop o x y)
 |.neg a,σ=>(ev c a σ).ak fun x σ=>lift σ (match x with|.int i=>some (.val (.int (-i)))|_=>none)
 |.cmp o a b,σ=>(ev c a σ).ak fun x σ=>match b.aq with
  |some k=>lift σ ((bw k σ).bind fun d=>(aG o x d).map fun q=>.val (.bl q))
  |none=>(ev c b σ).ak fun y σ=>lift σ ((aG o x y).map fun q=>.val (.bl q))
 |.chain π υ a b d,σ=>(ev c a σ).ak fun x σ=>(ev c b σ).ak fun y σ=>(lift σ (aG π x y)).bind fun q σ=>
   if q then(ev c d σ).ak fun z σ=>lift σ ((aG υ y z).map fun q=>.val (.bl q))else .ok (.val (.bl false)) σ
 |.and es,σ=>gD c es σ
 |.or es,σ=>mV c es σ
 |.not a,σ=>(ev c a σ).cC gF fun b σ=>.ok (.val (.bl (!b))) σ
 |.ite t a b,σ=>(ev c t σ).cC gF fun q σ=>if q then ev c a σ else ev c b σ
 |.idx a i,σ=>match a.aq with
  |some k=>if (bw k σ).isNone then .bad else(ev c i σ).ak fun y σ=>lift σ ((bw k σ).bind fun d=>(getD d y).map Rv.val)
  |none=>(ev c a σ).ak fun x σ=>(ev c i σ).ak fun y σ=>lift σ ((getD x y).map Rv.val)
 |.slc a lo hi,σ=>(ev c a σ).ak fun x σ=>(ev c lo σ).ak fun l σ=>match bQ lo.dZ l with
  |none=>.bad
  |some l=>(ev c hi σ).ak fun h σ=>lift σ ((bQ hi.dZ h).bind fun h=>cJ x l h)
 |.noneE,σ=>.ok (.val .non) σ
 |.call f as,σ=>(evs c as σ).bind fun as σ=>sE c f as σ
 |.ref i,σ=>match σ[i]? with
  |some (.own _)=>.ok (.ref i) σ
  |some (.bor _)=>.ok (.ref i) σ
  |_=>.bad
 |.rd e,σ=>ev c e σ
 |.isi a t,σ=>(ev c a σ).ak fun x σ=>.ok (.val (.bl (tX t x))) σ
 |.bi b a,σ=>match a.aq with
  |some k=>lift σ ((bw k σ).bind fun d=>b1 b d)
  |none=>(ev c a σ).ak fun x σ=>lift σ (b1 b x)
 |.range1 a,σ=>(ev c a σ).ak fun x σ=>lift σ (match x with|.int n=>if fits n.toNat&&Jf n then some (.val (.lst (b7 0 n.toNat)))else none|_=>none)
 |.zip a b,σ=>(ev c a σ).ak fun x σ=>(ev c b σ).ak fun y σ=>lift σ ((bK x).bind fun xs=>(bK y).map fun ys=>.val (.lst (aC xs ys)))
 |.count a b,σ=>(ev c a σ).ak fun x σ=>if (bK x).isNone then .bad else(ev c b σ).ak fun y σ=>lift σ (z6 x y)
 |.popAt k a,σ=>if !di (bw k σ)then .bad else(ev c a σ).ak fun y σ=>qK k y σ
 |.index a b,σ=>(ev c a σ).ak fun x σ=>if (gf x).isNone then .bad else(ev c b σ).ak fun y σ=>lift σ (acA x y)
 |.get2 d k x,σ=>match d.aq with
  |some i=>if !rE (bw i σ)then .bad else(ev c k σ).ak fun k σ=>(ev c x σ).ak fun x σ=>lift σ ((bw i σ).bind fun y=>(rJ y k x).map Rv.val)
  |none=>.bad
 |.dsp es,σ=>(evs c es σ).bind fun rs σ=>lift σ ((aJ rs).bind zV)
 |.emp,σ=>.ok (.new (.dct [] [])) σ
 |.enum a,σ=>(ev c a σ).ak fun x σ=>lift σ ((gf x).map fun xs=>.val (.lst (aC (b7 0 xs.length) xs)))
 |.comp nl tg it cond elt,σ=>(ev c it σ).ak fun x σ=>match items x with
  |some xs=>match aP tg (ev c cond) (ev c elt) xs [] (List.replicate nl .un++σ)with
   |.ok ys τ=>.ok (.new (.lst ys)) (τ.drop nl)
   |_=>.bad
  |none=>.bad
 |.nil,_=>.bad
 |.cons _ _,_=>.bad
noncomputable def gD(c:Cf):E->Ev->Out Rv
 |.cons h t,σ=>match t with
  |.nil=>ev c h σ
  |t=>(ev c h σ).ak fun x σ=>match x with|.bl true=>gD c t σ|.bl false=>.ok (.val (.bl false)) σ|_=>.bad
 |_,_=>.bad
noncomputable def mV(c:Cf):E->Ev->Out Rv
 |.cons h t,σ=>match t with
  |.nil=>ev c h σ
  |t=>(ev c h σ).ak fun x σ=>match x with|.bl true=>.ok (.val (.bl true)) σ|.bl false=>mV c t σ|_=>.bad
 |_,_=>.bad
noncomputable def evs(c:Cf):E->Ev->Out (List Rv)
 |.nil,σ=>.ok [] σ
 |.cons h t,σ=>(ev c h σ).bind fun x σ=>(evs c t σ).bind fun xs σ=>.ok (argv x::xs) σ
 |_,_=>.bad
end
inductive Fl where
 |next (σ:Ev)|ret (r:Rv) (σ:Ev)|brk (σ:Ev)|cont (σ:Ev)|exc (k:Nat) (σ:Ev)|bad
noncomputable def Out.fl{α:Type}:Out α->(α->Ev->Fl)->Fl
 |.ok a σ,f=>f a σ
 |.exc k σ,_=>.exc k σ
 |.bad,_=>.bad
noncomputable def Out.lR:Out Rv->(D->Ev->Fl)->Fl
 |.ok (.val d) σ,f=>f d σ
 |.ok (.new o) σ,f=>f o.d σ
 |.ok _ _,_=>.bad
 |.exc k σ,_=>.exc k σ
 |.bad,_=>.bad
noncomputable def Out.Am(r:Out Rv)(f:Bool->Ev->Fl):Fl:=r.lR fun d σ=>match gF d with|some b=>f b σ|none=>.bad
noncomputable def tL:Rv->Ev->Fl
 |.val d,σ=>.ret (.val d) σ
 |.new o,σ=>.ret (.new o) σ
 |_,_=>.bad
def Fl.seq:Fl->(Ev->Fl)->Fl
 |.next σ,f=>f σ
 |r,_=>r
noncomputable def Fl.turn:Fl->(Ev->Fl)->Fl
 |.next σ,f=>f σ
 |.cont σ,f=>f σ
 |.brk σ,_=>.next σ
 |r,_=>r
noncomputable def aZ(tg:Tg)(b:Ev->Fl):List D->Ev->Fl
 |[],σ=>.next σ
 |x::xs,σ=>match bz tg x σ with
  |none=>.bad
  |some σ₁=>(b σ₁).turn (aZ tg b xs)
noncomputable def cG(t:Ev->Out Rv)(b:Ev->Fl):Nat->Ev->Fl
 |0,_=>.bad
 |n+1,σ=>(t σ).Am fun q σ=>if q then(b σ).turn (cG t b n)else .next σ
def yW:Option Ev->Fl
 |some σ=>.next σ
 |none=>.bad
noncomputable def acX(c:Cf)(f:Nat)(as:List Rv)(σ:Ev):Fl:=
 match enter as σ with
 |none=>.bad
 |some ps=>
  match c.fn f ps with
  |.ok _ qs=>yW (giveBack as qs σ)
  |.exc k qs=>match giveBack as qs σ with|some ζ=>.exc k ζ|none=>.bad
  |.bad=>.bad
noncomputable def ex(c:Cf):S->Ev->Fl
 |.nil,σ=>.next σ
 |.cons h t,σ=>(ex c h σ).seq (ex c t)
 |.brk,σ=>.brk σ
 |.cont,σ=>.cont σ
 |.set i e,σ=>(ev c e σ).fl fun x σ=>yW (x.Be.bind fun s=>cj i s σ)
 |.setT is e,σ=>(ev c e σ).lR fun x σ=>yW (bz (.tup is) x σ)
 |.setIx k ix e,σ=>(ev c e σ).lR fun x σ=>if (bw k σ).isNone then .bad else(ev c ix σ).lR fun y σ=>yW (cV k (nT y x) σ)
 |.expr e,σ=>(ev c e σ).lR fun _ σ=>.next σ
 |.append k e,σ=>if !di (bw k σ)then .bad else(ev c e σ).lR fun x σ=>yW (cV k (wA fun xs=>if fits (xs.length+1)then some (xs++[x])else none) σ)
 |.extend k e,σ=>if !di (bw k σ)then .bad else(ev c e σ).lR fun x σ=>yW ((gf x).bind fun ys=>cV k (wA fun xs=>if fits (xs.length+ys.length)then some (xs++ys)else none) σ)
 |.ret e,σ=>match e.aq with
  |some i=>match σ[i]? with
   |some (.own o)=>.ret (.new o) (σ.set i .un)
   |_=>(ev c e σ).fl tL
  |none=>(ev c e σ).fl tL
 |.ite t a b,σ=>(ev c t σ).Am fun q σ=>if q then ex c a σ else ex c b σ
 |.for_ tg it b,σ=>(ev c it σ).lR fun x σ=>match items x with
  |some xs=>aZ tg (ex c b) xs σ
  |none=>.bad
 |.while_ t b,σ=>cG (ev c t) (ex c b) c.turns σ
 |.raise k,σ=>.exc k σ
 |.callx f as,σ=>(evs c as σ).fl fun as σ=>acX c f as σ
structure Fn where
 pars:Nat
 names:Nat
 body:S
noncomputable def gW(c:Cf)(f:Fn)(ps:List Sl):Res:=
 if ps.length=f.pars then
  match ex c f.body (ps++List.replicate (f.names-f.pars) .un)with
  |.next σ=>.ok (.val .non) (σ.take f.pars)
  |.ret r σ=>.ok r (σ.take f.pars)
  |.exc k σ=>.exc k (σ.take f.pars)
  |_=>.bad
 else .bad
structure Pg where
 fns:List Fn
 gl:Nat->Option D
 turns:Nat
 pf:Cf->Nat->List Sl->Res:=fun _ _ _=>.bad
noncomputable def Pg.fn(p:Pg):Nat->Nat->List Sl->Res
 |0,_,_=>.bad
 |n+1,f,ps=>match p.fns[f]? with
  |some g=>gW ⟨p.fn n,p.gl,p.turns⟩ g ps
  |none=>p.pf ⟨p.fn n,p.gl,p.turns⟩ f ps
def Pg.cf(p:Pg)(n:Nat):Cf:=⟨p.fn n,p.gl,p.turns⟩
def v_0 c(i σ):ev c (.var i) σ=qH i σ:=rfl
def v_1 c(d σ):ev c (.con d) σ=.ok (.val d) σ:=rfl
def v_2 c(k σ):ev c (.glob k) σ=match c.gl k with|some d=>.ok (.val d) σ|none=>.bad:=rfl
def v_3 c(es σ):ev c (.tup es) σ=(evs c es σ).bind fun rs σ=>lift σ ((aJ rs).bind fun ds=>if fits ds.length then some (.val (.tup ds))else none):=rfl
def v_4 c(es σ):ev c (.lis es) σ=(evs c es σ).bind fun rs σ=>lift σ ((aJ rs).bind fun ds=>if fits ds.length then some (.new (.lst ds))else none):=rfl
def v_5 c(o a b σ):ev c (.op o a b) σ=(ev c a σ).ak fun x σ=>(ev c b σ).ak fun y σ=>lift σ (binop o x y):=rfl
def v_6 c(a σ):ev c (.neg a) σ=(ev c a σ).ak fun x σ=>lift σ (match x with|.int i=>some (.val (.int (-i)))|_=>none):=rfl
theorem v_7 c(o a b σ):ev c (.cmp o a b) σ=(ev c a σ).ak fun x σ=>match b.aq with
  |some k=>lift σ ((bw k σ).bind fun d=>(aG o x d).map fun q=>.val (.bl q))
  |none=>(ev c b σ).ak fun y σ=>lift σ ((aG o x y).map fun q=>.val (.bl q)):=rfl
def v_8 c(π υ a b d σ):ev c (.chain π υ a b d) σ=(ev c a σ).ak fun x σ=>(ev c b σ).ak fun y σ=>(lift σ (aG π x y)).bind fun q σ=>
   if q then(ev c d σ).ak fun z σ=>lift σ ((aG υ y z).map fun q=>.val (.bl q))else .ok (.val (.bl false)) σ:=rfl
def Zx c(es σ):ev c (.and es) σ=gD c es σ:=rfl
def GP c(es σ):ev c (.or es) σ=mV c es σ:=rfl
def PN c(a σ):ev c (.not a) σ=(ev c a σ).cC gF fun b σ=>.ok (.val (.bl (!b))) σ:=rfl
def aaC c(t a b σ):ev c (.ite t a b) σ=(ev c t σ).cC gF fun q σ=>if q then ev c a σ else ev c b σ:=rfl
theorem Jq c(a i σ):ev c (.idx a i) σ=match a.aq with
  |some k=>if (bw k σ).isNone then .bad else(ev c i σ).ak fun y σ=>lift σ ((bw k σ).bind fun d=>(getD d y).map Rv.val)
  |none=>(ev c a σ).ak fun x σ=>(ev c i σ).ak fun y σ=>lift σ ((getD x y).map Rv.val):=rfl
theorem aaB c(a lo hi σ):ev c (.slc a lo hi) σ=(ev c a σ).ak fun x σ=>(ev c lo σ).ak fun l σ=>match bQ lo.dZ l with
  |none=>.bad
  |some l=>(ev c hi σ).ak fun h σ=>lift σ ((bQ hi.dZ h).bind fun h=>cJ x l h):=rfl
def aaA c(σ):ev c .noneE σ=.ok (.val .non) σ:=rfl
def VG c(f as σ):ev c (.call f as) σ=(evs c as σ).bind fun as σ=>sE c f as σ:=rfl
theorem PL c(i σ):ev c (.ref i) σ=match σ[i]? with
  |some (.own _)=>.ok (.ref i) σ
  |some (.bor _)=>.ok (.ref i) σ
  |_=>.bad:=rfl
def PK c(e σ):ev c (.rd e) σ=ev c e σ:=rfl
def aaz c(a t σ):ev c (.isi a t) σ=(ev c a σ).ak fun x σ=>.ok (.val (.bl (tX t x))) σ:=rfl
theorem o9 c(b a σ):ev c (.bi b a) σ=match a.aq with
  |some k=>lift σ ((bw k σ).bind fun d=>b1 b d)
  |none=>(ev c a σ).ak fun x σ=>lift σ (b1 b x):=rfl
def VF c(a σ):ev c (.range1 a) σ=(ev c a σ).ak fun x σ=>lift σ (match x with|.int n=>if fits n.toNat&&Jf n then some (.val (.lst (b7 0 n.toNat)))else none|_=>none):=rfl
def VD c(a b σ):ev c (.zip a b) σ=(ev c a σ).ak fun x σ=>(ev c b σ).ak fun y σ=>lift σ ((bK x).bind fun xs=>(bK y).map fun ys=>.val (.lst (aC xs ys))):=rfl
def aay c(a b σ):ev c (.count a b) σ=(ev c a σ).ak fun x σ=>if (bK x).isNone then .bad else(ev c b σ).ak fun y σ=>lift σ (z6 x y):=rfl
def VB c(k a σ):ev c (.popAt k a) σ=if !di (bw k σ)then .bad else(ev c a σ).ak fun y σ=>qK k y σ:=rfl
theorem lX c(nl tg it cond elt σ):ev c (.comp nl tg it cond elt) σ=(ev c it σ).ak fun x σ=>match items x with
  |some xs=>match aP tg (ev c cond) (ev c elt) xs [] (List.replicate nl .un++σ)with
   |.ok ys τ=>.ok (.new (.lst ys)) (τ.drop nl)
   |_=>.bad
  |none=>.bad:=rfl
theorem Vz c(d k x σ):ev c (.get2 d k x) σ=match d.aq with
  |some i=>if !rE (bw i σ)then .bad else(ev c k σ).ak fun k σ=>(ev c x σ).ak fun x σ=>lift σ ((bw i σ).bind fun y=>(rJ y k x).map Rv.val)
  |none=>.bad:=rfl
def aej c(es σ):ev c (.dsp es) σ=(evs c es σ).bind fun rs σ=>lift σ ((aJ rs).bind zV):=rfl
def x_0 c(σ):ex c .nil σ=.next σ:=rfl
def x_1 c(h t σ):ex c (.cons h t) σ=(ex c h σ).seq (ex c t):=rfl
def x_5 c(i e σ):ex c (.set i e) σ=(ev c e σ).fl fun x σ=>yW (x.Be.bind fun s=>cj i s σ):=rfl
def x_7 c(k ix e σ):ex c (.setIx k ix e) σ=(ev c e σ).lR fun x σ=>if (bw k σ).isNone then .bad else(ev c ix σ).lR fun y σ=>yW (cV k (nT y x) σ):=rfl
def x_9 c(k e σ):ex c (.append k e) σ=if !di (bw k σ)then .bad else(ev c e σ).lR fun x σ=>yW (cV k (wA fun xs=>if fits (xs.length+1)then some (xs++[x])else none) σ):=rfl
def aeh(c:Cf)(k e σ):ex c (.extend k e) σ=if !di (bw k σ)then .bad else(ev c e σ).lR fun x σ=>yW ((gf x).bind fun ys=>cV k (wA fun xs=>if fits (xs.length+ys.length)then some (xs++ys)else none) σ):=rfl
theorem Ao c(e σ):ex c (.ret e) σ=match e.aq with
  |some i=>match σ[i]? with
   |some (.own o)=>.ret (.new o) (σ.set i .un)
   |_=>(ev c e σ).fl tL
  |none=>(ev c e σ).fl tL:=rfl
theorem aeg c(tg it b σ):ex c (.for_ tg it b) σ=(ev c it σ).lR fun x σ=>match items x with
  |some xs=>aZ tg (ex c b) xs σ
  |none=>.bad:=rfl
end Mini
end
section
namespace Mini
open PySem L2
def GD(K:QQq)(H:Hp)(a:Addr)(xs:List V):Prop:=
 (∃o,H a=some (.frz o (.lst xs)))\/
  ∃(o:Obj)(its:Array Value)(n:Nat),K.lookup a=some o/\o.cls=.type "list"/\o.dict=none/\o.data=.seq its n/\its.size<=sizeLine/\Vals xs its.toList
def GD.sq{H:Hp}{xs:List V}(h:GD K H a xs):jm K H a xs:=by
 rcases h with ⟨o,h⟩|h
 ·exact .inl (.inr ⟨o,h⟩)
 ·exact .inr h
def dI:Key->D
 |.inl i=>.int i
 |.inr x=>.str x
mutual
def py:D->PyData
 |.non=>.none
 |.bl b=>.bool b
 |.int i=>.int i
 |.str x=>.str x
 |.tup xs=>.tuple (xV xs)
 |.lst xs=>.list (xV xs)
 |.dU _ _=>.none
 |.gH _ _=>.none
def xV:List D->List PyData
 |[]=>[]
 |x::xs=>py x::xV xs
end
def kC(d:D):SK:=cn (py d)
mutual
def bD(K:QQq)(H:Hp):D->V->Prop
 |.non,v=>v=.non
 |.bl b,v=>v=.bl b
 |.int i,v=>v=.int i
 |.str x,v=>v=.str x
 |.tup ds,v=>∃a vs,v=.ref a/\jg K H a vs/\ao K H ds vs
 |.lst ds,v=>∃a vs,v=.ref a/\GD K H a vs/\ao K H ds vs
 |.dU ks ds,v=>∃a o kvs,v=.ref a/\H a=some (.frz o (.dK kvs))/\ks=kvs.map (fun p=>dI p.1)/\ao K H ds (kvs.map (·.2))
 |.gH ks ds,v=>∃a o xs,v=.ref a/\H a=some (.frz o (.dS xs))/\ks.map kC=xs.map (·.1)/\ks.all cP=true/\ao K H ks (xs.map fun x=>.ref x.2.1)/\ao K H ds (xs.map (·.2.2))
def ao(K:QQq)(H:Hp):List D->List V->Prop
 |[],vs=>vs=[]
 |d::ds,vs=>∃v r,vs=v::r/\bD K H d v/\ao K H ds r
end
structure bR(H H':Hp):Prop where
 tups:∀b xs,H b=some (.tup xs)->H' b=some (.tup xs)
 frzs:∀b o u,H b=some (.frz o u)->H' b=some (.frz o u)
def bR.refl H:bR H H:=⟨fun _ _ h=>h,fun _ _ _ h=>h⟩
def bR.trans(a:bR H H1)(b:bR H1 H2):bR H H2:=⟨fun c xs h=>b.tups c xs (a.tups c xs h),fun c o u h=>b.frzs c o u (a.frzs c o u h)⟩
section
def bR.Wd(p:bR H H')(h:jg K H a xs):jg K H' a xs:=by
 rcases h with (h|⟨o,h⟩)|h
 ·exact .inl (.inl (p.tups _ _ h))
 ·exact .inl (.inr ⟨o,p.frzs _ _ _ h⟩)
 ·exact .inr h
def bR.RW(p:bR H H')(h:GD K H a xs):GD K H' a xs:=by
 rcases h with ⟨o,h⟩|h
 ·exact .inl ⟨o,p.frzs _ _ _ h⟩
 ·exact .inr h
mutual
theorem bD.mono(p:bR H H'):∀{d:D}{v:V},bD K H d v->bD K H' d v
 |.non,_,h=>h
 |.bl _,_,h=>h
 |.int _,_,h=>h
 |.str _,_,h=>h
 |.tup ds,v,h=>by
  unfold bD at h⊢
  obtain⟨a,vs,e,s,l⟩:=h
  exact⟨a,vs,e,p.Wd s,ao.mono p l⟩
 |.lst ds,v,h=>by
  unfold bD at h⊢
  obtain⟨a,vs,e,s,l⟩:=h
  exact⟨a,vs,e,p.RW s,ao.mono p l⟩
 |.dU ks ds,v,h=>by
  unfold bD at h⊢
  obtain⟨a,o,kvs,e,s,k,l⟩:=h
  exact⟨a,o,kvs,e,p.frzs _ _ _ s,k,ao.mono p l⟩
 |.gH ks ds,v,h=>by
  unfold bD at h⊢
  obtain⟨a,o,xs,e,s,k,ka,l1,l⟩:=h
  exact⟨a,o,xs,e,p.frzs _ _ _ s,k,ka,ao.mono p l1,ao.mono p l⟩
theorem ao.mono(p:bR H H'):∀{ds:List D}{vs:List V},ao K H ds vs->ao K H' ds vs
 |[],_,h=>by unfold ao at h⊢;exact h
 |d::ds,vs,h=>by
  obtain⟨v,r,e,s,l⟩:=h
  exact⟨v,r,e,bD.mono p s,ao.mono p l⟩
end
def ao.bL:ao K H [] vs↔vs=[]:=by unfold ao;exact Iff.rfl
def ao.aF{ds:List D}:ao K H (d::ds) vs↔ ∃v r,vs=v::r/\bD K H d v/\ao K H ds r:=by
 constructor
 ·intro h;unfold ao at h;exact h
 ·intro h;unfold ao;exact h
def ao.cW{ds:List D}{vs:List V}(h:bD K H d v)(t:ao K H ds vs):ao K H (d::ds) (v::vs):=ao.aF.mpr ⟨v,vs,rfl,h,t⟩
def ao.fZ:ao K H [] []:=ao.bL.mpr rfl
theorem ao.length:∀{ds:List D}{vs:List V},ao K H ds vs->ds.length=vs.length
 |[],_,h=>by rw[ao.bL.mp h];rfl
 |d::ds,vs,h=>by
  obtain⟨v,r,rfl,_,t⟩:=ao.aF.mp h
  simp[ao.length t]
theorem ao.get:∀{ds:List D}{vs:List V}{i:Nat}{d:D},ao K H ds vs->ds[i]? =some d->∃v,vs[i]? =some v/\bD K H d v
 |[],_,_,_,_,e=>by simp at e
 |d::ds,vs,i,d',h,e=>by
  obtain⟨v,r,rfl,hd,t⟩:=ao.aF.mp h
  cases i with
  |zero=>simp at e;subst e;exact⟨v,rfl,hd⟩
  |succ i=>obtain⟨w,q,z⟩:=ao.get t (by simpa using e);exact⟨w,by simpa using q,z⟩
theorem ao.append:∀{ds es:List D}{vs ws:List V},ao K H ds vs->ao K H es ws->ao K H (ds++es) (vs++ws)
 |[],_,_,_,h,t=>by rw[ao.bL.mp h];exact t
 |d::ds,es,vs,ws,h,t=>by
  obtain⟨v,r,rfl,hd,q⟩:=ao.aF.mp h
  exact ao.cW hd (ao.append q t)
theorem ao.take:∀{ds:List D}{vs:List V}(n:Nat),ao K H ds vs->ao K H (ds.take n) (vs.take n)
 |_,_,0=>fun _=>ao.fZ
 |[],_,_+1=>fun h=>by rw[ao.bL.mp h];exact ao.fZ
 |d::ds,vs,n+1=>fun h=>by
  obtain⟨v,r,rfl,hd,q⟩:=ao.aF.mp h
  exact ao.cW hd (ao.take n q)
theorem ao.drop:∀{ds:List D}{vs:List V}(n:Nat),ao K H ds vs->ao K H (ds.drop n) (vs.drop n)
 |_,_,0=>fun h=>h
 |[],_,_+1=>fun h=>by rw[ao.bL.mp h];exact ao.fZ
 |d::ds,vs,n+1=>fun h=>by
  obtain⟨v,r,rfl,hd,q⟩:=ao.aF.mp h
  exact ao.drop n q
theorem ao.eraseIdx:∀{ds:List D}{vs:List V}(n:Nat),ao K H ds vs->ao K H (ds.eraseIdx n) (vs.eraseIdx n)
 |[],_,_=>fun h=>by rw[ao.bL.mp h];exact ao.fZ
 |d::ds,vs,0=>fun h=>by
  obtain⟨v,r,rfl,hd,q⟩:=ao.aF.mp h
  exact q
 |d::ds,vs,n+1=>fun h=>by
  obtain⟨v,r,rfl,hd,q⟩:=ao.aF.mp h
  exact ao.cW hd (ao.eraseIdx n q)
theorem ao.set{v:V}(hd:bD K H d v):∀{ds:List D}{vs:List V}(n:Nat),ao K H ds vs->ao K H (ds.set n d) (vs.set n v)
 |[],_,_=>fun h=>by rw[ao.bL.mp h];exact ao.fZ
 |e::ds,vs,0=>fun h=>by
  obtain⟨w,r,rfl,he,q⟩:=ao.aF.mp h
  exact ao.cW hd q
 |e::ds,vs,n+1=>fun h=>by
  obtain⟨w,r,rfl,he,q⟩:=ao.aF.mp h
  exact ao.cW he (ao.set hd n q)
end
def isOwn:Sl->Option Ob
 |.own o=>some o
 |.bor o=>some o
 |_=>none
def gk(K:QQq)(H:Hp)(ks ds:List D)(xs:List SV):Prop:=ks.map kC=xs.map (·.1)/\ks.all cP=true/\ao K H ks (xs.map fun x=>.ref x.2.1)/\ao K H ds (xs.map (·.2.2))
theorem gk.mono{K:QQq}{H H':Hp}{ks ds:List D}{xs:List SV}(p:bR H H')(h:gk K H ks ds xs):gk K H' ks ds xs:=⟨h.1,h.2.1,h.2.2.1.mono p,h.2.2.2.mono p⟩
noncomputable def Jg(K:QQq)(H:Hp):Ob->HO->Prop
 |.lst xs,u=>∃vs,u=.lst vs/\ao K H xs vs
 |.dct ks ds,u=>∃kvs,u=.dK kvs/\ks=kvs.map (fun p=>dI p.1)/\ao K H ds (kvs.map (·.2))
 |.sdt ks ds,u=>∃xs,u=.dS xs/\gk K H ks ds xs
theorem Jg.mono{K:QQq}{H H':Hp}(p:bR H H'):∀{o:Ob}{u:HO},Jg K H o u->Jg K H' o u
 |.lst _,_,⟨vs,e,l⟩=>⟨vs,e,l.mono p⟩
 |.dct _ _,_,⟨kvs,e,k,l⟩=>⟨kvs,e,k,l.mono p⟩
 |.sdt _ _,_,⟨xs,e,l⟩=>⟨xs,e,l.mono p⟩
structure O7(u:HO):Prop where
 tup:∀xs,u≠ .tup xs
 frz:∀q w,u≠ .frz q w
 tbl:∀ps,u≠ .tbl ps
 own:∀x,u≠ .own x
theorem Jg.uE{H:Hp}:∀{o:Ob}{u:HO},Jg K H o u->O7 u
 |.lst _,_,⟨vs,e,_⟩=>by
  subst e
  constructor
  all_goals (intros;intro z;cases z)
 |.dct _ _,_,⟨kvs,e,_⟩=>by
  subst e
  constructor
  all_goals (intros;intro z;cases z)
 |.sdt _ _,_,⟨xs,e,_⟩=>by
  subst e
  constructor
  all_goals (intros;intro z;cases z)
def jk(K:QQq)(H:Hp)(o:Ob)(a:Addr):Prop:=∃u,H a=some u/\Jg K H o u
noncomputable def SQ(K:QQq)(H:Hp):Sl->Option V->Prop
 |.un,_=>True
 |.val d,o=>∃v,o=some v/\bD K H d v
 |.own q,o=>∃a,o=some (.ref a)/\jk K H q a
 |.bor q,o=>∃a,o=some (.ref a)/\jk K H q a
def aQ(env:Ev)(σ:St)(i:Nat)(a:Addr):Prop:=(∃s xs,env[i]? =some s/\isOwn s=some xs)/\σ[i]? =some (some (.ref a))
structure Sat(K:QQq)(env:Ev)(σ:St)(H:Hp):Prop where
 len:env.length=σ.length
 sl:∀(i:Nat)s,env[i]? =some s->SQ K H s (σ[i]?).join
 ne:∀(i j:Nat)a,aQ env σ i a->aQ env σ j a->i=j
structure Nx(K:QQq)(env:Ev)(σ:St)(H:Hp)(env':Ev)(H':Hp):Prop where
 eX:Sat K env' σ H'
 sub:∀(i:Nat)a,aQ env' σ i a->aQ env σ i a
 pers:bR H H'
 keep:∀b u,H b=some u->(∀i,¬aQ env σ i b)->H' b=some u
 dom:∀b,H' b=none->H b=none
 bors:∀(i:Nat)xs,env[i]? =some (.bor xs)->∃ys,env'[i]? =some (.bor ys)
section
theorem Nx.refl(h:Sat K env σ H):Nx K env σ H env H:=⟨h,fun _ _ z=>z,bR.refl H,fun _ _ z _=>z,fun _ z=>z,fun _ xs e=>⟨xs,e⟩⟩
theorem Nx.trans(a:Nx K env σ H δ H1)(b:Nx K δ σ H1 ε H2):Nx K env σ H ε H2:=
 ⟨b.eX,fun i c z=>a.sub i c (b.sub i c z),a.pers.trans b.pers,fun c vs z n=>b.keep c vs (a.keep c vs z n) fun i w=>n i (a.sub i c w),fun c z=>a.dom c (b.dom c z),fun i xs e=>let ⟨ys,e1⟩:=a.bors i xs e;b.bors i ys e1⟩
theorem Sat.own(h:Sat K env σ H){a:Addr}(o:aQ env σ i a):∃q,jk K H q a:=by
 obtain⟨⟨s,xs,e1,e2⟩,e3⟩:=o
 have q:=h.sl i s e1
 rw[e3]at q
 cases s with
 |un=>simp[isOwn]at e2
 |val d=>simp[isOwn]at e2
 |own ys=>obtain⟨b,e,z⟩:=q;cases e;exact⟨ys,z⟩
 |bor ys=>obtain⟨b,e,z⟩:=q;cases e;exact⟨ys,z⟩
def Sat.qQ(h:Sat K env σ H)(hn:H a=none)i:¬aQ env σ i a:=fun o=>by
 obtain⟨q,u,z,_⟩:=h.own o
 rw[hn]at z;cases z
end
noncomputable def gr(K:QQq)(σ:St)(H₀ H:Hp):Rv->V->Prop
 |.val d,v=>bD K H d v
 |.new q,v=>∃a,v=.ref a/\jk K H q a/\H₀ a=none
 |.ref i,v=>σ[i]? =some (some v)
abbrev Wi:=Nat->Ev->St->Hp->Prop
noncomputable def tM(K:QQq)(W:Wi)(env:Ev)(r:Out Rv):TE:=fun σ H Q=>Sat K env σ H/\match r with
 |.ok x env'=>∀v H',Nx K env σ H env' H'->gr K σ H H' x v->Q v H'
 |.exc c env'=>∀H',Nx K env σ H env' H'->W c env' σ H'
 |.bad=>False
noncomputable def tD(K:QQq)(W:Wi)(env:Ev)(r:Out Rv):TE:=fun σ H Q=>Sat K env σ H/\match r with
 |.ok (.val d) env'=>∀v H',Nx K env σ H env' H'->bD K H' d v->Q v H'
 |.ok (.new q) env'=>∀v H',Nx K env σ H env' H'->bD K H' q.d v->Q v H'
 |.ok _ _=>False
 |.exc c env'=>∀H',Nx K env σ H env' H'->W c env' σ H'
 |.bad=>False
noncomputable def tT(K:QQq)(W:Wi)(env:Ev)(r:Out Rv):TT:=fun σ H Q=>Sat K env σ H/\match r with
 |.ok x env'=>∃d b,x.jl=some d/\gF d=some b/\∀H',Nx K env σ H env' H'->Q b H'
 |.exc c env'=>∀H',Nx K env σ H env' H'->W c env' σ H'
 |.bad=>False
def PE.imp{e:Expr}(h:PE X e t)(i:∀σ H Q,t' σ H Q->t σ H Q):PE X e t':=fun γ s σ H Q I q=>h γ s σ H Q I (i σ H Q q)
def PT.imp{e:Expr}(h:PT X e t)(i:∀σ H Q,t' σ H Q->t σ H Q):PT X e t':=fun γ s σ H Q I q=>h γ s σ H Q I (i σ H Q q)
def _root_.L2.b8.there{w:World}{h:Heap}{o:HO}(x:b8 P w H h a o):∃u,h.get? a=some u:=by
 cases o with
 |lst xs=>obtain⟨_,_,_,_,e⟩:=x;exact⟨_,e⟩
 |tup xs=>obtain⟨_,_,_,p⟩:=x;obtain⟨o,e,_⟩:=p;exact⟨_,e⟩
 |dK kvs=>obtain⟨_,_,_,_,o,_,_,e,_⟩:=x;exact⟨_,e⟩
 |dS xs=>obtain⟨_,_,_,_,o,_,_,_,e,_⟩:=x;exact⟨_,e⟩
 |ins C dx fs=>obtain⟨_,_,_,e,_⟩:=x;exact⟨_,e⟩
 |own y=>obtain⟨_,e⟩:=x;exact⟨_,e⟩
 |frz ob u=>obtain⟨e,_⟩:=x;exact⟨_,e⟩
 |tbl ps=>exact⟨_,show h.get? a=some _ from x⟩
 |met f y=>exact⟨_,show h.get? a=some _ from x⟩
def Inv.freeze{X:Cx}{σ:St}{H:Hp}{a:Addr}(I:Inv X γ σ H s)(h:H a=some u)(hu:O7 u):
  ∃o,Inv X γ σ (upd H a (.frz o u)) s:=by
 obtain⟨o,ho⟩:=(I.hok a _ h).there
 refine⟨o,?_⟩
 have ne:∀b w,H b=some w->w≠u->b≠a:=fun b w q n z=>by subst z;rw[h]at q;cases q;exact n rfl
 have stay:∀b w,b≠a->H b=some w->upd H a (.frz o u) b=some w:=fun b w n q=>by rw[au n];exact q
 have hok:oN X.prog X.w (upd H a (.frz o u)) s.heap:=fun b w q=>by
  have st:∀c v,b8 X.prog X.w H s.heap c v->b8 X.prog X.w _ s.heap c v:=fun c v z=>
   z.stay (fun c v _ q=>q) (fun e q=>stay e _ (ne e _ q (hu.own c).symm) q) fun e xs q=>stay e _ (ne e _ q (hu.tup xs).symm) q
  by_cases hb:b=a
  ·subst hb
   rw[aK]at q
   cases q
   exact⟨ho,st _ _ (I.hok b _ h)⟩
  ·rw[au hb]at q
   exact st _ _ (I.hok b w q)
 have J:=I.step (t':=s.toks) (d':=s.drawn) (ch:=[]) (fun _ z=>nomatch z)
  (fun b o _ _ _ q _=>q) (fun b o _ _ _ q _=>⟨o.slots,q⟩) (fun b o _ q n=>by
   rw[au (fun z=>by subst z;rw[h]at n;cases n)];exact n) (fun b o _ q=>⟨o,q⟩)
  (fun b xs q=>stay b _ (ne b _ q (hu.tup xs).symm) q) (fun b o w q=>stay b _ (ne b _ q (hu.frz o w).symm) q) (fun b ps q=>⟨#[],by rw[stay b _ (ne b _ q (hu.tbl ps).symm) q];simp⟩) (fun m q=>q) hok I.bare
 exact J
section
def gw(h:H a=some u)(hu:O7 u):bR H (upd H a (.frz o u)):=by
 refine⟨fun b xs q=>?_,fun b o' w q=>?_⟩
 ·rw[au (fun z=>by subst z;rw[h]at q;cases q;exact hu.tup xs rfl)];exact q
 ·rw[au (fun z=>by subst z;rw[h]at q;cases q;exact hu.frz o' w rfl)];exact q
def Jg.den{H':Hp}(h:Jg K H' q u)(e:H' a=some (.frz o u)):bD K H' q.d (.ref a):=by
 cases q with
 |lst xs=>
  obtain⟨vs,rfl,l⟩:=h
  show bD K H' (.lst xs) (.ref a)
  unfold bD
  exact⟨a,vs,rfl,.inl ⟨o,e⟩,l⟩
 |dct ks ds=>
  obtain⟨kvs,rfl,k,l⟩:=h
  show bD K H' (.dU ks ds) (.ref a)
  unfold bD
  exact⟨a,o,kvs,rfl,e,k,l⟩
 |sdt ks ds=>
  obtain⟨xs,rfl,l⟩:=h
  show bD K H' (.gH ks ds) (.ref a)
  unfold bD
  exact⟨a,o,xs,rfl,e,l⟩
def SQ.keep{sl:Sl}(p:bR H H')(h:SQ K H sl v)(k:∀b u,isOwn sl≠none->v=some (.ref b)->H b=some u->H' b=some u):SQ K H' sl v:=by
 cases sl with
 |un=>trivial
 |val d=>obtain⟨v,e1,e2⟩:=h;exact⟨v,e1,e2.mono p⟩
 |own q=>
  obtain⟨b,e1,w,e2,e3⟩:=h
  exact⟨b,e1,w,k b w (by simp[isOwn]) e1 e2,e3.mono p⟩
 |bor q=>
  obtain⟨b,e1,w,e2,e3⟩:=h
  exact⟨b,e1,w,k b w (by simp[isOwn]) e1 e2,e3.mono p⟩
def ww{sl:Sl}(e:env[i]? =some sl)(ho:isOwn sl≠none)(ev:(σ[i]?).join=some (.ref b)):aQ env σ i b:=by
 refine⟨?_,?_⟩
 ·cases q:isOwn sl with
  |none=>exact absurd q ho
  |some o=>exact⟨sl,o,e,q⟩
 ·cases w:σ[i]? with
  |none=>rw[w]at ev;cases ev
  |some y=>rw[w]at ev;simp at ev;rw[ev]
theorem Sat.keep(S:Sat K env σ H)(p:bR H H')(k:∀i b u,aQ env σ i b->H b=some u->H' b=some u):Sat K env σ H':=
 ⟨S.len,fun i sl e=>(S.sl i sl e).keep p fun b u ho ev hb=>k i b u (ww e ho ev) hb,S.ne⟩
def Sat.freeze(S:Sat K env σ H)(h:H a=some u)(hu:O7 u)(no:∀i,¬aQ env σ i a):Sat K env σ (upd H a (.frz o u)):=
 S.keep (gw h hu) fun i b w ow hb=>by
  rw[au (fun z=>by subst z;exact no i ow)];exact hb
end
def KC{W:Wi}{env:Ev}(h:PE X e (tM X.K W env r)):PE X e (tD X.K W env r):=by
 intro γ s σ H Q I q
 obtain⟨S,q⟩:=q
 cases r with
 |bad=>exact q.elim
 |exc c env'=>exact h γ s σ H Q I ⟨S,q⟩
 |ok x env'=>
  cases x with
  |val d=>exact h γ s σ H Q I ⟨S,q⟩
  |ref i=>exact False.elim q
  |new xs=>
   refine cu (h γ s σ H (fun v H'=>Nx X.K env σ H env' H'/\gr X.K σ H H' _ v) I ⟨S,fun v H' n k=>⟨n,k⟩⟩) fun u s1⟨v,H1,I1,r1,N,k⟩=>?_
   obtain⟨a,rfl,⟨u,ha,hl⟩,h0⟩:=k
   have hu:=hl.uE
   obtain⟨o,I2⟩:=Inv.freeze I1 ha hu
   have p:=gw (o:=o) ha hu
   refine⟨.ref a,_,I2,r1,q _ _ ⟨N.eX.freeze ha hu (fun i z=>S.qQ h0 i (N.sub i a z)),N.sub,N.pers.trans p,fun b ws z n=>?_,fun b z=>?_,N.bors⟩ ((hl.mono p).den aK)⟩
   ·rw[au (fun w=>by subst w;rw[h0]at z;cases z)];exact N.keep b ws z n
   ·refine N.dom b ?_
    by_cases hb:b=a
    ·subst hb;rw[aK]at z;cases z
    ·rw[au hb]at z;exact z
def gr.weaken{σ:St}{x:Rv}(h:gr K σ H1 H x v)(d:∀b,H1 b=none->H0 b=none):gr K σ H0 H x v:=by
 cases x with
 |val d=>exact h
 |ref i=>exact h
 |new xs=>obtain⟨a,e,p,z⟩:=h;exact⟨a,e,p,d a z⟩
section
def TJ{H1:Hp}(S:tM K W env r σ H Q)(N:Nx K env σ H δ H1):tM K W δ r σ H1 Q:=by
 obtain⟨_,h⟩:=S
 refine⟨N.eX,?_⟩
 cases r with
 |bad=>exact h
 |exc c ε=>exact fun H' N'=>h H' (N.trans N')
 |ok x ε=>exact fun v H' N' z=>h v H' (N.trans N') (z.weaken N.dom)
theorem aU{f:D->Ev->Out Rv}(h:tM K W env (r.ak f) σ H Q)
  (k:∀d δ v H1,Nx K env σ H δ H1->bD K H1 d v->tM K W δ (f d δ) σ H1 Q->R v H1):tD K W env r σ H R:=by
 have step:∀d δ,r.ak f=f d δ->∀v H1,Nx K env σ H δ H1->bD K H1 d v->R v H1:=fun d δ e v H1 N D=>by
  rw[e]at h
  exact k d δ v H1 N D (TJ h N)
 obtain⟨S,h⟩:=h
 refine⟨S,?_⟩
 cases r with
 |bad=>exact h
 |exc c δ=>exact h
 |ok x δ=>
  cases x with
  |val d=>exact fun v H1 N D=>step d δ rfl v H1 N D
  |new xs=>exact fun v H1 N D=>step xs.d δ rfl v H1 N D
  |ref i=>exact h
theorem yo{f:Bool->Ev->Out Rv}(h:tM K W env (r.cC gF f) σ H Q)
  (k:∀b δ H1,Nx K env σ H δ H1->tM K W δ (f b δ) σ H1 Q->R b H1):tT K W env r σ H R:=by
 have step:∀d δ x,x.jl=some d->r=.ok x δ->∃b,gF d=some b/\∀H1,Nx K env σ H δ H1->R b H1:=fun d δ x ex er=>by
  subst er
  cases q:gF d with
  |none=>
   cases x with
   |val d'=>cases ex;simp only[Out.cC,Out.ak,q]at h;exact h.2.elim
   |new xs=>cases ex;simp only[Out.cC,Out.ak,q]at h;exact h.2.elim
   |ref i=>cases ex
  |some b=>
   refine⟨b,rfl,fun H1 N=>k b δ H1 N (TJ ?_ N)⟩
   cases x with
   |val d'=>cases ex;simp only[Out.cC,Out.ak,q]at h;exact h
   |new xs=>cases ex;simp only[Out.cC,Out.ak,q]at h;exact h
   |ref i=>cases ex
 refine⟨h.1,?_⟩
 cases r with
 |bad=>exact h.2
 |exc c δ=>exact h.2
 |ok x δ=>
  cases x with
  |val d=>obtain⟨b,e,q⟩:=step d δ _ rfl rfl;exact⟨d,b,rfl,e,q⟩
  |new xs=>obtain⟨b,e,q⟩:=step xs.d δ _ rfl rfl;exact⟨xs.d,b,rfl,e,q⟩
  |ref i=>exact h.2.elim
def cH(h:tM K W env (lift env o) σ H Q):∃z,o=some z/\Sat K env σ H/\∀v H',Nx K env σ H env H'->gr K σ H H' z v->Q v H':=by
 obtain⟨S,h⟩:=h
 cases o with
 |none=>exact h.elim
 |some z=>exact⟨z,rfl,S,h⟩
def dW{v:V}(h:tM K W env (.ok (.val d) env) σ H Q)(e:bD K H d v):Q v H:=h.2 v H (Nx.refl h.1) e
def Nx.laid{o:HO}(S:Sat K env σ H)(hp:H p=none):Nx K env σ H env (upd H p o):=by
 have ne:∀b u,H b=some u->b≠p:=fun b u q z=>by subst z;rw[hp]at q;cases q
 have pe:bR H (upd H p o):=⟨fun b xs q=>by rw[au (ne b _ q)];exact q,fun b o' u q=>by rw[au (ne b _ q)];exact q⟩
 refine⟨S.keep pe fun i b u _ q=>by rw[au (ne b _ q)];exact q,fun _ _ z=>z,pe,fun b vs q _=>by rw[au (ne b _ q)];exact q,fun b q=>?_,fun _ xs e=>⟨xs,e⟩⟩
 ·by_cases hb:b=p
  ·subst hb;exact hp
  ·rw[au hb]at q;exact q
end
def GE(X:Cx)(W:Wi)(c:Cf)(m:E)(e:Expr):Prop:=∀env,PE X e (tM X.K W env (ev c m env))
def aD(X:Cx)(W:Wi)(c:Cf)(m:E):TE:=fun σ H Q=>∃env,tD X.K W env (ev c m env) σ H Q
def aT(X:Cx)(W:Wi)(c:Cf)(m:E):TT:=fun σ H Q=>∃env,tT X.K W env (ev c m env) σ H Q
def GT(X:Cx)(W:Wi)(c:Cf)(m:E)(e:Expr):Prop:=PT X e (aT X W c m)
section
def GE.d(h:GE X W c m e):PE X e (aD X W c m):=fun γ s σ H Q I⟨env,q⟩=>KC (h env) γ s σ H Q I q
theorem bD.gF{H:Hp}{v:V}(h:bD K H x v)(e:gF x=some k):Oz K v H k:=by
 cases x with
 |non=>cases h;simp[Mini.gF]at e;subst e;rfl
 |bl b=>cases h;simp[Mini.gF]at e;subst e;rfl
 |int i=>cases h;simp[Mini.gF]at e;subst e;rfl
 |str y=>simp[Mini.gF]at e
 |tup xs=>
  obtain⟨p,vs,rfl,hq,l⟩:=h
  have e':=QEq e
  refine .inr (.inl ⟨vs,hq,?_⟩)
  have:=l.length
  cases xs<;>cases vs<;>simp_all
 |lst xs=>
  obtain⟨p,vs,rfl,hq,l⟩:=h
  have e':=QEq e
  refine .inl ⟨vs,hq.sq,?_⟩
  have:=l.length
  cases xs<;>cases vs<;>simp_all
 |dU ks vs=>simp[Mini.gF]at e
 |gH ks vs=>simp[Mini.gF]at e
def yp{env:Ev}{σ:St}{Q:Bool->Hp->Prop}(h:tT K W env r σ H Q):tD K W env r σ H (fun v H'=>∃k,Oz K v H' k/\Q k H'):=by
 obtain⟨S,h⟩:=h
 refine⟨S,?_⟩
 cases r with
 |bad=>exact h
 |exc c δ=>exact h
 |ok x δ=>
  obtain⟨d,b,e1,e2,q⟩:=h
  cases x with
  |val d'=>cases e1;exact fun v H' N D=>⟨b,D.gF e2,q H' N⟩
  |new xs=>cases e1;exact fun v H' N D=>⟨b,D.gF e2,q H' N⟩
  |ref i=>cases e1
def GE.t(h:GE X W c m e)(he:∀whole,isTrue e X.env whole=(do let v<-whole;standAt e.pos;holding [v] (truthy v))):GT X W c m e:=
 PT.imp (Km h.d he) fun σ H Q⟨env,q⟩=>⟨env,yp q⟩
noncomputable def Ew:D->Const->Bool
 |.non,.none=>true
 |.bl b,.bool b'=>b==b'
 |.int i,.int j=>i==j
 |.str x,.str y=>decide (x=y)
 |_,_=>false
def YD{k:Const}(h:Ew x k=true):GE X W c (.con x) (.Constant k i pos):=by
 intro env
 cases x with
 |non=>cases k<;>first|exact PE.imp W4 (fun σ H Q q=>dW q rfl)|simp[Ew]at h
 |bl y=>cases k<;>first|(simp[Ew]at h;subst h;exact PE.imp abU (fun σ H Q q=>dW q rfl))|simp[Ew]at h
 |int y=>cases k<;>first|(simp[Ew]at h;subst h;exact PE.imp W6 (fun σ H Q q=>dW q rfl))|simp[Ew]at h
 |str y=>cases k<;>first|(simp[Ew]at h;subst h;exact PE.imp W3 (fun σ H Q q=>dW q rfl))|simp[Ew]at h
 |tup _=>cases k<;>simp[Ew]at h
 |lst _=>cases k<;>simp[Ew]at h
 |dU _ _=>cases k<;>simp[Ew]at h
 |gH _ _=>cases k<;>simp[Ew]at h
def bZ{σ:St}{i:Nat}(h:(σ[i]?).join=some v):σ[i]? =some (some v):=by
 cases w:σ[i]? with
 |none=>rw[w]at h;cases h
 |some y=>rw[w]at h;simp at h;rw[h]
def Nx.give{env:Ev}{H:Hp}{q:Ob}{a:Addr}{u:HO}(S:Sat K env σ H)(e:env[i]? =some (.own q))(es:σ[i]? =some (some (.ref a)))
  (ha:H a=some u)(l:Jg K H q u):Nx K env σ H (env.set i (.val q.d)) (upd H a (.frz o u)):=by
 have p:=gw (o:=o) ha l.uE
 have oa:aQ env σ i a:=⟨⟨_,q,e,rfl⟩,es⟩
 have hi:=(QCz.mp e).1
 have sub:∀j b,aQ (env.set i (.val q.d)) σ j b->aQ env σ j b/\j≠i:=fun j b z=>by
  obtain⟨⟨s,ys,e1,e2⟩,e3⟩:=z
  by_cases hj:i=j
  ·subst hj;rw[Qwq hi]at e1;cases e1;simp[isOwn]at e2
  ·rw[Qxz hj]at e1;exact⟨⟨⟨s,ys,e1,e2⟩,e3⟩,fun z=>hj z.symm⟩
 have ne:∀j b,aQ env σ j b->j≠i->b≠a:=fun j b z hj q=>hj (S.ne j i a (q▸z) oa)
 refine⟨⟨by simpa using S.len,fun j s ej=>?_,fun j k b z w=>S.ne j k b (sub j b z).1 (sub k b w).1⟩,fun j b z=>(sub j b z).1,p,fun b ws q n=>?_,fun b q=>?_,fun j ys ej=>?_⟩
 ·by_cases hj:i=j
  ·subst hj
   rw[Qwq hi]at ej
   cases ej
   exact⟨.ref a,by rw[es];rfl,(l.mono p).den aK⟩
  ·rw[Qxz hj]at ej
   refine(S.sl j s ej).keep p fun b w ho ev hb=>?_
   rw[au (ne j b (ww ej ho ev) fun z=>hj z.symm)];exact hb
 ·rw[au (fun z=>by subst z;exact n i oa)];exact q
 ·by_cases hb:b=a
  ·subst hb;rw[aK]at q;cases q
  ·rw[au hb]at q;exact q
 ·by_cases hj:i=j
  ·subst hj;rw[e]at ej;cases ej
  ·exact⟨ys,by rw[Qxz hj];exact ej⟩
def Yp{x:Str}(hN:X.N[i]? =some x)(hv:Vis X.env.scope x)(hd:(x==("__debug__":Str))=false)(hcd:(x==("__classdict__":Str))=false):GE X W c (.var i) (.Name x pos):=by
 intro env γ s σ H Q I q
 have B:=Kz (pos:=pos) hN hv hd hcd
 simp only[v_0,qH]at q
 cases e:env[i]? with
 |none=>rw[e]at q;exact q.2.elim
 |some sl=>
  rw[e]at q
  cases sl with
  |un=>exact q.2.elim
  |bor xs=>exact q.2.elim
  |val d=>
   obtain⟨v,e1,e2⟩:=q.1.sl i _ e
   exact B γ s σ H Q I ⟨v,bZ e1,dW q e2⟩
  |own xs=>
   obtain⟨a,e1,w,e2,e3⟩:=q.1.sl i _ e
   refine cu (B γ s σ H (fun v H'=>v=.ref a/\H'=H) I ⟨.ref a,bZ e1,rfl,rfl⟩) fun u s1⟨v,H1,I1,r1,k1,k2⟩=>?_
   subst k1 k2
   obtain⟨o,I2⟩:=Inv.freeze I1 e2 e3.uE
   exact⟨.ref a,_,I2,r1,q.2 _ _ (Nx.give q.1 e (bZ e1) e2 e3) ((e3.mono (gw e2 e3.uE)).den aK)⟩
end
section
end
noncomputable def ie(K:QQq)(σ:St)(H₀ H:Hp):List Rv->List V->Prop
 |[],vs=>vs=[]
 |x::xs,vs=>∃v r,vs=v::r/\gr K σ H₀ H x v/\ie K σ H₀ H xs r
noncomputable def TF(K:QQq)(W:Wi)(env:Ev)(r:Out (List Rv)):TA:=fun σ H Q=>Sat K env σ H/\match r with
 |.ok xs env'=>∀vs H',Nx K env σ H env' H'->ie K σ H H' xs vs->Q vs H'
 |.exc c env'=>∀H',Nx K env σ H env' H'->W c env' σ H'
 |.bad=>False
noncomputable def tA(K:QQq)(W:Wi)(env:Ev)(r:Out Rv):TE:=fun σ H Q=>Sat K env σ H/\match r with
 |.ok x env'=>∀v H',Nx K env σ H env' H'->gr K σ H H' (argv x) v->Q v H'
 |.exc c env'=>∀H',Nx K env σ H env' H'->W c env' σ H'
 |.bad=>False
def GA(X:Cx)(W:Wi)(c:Cf)(m:E)(es:List Expr):Prop:=∀env,PA X es (TF X.K W env (evs c m env))
def gr.on{env δ ε:Ev}{H H1 H2:Hp}{v:V}(S:Sat K env σ H)(N:Nx K env σ H δ H1)(N2:Nx K δ σ H1 ε H2)(h:gr K σ H H1 x v):gr K σ H H2 x v:=by
 have no:=fun a h0 i z=>S.qQ h0 i (N.sub i a z)
 cases x with
 |val d=>exact bD.mono N2.pers h
 |ref i=>exact h
 |new xs=>obtain⟨a,e,⟨u,p,l⟩,z⟩:=h;exact⟨a,e,⟨u,N2.keep a u p (no a z),l.mono N2.pers⟩,z⟩
def jT{env:Ev}{H:Hp}{xs:List D}(S:Sat K env σ H)(l:ao K H xs vs)(hp:H p=none):gr K σ H (upd H p (.lst vs)) (.new (.lst xs)) (.ref p):=
 ⟨p,rfl,⟨_,aK,vs,rfl,l.mono (Nx.laid S hp).pers⟩,hp⟩
theorem ie.weaken{K:QQq}{σ:St}{H0 H1 H:Hp}:∀{xs:List Rv}{vs:List V},ie K σ H1 H xs vs->(∀b,H1 b=none->H0 b=none)->ie K σ H0 H xs vs
 |[],_,h,_=>h
 |x::xs,vs,h,d=>by
  obtain⟨v,r,e,h1,h2⟩:=h
  exact⟨v,r,e,h1.weaken d,ie.weaken h2 d⟩
section
def PA.imp(h:PA X es t)(i:∀σ H Q,t' σ H Q->t σ H Q):PA X es t':=fun p γ s σ H Q I q=>h p γ s σ H Q I (i σ H Q q)
def GE.ag(h:GE X W c m e)env:PE X e (tA X.K W env (ev c m env)):=by
 intro γ s σ H Q I q
 obtain⟨S,q⟩:=q
 cases r:ev c m env with
 |bad=>rw[r]at q;exact q.elim
 |exc k env'=>rw[r]at q;exact h env γ s σ H Q I ⟨S,by rw[r];exact q⟩
 |ok x env'=>
  rw[r]at q
  cases x with
  |new xs=>exact KC (h env) γ s σ H Q I ⟨S,by rw[r];exact q⟩
  |val d=>exact h env γ s σ H Q I ⟨S,by rw[r];exact q⟩
  |ref i=>exact h env γ s σ H Q I ⟨S,by rw[r];exact q⟩
def M3:GA X W c .nil []:=fun env=>PA.imp eQ fun σ H Q q=>by
 obtain⟨S,q⟩:=q
 exact q [] H (Nx.refl S) rfl
def Ga(h:GE X W c m1 e)(t:GA X W c m2 es)(hs:starEach (e::es) X.env=(false,eval e X.env)::starEach es X.env):GA X W c (.cons m1 m2) (e::es):=by
 intro env
 have B:PA X _ (JG (fun σ H Q=>∃env,tA X.K W env _ σ H Q) (fun σ H Q=>∃env,TF X.K W env _ σ H Q)):=
  cI (fun γ s σ H Q I⟨env,q⟩=>h.ag env γ s σ H Q I q) (fun p γ s σ H Q I⟨env,q⟩=>t env p γ s σ H Q I q) hs
 refine PA.imp B fun σ H Q q=>?_
 obtain⟨S,q⟩:=q
 refine⟨env,S,?_⟩
 simp only[evs]at q
 cases r:ev c m1 env with
 |bad=>rw[r]at q;exact q.elim
 |exc k δ=>rw[r]at q;exact q
 |ok x δ=>
  rw[r]at q
  intro v H1 N1 k1
  refine⟨δ,N1.eX,?_⟩
  simp only[Out.bind]at q
  cases r2:evs c m2 δ with
  |bad=>rw[r2]at q;exact q.elim
  |exc k ε=>rw[r2]at q;exact fun H2 N2=>q H2 (N1.trans N2)
  |ok xs ε=>
   rw[r2]at q
   intro vs H2 N2 k2
   exact q _ H2 (N1.trans N2) ⟨v,vs,rfl,k1.on S N1 N2,k2.weaken N1.dom⟩
theorem ie.ds{K:QQq}{σ:St}{H₀ H:Hp}:∀{xs:List Rv}{vs:List V}{ds:List D},ie K σ H₀ H (xs.map argv) vs->aJ xs=some ds->ao K H ds vs
 |[],vs,ds,h,e=>by
  simp[aJ]at e
  subst e
  cases h
  exact ao.fZ
 |x::xs,vs,ds,h,e=>by
  obtain⟨v,r,rfl,h1,h2⟩:=h
  cases x with
  |ref i=>simp[aJ,Rv.jl]at e
  |val d=>
   simp[aJ,Rv.jl]at e
   obtain⟨ds',e1,e2⟩:=e
   subst e2
   exact ao.cW h1 (ie.ds h2 e1)
  |new ys=>
   simp[aJ,Rv.jl]at e
   obtain⟨ds',e1,e2⟩:=e
   subst e2
   exact ao.cW h1 (ie.ds h2 e1)
def zT:∀(m:E)(env:Ev){xs:List Rv}{env':Ev},evs c m env=.ok xs env'->xs.map argv=xs:=by
 have aa:∀x:Rv,argv (argv x)=argv x:=fun x=>by cases x<;>rfl
 intro m
 induction m with
 |nil=>intro env xs env' h;simp only[evs]at h;cases h;rfl
 |cons h t _ ih=>
  intro env xs env' q
  simp only[evs]at q
  cases r:ev c h env with
  |bad=>rw[r]at q;cases q
  |exc k e1=>rw[r]at q;cases q
  |ok x e1=>
   rw[r]at q
   simp only[Out.bind]at q
   cases r2:evs c t e1 with
   |bad=>rw[r2]at q;cases q
   |exc k e2=>rw[r2]at q;cases q
   |ok ys e2=>
    rw[r2]at q
    cases q
    rw[Qyz,aa,ih e1 r2]
 |_=>intro env xs env' h;simp only[evs]at h;cases h
def dF(h:fits n=true):n<=sizeLine:=by
 rw[sizeLine_eq]
 simpa[fits]using h
theorem yj{env:Ev}{H:Hp}{f:List D->Option Rv}
  (h:tM K W env ((evs c m env).bind fun rs σ=>lift σ ((aJ rs).bind f)) σ H Q)
  (k:∀δ H1 ds vs z,Nx K env σ H δ H1->ao K H1 ds vs->f ds=some z->(∀v H',Nx K δ σ H1 δ H'->gr K σ H1 H' z v->Q v H')->R vs H1):TF K W env (evs c m env) σ H R:=by
 obtain⟨S,q⟩:=h
 refine⟨S,?_⟩
 cases r:evs c m env with
 |bad=>rw[r]at q;exact q.elim
 |exc k δ=>rw[r]at q;exact q
 |ok xs δ=>
  rw[r]at q
  simp only[Out.bind]at q
  intro vs H1 N1 k1
  cases e:aJ xs with
  |none=>rw[e]at q;exact q.elim
  |some ds=>
   rw[e]at q
   simp only[Option.bind]at q
   cases e2:f ds with
   |none=>rw[e2]at q;exact q.elim
   |some z=>
    rw[e2]at q
    have k2:=k1
    rw[<-zT m env r]at k2
    exact k δ H1 ds vs z N1 (ie.ds k2 e) e2 fun v H' N' w=>q v H' (N1.trans N') (w.weaken N1.dom)
def Yq(h:GA X W c m es):GE X W c (.tup m) (.Tuple es k pos):=by
 intro env
 refine PE.imp (W2 (h env)) fun σ H Q q=>?_
 refine yj q fun δ H1 ds vs z N1 l e q=>?_
 split at e
 ·rename_i hf
  cases e
  refine⟨by rw[<-l.length];exact dF hf,fun p hp=>q _ _ (Nx.laid N1.eX hp) ?_⟩
  show bD _ _ _ _
  exact⟨p,vs,rfl,.inl (.inl aK),l.mono (Nx.laid N1.eX hp).pers⟩
 ·cases e
def Yw(h:GA X W c m es):GE X W c (.lis m) (.List es pos):=by
 intro env
 refine PE.imp (W5 (h env)) fun σ H Q q=>?_
 refine yj q fun δ H1 ds vs z N1 l e q=>?_
 split at e
 ·rename_i hf
  cases e
  exact⟨by rw[<-l.length];exact dF hf,fun p hp=>q _ _ (Nx.laid N1.eX hp) (jT N1.eX l hp)⟩
 ·cases e
def Rul(X:Cx)(r:R2)(f:D->D->Option Rv):Prop:=
 ∀(env:Ev)(σ:St)(H:Hp)(x y:D)(z:Rv)(v u:V)(Q:VK),Sat X.K env σ H->bD X.K H x v->bD X.K H y u->f x y=some z->(∀w H',Nx X.K env σ H env H'->gr X.K σ H H' z w->Q w H')->r v u H Q
def Rul.bin{f:D->D->Option Rv}(R:Rul X r f)(h:PE X e (ZD r (aD X W c m1) (aD X W c m2))):
  ∀env,PE X e (tM X.K W env ((ev c m1 env).ak fun x σ=>(ev c m2 σ).ak fun y σ=>lift σ (f x y))):=fun env=>
 PE.imp h fun σ H Q q=>⟨env,aU q fun d δ v H1 N1 D1 q1=>⟨δ,aU q1 fun d2 ε v2 H2 N2 D2 q2=>by
  obtain⟨z,ez,S,q3⟩:=cH q2
  exact R ε σ H2 d d2 z v v2 Q S (D1.mono N2.pers) D2 ez q3⟩⟩
def ab1:Ze->Operator
 |.add=>.Add
 |.sub=>.Sub
 |.mul=>.Mult
 |.mod=>.Mod
noncomputable def Ue(K:QQq):R2:=fun x y H Q=>∃a b xs ys,x=.ref a/\y=.ref b/\jg K H a xs/\jg K H b ys/\xs.length+ys.length<=sizeLine/\
 (xs=[]->Q (.ref b) H)/\(xs≠[]->ys=[]->Q (.ref a) H)/\(xs≠[]->ys≠[]->∀p,H p=none->Q (.ref p) (upd H p (.tup (xs++ys))))
def Rc:fM X (binaryOp .Add) (Ue X.K):=by
 intro γ s σ H x y v u Q I rx ry h
 obtain⟨a,b,xs,ys,rfl,rfl,ha,hb,hz,q0,q1,q2⟩:=h
 by_cases hx:xs=[]
 ·cases rx
  cases ry
  obtain⟨its,r1,p1,_⟩:=I.tuple ha
  obtain⟨its2,r2,p2,_⟩:=I.tuple hb
  obtain⟨⟨cls,dd,data,sl⟩,ho,hc,n,hd⟩:=id p1
  obtain⟨⟨cls2,dd2,data2,sl2⟩,ho2,hc2,n2,hd2⟩:=id p2
  subst hc hd hc2 hd2
  have e0:its.toArray.isEmpty=true:=by
   have:=r1.bL.mpr hx
   rw[this];rfl
  exact concat_meets ⟨_,ho,rfl⟩ ⟨_,ho2,rfl⟩ noFill_tuple_add seq_tuple_add PySem.F.slot_tuple_add PySem.F.entry_tuple_add (PySem.F.args_tuple_add_2 _ _)
   (PyProof.Rows.tuple_addW0 a b its.toArray its2.toArray n n2 dd dd2 sl sl2 e0) ⟨ho,ho2,⟨.ref b,H,I,rfl,q0 hx⟩⟩
 ·exact Ra γ s σ H _ _ v u Q I rx ry ⟨a,b,xs,ys,rfl,rfl,ha,hb,hx,hz,q1 hx,q2 hx⟩
noncomputable def Ud(K:QQq):R2:=fun x y H Q=>∃l b xs zs,x=.ref l/\y=.ref b/\jm K H l xs/\jm K H b zs/\xs.length+zs.length<=sizeLine/\∀p,H p=none->Q (.ref p) (upd H p (.lst (xs++zs)))
def Rb:fM X (binaryOp .Add) (Ud X.K):=by
 intro γ s σ H x y v u Q I rx ry h
 obtain⟨l,b,xs,zs,rfl,rfl,hH,hB,hz,q⟩:=h
 cases rx
 cases ry
 obtain⟨its,r1,pl,_⟩:=I.list hH
 obtain⟨its2,r2,pl2,_⟩:=I.list hB
 obtain⟨⟨cls,dd,data,sl⟩,n,ho,hc,_,hd⟩:=id pl
 obtain⟨⟨cls2,dd2,data2,sl2⟩,n2,ho2,hc2,_,hd2⟩:=id pl2
 subst hc hd hc2 hd2
 have hl:=r1.length
 have hl2:=r2.length
 have ea:its.toArray++its2.toArray=(its++its2).toArray:=by simp
 refine concat_meets ⟨_,ho,rfl⟩ ⟨_,ho2,rfl⟩ noFill_list_add seq_list_add F.slot_list_add F.entry_list_add (F.args_list_add_2 _ _) (PyProof.Rows.list_addW l b its.toArray its2.toArray n n2 dd dd2 sl sl2 (by rw[Qyq,Qyq];omega)) ⟨ho,ho2,?_⟩
 rw[ea]
 exact⟨.ref _,_,I.afF (r1.append r2) (by rw[QTq];omega),rfl,q _ I.fresh⟩
def Ug(K:QQq):R2:=fun x y H Q=>Pj (fun i j=>.int (i+j)) x y H Q\/Ue K x y H Q\/Ud K x y H Q
def Rf:fM X (binaryOp .Add) (Ug X.K):=Xl.or (Rc.or Rb)
def cg{H:Hp}{v:V}(h:bD K H (.tup ds) v):∃a vs,v=.ref a/\jg K H a vs/\ao K H ds vs:=by unfold bD at h;exact h
def cR{H:Hp}{v:V}(h:bD K H (.lst ds) v):∃a vs,v=.ref a/\GD K H a vs/\ao K H ds vs:=by unfold bD at h;exact h
def dB{H:Hp}{a:Addr}(h:jg K H a vs)(l:ao K H ds vs):bD K H (.tup ds) (.ref a):=by unfold bD;exact⟨a,vs,rfl,h,l⟩
def yx(h:small i=true): -(2 ^64)<i/\i<2 ^64:=by
 simp only[small,QUz]at h
 exact⟨by omega,by omega⟩
def Qx:Rul X (Ug X.K) (binop .add):=by
 intro env σ H x y z v u Q S Dx Dy e q
 cases x with
 |int i=>
  cases y with
  |int j=>cases e;exact .inl ⟨i,j,Dx,Dy,q _ H (Nx.refl S) rfl⟩
  |_=>cases e
 |tup xs=>
  cases y with
  |tup ys=>
   unfold binop at e;dsimp only at e
   split at e
   ·rename_i hf
    cases e
    obtain⟨a,vs,rfl,ha,la⟩:=cg Dx
    obtain⟨b,ws,rfl,hb,lb⟩:=cg Dy
    refine .inr (.inl ⟨a,b,vs,ws,rfl,rfl,ha,hb,by rw[<-la.length,<-lb.length];exact dF hf,fun e0=>?_,fun _ e0=>?_,fun _ _ p hp=>?_⟩)
    ·subst e0
     have:xs=[]:=by have:=la.length;cases xs<;>simp_all
     subst this
     exact q _ H (Nx.refl S) (dB hb lb)
    ·subst e0
     have:ys=[]:=by have:=lb.length;cases ys<;>simp_all
     subst this
     exact q _ H (Nx.refl S) (by rw[List.append_nil];exact dB ha la)
    ·have N:=Nx.laid (o:=.tup (vs++ws)) S hp
     exact q _ _ N (dB (.inl (.inl aK)) ((la.append lb).mono N.pers))
   ·cases e
  |_=>cases e
 |lst xs=>
  cases y with
  |lst ys=>
   unfold binop at e;dsimp only at e
   split at e
   ·rename_i hf
    cases e
    obtain⟨a,vs,rfl,ha,la⟩:=cR Dx
    obtain⟨b,ws,rfl,hb,lb⟩:=cR Dy
    exact .inr (.inr ⟨a,b,vs,ws,rfl,rfl,ha.sq,hb.sq,by rw[<-la.length,<-lb.length];exact dF hf,fun p hp=>q _ _ (Nx.laid (o:=.lst (vs++ws)) S hp) (jT S (la.append lb) hp)⟩)
   ·cases e
  |_=>cases e
 |_=>cases y<;>cases e
def z9(ho:o≠ .add)(hm:o≠ .mul){z:Rv}(e:binop o x y=some z):(∃i,x=.int i)/\∃j,y=.int j:=by
 cases x with
 |int i=>exact⟨⟨i,rfl⟩,by cases y with
  |int j=>exact⟨j,rfl⟩
  |_=>cases o<;>cases e⟩
 |tup _=>cases o<;>first|exact absurd rfl ho|exact absurd rfl hm|cases e
 |lst _=>cases o<;>first|exact absurd rfl ho|cases e
 |_=>cases o<;>cases e
def Qp:Rul X (Pj fun i j=>.int (i-j)) (binop .sub):=by
 intro env σ H x y z v u Q S Dx Dy e q
 obtain⟨⟨i,rfl⟩,j,rfl⟩:=z9 (by intro h;cases h) (by intro h;cases h) e
 cases e
 exact⟨_,_,Dx,Dy,q _ H (Nx.refl S) rfl⟩
def Ub(K:QQq):R2:=fun x y H Q=>rI S5 (fun i j=>.int (i*j)) x y H Q
def Q9:fM X (binaryOp .Mult) (Ub X.K):=Xd
def Qq:Rul X (Ub X.K) (binop .mul):=by
 intro env σ H x y z v u Q S Dx Dy e q
 cases x with
 |int i=>
  cases y with
  |int j=>
   unfold binop at e;dsimp only at e
   split at e
   ·rename_i hs
    cases e
    simp only[Bool.or_eq_true]at hs
    exact⟨i,j,Dx,Dy,hs.imp yx yx,q _ H (Nx.refl S) rfl⟩
   ·cases e
  |_=>cases e
 |_=>cases y<;>cases e
def Qs:Rul X (rI (fun _ j=>0<j) fun i j=>.int (i%j)) (binop .mod):=by
 intro env σ H x y z v u Q S Dx Dy e q
 obtain⟨⟨i,rfl⟩,j,rfl⟩:=z9 (by intro h;cases h) (by intro h;cases h) e
 unfold binop at e;dsimp only at e
 split at e
 ·rename_i hs
  cases e
  exact⟨i,j,Dx,Dy,hs,q _ H (Nx.refl S) rfl⟩
 ·cases e
def acL(ha:GE X W c m1 a)(hb:GE X W c m2 b):GE X W c (.op o m1 m2) (.BinOp a (ab1 o) b pos):=by
 intro env
 cases o with
 |add=>exact Qx.bin (Et Rf ha.d hb.d) env
 |sub=>exact Qp.bin (Et Xb ha.d hb.d) env
 |mul=>exact Qq.bin (Et Q9 ha.d hb.d) env
 |mod=>exact Qs.bin (Et Xe ha.d hb.d) env
def Yv(ha:GE X W c m1 a):GE X W c (.neg m1) (.UnaryOp .USub a pos):=by
 intro env
 refine PE.imp (abR VJ ha.d) fun σ H Q q=>?_
 refine⟨env,aU q fun d δ v H1 N1 D1 q1=>?_⟩
 obtain⟨z,ez,S,q3⟩:=cH q1
 cases d<;>first
  |(cases ez;done)
  |(cases ez;exact⟨_,D1,q3 _ H1 (Nx.refl S) rfl⟩)
end
mutual
theorem rN:∀a b:D,nd a=true->nd b=true->PyData.eqv (py a) (py b)=cM a b
 |.dU _ _,_=>fun h _=>by simp[nd]at h
 |.gH _ _,_=>fun h _=>by simp[nd]at h
 |.non,.dU _ _=>fun _ h=>by simp[nd]at h
 |.non,.gH _ _=>fun _ h=>by simp[nd]at h
 |.bl _,.dU _ _=>fun _ h=>by simp[nd]at h
 |.bl _,.gH _ _=>fun _ h=>by simp[nd]at h
 |.int _,.dU _ _=>fun _ h=>by simp[nd]at h
 |.int _,.gH _ _=>fun _ h=>by simp[nd]at h
 |.str _,.dU _ _=>fun _ h=>by simp[nd]at h
 |.str _,.gH _ _=>fun _ h=>by simp[nd]at h
 |.tup _,.dU _ _=>fun _ h=>by simp[nd]at h
 |.tup _,.gH _ _=>fun _ h=>by simp[nd]at h
 |.lst _,.dU _ _=>fun _ h=>by simp[nd]at h
 |.lst _,.gH _ _=>fun _ h=>by simp[nd]at h
 |.tup xs,.tup ys=>fun h h'=>by simp only[py,PyData.eqv,cM];exact xg xs ys (by simpa[nd]using h) (by simpa[nd]using h')
 |.lst xs,.lst ys=>fun h h'=>by simp only[py,PyData.eqv,cM];exact xg xs ys (by simpa[nd]using h) (by simpa[nd]using h')
 |.non,.non=>fun _ _=>rfl
 |.non,.bl _=>fun _ _=>rfl
 |.non,.int _=>fun _ _=>rfl
 |.non,.str _=>fun _ _=>rfl
 |.non,.tup _=>fun _ _=>rfl
 |.non,.lst _=>fun _ _=>rfl
 |.bl _,.non=>fun _ _=>rfl
 |.bl _,.bl _=>fun _ _=>rfl
 |.bl a,.int j=>fun _ _=>rfl
 |.bl _,.str _=>fun _ _=>rfl
 |.bl _,.tup _=>fun _ _=>rfl
 |.bl _,.lst _=>fun _ _=>rfl
 |.int _,.non=>fun _ _=>rfl
 |.int i,.bl b=>fun _ _=>rfl
 |.int _,.int _=>fun _ _=>rfl
 |.int _,.str _=>fun _ _=>rfl
 |.int _,.tup _=>fun _ _=>rfl
 |.int _,.lst _=>fun _ _=>rfl
 |.str _,.non=>fun _ _=>rfl
 |.str _,.bl _=>fun _ _=>rfl
 |.str _,.int _=>fun _ _=>rfl
 |.str x,.str y=>fun _ _=>by simp only[py,PyData.eqv,cM];rw[Bool.beq_eq_decide_eq]
 |.str _,.tup _=>fun _ _=>rfl
 |.str _,.lst _=>fun _ _=>rfl
 |.tup _,.non=>fun _ _=>rfl
 |.tup _,.bl _=>fun _ _=>rfl
 |.tup _,.int _=>fun _ _=>rfl
 |.tup _,.str _=>fun _ _=>rfl
 |.tup _,.lst _=>fun _ _=>rfl
 |.lst _,.non=>fun _ _=>rfl
 |.lst _,.bl _=>fun _ _=>rfl
 |.lst _,.int _=>fun _ _=>rfl
 |.lst _,.str _=>fun _ _=>rfl
 |.lst _,.tup _=>fun _ _=>rfl
theorem xg:∀xs ys:List D,il xs=true->il ys=true->PyData.eqvAll (xV xs) (xV ys)=pG xs ys
 |[],[]=>fun _ _=>rfl
 |[],_::_=>fun _ _=>rfl
 |_::_,[]=>fun _ _=>rfl
 |x::xs,y::ys=>fun h h'=>by
  simp only[il,QUq]at h h'
  simp only[xV,PyData.eqvAll,pG]
  rw[rN x y h.1 h'.1,xg xs ys h.2 h'.2]
end
def yr(h:Ph x=true):PyData.strOk x=true:=by
 unfold Ph at h
 unfold PyData.strOk
 rw[Array.all_eq_true]at h⊢
 intro i hi
 have:=h i hi
 simp only[QUz]at this⊢
 omega
mutual
theorem iV:∀a:D,nd a=true->(py a).canLay0=true
 |.non=>fun _=>rfl
 |.bl _=>fun _=>rfl
 |.int _=>fun _=>rfl
 |.str x=>fun h=>yr h
 |.tup xs=>fun h=>by simp only[py,PyData.canLay0];exact iU xs (by simpa[nd]using h)
 |.lst xs=>fun h=>by simp only[py,PyData.canLay0];exact iU xs (by simpa[nd]using h)
 |.dU _ _=>fun h=>by simp[nd]at h
 |.gH _ _=>fun h=>by simp[nd]at h
theorem iU:∀xs:List D,il xs=true->PyData.canLayAll0 (xV xs)=true
 |[]=>fun _=>rfl
 |x::xs=>fun h=>by
  simp only[il,QUq]at h
  simp only[xV,PyData.canLayAll0,QUq]
  exact⟨iV x h.1,iU xs h.2⟩
end
mutual
theorem rY:∀a:D,nd a=true->(py a).depth=dep a
 |.non=>fun _=>rfl
 |.bl _=>fun _=>rfl
 |.int _=>fun _=>rfl
 |.str _=>fun _=>rfl
 |.tup xs=>fun h=>by simp only[py,PyData.depth,dep];rw[xn xs (by simpa[nd]using h)]
 |.lst xs=>fun h=>by simp only[py,PyData.depth,dep];rw[xn xs (by simpa[nd]using h)]
 |.dU _ _=>fun h=>by simp[nd]at h
 |.gH _ _=>fun h=>by simp[nd]at h
theorem xn:∀xs:List D,il xs=true->PyData.depthAll (xV xs)=dM xs
 |[]=>fun _=>rfl
 |x::xs=>fun h=>by
  simp only[il,QUq]at h
  simp only[xV,PyData.depthAll,dM]
  rw[rY x h.1,xn xs h.2]
end
def cU(K:QQq)(H:Hp)(d:D)(v:V):Prop:=bD K H d v\/∃q a,d=Ob.d q/\v=.ref a/\jk K H q a
section
mutual
theorem bD.reads(I:Inv X γ σ H s):∀{d:D}{v:V}{u:Value},nd d=true->bD X.K H d v->RelV v u->∃as,Reads s.heap u (py d) as
 |.non,v,u,_,h,r=>by cases h;cases r;exact⟨_,.none⟩
 |.bl b,v,u,_,h,r=>by cases h;cases r;exact⟨_,.bool b⟩
 |.int i,v,u,_,h,r=>by cases h;obtain⟨t,rfl⟩:=r;exact⟨_,.int i t⟩
 |.str x,v,u,_,h,r=>by cases h;obtain⟨t,rfl⟩:=r;exact⟨_,.str x t⟩
 |.tup ds,v,u,hn,h,r=>by
  obtain⟨a,vs,rfl,hq,l⟩:=cg h
  cases r
  obtain⟨its,rv,⟨o,e,c,n,dt⟩,_⟩:=I.tuple hq
  obtain⟨as,q⟩:=ao.reads I (by simpa[nd]using hn) l rv
  exact⟨as,by rw[py];exact .tuple e c dt (by simpa using q)⟩
 |.lst ds,v,u,hn,h,r=>by
  obtain⟨a,vs,rfl,hq,l⟩:=cR h
  cases r
  obtain⟨its,rv,⟨o,n,e,c,_,dt⟩,_⟩:=I.list hq.sq
  obtain⟨as,q⟩:=ao.reads I (by simpa[nd]using hn) l rv
  exact⟨a::as,by rw[py];exact .list e c dt (by simpa using q)⟩
 |.dU _ _,_,_,h,_,_=>by simp[nd]at h
theorem ao.reads(I:Inv X γ σ H s):∀{ds:List D}{vs:List V}{us:List Value},il ds=true->ao X.K H ds vs->Vals vs us->∃as,ReadsAll s.heap us (xV ds) as
 |[],vs,us,_,h,r=>by rw[ao.bL.mp h]at r;cases r;exact⟨_,.nil⟩
 |d::ds,vs,us,hn,h,r=>by
  obtain⟨v,rs,rfl,h1,h2⟩:=ao.aF.mp h
  simp only[il,QUq]at hn
  cases r with
  |cons r1 r2=>
   obtain⟨as,q1⟩:=bD.reads I hn.1 h1 r1
   obtain⟨bs,q2⟩:=ao.reads I hn.2 h2 r2
   exact⟨as++bs,.cons q1 q2⟩
end
theorem cU.reads(I:Inv X γ σ H s){v:V}(hn:nd d=true)(h:cU X.K H d v)(r:RelV v u):∃as,Reads s.heap u (py d) as:=by
 rcases h with h|⟨q,a,rfl,rfl,u',ha,hq⟩
 ·exact bD.reads I hn h r
 ·cases r
  cases q with
  |dct ks ds=>simp[Ob.d,nd]at hn
  |sdt ks ds=>simp[Ob.d,nd]at hn
  |lst ds=>
  obtain⟨vs,rfl,l⟩:=hq
  obtain⟨its,rv,⟨o,n,e,c,_,dt⟩,_⟩:=I.list (.inl (.inl ha))
  obtain⟨as,q⟩:=ao.reads I (by simpa[Ob.d,nd]using hn) l rv
  exact⟨a::as,by rw[Ob.d,py];exact .list e c dt (by simpa using q)⟩
end
abbrev sD(xs:List SV):HO:=.dS xs
mutual
theorem ab8:∀d:D,kA d=true->nd d=true
 |.int _=>fun _=>rfl
 |.bl _=>fun _=>rfl
 |.str _=>fun h=>h
 |.tup xs=>fun h=>BZ xs h
 |.non=>fun h=>by cases h
 |.lst _=>fun h=>by cases h
 |.dU _ _=>fun h=>by cases h
 |.gH _ _=>fun h=>by cases h
theorem BZ:∀xs:List D,LK xs=true->il xs=true
 |[]=>fun _=>rfl
 |x::xs=>fun h=>by
  simp only[LK,QUq]at h
  simp only[il,ab8 x h.1,BZ xs h.2,Bool.and_self]
end
mutual
theorem acF:∀d:D,kA d=true->hk (py d)=true
 |.int _=>fun _=>rfl
 |.bl _=>fun _=>rfl
 |.str _=>fun h=>yr h
 |.tup xs=>fun h=>Ck xs h
 |.non=>fun h=>by cases h
 |.lst _=>fun h=>by cases h
 |.dU _ _=>fun h=>by cases h
 |.gH _ _=>fun h=>by cases h
theorem Ck:∀xs:List D,LK xs=true->hks (xV xs)=true
 |[]=>fun _=>rfl
 |x::xs=>fun h=>by
  simp only[LK,QUq]at h
  simp only[xV,hks,acF x h.1,Ck xs h.2,Bool.and_self]
end
def mO{d:D}(h:cP d=true):∃xs,d=.tup xs/\nd d=true/\hk (py d)=true/\(py d).depth<=7:=by
 unfold cP at h
 split at h
 ·rename_i xs
  simp only[QUq,QUz]at h
  have n:nd (.tup xs)=true:=BZ xs h.1
  exact⟨xs,rfl,n,Ck xs h.1,by rw[rY _ n];show dM xs+1<=7;omega⟩
 ·cases h
def CN{d e:D}(h:cP d=true)(g:cP e=true):cM d e=decide (kC d=kC e):=by
 obtain⟨_,_,n1,k1,_⟩:=mO h
 obtain⟨_,_,n2,k2,_⟩:=mO g
 rw[<-rN d e n1 n2]
 exact CK _ _ k1 k2
def Wr{A:Around}(hu:A.units+9<cLine):A.in1.units+8<cLine:=by
 have:A.in1.units<=A.units+1:=by simp[Around.in1]
 omega
def cL(K:QQq)(H:Hp)(k:SK)(a:Addr):Prop:=∃d,cP d=true/\kC d=k/\bD K H d (.ref a)
noncomputable def wG(k:SK):List SV->Option V
 |[]=>none
 |x::xs=>if x.1=k then some x.2.2 else wG k xs
noncomputable def nR(k:SK)(a:Addr)(v:V)(xs:List SV):List SV:=if (wG k xs).isSome then xs.map (fun x=>if x.1=k then(x.1,x.2.1,v)else x)else xs++[(k,a,v)]
theorem jZ:∀{xs:List SV}{ys:List (SK×Addr×Value)},Paired Pn xs ys->ys.map (·.1)=xs.map (·.1)
 |_,_,.nil=>rfl
 |_,_,.cons h t=>by simp[jZ t,h.1]
theorem zu:∀{xs:List SV}{ys:List (SK×Addr×Value)},Paired Pn xs ys->sY (wG k xs) ((atKey ys k).map (·.2))
 |_,_,.nil=>trivial
 |x::xs,y::ys,.cons h t=>by
  simp only[wG,atKey,List.find?_cons]
  rw[h.1]
  by_cases c:y.1=k
  ·simp only[c,if_true,decide_true,Option.map_some]
   exact h.2.2
  ·simp only[c,if_false,decide_false]
   exact zu (k:=k) t
section
def gO(I:L2.Inv X γ σ H s)(h:cL X.K H k a):Jd s.heap k a:=by
 obtain⟨d,h1,rfl,h2⟩:=h
 obtain⟨_,_,n,k,l⟩:=mO h1
 obtain⟨as,r⟩:=bD.reads I n h2 (show RelV (.ref a) (.ref a)from rfl)
 exact⟨py d,as,k,l,rfl,r⟩
def j6(I:L2.Inv X γ σ H s)(hd:Rd H d (sD xs))(hk:∀x∈xs,cL X.K H x.1 x.2.1):∃ys,Paired Pn xs ys/\s.heap.DictOfH (eN X.prog X.w) d ys/\(d==sysModules)=false/\xs.length<=sizeLine:=by
 obtain⟨z,y,nd,ys,o,es,ep,pr,h1,h2,h3,h4⟩:=(show b8 X.prog X.w H s.heap d (.dS xs)from Em I.hok hd)
 refine⟨ys,pr,⟨o,es,ep,h1,h2,h3,h4,?_,by rw[jZ pr];exact nd⟩,y,z⟩
 have go:∀{xs:List SV}{ys:List (SK×Addr×Value)},Paired Pn xs ys->(∀x∈xs,cL X.K H x.1 x.2.1)->∀y∈ys,Jd s.heap y.1 y.2.1:=by
  intro xs ys pr
  induction pr with
  |nil=>intro _ y hy;cases hy
  | @cons x y xs ys h t ih=>
   intro hk q hq
   rcases QCq.mp hq with rfl|hq
   ·rw[<-h.1,<-h.2.1];exact gO I (hk x QYz)
   ·exact ih (fun z hz=>hk z (QYq _ hz)) q hq
 exact go pr hk
def aeE{Q:QZq}(hu:A.units+9<cLine)(I:L2.Inv X γ σ H s)(hd:Rd H d (sD xs))(hk:∀x∈xs,cL X.K H x.1 x.2.1)(ha:cL X.K H k a)(h:∀s',L2.Inv X γ σ H s'->Q (.bool (wG k xs).isSome) s'):
  wpAny (model X.prog X.w) A (compareOp .In (.ref a) (.ref d)) Q E1 s:=by
 obtain⟨ys,pr,dd,y,z⟩:=j6 I hd hk
 refine wpAny_in_heap (knd:=eN X.prog X.w) (Wr hu) (gO I ha) y dd ?_
 have e:(atKey ys k).isSome=(wG k xs).isSome:=by rw[(zu (k:=k) pr).g8];simp
 rw[e]
 exact h _ (I.tok _)
def Qn{Q:QZq}(hu:A.units+9<cLine)(I:L2.Inv X γ σ H s)(hd:Rd H d (sD xs))(hk:∀x∈xs,cL X.K H x.1 x.2.1)(ha:cL X.K H k a)(h:∀s',L2.Inv X γ σ H s'->Q (.bool (!(wG k xs).isSome)) s'):
  wpAny (model X.prog X.w) A (compareOp .NotIn (.ref a) (.ref d)) Q E1 s:=by
 obtain⟨ys,pr,dd,y,z⟩:=j6 I hd hk
 refine PyProof.Rows.wpAny_notIn_heap (knd:=eN X.prog X.w) (Wr hu) (gO I ha) y dd ?_
 have e:(atKey ys k).isSome=(wG k xs).isSome:=by rw[(zu (k:=k) pr).g8];simp
 rw[e]
 exact h _ (I.tok _)
def Hb{v:V}{Q:QZq}(hu:A.units+9<cLine)(I:L2.Inv X γ σ H s)(hd:Rd H d (sD xs))(hk:∀x∈xs,cL X.K H x.1 x.2.1)(ha:cL X.K H k a)(hv:wG k xs=some v)(h:∀u s',L2.Inv X γ σ H s'->RelV v u->Q u s'):
  wpAny (model X.prog X.w) A (getItem (.ref d) (.ref a)) Q E1 s:=by
 obtain⟨ys,pr,dd,y,z⟩:=j6 I hd hk
 obtain⟨u,hw,ru⟩:=sY.some_of (v:=v) (o:=(atKey ys k).map (·.2)) (by rw[<-hv];exact zu pr)
 obtain⟨p,hp,rfl⟩:=QJz.mp hw
 exact wpAny_getItem_heap (knd:=eN X.prog X.w) (Wr hu) (gO I ha) dd hp (h _ _ (I.tok _) ru)
def mD{r:Value}(rv:RelV v r)(pr:Paired Pn xs ys):Paired Pn (nR k a v xs) (storedH ys k a r):=by
 have e:(atKey ys k).isSome=(wG k xs).isSome:=by rw[(zu pr).g8];simp
 unfold nR storedH
 rw[e]
 split
 ·rename_i z
  clear e z
  induction pr with
  |nil=>exact .nil
  | @cons x y xs ys h t ih=>
   refine .cons ?_ ih
   show Pn (if x.1=k then(x.1,x.2.1,v)else x) _
   unfold putAt
   by_cases c:y.1=k
   ·rw[if_pos c,if_pos (h.1.trans c)];exact⟨h.1,h.2.1,rv⟩
   ·rw[if_neg c,if_neg fun q=>c (h.1.symm.trans q)];exact h
 ·exact Paired.snoc pr ⟨rfl,rfl,rv⟩
def Eo v:(nR k a v xs).length<=xs.length+1:=by
 unfold nR
 split<;>simp
def Ei{w:World}{h':Heap}(z:xs.length<=sizeLine)(y:(d==sysModules)=false)(pr:Paired Pn xs ys)(dd:h'.DictOfH (eN P w) d ys):b8 P w H' h' d (sD xs):=by
 obtain⟨o,es,ep,h1,h2,h3,h4,h5,h6⟩:=dd
 exact⟨z,y,by rw[<-jZ pr];exact h6,ys,o,es,ep,pr,h1,h2,h3,h4⟩
def Ha{v:V}{r:Value}{Q:Unit->Shared->Prop}(hu:A.units+9<cLine)(I:L2.Inv X γ σ H s)(hd:H d=some (sD xs))(hk:∀x∈xs,cL X.K H x.1 x.2.1)(ha:cL X.K H k a)(hl:xs.length<sizeLine)(rv:RelV v r)
  (h:∀s',L2.Inv X γ σ (upd H d (sD (nR k a v xs))) s'->Q () s'):wpAny (model X.prog X.w) A (setItem (.ref d) (.ref a) r) Q E1 s:=by
 obtain⟨ys,pr,dd,y,z⟩:=j6 I (.inl hd) hk
 have hz:ys.length<=sizeLine:=by
  have:=congrArg List.length (jZ pr)
  simp at this
  omega
 refine wpAny_setItem_heap (knd:=eN X.prog X.w) (hsz:=hz) (Wr hu) (gO I ha) dd fun h' dd' hs=>h _ ?_
 have he:∃q,h'.get? d=some q:=let ⟨q,_,_,hq,_⟩:=dd';⟨q,hq⟩
 have pl:=Eo (k:=k) (a:=a) (xs:=xs) v
 exact j8 I (by rw[hd];exact True.intro) hs he (Ei (by omega) y (mD rv pr) dd')
end
section
variable{K:QQq}{H:Hp}{ks ds:List D}{xs:List SV}{d z:D}{a:Addr}{v:V}
def iy(h:cP d=true)(Dd:bD K H d v):∃a,v=.ref a/\cL K H (kC d) a:=by
 obtain⟨ys,rfl,_⟩:=mO h
 obtain⟨a,vs,rfl,_⟩:=cg Dd
 exact⟨a,rfl,_,h,rfl,Dd⟩
def gk.nil:gk K H [] [] []:=⟨rfl,rfl,ao.fZ,ao.fZ⟩
theorem gk.aF{k:D}:gk K H (k::ks) (z::ds) xs↔ ∃x r,xs=x::r/\kC k=x.1/\cP k=true/\bD K H k (.ref x.2.1)/\bD K H z x.2.2/\gk K H ks ds r:=by
 constructor
 ·rintro ⟨h1,h2,h3,h4⟩
  cases xs with
  |nil=>simp at h1
  |cons x r=>
   rw[Qyz,Qyz,List.cons.injEq]at h1
   rw[List.all_cons,QUq]at h2
   obtain⟨_,_,e,d1,l1⟩:=ao.aF.mp h3
   cases e
   obtain⟨_,_,e,d2,l2⟩:=ao.aF.mp h4
   cases e
   exact⟨x,r,rfl,h1.1,h2.1,d1,d2,h1.2,h2.2,l1,l2⟩
 ·rintro ⟨x,r,rfl,e,h,d1,d2,h1,h2,h3,h4⟩
  exact⟨by simp[e,h1],by simp[h,h2],ao.cW d1 h3,ao.cW d2 h4⟩
def gk.len(h:gk K H ks ds xs):ks.length=xs.length/\ds.length=xs.length:=by
 have a:=h.2.2.1.length
 have b:=h.2.2.2.length
 rw[QAq]at a b
 exact⟨a,b⟩
theorem gk.ind{P:List D->List D->List SV->Prop}(p0:P [] [] [])(p1:∀k ks z ds x r,kC k=x.1->cP k=true->bD K H k (.ref x.2.1)->bD K H z x.2.2->gk K H ks ds r->P ks ds r->P (k::ks) (z::ds) (x::r)):∀{ks ds:List D}{xs:List SV},gk K H ks ds xs->P ks ds xs
 |[],ds,xs,h=>by
  have:=h.len
  cases xs with
  |nil=>cases ds with
   |nil=>exact p0
   |cons=>simp at this
  |cons=>simp at this
 |k::ks,[],xs,h=>by have:=h.len;simp at this;omega
 |k::ks,z::ds,xs,h=>by
  obtain⟨x,r,rfl,e,h1,d1,d2,t⟩:=gk.aF.mp h
  exact p1 k ks z ds x r e h1 d1 d2 t (gk.ind p0 p1 t)
def gk.zB(h:gk K H ks ds xs):∀x∈xs,cL K H x.1 x.2.1:=h.ind (P:=fun _ _ xs=>∀x∈xs,cL K H x.1 x.2.1) (fun _ h=>nomatch h) fun k ks z ds x r e h1 d1 _ _ ih y hy=>by
 rcases QCq.mp hy with rfl|hy
 ·exact⟨k,h1,e,d1⟩
 ·exact ih y hy
def gk.inD(g:cP d=true)(h:gk K H ks ds xs):aN d ks=(wG (kC d) xs).isSome:=h.ind (P:=fun ks _ xs=>aN d ks=(wG (kC d) xs).isSome) rfl fun k ks z ds x r e h1 _ _ _ ih=>by
 rw[aN,CN h1 g,ih,e,wG]
 by_cases c:x.1=kC d<;>simp[c]
def gk.look(g:cP d=true)(h:gk K H ks ds xs):bH d ks ds=some z->∃w,wG (kC d) xs=some w/\bD K H z w:=h.ind (P:=fun ks ds xs=>bH d ks ds=some z->∃w,wG (kC d) xs=some w/\bD K H z w) (fun e=>by cases e) fun k ks y ds x r e h1 _ d2 _ ih q=>by
 rw[bH,CN h1 g,e]at q
 rw[wG]
 by_cases c:x.1=kC d
 ·rw[if_pos (QFq c)]at q
  cases q
  exact⟨_,if_pos c,d2⟩
 ·rw[if_neg (by simp[c])]at q
  rw[if_neg c]
  exact ih q
def gk.repl(g:cP d=true)(dz:bD K H z v)(h:gk K H ks ds xs):gk K H ks (qC d z ks ds) (xs.map fun x=>if x.1=kC d then(x.1,x.2.1,v)else x):=h.ind (P:=fun ks ds xs=>gk K H ks (qC d z ks ds) (xs.map fun x=>if x.1=kC d then(x.1,x.2.1,v)else x)) gk.nil fun k ks y ds x r e h1 d1 d2 _ ih=>by
 rw[qC,Qyz]
 refine gk.aF.mpr ⟨_,_,rfl,?_,h1,?_,?_,ih⟩
 ·split<;>exact e
 ·split<;>exact d1
 ·rw[CN h1 g,e]
  by_cases c:x.1=kC d
  ·rw[if_pos (QFq c),if_pos c];exact dz
  ·rw[if_neg (by simp[c]),if_neg c];exact d2
def gk.snoc(g:cP d=true)(dd:bD K H d (.ref a))(dz:bD K H z v)(h:gk K H ks ds xs):gk K H (ks++[d]) (ds++[z]) (xs++[(kC d,a,v)]):=h.ind (P:=fun ks ds xs=>gk K H (ks++[d]) (ds++[z]) (xs++[(kC d,a,v)])) (gk.aF.mpr ⟨_,_,rfl,rfl,g,dd,dz,gk.nil⟩) fun k ks y ds x r e h1 d1 d2 _ ih=>gk.aF.mpr ⟨_,_,rfl,e,h1,d1,d2,ih⟩
def gk.put(g:cP d=true)(dd:bD K H d (.ref a))(dz:bD K H z v)(h:gk K H ks ds xs):gk K H (putD d z ks ds).1 (putD d z ks ds).2 (nR (kC d) a v xs):=by
 unfold putD nR
 rw[h.inD g]
 split
 ·exact h.repl g dz
 ·exact h.snoc g dd dz
end
section
variable{X:Cx}{γ:QQz}{σ:L2.St}{H:Hp}{s:Shared}{A:Around}{E1:QZq}{d:Addr}{xs:List SV}
def abg{Q:QZq}(I:L2.Inv X γ σ H s)(e:Rd H d (sD xs))(h:∀t s',L2.Inv X γ σ H s'->Q (.int xs.length t) s'):wpAny (model X.prog X.w) A (call (.builtin "len") [.ref d]) Q E1 s:=by
 obtain⟨z,y,_,ys,o,es,ep,pr,h1,h2,h3,h4⟩:=(show b8 X.prog X.w H s.heap d (.dS xs)from Em I.hok e)
 have hn:es.size=xs.length:=by
  have q1:=congrArg List.length h4
  have q2:=congrArg List.length (jZ pr)
  simp at q1 q2
  omega
 have hl:sizeLine=16777216:=sizeLine_eq
 have t:s.TypeIs (.ref d) "dict":=⟨o,h1,h2.1⟩
 refine Calls.call_function_entry kind_len plain_len entry_len (args_len1 _) ?_
 unfold Builtin.«len»
 refine QKq (m:=oneArg "len" _) (QKz ?_)
 refine QKq (m:=callSpecial? (.ref d) (Str.ofString "__len__")) (wpAny_callSpecial?_slot (name:=Str.ofString "__len__") t F.slot_dict_len (Qzz F.slot_dict_len t F.entry_dict_len ?_ (F.args_dict_len_1 _)))
 show wpAny _ _ (dictSize d>>=_) _ _ s
 unfold dictSize
 refine QKq (QKq (wpAny_dictEntries h1 h3 (QKz ?_)))
 show wpAny _ _ (Builtin.Dict.pendingCount d>>=_) _ _ s
 refine QKq (wpAny_pendingCount_other y ?_)
 refine wpAny_ret_mkInt ?_
 rw[hn]
 show wpAny _ _ (holding [Value.int ((xs.length:Int)+((0:Nat):Int)) s.toks] (asIndex (Value.int ((xs.length:Int)+((0:Nat):Int)) s.toks))>>=_) _ _ _
 rw[show((xs.length:Int)+((0:Nat):Int))=(xs.length:Int) by simp]
 refine QKq (Qqq (QKz ?_))
 refine QKq (wpAny_letGo ?_)
 show wpAny _ _ (if ((xs.length:Nat):Int)<0 then _ else _) _ _ _
 rw[if_neg (by omega)]
 show wpAny _ _ (if ((xs.length:Nat):Int)>=2 ^63 then _ else _) _ _ _
 rw[if_neg (by omega)]
 exact QKq (wpAny_mkInt (QKz ⟨_,rfl,h _ _ (I.tok _)⟩))
def xu(I:L2.Inv X γ σ H s)(e:Rd H d (.dK [])):s.heap.DictOfH (eN X.prog X.w) d []/\(d==sysModules)=false:=by
 obtain⟨z,hd,vs,rel,o,es,ep,q1,q2,q3,q4,q5,q6⟩:=mX I.hok e
 cases rel
 have e0:es.toList=[]:=by cases hq:es.toList with
  |nil=>rfl
  |cons=>rw[hq]at q5;cases q5
 exact⟨⟨o,es,ep,q1,q2,q3,by rw[e0];rfl,fun x hx=>(nomatch hx),List.nodup_nil⟩,hd⟩
def abh{k:SK}{a:Addr}{Q:QZq}(hu:A.units+9<cLine)(I:L2.Inv X γ σ H s)(e:Rd H d (.dK []))(ha:cL X.K H k a)(h:∀s',L2.Inv X γ σ H s'->Q (.bool false) s'):
  wpAny (model X.prog X.w) A (compareOp .In (.ref a) (.ref d)) Q E1 s:=by
 obtain⟨dd,hd⟩:=xu I e
 exact wpAny_in_heap (knd:=eN X.prog X.w) (Wr hu) (gO I ha) hd dd (h _ (I.tok _))
def JV{k:SK}{a:Addr}{Q:QZq}(hu:A.units+9<cLine)(I:L2.Inv X γ σ H s)(e:Rd H d (.dK []))(ha:cL X.K H k a)(h:∀s',L2.Inv X γ σ H s'->Q (.bool true) s'):
  wpAny (model X.prog X.w) A (compareOp .NotIn (.ref a) (.ref d)) Q E1 s:=by
 obtain⟨dd,hd⟩:=xu I e
 exact PyProof.Rows.wpAny_notIn_heap (knd:=eN X.prog X.w) (Wr hu) (gO I ha) hd dd (h _ (I.tok _))
def Bg{k:SK}{a:Addr}{v:V}{r:Value}{Q:Unit->Shared->Prop}(hu:A.units+9<cLine)(I:L2.Inv X γ σ H s)(hd:H d=some (.dK []))(ha:cL X.K H k a)(rv:RelV v r)
  (h:∀s',L2.Inv X γ σ (upd H d (sD [(k,a,v)])) s'->Q () s'):wpAny (model X.prog X.w) A (setItem (.ref d) (.ref a) r) Q E1 s:=by
 obtain⟨dd,y⟩:=xu I (.inl hd)
 refine wpAny_setItem_heap (knd:=eN X.prog X.w) (hsz:=QIq _) (Wr hu) (gO I ha) dd fun h' dd' hs=>h _ ?_
 have he:∃q,h'.get? d=some q:=let ⟨q,_,_,hq,_⟩:=dd';⟨q,hq⟩
 exact j8 I (by rw[hd];exact True.intro) hs he (Ei (by rw[sizeLine_eq];show 1<=16777216;decide) y (mD rv .nil) dd')
end
def G4{x y:Value}{W:World}{E:QZq}{Q:PUnit->Shared->Prop}(h:wpAny (model P W) A (dictSet d x y) (fun _ s'=>Q PUnit.unit s') E s):wpAny (model P W) A (storeAll d [(x,y)]) Q E s:=by
 unfold storeAll
 rw[List.forIn_cons]
 refine QKq (QKq (cu h fun _ s' q=>QKz ?_))
 show wpAny _ _ (forIn ([]) PUnit.unit _) _ _ _
 exact QKz q
noncomputable def aaX(K:QQq)(m8:List (TE×TE)):TE:=fun σ H Q=>∀p,H p=none->vW m8 σ (upd H p (.dK [])) fun ps H2=>H2 p=some (.dK [])/\∃k a v,ps=[(.ref a,v)]/\cL K H2 k a/\Q (.ref p) (upd H2 p (sD [(k,a,v)]))
def bare{w:World}{h:Heap}(d:h.DictOf (fK P w) a []):h.DictOfH (eN P w) a []:=by
 obtain⟨o,es,ep,h1,h2,h3,h4,h5,h6⟩:=d
 have e:es.toList=[]:=by
  cases q:es.toList with
  |nil=>rfl
  |cons x y=>rw[q]at h5;cases h5
 exact⟨o,es,ep,h1,h2,h3,by simp[e],fun x hx=>(nomatch hx),List.nodup_nil⟩
theorem QZ{pos:Pos}{values:List Expr}(hu:X.A.units+9<cLine)(h:PPs X pos keys values m8)(hall:keys.all (·.isSome)=true)(hl:keys.length=values.length)(h0:keys≠[])
  (h15:keys.length<=15):PE X (.Dict keys values pos) (aaX X.K m8):=by
 intro γ s σ H Q I q
 refine wpAny_Dict_any hall hl h0 h15 (cu (h γ _ σ _ _ (I.laid (t':=s.toks) (fun _ _ q=>QWq _ q) (QVz _) (rT s.heap I.big)) (q _ (I.hok.fresh (QVz s.heap.objs.size)))) fun ws s2⟨ps,H2,I2,rel,e,z⟩=>?_)
 obtain⟨_,hd,vs0,r0,dd⟩:=Nh I2.hok e
 cases r0
 obtain⟨k,a,v,ep,ka,q2⟩:=z
 ·subst ep
  cases rel with
  | @cons _ b _ bs rv t=>
   cases t
   obtain⟨b1,b2⟩:=b
   obtain⟨r1,r2⟩:=rv
   cases r1
   refine G4 (wpAny_dictSet_heap (show X.A.units+8<cLine by omega) (gO I2 ka) (bare dd) fun h' dd' hs=>?_)
   refine⟨.ref s.heap.objs.size,_,j8 I2 (by rw[e];exact True.intro) hs (let ⟨q,_,_,hq,_⟩:=dd';⟨q,hq⟩) (Ei (by rw[sizeLine_eq];show 1<=_;decide) hd (mD r2 .nil) dd'),rfl,q2⟩
section
def Qz{P:Program}{w:World}:∀{xs:List SV}{ys:List (SK×Addr×Value)}{vs:List Value},Paired Pn xs ys->vs=ys.map (fun y=>Value.ref y.2.1)->Vals (xs.map fun x=>V.ref x.2.1) vs:=by
 intro xs ys vs pr e
 subst e
 induction pr with
 |nil=>exact .nil
 |cons h t ih=>exact .cons (by show Value.ref _=Value.ref _;rw[h.2.1]) ih
def Do(hc:X.calm=true):fJ X (.type "list") (fun xs H Q=>(∃p ys,xs=[.ref p]/\(jm X.K H p ys\/jg X.K H p ys)/\∀l,H l=none->Q (.ref l) (upd H l (.lst ys)))\/
  ∃a ks,xs=[.ref a]/\Rd H a (sD ks)/\∀l,H l=none->Q (.ref l) (upd H l (.lst (ks.map fun x=>.ref x.2.1)))):=by
 intro γ s σ H xs us Q I r h
 rcases h with h|⟨a,ks,rfl,e,q⟩
 ·exact xM γ s σ H xs us Q I r h
 obtain⟨u,rfl,rx⟩:=vals1 r
 cases rx
 obtain⟨z,y,nd,ys,o,es,ep,pr,h1,h2,h3,h4⟩:=(Em I.hok e)
 have le:es.size=ys.length:=by rw[<-Array.length_toList,h4,QAq]
 have lk:=Paired.length pr
 refine PySem.W.kdl_call (Oc y) (I.ok.hd hc) ⟨o,h1,h2,h3⟩ (by omega) fun h' tk acc c' kp g it=>?_
 have ev:acc.toList=ys.map fun y=>Value.ref y.2.1:=by
  refine List.ext_getElem? fun i=>?_
  rw[Array.getElem?_toList,QFz]
  by_cases hi:i<acc.size
  ·obtain⟨e,e1,e2⟩:=it.2 i acc[i] (Array.getElem?_eq_getElem hi)
   rw[<-Array.getElem?_toList,h4,QFz]at e1
   obtain⟨p,p1,p2⟩:=QJz.mp e1
   rw[Array.getElem?_eq_getElem hi,p1,e2,<-p2]
   rfl
  ·have:acc.size=ys.length:=by rw[it.1,le]
   rw[Array.getElem?_eq_none (by omega),List.getElem?_eq_none (by omega)]
   rfl
 refine⟨.ref s.heap.objs.size,_,I.laid kp (QVz _) (show b8 X.prog X.w _ h' _ (.lst _)from⟨by rw[QAq];omega,acc.toList,c',Qz (P:=X.prog) (w:=X.w) pr ev,by simpa using g⟩),rfl,q _ (I.hok.fresh (QVz _))⟩
end
section
theorem cU.flat{H:Hp}{v:V}(h:cU K H x v)(f:flat x=true):bD K H x v:=by
 rcases h with h|⟨q,a,rfl,_⟩
 ·exact h
 ·cases q<;>simp[Ob.d,Mini.flat]at f
def Gb(f:flat x=true)(hs:∀y,x≠ .str y):nd x=true/\dep x=0:=by
 cases x<;>simp_all[flat,nd,dep]
noncomputable def afy(K:QQq):R2:=fun x y H Q=>∃p q,cU K H p x/\cU K H q y/\rR p q=true/\Q (.bl (cM p q)) H
noncomputable def afv(K:QQq):R2:=fun x y H Q=>∃p q,cU K H p x/\cU K H q y/\rR p q=true/\Q (.bl (!cM p q)) H
def Gf{H:Hp}{x y:V}(Dp:bD K H p x)(Dq:bD K H q y)(fp:flat p=true)(fq:flat q=true)(hs:(∃z,p=.str z)\/∃z,q=.str z):Qm x y=true/\decide (x=y)=cM p q:=by
 cases p<;>cases q<;>simp_all[flat]<;>(cases Dp;cases Dq;unfold Qm cM;simp)
def Ge{p q:D}(hu:u+60<cLine)(hp:nd p=true)(hq:nd q=true)(hd:dep p<=50):u+min (py p).depth (py q).depth<cLine:=by
 rw[rY p hp,rY q hq]
 omega
def rQ(h:rR p q=true):(nd p=true/\nd q=true/\dep p<=50)\/(flat p=true/\flat q=true/\((∃z,p=.str z)\/∃z,q=.str z)):=by
 simp only[rR,Bool.or_eq_true,QUq,QUz]at h
 rcases h with ⟨h1,h2⟩|⟨⟨h1,h2⟩,h3⟩
 ·by_cases hs:(∃z,p=.str z)\/∃z,q=.str z
  ·exact .inr ⟨h1,h2,hs⟩
  ·have k1:=Gb h1 (fun y e=>hs (.inl ⟨y,e⟩))
   exact .inl ⟨k1.1,(Gb h2 (fun y e=>hs (.inr ⟨y,e⟩))).1,by omega⟩
 ·exact .inl ⟨h1,h3,h2⟩
def Xk(hu:X.A.units+60<cLine):fM X (compareOp .Eq) (afy X.K):=by
 intro γ s σ H x y v u Q I rx ry h
 obtain⟨p,q,Dp,Dq,ok,k⟩:=h
 rcases rQ ok with ⟨h1,h2,h3⟩|⟨h1,h2,h3⟩
 ·obtain⟨as,ra⟩:=Dp.reads I h1 rx
  obtain⟨bs,rb⟩:=Dq.reads I h2 ry
  exact SeqAt.compareEq_reads ra rb (iV p h1) (iV q h2) (Ge hu h1 h2 h3) (by rw[rN p q h1 h2];exact⟨.bl _,H,I,rfl,k⟩)
 ·obtain⟨e1,e2⟩:=Gf (Dp.flat h1) (Dq.flat h2) h1 h2 h3
  exact ab0 γ s σ H x y v u Q I rx ry ⟨e1,by rw[e2];exact k⟩
def Xc(hu:X.A.units+60<cLine):fM X (compareOp .NotEq) (afv X.K):=by
 intro γ s σ H x y v u Q I rx ry h
 obtain⟨p,q,Dp,Dq,ok,k⟩:=h
 rcases rQ ok with ⟨h1,h2,h3⟩|⟨h1,h2,h3⟩
 ·obtain⟨as,ra⟩:=Dp.reads I h1 rx
  obtain⟨bs,rb⟩:=Dq.reads I h2 ry
  exact SeqAt.compareNe_reads ra rb (iV p h1) (iV q h2) (Ge hu h1 h2 h3) (by rw[rN p q h1 h2];exact⟨.bl _,H,I,rfl,k⟩)
 ·obtain⟨e1,e2⟩:=Gf (Dp.flat h1) (Dq.flat h2) h1 h2 h3
  exact abW γ s σ H x y v u Q I rx ry ⟨e1,by rw[e2];exact k⟩
theorem wO{K:QQq}{H:Hp}{p:D}{x:V}(Dp:bD K H p x)(fp:flat p=true):∀{ds:List D}{vs:List V},ao K H ds vs->ds.all flat=true->vs.all jf=true/\inV x vs=aN p ds
 |[],vs,h,_=>by rw[ao.bL.mp h];exact⟨rfl,rfl⟩
 |d::ds,vs,h,f=>by
  obtain⟨v,r,rfl,h1,h2⟩:=ao.aF.mp h
  rw[List.all_cons,QUq]at f
  obtain⟨k1,k2⟩:=wO Dp fp h2 f.2
  have fv:jf v=true/\M9 v x=cM d p:=by
   obtain⟨f1,_⟩:=f
   cases d<;>cases p<;>simp_all[flat]<;>(cases h1;cases Dp;first|exact⟨rfl,rfl⟩|(refine⟨rfl,?_⟩;simp[M9,cM];try (rw[Bool.beq_eq_decide_eq])))
  refine⟨by rw[List.all_cons,fv.1,k1];rfl,?_⟩
  unfold inV at k2⊢
  rw[List.any_cons,fv.2,k2]
  rfl
theorem sW(hp:nd p=true):∀{ds:List D},il ds=true->((xV ds).any fun y=>PyData.eqv y (py p))=aN p ds
 |[]=>fun _=>rfl
 |d::ds=>fun h=>by
  simp only[il,QUq]at h
  rw[xV,List.any_cons,rN d p h.1 hp,sW hp h.2]
  rfl
def OJ(K:QQq)(H:Hp)(xs:List D)(y:V):Prop:=∃a vs,y=.ref a/\(jm K H a vs\/jg K H a vs)/\ao K H xs vs
noncomputable def abF(K:QQq)(neg:Bool):R2:=fun x y H Q=>∃p xs,bD K H p x/\OJ K H xs y/\gP p xs=true/\Q (.bl (if neg then !aN p xs else aN p xs)) H
def pO{p:D}(hu:u+60<cLine)(hp:nd p=true)(hd:dep p<=50):u+1+min (PyData.depthAll (xV xs)) (py p).depth<cLine:=by
 rw[rY p hp]
 omega
theorem OJ.reads{s:Shared}{σ:St}{H:Hp}{y:V}(I:Inv X γ σ H s)(h:OJ X.K H xs y)(hn:il xs=true)(r:RelV y u):
  ∃as,Reads s.heap u (.list (xV xs)) as\/Reads s.heap u (.tuple (xV xs)) as:=by
 obtain⟨a,vs,rfl,hq,l⟩:=h
 cases r
 rcases hq with hq|hq
 ·obtain⟨its,rv,⟨o,n,e,c,_,dt⟩,_⟩:=I.list hq
  obtain⟨as,q⟩:=ao.reads I hn l rv
  exact⟨a::as,.inl (.list e c dt (by simpa using q))⟩
 ·obtain⟨its,rv,⟨o,e,c,n,dt⟩,_⟩:=I.tuple hq
  obtain⟨as,q⟩:=ao.reads I hn l rv
  exact⟨as,.inr (.tuple e c dt (by simpa using q))⟩
def Xi(hu:X.A.units+60<cLine):fM X (compareOp .In) (abF X.K false):=by
 intro γ s σ H x y v u Q I rx ry h
 obtain⟨p,xs,Dp,hS,ok,k⟩:=h
 simp only[gP,Bool.or_eq_true,QUq,QUz]at ok
 rcases ok with ⟨h1,h2⟩|⟨⟨h1,h2⟩,h3⟩
 ·obtain⟨a,vs,rfl,hq,l⟩:=hS
  obtain⟨k1,k2⟩:=wO Dp h1 l h2
  exact Hw γ s σ H x _ v u Q I rx ry ⟨a,vs,rfl,hq,(by cases p<;>simp_all[flat]<;>(cases Dp;rfl)),k1,by simpa[k2]using k⟩
 ·obtain⟨bs,rb⟩:=bD.reads I h1 Dp rx
  obtain⟨as,ra|ra⟩:=hS.reads I h3 ry
  ·exact SeqAt.in_list_reads ra rb (iU xs h3) (iV p h1) (pO hu h1 h2) (by rw[sW h1 h3];exact⟨.bl _,H,I,rfl,k⟩)
  ·exact SeqAt.in_tuple_reads ra rb (iU xs h3) (iV p h1) (pO hu h1 h2) (by rw[sW h1 h3];exact⟨.bl _,H,I,rfl,k⟩)
def Hu(hu:X.A.units+60<cLine):fM X (compareOp .NotIn) (abF X.K true):=by
 intro γ s σ H x y v u Q I rx ry h
 obtain⟨p,xs,Dp,hS,ok,k⟩:=h
 simp only[gP,Bool.or_eq_true,QUq,QUz]at ok
 rcases ok with ⟨h1,h2⟩|⟨⟨h1,h2⟩,h3⟩
 ·obtain⟨a,vs,rfl,hq,l⟩:=hS
  obtain⟨k1,k2⟩:=wO Dp h1 l h2
  exact wz γ s σ H x _ v u Q I rx ry ⟨a,vs,rfl,hq,(by cases p<;>simp_all[flat]<;>(cases Dp;rfl)),k1,by simpa[k2]using k⟩
 ·obtain⟨bs,rb⟩:=bD.reads I h1 Dp rx
  obtain⟨as,ra|ra⟩:=hS.reads I h3 ry
  ·exact SeqAt.notIn_list_reads ra rb (iU xs h3) (iV p h1) (pO hu h1 h2) (by rw[sW h1 h3];exact⟨.bl _,H,I,rfl,k⟩)
  ·exact SeqAt.notIn_tuple_reads ra rb (iU xs h3) (iV p h1) (pO hu h1 h2) (by rw[sW h1 h3];exact⟨.bl _,H,I,rfl,k⟩)
end
structure Gives(K:QQq)(J:It)(xs:List D)(H:Hp):Prop where
 go:∀H1,bR H H1->∀(i:Nat)d,xs[i]? =some d->J.go i H1
 yld:∀H1,bR H H1->∀(i:Nat)d,xs[i]? =some d->∀x H2,J.yld i H1 x H2->bD K H2 d x/\(H2=H1\/∃p vs,H1 p=none/\H2=upd H1 p (.tup vs))
 stop:∀H1,bR H H1->∀(i:Nat),xs.length<=i->J.stop i H1
 len:xs.length<=sizeLine
noncomputable def tI(K:QQq)(W:Wi)(env:Ev)(r:Out Rv):TI:=fun σ H R=>Sat K env σ H/\match r with
 |.ok x env'=>∃d xs,x.jl=some d/\items d=some xs/\∀J H',Nx K env σ H env' H'->Gives K J xs H'->R J H'
 |.exc c env'=>∀H',Nx K env σ H env' H'->W c env' σ H'
 |.bad=>False
def GI(X:Cx)(W:Wi)(c:Cf)(m:E)(tg e:Expr):Prop:=∀env,PI X tg e (tI X.K W env (ev c m env))
section
theorem xG{ifs:List Expr}{pos:Pos}{env:Env}(I:Nat->Shared->Prop)
  (turn:∀n s,I n s->wpAny (model prog w) A (pyNext it) (fun r ι=>match r with
   |none=>R (.ok .next) ι
   |some v=>wpAny (model prog w) A (letOwnedTupleGo target it v) (fun _ s₁'=>wpAny (model prog w) A (assign target env v) (fun _ s₂=>
     wpAny (model prog w) A (forIn ifs true fun c r=>if r=true then do let ok<-isTrue c env (eval c env);pure (ForInStep.yield ok)else pure (ForInStep.yield r)) (fun ok s₃=>
      if ok=true then wpAny (model prog w) A (eval elt env) (fun x s₄=>
       wpAny (model prog w) A (call (.builtin "list.append") [acc,x]) (fun _ s₅=>∃m,m<n/\I m s₅) (fun _ _=>False) s₄) (fun _ _=>False) s₃
      else∃m,m<n/\I m s₃) (fun _ _=>False) s₂) (fun _ _=>False) s₁') (fun _ _=>False) ι) (fun _ _=>False) s)
  n(h:I n s):
  codeAny (model prog w) A (.compLoop (.ListComp elt [⟨target,iter,ifs,0⟩] scope pos) 0 it acc env) R s:=by
 refine codeAny_loop rfl I (fun n s hI=>?_) n h
 refine wpAny_noted ?_
 refine QKq (wpAny_standAt (QKq (QGq (turn n s hI) (fun r ι Δ=>?_) fun _ _ h'=>h'.elim)))
 cases r with
 |none=>exact QKz Δ
 |some v=>
  refine QKq (QGq Δ (fun _ s₁' h₁'=>?_) fun _ _ h'=>h'.elim)
  refine QKq (QGq h₁' (fun _ s₂ h₂=>QKq (QGq h₂ (fun ok s₃ h₃=>?_) fun _ _ h'=>h'.elim)) fun _ _ h'=>h'.elim)
  cases ok with
  |false=>exact QKz ⟨rfl,h₃⟩
  |true=>
   exact QKq (QKq (QGq h₃ (fun x s₄ h₄=>QKq (QGq h₄ (fun _ s₅ Ω=>QKz (QKz ⟨rfl,Ω⟩)) fun _ _ h'=>h'.elim)) fun _ _ h'=>h'.elim))
end
noncomputable def blk(X:Cx)(scope:Scope)(cl:List (Str×Addr))(N:List Str)(fp:List Addr)(s₀:Shared)(H₀:Hp):Cx where
 prog:=X.prog
 w:=X.w
 K:=X.K
 mg:=X.mg
 base:=X.base
 A:=X.A
 N:=N
 s₀:=s₀
 H₀:=H₀
 env:=compEnvC scope cl s₀.heap.objs.size X.env
 outer:=X.stack
 stack:=X.stack
 ex:=fp
 fn:=fun _=>false
 calm:=X.calm
 pn:=[]
 xe:=fun _ _=>False
def bW(η N:List Str):List Str:=η++N.map fun x=>if η.contains x then(".":Str)++x else x
structure Jb(sc inner:Scope)(η N:List Str):Prop where
 kind:inner.kind=.function
 nd:(bW η N).Nodup
 loc:∀x,inner.names.lookup x=some .local->x∈η\/x=(".0":Str)
 locs:∀x∈inner.names,x.2=.local->inner.names.lookup x.1=some .local
 tg:∀x∈η,inner.names.lookup x=some .local
 nocell:∀x∈inner.names,x.2≠ .cell
 fre:∀x∈inner.names,x.2=.free->sc.names.lookup x.1=some .cell\/sc.names.lookup x.1=some .free
 dot:∀x∈N,η.contains x=true->inner.names.lookup ((".":Str)++x)=none
 dot0:(".0":Str)∉N
structure O6(scope:Scope)(env:Env)(cl:List (Str×Addr)):Prop where
 eq:closureFor scope env=pure cl
 to:∀x c,cl.lookup x=some c->env.cells.lookup x=some c
 has:∀x,scope.names.lookup x=some .free->∃c,cl.lookup x=some c
theorem bT{env:Env}:∀{names:List (Str×NameKind)}{x:Str}{k:NameKind},
  (names.map fun(n,k)=>if (k==NameKind.free&&env.scope.kind== .function&&env.kindOf n==some .cell)then(n,NameKind.cell)else(n,k)).lookup x=some k->
   names.lookup x=some k\/(k=.cell/\names.lookup x=some .free)
 |[],_,_,h=>by simp at h
 |(n,k')::r,x,k,h=>by
  rw[Qyz]at h
  cases hx:x==n with
  |true=>
   by_cases hc:(k'==NameKind.free&&env.scope.kind== .function&&env.kindOf n==some .cell)=true
   ·simp only[hc,if_true,QHz,hx]at h
    cases h
    simp only[QUq,beq_iff_eq]at hc
    exact .inr ⟨rfl,by simp[QHz,hx,hc.1.1]⟩
   ·simp only[eq_false_of_ne_true hc,Qxq,if_false,QHz,hx]at h
    exact .inl (by simpa[QHz,hx]using h)
  |false=>
   have h':(r.map fun(n,k)=>if (k==NameKind.free&&env.scope.kind== .function&&env.kindOf n==some .cell)then(n,NameKind.cell)else(n,k)).lookup x=some k:=by
    by_cases hc:(k'==NameKind.free&&env.scope.kind== .function&&env.kindOf n==some .cell)=true
    ·simpa only[hc,if_true,QHz,hx]using h
    ·simpa only[eq_false_of_ne_true hc,Qxq,if_false,QHz,hx]using h
   rcases (@bT env r x k) h' with q|⟨q1,q2⟩
   ·exact .inl (by simpa[QHz,hx]using q)
   ·exact .inr ⟨q1,by simpa[QHz,hx]using q2⟩
theorem NZ{scope:Scope}{η:List Str}{fp:List Addr}{σ:St}
  (I:Inv X γ σ H s)(sc:Jb X.env.scope scope η X.N)(co:O6 scope X.env cl)(hf:∀b∈fp,fP X γ H b)(hlt:∀b∈fp,b<s.heap.objs.size):
  (blk X scope cl (bW η X.N) fp s H).Ok where
 mod:=I.ok.mod
 kind:=sc.kind
 glob:=I.ok.glob
 blt:=I.ok.blt
 above:=QVz _
 inj:=fun x y c h1 h2=>I.ok.inj x y c (co.to x c h1) (co.to y c h2)
 has:=fun x h=>by
  have z:scope.names.lookup x=some .free:=by
   rcases h with h|h
   ·rcases bT h with q|⟨_,q⟩
    ·exact absurd rfl (sc.nocell _ (PySem.mem_of_lookup q))
    ·exact q
   ·rcases bT h with q|⟨q,_⟩
    ·exact q
    ·cases q
  exact co.has x z
 cab:=fun x c h=>by cases h
 hd:=I.ok.hd
 frames:=I.ok.frames
 stk:=.inl rfl
 exf:=fun b hb=>⟨Qvz (hlt b hb),fun x c h=>(hf b hb).2.2.2.2.1 x c (co.to x c h)⟩
 bs:=I.bs
 bsz:=Nat.le_trans I.ok.bsz I.sz
 noex:=fun b o e hb=>by
  rcases (hf b hb).2.2.2.1 with z|z
  ·exact I.ok.noex b o e z
  ·exact absurd (Qvq (Qqz e) (Nat.le_trans I.ok.bsz z)) (Nat.lt_irrefl _)
 exfs:=fun b hb hs=>by
  obtain⟨_,h1,h2,_⟩:=hf b hb
  rcases QCq.mp (I.Bb b hs)with z|z
  ·exact h1 z
  ·exact h2 z
 lu:=I.stack
 frf:=I.Eb
theorem Sh{scope:Scope}{η:List Str}{fp:List Addr}{σ:St}{H:Hp}{h':Heap}
  (I:Inv X γ σ H s)(sc:Jb X.env.scope scope η X.N)(co:O6 scope X.env cl)(hf:∀b∈fp,fP X γ H b)(hlt:∀b∈fp,b<s.heap.objs.size)
  (hn:h'.Ns s.heap.objs.size fun _=>none)(hk:∀b o,s.heap.get? b=some o->h'.get? b=some o):
  Inv (blk X scope cl (bW η X.N) fp s H) [] (List.replicate η.length none++σ) H {s with heap:=h',toks:=t}:=by
 have cellK:∀c v,s.heap.IsCell c v->h'.IsCell c v:=fun c v⟨o,e,d⟩=>⟨o,hk c o e,d⟩
 refine⟨NZ I sc co hf hlt,rfl,I.bare,Un.kept hk,⟨_,hn,fun i x v e1 e2 e3=>?_⟩,fun x c e=>?_,I.hok.fresh (QVz _),fun x c e=>I.freeC x c (co.to x c e),fun p hp=>absurd (show p∈([])from hp) (by simp),I.hok.kept hk,?_⟩
 ·--an outer name that is seen within
  have hi:η.length<=i:=by
   refine Nat.le_of_not_lt fun q=>?_
   rw[Qwz (by simpa using q),List.getElem?_replicate]at e2
   split at e2<;>cases e2
  rw[QIz (by simpa using hi)]at e2
  simp only[List.length_replicate]at e2
  have e1':(bW η X.N)[i]? =some x:=e1
  unfold bW at e1'
  rw[QIz hi,QFz]at e1'
  cases ey:X.N[i-η.length]? with
  |none=>rw[ey]at e1';cases e1'
  |some y=>
   rw[ey]at e1'
   have e1'':(if η.contains y=true then(".")++y else y)=x:=QEq e1'
   have e3':=e3
   by_cases hy:η.contains y=true
   ·rw[if_pos hy]at e1''
    subst e1''
    have no:=sc.dot y (QBz ey) hy
    rcases e3' with q|q|q
    ·rcases bT q with z|⟨z,_⟩
     ·rw[no]at z;cases z
     ·cases z
    ·rcases bT q with z|⟨_,z⟩
     ·rw[no]at z;cases z
     ·rw[no]at z;cases z
    ·rcases bT q with z|⟨z,_⟩
     ·rw[no]at z;cases z
     ·cases z
   ·rw[if_neg hy]at e1''
    subst e1''
    have fr:scope.names.lookup y=some .free:=by
     rcases e3' with q|q|q
     ·rcases bT q with z|⟨z,_⟩
      ·rcases sc.loc y z with w|w
       ·exact absurd (by simpa using w) hy
       ·exact absurd (w▸QBz ey) sc.dot0
      ·cases z
     ·rcases bT q with z|⟨_,z⟩
      ·exact absurd rfl (sc.nocell _ (PySem.mem_of_lookup z))
      ·exact z
     ·rcases bT q with z|⟨z,_⟩
      ·exact z
      ·cases z
    have ou:=sc.fre _ (PySem.mem_of_lookup fr) rfl
    obtain⟨m,hm,hl⟩:=I.loc
    obtain⟨u,r,l⟩:=hl _ y v ey e2 (.inr ou)
    obtain⟨c,hc⟩:=co.has y fr
    refine⟨u,r,.inr ⟨?_,c,hc,?_⟩⟩
    ·have z:=e3'
     rcases z with z|z|z
     ·rcases bT z with w|⟨w,_⟩
      ·rw[fr]at w;cases w
      ·cases w
     ·exact .inl z
     ·exact .inr z
    ·rcases l with ⟨k,_⟩|⟨_,c',hc',z⟩
     ·have k':X.env.scope.names.lookup y=some .local:=k
      rcases ou with w|w
      ·rw[k']at w;cases w
      ·rw[k']at w;cases w
     ·rw[co.to y c hc]at hc'
      cases hc'
      exact cellK c _ z
 ·obtain⟨v,z⟩:=I.cell x c (co.to x c e)
  exact⟨v,cellK c v z⟩
 ·show(List.replicate η.length none++σ).length=(bW η X.N).length
  unfold bW
  simp only[QTq,List.length_replicate,QAq,I.len]
def slots:Tg->List Nat
 |.name i=>[i]
 |.tup is=>is
structure ji(K:QQq)(tg:Tg)(env:Ev)(σ:St)(env':Ev)(ζ:St)(H:Hp):Prop where
 eX:Sat K env' ζ H
 same:∀(i:Nat),i∉slots tg->env'[i]? =env[i]? /\ζ[i]? =σ[i]?
 vals:∀(i:Nat),i∈slots tg->∃d,env'[i]? =some (.val d)
 bors:∀(i:Nat)xs,env[i]? =some (.bor xs)->i∉slots tg
 len:ζ.length=σ.length
noncomputable def tG(K:QQq)(tg:Tg):TG:=fun v σ H Q=>∃env d env',Sat K env σ H/\bD K H d v/\bz tg d env=some env'/\∀ζ,ji K tg env σ env' ζ H->Q ζ H
def GG(X:Cx)(tg:Tg)(e:Expr):Prop:=PG X e (tG X.K tg)
section
def ji.sub(h:ji K tg env σ env' ζ H){a:Addr}(o:aQ env' ζ i a):aQ env σ i a:=by
 obtain⟨⟨s,xs,e1,e2⟩,e3⟩:=o
 by_cases hi:i∈slots tg
 ·obtain⟨d,e⟩:=h.vals i hi
  rw[e]at e1;cases e1;cases e2
 ·obtain⟨q1,q2⟩:=h.same i hi
  exact⟨⟨s,xs,by rw[<-q1];exact e1,e2⟩,by rw[<-q2];exact e3⟩
def qu{s:Sl}(h:cj i s env=some env'):env'=env.set i s/\i<env.length/\∀xs,env[i]? ≠some (.bor xs):=by
 unfold cj at h
 cases e:env[i]? with
 |none=>rw[e]at h;cases h
 |some t=>
  rw[e]at h
  have hi:=(QCz.mp e).1
  cases t with
  |bor xs=>cases h
  |un=>cases h;exact⟨rfl,hi,fun xs q=>by cases q⟩
  |val d=>cases h;exact⟨rfl,hi,fun xs q=>by cases q⟩
  |own ys=>cases h;exact⟨rfl,hi,fun xs q=>by cases q⟩
def Sat.put{d:D}(S:Sat K env σ H)(hi:i<env.length)(hd:bD K H d v):Sat K (env.set i (.val d)) (σ.set i (some v)) H:=by
 have own:∀j a,aQ (env.set i (.val d)) (σ.set i (some v)) j a->aQ env σ j a:=fun j a⟨⟨s,xs,e1,e2⟩,e3⟩=>by
  by_cases hj:i=j
  ·subst hj;rw[Qwq hi]at e1;cases e1;cases e2
  ·rw[Qxz hj]at e1 e3;exact⟨⟨s,xs,e1,e2⟩,e3⟩
 refine⟨by simpa using S.len,fun j s e=>?_,fun j k a h1 h2=>S.ne j k a (own j a h1) (own k a h2)⟩
 by_cases hj:i=j
 ·subst hj
  rw[Qwq hi]at e
  cases e
  rw[Qwq (by rw[<-S.len];exact hi)]
  exact⟨v,rfl,hd⟩
 ·rw[Qxz hj]at e⊢
  exact S.sl j s e
def Qh{d:D}(S:Sat K env σ H)(hd:bD K H d v)(h:cj i (.val d) env=some env'):ji K (.name i) env σ env' (σ.set i (some v)) H:=by
 obtain⟨rfl,hi,hb⟩:=qu h
 refine⟨S.put hi hd,fun j hj=>?_,fun j hj=>?_,fun j xs e hj=>?_,by simp⟩
 ·have:i≠j:=fun z=>hj (by simp[slots,z])
  exact⟨Qxz this,Qxz this⟩
 ·have e:j=i:=by simpa[slots]using hj
  subst e
  exact⟨d,Qwq hi⟩
 ·have e':j=i:=by simpa[slots]using hj
  subst e'
  exact hb xs e
end
section
def wV{x:Str}(hN:X.N.Nodup)(hi:X.N[i]? =some x)(hx:Loc X.env.scope x)(hf:X.fn x=true\/X.env.scope.names.lookup x=some .local):GG X (.name i) (.Name x pos):=by
 intro γ s σ H v u Q I r q
 obtain⟨env,d,env',S,hd,e,k⟩:=q
 exact QV hN hi hx hf γ s σ H v u Q I r (k _ (Qh S hd e))
noncomputable def gB(sc:Scope)(N:List Str):List Nat->List Expr->Bool
 |[],[]=>true
 |i::is,.Name x _::es=>(N[i]? ==some x)&&(sc.names.lookup x==some .local)&&gB sc N is es
 |_,_=>false
inductive sZ(X:Cx):List Nat->List Expr->Prop
 |nil:sZ X [] []
 |cons {i:Nat} {is:List Nat} {x:Str} {p:Pos} {es:List Expr}:X.N[i]? =some x->Loc X.env.scope x->(X.fn x=true\/X.env.scope.names.lookup x=some .local)->sZ X is es->sZ X (i::is) (.Name x p::es)
theorem K7:∀{is:List Nat}{es:List Expr},gB X.env.scope X.N is es=true->sZ X is es
 |[],[]=>fun _=>.nil
 |[],_::_=>fun h=>by simp[gB]at h
 |_::_,[]=>fun h=>by simp[gB]at h
 |i::is,e::es=>fun h=>by
  cases e with
  |Name x p=>
   simp only[gB,QUq,beq_iff_eq]at h
   exact .cons h.1.1 (.inl h.1.2) (.inr h.1.2) (K7 h.2)
  |_=>simp[gB]at h
theorem zJ(hN:X.N.Nodup):∀(is:List Nat)(es:List Expr),sZ X is es->
  PGs X es (fun vs σ H Q=>∃env ds env',Sat X.K env σ H/\ao X.K H ds vs/\gG is ds env=some env'/\∀ζ,ji X.K (.tup is) env σ env' ζ H->Q ζ H)
 |[],[],_=>fun γ s σ H vs us Q I r⟨env,ds,env',S,l,e,k⟩=>by
  cases ds with
  |nil=>
   cases e
   refine QT γ s σ H vs us Q I r ⟨ao.bL.mp l,k σ ⟨S,fun i _=>⟨rfl,rfl⟩,fun i hi=>?_,fun i xs _=>?_,rfl⟩⟩
   ·simp[slots]at hi
   ·simp[slots]
  |cons d ds=>cases e
 |i::is,_,.cons (x:=x) (p:=p) (es:=es) h1 h2 h3 h4=>by
   intro γ s σ H vs us Q I r q
   refine Kw (wV hN h1 h2 h3) (zJ hN is es h4) (by rfl) γ s σ H vs us Q I r ?_
   obtain⟨env,ds,env',S,l,e,k⟩:=q
   cases ds with
   |nil=>cases e
   |cons d ds=>
    obtain⟨v,vr,rfl,hd,l'⟩:=ao.aF.mp l
    have e':(cj i _ env).bind _=some env':=e
    cases e1:cj i _ env with
    |none=>rw[e1]at e';cases e'
    |some δ=>
     rw[e1]at e'
     refine⟨v,vr,rfl,env,d,δ,S,hd,e1,fun ξ s1=>⟨δ,ds,env',s1.eX,l',e',fun φ s2=>k φ ⟨s2.eX,fun j hj=>?_,fun j hj=>?_,fun j xs q hj=>?_,s2.len.trans s1.len⟩⟩⟩
     ·have h1:j∉slots (.name i):=fun z=>hj (by simp[slots]at z⊢;exact .inl z)
      have h2:=fun z=>hj (by simp[slots]at z⊢;exact .inr z)
      exact⟨(s2.same j h2).1.trans (s1.same j h1).1,(s2.same j h2).2.trans (s1.same j h1).2⟩
     ·by_cases h2:j∈slots (.tup is)
      ·exact s2.vals j h2
      ·obtain⟨d',q⟩:=s1.vals j (by simp[slots]at hj h2⊢;exact hj.resolve_right h2)
       exact⟨d',(s2.same j h2).1.trans q⟩
     ·by_cases h1:j∈slots (.name i)
      ·exact s1.bors j xs q h1
      ·exact s2.bors j xs ((s1.same j h1).1.trans q) (by simp[slots]at hj h1⊢;exact hj.resolve_left h1)
def Cv{is:List Nat}{k:Nat}(hN:X.N.Nodup)(hc:X.calm=true)(h:sZ X is es)(hl:(assignEach es X.env).length=is.length)(hst:(assignEach es X.env).findIdx? (·.1)=none):GG X (.tup is) (.Tuple es k pos):=by
 intro γ s σ H v u Q I r q
 obtain⟨env,d,env',S,hd,e,k⟩:=q
 cases d with
 |tup ds=>
  obtain⟨a,vs,rfl,hq,l⟩:=cg hd
  refine WX hc (zJ hN is es h) hl hst γ s σ H _ u Q I r ⟨a,vs,rfl,hq,?_,env,ds,env',S,l,e,k⟩
  have lens:∀is ds env env',gG is ds env=some env'->ds.length=is.length:=by
   intro is
   induction is with
   |nil=>intro ds env env' e;cases ds with|nil=>rfl|cons _ _=>cases e
   |cons i is ih=>
    intro ds env env' e
    cases ds with
    |nil=>cases e
    |cons d ds=>
     have e':(cj i _ env).bind _=some env':=e
     cases e1:cj i _ env with
     |none=>rw[e1]at e';cases e'
     |some δ=>rw[e1]at e';simp[ih ds δ env' e']
  rw[<-l.length]
  exact lens is ds env env' e
 |_=>cases e
end
def W0:Wi:=fun _ _ _ _=>False
def Sat.lay{env:Ev}{H H2:Hp}(S:Sat K env σ H)(h:H2=H\/∃p vs,H p=none/\H2=upd H p (.tup vs)):Nx K env σ H env H2:=by
 rcases h with rfl|⟨p,vs,hp,rfl⟩
 ·exact Nx.refl S
 ·exact Nx.laid S hp
def qN{σ:St}{a:Addr}:aQ (env.drop nl) (σ.drop nl) i a↔aQ env σ (nl+i) a:=by
 unfold aQ
 rw[List.getElem?_drop,List.getElem?_drop]
theorem Sat.drop{env:Ev}{H:Hp}(S:Sat K env σ H):Sat K (env.drop nl) (σ.drop nl) H:=by
 refine⟨by rw[List.length_drop,List.length_drop,S.len],fun i s e=>?_,fun i j a h1 h2=>?_⟩
 ·rw[List.getElem?_drop]at e⊢
  exact S.sl _ s e
 ·have:=S.ne _ _ a (qN.mp h1) (qN.mp h2)
  omega
def gZ{σ:St}{i:Nat}(h:aQ (List.replicate nl .un++env) (List.replicate nl none++σ) i a):∃j,i=nl+j/\aQ env σ j a:=by
 obtain⟨⟨s,xs,e1,e2⟩,e3⟩:=h
 by_cases hi:i<nl
 ·rw[Qwz (by simpa using hi),List.getElem?_replicate,if_pos hi]at e1
  cases e1;cases e2
 ·refine⟨i-nl,by omega,?_⟩
  rw[QIz (by simp;omega)]at e1 e3
  simp only[List.length_replicate]at e1 e3
  exact⟨⟨s,xs,e1,e2⟩,e3⟩
def Sat.front{env:Ev}{H:Hp}(S:Sat K env σ H)nl:Sat K (List.replicate nl .un++env) (List.replicate nl none++σ) H:=by
 refine⟨by simp[S.len],fun i s e=>?_,fun i j a h1 h2=>?_⟩
 ·by_cases hi:i<nl
  ·rw[Qwz (by simpa using hi),List.getElem?_replicate,if_pos hi]at e
   cases e;trivial
  ·rw[QIz (by simp;omega)]at e⊢
   simp only[List.length_replicate]at e⊢
   exact S.sl _ s e
 ·obtain⟨i',rfl,o1⟩:=gZ h1
  obtain⟨j',rfl,o2⟩:=gZ h2
  rw[S.ne i' j' a o1 o2]
structure Ah(X:Cx)(c:Cf)(scope:Scope)(η:List Str)(tg:Tg)(cond elt:E)(Φ Θ:Expr)(ifs:List Expr):Prop where
 sc:Jb X.env.scope scope η X.N
 small:∀i∈slots tg,i<η.length
 tgt:∀cl fp s₀ H₀,(blk X scope cl (bW η X.N) fp s₀ H₀).Ok->GG (blk X scope cl (bW η X.N) fp s₀ H₀) tg Φ
 tests:(ifs=[]/\cond=.con (.bl true))\/∃ce,ifs=[ce]/\∀cl fp s₀ H₀,(blk X scope cl (bW η X.N) fp s₀ H₀).Ok->GT (blk X scope cl (bW η X.N) fp s₀ H₀) W0 c cond ce
 elts:∀cl fp s₀ H₀,(blk X scope cl (bW η X.N) fp s₀ H₀).Ok->GE (blk X scope cl (bW η X.N) fp s₀ H₀) W0 c elt Θ
structure LI(X:Cx)(c:Cf)(tg:Tg)(cond elt:E)(xs ys:List D)(τ env0:Ev)(σ σ0:St)(H3:Hp)(D:Addr)(nl i:Nat)(acc:List Mini.D)(vs:List V)(Ψ:Ev)(ξ:St)(H1:Hp):Prop where
 le:i<=xs.length
 go:aP tg (ev c cond) (ev c elt) (xs.drop i) acc Ψ=.ok ys τ
 eX:Sat X.K Ψ ξ H1
 out:ξ.drop nl=σ
 acl:acc.length<=i
 cur:H1 D=some (.lst vs)
 den:ao X.K H1 acc vs
 sub:∀k a,aQ Ψ ξ k a->aQ env0 σ0 k a
 pers:bR H3 H1
 keep:∀b u,H3 b=some u->b≠D->(∀k,¬aQ env0 σ0 k b)->H1 b=some u
 dom:∀b,H1 b=none->H3 b=none
 bors:∀(k:Nat)ws,env0[k]? =some (.bor ws)->∃ws',Ψ[k]? =some (.bor ws')
section
variable{cond elt:E}{D:Addr}
def LI.no(L:LI X c tg cond elt xs ys τ env0 σ σ0 H3 D nl i acc vs Ψ ξ H1)(hD:∀k,¬aQ env0 σ0 k D):∀k,¬aQ Ψ ξ k D:=fun k z=>hD k (L.sub k D z)
end
structure Ch(K:QQq)(env:Ev)(σ:St)(H:Hp)(env':Ev)(ζ:St)(H':Hp):Prop where
 eX:Sat K env' ζ H'
 sub:∀(i:Nat)a,aQ env' ζ i a->aQ env σ i a
 pers:bR H H'
 keep:∀b u,H b=some u->(∀i,¬aQ env σ i b)->H' b=some u
 dom:∀b,H' b=none->H b=none
 bors:∀(i:Nat)xs,env[i]? =some (.bor xs)->∃ys,env'[i]? =some (.bor ys)
section
def Nx.ch(N:Nx K env σ H δ H1):Ch K env σ H δ σ H1:=⟨N.eX,N.sub,N.pers,N.keep,N.dom,N.bors⟩
def ji.ch(h:ji K tg env σ δ ξ H):Ch K env σ H δ ξ H:=⟨h.eX,fun _ _ z=>h.sub z,bR.refl H,fun _ _ z _=>z,fun _ z=>z,fun i xs e=>⟨xs,(h.same i (h.bors i xs e)).1.trans e⟩⟩
theorem Ch.trans(a:Ch K env σ H δ ξ H1)(b:Ch K δ ξ H1 ε φ H2):Ch K env σ H ε φ H2:=
 ⟨b.eX,fun i c z=>a.sub i c (b.sub i c z),a.pers.trans b.pers,fun c vs z n=>b.keep c vs (a.keep c vs z n) fun i w=>n i (a.sub i c w),fun c z=>a.dom c (b.dom c z),fun i xs e=>let ⟨ys,e1⟩:=a.bors i xs e;b.bors i ys e1⟩
end
def ji.out{tg:Tg}{σ ξ:St}{nl:Nat}(h:ji K tg env σ δ ξ H)(hs:∀i∈slots tg,i<nl):ξ.drop nl=σ.drop nl:=by
 apply List.ext_getElem?
 intro i
 rw[List.getElem?_drop,List.getElem?_drop]
 exact(h.same _ fun z=>by have:=hs _ z;omega).2
section
variable{cond elt:E}{D:Addr}
theorem LI.skip(L:LI X c tg cond elt xs ys τ env0 σ σ0 H3 D nl i acc vs Ψ ξ H1)(hD:∀k,¬aQ env0 σ0 k D)(C:Ch X.K Ψ ξ H1 τ2 φ H2)(hi:i<xs.length)(ho:φ.drop nl=σ)
  (go:aP tg (ev c cond) (ev c elt) (xs.drop (i+1)) acc τ2=.ok ys τ):LI X c tg cond elt xs ys τ env0 σ σ0 H3 D nl (i+1) acc vs τ2 φ H2 where
 le:=hi
 go:=go
 eX:=C.eX
 out:=ho
 acl:=Nat.le_succ_of_le L.acl
 cur:=C.keep D _ L.cur (L.no hD)
 den:=L.den.mono C.pers
 sub:=fun k a z=>L.sub k a (C.sub k a z)
 pers:=L.pers.trans C.pers
 keep:=fun b ws z n1 n2=>C.keep b ws (L.keep b ws z n1 n2) fun k o=>n2 k (L.sub k b o)
 dom:=fun b z=>L.dom b (C.dom b z)
 bors:=fun k ws e=>let ⟨w1,e1⟩:=L.bors k ws e;C.bors k w1 e1
def LI.push{v:V}(L:LI X c tg cond elt xs ys τ env0 σ σ0 H3 D nl i acc vs Ψ ξ H1)(hD:∀k,¬aQ env0 σ0 k D)(C:Ch X.K Ψ ξ H1 τ2 φ H2)(hi:i<xs.length)(ho:φ.drop nl=σ)
  (go:aP tg (ev c cond) (ev c elt) (xs.drop (i+1)) (acc++[d]) τ2=.ok ys τ)(hd:bD X.K H2 d v):LI X c tg cond elt xs ys τ env0 σ σ0 H3 D nl (i+1) (acc++[d]) (vs++[v]) τ2 φ (upd H2 D (.lst (vs++[v]))):=by
 have cur:=C.keep D _ L.cur (L.no hD)
 have ne:∀b u,H2 b=some u->(∀ws,u≠ .lst ws)->b≠D:=fun b u q n z=>by subst z;rw[cur]at q;cases q;exact n vs rfl
 have p:bR H2 (upd H2 D (.lst (vs++[v]))):=⟨fun b ws q=>by rw[au (ne b _ q (by intro ws z;cases z))];exact q,fun b o u q=>by rw[au (ne b _ q (by intro ws z;cases z))];exact q⟩
 have no2:=fun k z=>L.no hD k (C.sub k D z)
 refine⟨hi,go,C.eX.keep p fun k b u ow hb=>?_,ho,by rw[QTq];exact Nat.succ_le_succ L.acl,aK,((L.den.mono C.pers).append (ao.cW hd ao.fZ)).mono p,fun k a z=>L.sub k a (C.sub k a z),
  (L.pers.trans C.pers).trans p,fun b ws z n1 n2=>?_,fun b z=>L.dom b (C.dom b ?_),fun k ws e=>let ⟨w1,e1⟩:=L.bors k ws e;C.bors k w1 e1⟩
 ·rw[au (fun z=>by subst z;exact no2 k ow)];exact hb
 ·rw[au n1]
  exact C.keep b ws (L.keep b ws z n1 n2) fun k o=>n2 k (L.sub k b o)
 ·by_cases hb:b=D
  ·subst hb;rw[aK]at z;cases z
  ·rw[au hb]at z;exact z
end
def vq{α:Type}{xs:List α}{d:α}(h:xs[i]? =some d):xs.drop i=d::xs.drop (i+1):=by
 obtain⟨hi,e⟩:=QCz.mp h
 rw[List.drop_eq_getElem_cons hi,e]
def vy{X:Cx}{c:Cf}{scope:Scope}{η:List Str}{tg:Tg}{cond elt:E}{Φ ο Θ:Expr}{ifs:List Expr}{pos:Pos}{cl:List (Str×Addr)}
  {γ:QQz}{σ:St}{H:Hp}{s:Shared}{env τ:Ev}{J:It}{fp:List Addr}{it:Addr}{tn:Nat->Heap->Prop}{xs ys:List D}{RR:Value->Addr->Result->Shared->Prop}{E:QZq}
  (B:Ah X c scope η tg cond elt Φ Θ ifs)(hc:X.calm=true)(co:O6 scope X.env cl)
  (I:Inv X γ σ H s)(S:Sat X.K env σ H)(T:Turn X.prog X.w X.K Φ J fp it tn)(t0:tn 0 s.heap)(hf:∀b∈fp,fP X γ H b)(G:Gives X.K J xs H)
  (hgo:aP tg (ev c cond) (ev c elt) xs [] (List.replicate η.length .un++env)=.ok ys τ)
  (hRR:∀(D C:Addr)(s':Shared)(H':Hp)(vs:List V)(m:QZz),Inv X γ σ H' s'->Nx X.K env σ H (τ.drop η.length) H'->H' D=some (.lst vs)->ao X.K H' ys vs->H D=none->
   s'.heap.Ns C m->fP X γ H' C->RR (.ref D) C (.ok .next) s'):
  wpAny (model X.prog X.w) X.A (newList []) (fun acc s₃=>wpAny (model X.prog X.w) X.A (newFunctionEnv scope X.env.globals cl [] X.env.qual none .none (some X.env)) (fun cenv s₄=>
   codeAny (model X.prog X.w) X.A (.compStart (.ListComp Θ [⟨Φ,ο,ifs,0⟩] scope pos) 0 (.ref it) acc {cenv with scope:=relabel scope X.env}) (RR acc cenv.locals) s₄) E s₃) E s:=by
 have hlt:∀b∈fp,b<s.heap.objs.size:=fun b hb=>by
  obtain⟨o,e,_⟩:=T.obj 0 _ t0 b hb
  exact Qqz e
 refine Qjq (wpAny_newFunctionEnv B.sc.nocell (by intro y hy;simp at hy) (fun Δ hns₁ hsb₁=>?_) B.sc.kind)
 dsimp only at hns₁ hsb₁⊢
 generalize hDd:s.heap.objs.size=D at*
 have hDn:H D=none:=by rw[<-hDd];exact I.hok.fresh (QVz _)
 have I3:Inv X γ σ (upd H D (.lst [])) {s with heap:=s.heap.push {cls:=.type "list",dict:=none,data:=.seq ([]:List Value).toArray}}:=by
  have:=I.laid (a:=s.heap.objs.size) (o:=.lst []) (t':=s.toks) (h':=s.heap.push {cls:=.type "list",dict:=none,data:=.seq ([]:List Value).toArray}) (fun b o e=>QWq _ e) (QVz _) ⟨QIq _,[],0,.nil,Qzq _ rfl⟩
  rw[hDd]at this
  exact this
 obtain⟨s3,hs3⟩:∃s3:Shared,s3={s with heap:=s.heap.push {cls:=.type "list",dict:=none,data:=.seq ([]:List Value).toArray}}:=⟨_,rfl⟩
 rw[<-hs3]at I3
 have hs3h:s.heap.push {cls:=.type "list",dict:=none,data:=.seq ([]:List Value).toArray}=s3.heap:=by rw[hs3]
 rw[hs3h]at hns₁ hsb₁⊢
 have hsz:s3.heap.objs.size=D+1:=by rw[<-hs3h,Heap.size_push,hDd]
 have hk3:∀b o,s3.heap.get? b=some o->Δ.get? b=some o:=fun b o e=>hsb₁.extBut b o (Qvz (Qqz e)) (QWq _ e)
 have hk:∀b o,s.heap.get? b=some o->s3.heap.get? b=some o:=fun b o e=>by rw[<-hs3h];exact QWq _ e
 have hf3:∀b∈fp,fP X γ (upd H D (.lst [])) b:=fun b hb=>⟨by
  rw[au (Qvz (hlt b hb))];exact(hf b hb).1,(hf b hb).2⟩
 have hlt3:∀b∈fp,b<s3.heap.objs.size:=fun b hb=>Qvq (hlt b hb) (by rw[hsz];exact Nat.le_succ _)
 have N3:Nx X.K env σ H env (upd H D (.lst [])):=Nx.laid S hDn
 generalize hH3:upd H D (.lst [])=H3 at I3 hf3 N3
 have hD3:H3 D=some (.lst []):=by rw[<-hH3];exact aK
 have noD:∀k,¬aQ (List.replicate η.length .un++env) (List.replicate η.length none++σ) k D:=fun k z=>by
  obtain⟨j,_,o⟩:=gZ z
  obtain⟨_,_,q,_⟩:=S.own o
  rw[hDn]at q;cases q
 have ok':(blk X scope cl (bW η X.N) fp s3 H3).Ok:=NZ I3 B.sc co hf3 hlt3
 have hns':Δ.Ns s3.heap.objs.size fun _=>none:=by simpa using hns₁
 have fpk:∀{H1:Hp},(∀b∈fp,H1 b=none)->∀b∈fp,fP (blk X scope cl (bW η X.N) fp s3 H3) [] H1 b:=fun{H1}hn b hb=>
  ⟨hn b hb,(ok'.exf b hb).1,ok'.exfs b hb,.inl hb,fun x q e=>(ok'.exf b hb).2 x q e,fun p hp=>absurd (show p∈([]:QQz)from hp) (by simp)⟩
 have loop:∀s4:Shared,s4={s with heap:=Δ,toks:=s.toks+([]:List (Str×Value)).length}->
   codeAny (model X.prog X.w) X.A (.compLoop (.ListComp Θ [⟨Φ,ο,ifs,0⟩] scope pos) 0 (.ref it) (.ref D) (compEnvC scope cl s3.heap.objs.size X.env)) (RR (.ref D) s3.heap.objs.size) s4:=by
  rintro s4 rfl
  have I4:Inv (blk X scope cl (bW η X.N) fp s3 H3) [] (List.replicate η.length none++σ) H3 {s with heap:=Δ,toks:=s.toks+([]:List (Str×Value)).length}:=by
   have:=Sh (t:=s.toks+([]:List (Str×Value)).length) I3 B.sc co hf3 hlt3 hns' hk3
   rw[hs3]at this⊢
   exact this
  refine xG (fun n s'=>∃i acc vs Ψ ξ H1,n=xs.length-i/\Inv (blk X scope cl (bW η X.N) fp s3 H3) [] ξ H1 s'/\tn i s'.heap/\(∀b∈fp,H1 b=none)/\
   LI X c tg cond elt xs ys τ (List.replicate η.length .un++env) σ (List.replicate η.length none++σ) H3 D η.length i acc vs Ψ ξ H1) ?_ xs.length ?_
  ·rintro n s1 ⟨i,acc,vs,Ψ,ξ,H1,rfl,I1,t1,f1,L⟩
   by_cases hi:i<xs.length
   ·--one more turn
    obtain⟨d,hd⟩:∃d,xs[i]? =some d:=⟨xs[i],by simp[hi]⟩
    have q0:=L.go
    rw[vq hd,aP]at q0
    cases hset:bz tg d Ψ with
    |none=>rw[hset]at q0;cases q0
    |some τ2=>
     rw[hset]at q0
     simp only at q0
     have p1:bR H H1:=N3.pers.trans L.pers
     refine cu (T.item (blk X scope cl (bW η X.N) fp s3 H3) rfl rfl rfl hc i [] s1 ξ H1 _ I1 (fpk f1) t1 (G.go H1 p1 i d hd)) fun r s2⟨u,hr,h2⟩=>?_
     subst hr
     refine cu h2 fun _ s3'⟨x,H2,I2,r2,y2,t2,f2⟩=>?_
     obtain⟨Dx,lay⟩:=G.yld H1 p1 i d hd x H2 y2
     have N2:=L.eX.lay lay
     have D2:H2 D=some (.lst vs):=N2.keep D _ L.cur (L.no noD)
     have I2':=I2.pinned (fpk f2) (T.obj _ _ t2)
     refine cu (B.tgt cl fp s3 H3 ok' _ s3' ξ H2 x u (fun φ H'=>H'=H2/\ji X.K tg Ψ ξ τ2 φ H2) I2' r2 ⟨Ψ,d,τ2,N2.eX,Dx,hset,fun φ st=>⟨rfl,st⟩⟩) fun _ s4'⟨φ,H2',I3',hH,st⟩=>?_
     subst hH
     have ho:φ.drop η.length=σ:=(st.out B.small).trans L.out
     have C2:Ch X.K Ψ ξ H1 τ2 φ H2':=N2.ch.trans st.ch
     have again:∀{s7:Shared}{H7:Hp}{acc':List Mini.D}{vs':List V}{τ7:Ev},Inv (blk X scope cl (bW η X.N) fp s3 H3) ([]++qL fp s3'.heap) φ H7 s7->
       LI X c tg cond elt xs ys τ (List.replicate η.length .un++env) σ (List.replicate η.length none++σ) H3 D η.length (i+1) acc' vs' τ7 φ H7->
       ∃k,k<xs.length-i/\∃i acc vs Ψ ξ H1,k=xs.length-i/\Inv (blk X scope cl (bW η X.N) fp s3 H3) [] ξ H1 s7/\tn i s7.heap/\(∀b∈fp,H1 b=none)/\
        LI X c tg cond elt xs ys τ (List.replicate η.length .un++env) σ (List.replicate η.length none++σ) H3 D η.length i acc vs Ψ ξ H1:=fun{s7 H7 acc' vs' τ7}I7 L7=>by
      refine⟨xs.length- (i+1),by omega,i+1,acc',vs',τ7,φ,H7,rfl,I7.lY,T.keep _ _ _ t2 fun b hb o e=>(I7.pin (b,o) (QVq _ (QVq _ (iH hb e)))).1,fun b hb=>?_,L7⟩
      obtain⟨o,e,_⟩:=T.obj _ _ t2 b hb
      exact(I7.pin (b,o) (QVq _ (QVq _ (iH hb e)))).2.1
     obtain⟨xc,dc,bc,τ3,e1,e2,e3,q1⟩:∃xc dc bc τ3,ev c cond τ2=.ok xc τ3/\xc.jl=some dc/\gF dc=some bc/\
       (if bc then(ev c elt τ3).ak fun d σ₃=>aP tg (ev c cond) (ev c elt) (xs.drop (i+1)) (acc++[d]) σ₃ else aP tg (ev c cond) (ev c elt) (xs.drop (i+1)) acc τ3)=.ok ys τ:=by
      cases r:ev c cond τ2 with
      |bad=>rw[r]at q0;cases q0
      |exc k τ3=>rw[r]at q0;cases q0
      |ok xc τ3=>
       rw[r]at q0
       cases xc with
       |ref k=>cases q0
       |val dc=>
        simp only[Out.cC,Out.ak]at q0
        cases q:gF dc with
        |none=>rw[q]at q0;cases q0
        |some bc=>rw[q]at q0;exact⟨_,dc,bc,τ3,rfl,rfl,q,q0⟩
       |new zs=>
        simp only[Out.cC,Out.ak]at q0
        cases q:gF zs.d with
        |none=>rw[q]at q0;cases q0
        |some bc=>rw[q]at q0;exact⟨_,zs.d,bc,τ3,rfl,rfl,q,q0⟩
     have after:∀(s5:Shared)(H5:Hp),Inv (blk X scope cl (bW η X.N) fp s3 H3) ([]++qL fp s3'.heap) φ H5 s5->Nx X.K τ2 φ H2' τ3 H5->
       (if bc=true then wpAny (model X.prog X.w) X.A (eval Θ (compEnvC scope cl s3.heap.objs.size X.env)) (fun x s₄=>
        wpAny (model X.prog X.w) X.A (call (.builtin "list.append") [.ref D,x]) (fun _ s₅=>∃m,m<xs.length-i/\∃i acc vs Ψ ξ H1,m=xs.length-i/\Inv (blk X scope cl (bW η X.N) fp s3 H3) [] ξ H1 s₅/\tn i s₅.heap/\(∀b∈fp,H1 b=none)/\
        LI X c tg cond elt xs ys τ (List.replicate η.length .un++env) σ (List.replicate η.length none++σ) H3 D η.length i acc vs Ψ ξ H1) (fun _ _=>False) s₄) (fun _ _=>False) s5
       else∃m,m<xs.length-i/\∃i acc vs Ψ ξ H1,m=xs.length-i/\Inv (blk X scope cl (bW η X.N) fp s3 H3) [] ξ H1 s5/\tn i s5.heap/\(∀b∈fp,H1 b=none)/\
        LI X c tg cond elt xs ys τ (List.replicate η.length .un++env) σ (List.replicate η.length none++σ) H3 D η.length i acc vs Ψ ξ H1):=fun s5 H5 I5 N5=>by
      have C5:=C2.trans N5.ch
      cases bc with
      |false=>
       rw[if_neg Qjz]at q1⊢
       exact again I5 (L.skip noD C5 hi ho q1)
      |true=>
       rw[if_pos rfl]at q1⊢
       obtain⟨xe,de,τ4,e4,e5,q2⟩:∃xe de τ4,ev c elt τ3=.ok xe τ4/\xe.jl=some de/\aP tg (ev c cond) (ev c elt) (xs.drop (i+1)) (acc++[de]) τ4=.ok ys τ:=by
        cases r:ev c elt τ3 with
        |bad=>rw[r]at q1;cases q1
        |exc k τ3=>rw[r]at q1;cases q1
        |ok xe τ4=>
         rw[r]at q1
         cases xe with
         |ref k=>cases q1
         |val de=>exact⟨_,de,τ4,rfl,rfl,q1⟩
         |new zs=>exact⟨_,zs.d,τ4,rfl,rfl,q1⟩
       refine cu ((B.elts cl fp s3 H3 ok').d _ s5 φ H5 (fun v H6=>Nx X.K τ3 φ H5 τ4 H6/\bD X.K H6 de v) I5 ⟨τ3,N5.eX,?_⟩) fun u s6⟨v,H6,I6,r6,N6,D6⟩=>?_
       ·rw[e4]
        cases xe with
        |ref k=>cases e5
        |val d'=>cases e5;exact fun v H' N Dv=>⟨N,Dv⟩
        |new zs=>cases e5;exact fun v H' N Dv=>⟨N,Dv⟩
       ·have C6:=C5.trans N6.ch
        have cur:=C6.keep D _ L.cur (L.no noD)
        have lenv:vs.length<sizeLine:=by
         have h1:=L.den.length
         have h2:=L.acl
         have h3:=G.len
         omega
        refine cu (uJ (X:=blk X scope cl (bW η X.N) fp s3 H3) _ s6 φ H6 (.ref D) [v] (.ref D) [u] (fun _ H7=>H7=upd H6 D (.lst (vs++[v]))) I6 rfl (.cons r6 .nil) ⟨D,vs,v,rfl,rfl,cur,lenv,rfl⟩) fun _ s7⟨_,H7,I7,_,e7⟩=>?_
        subst e7
        exact again I7 (L.push noD C6 hi ho q2 D6)
     rcases B.tests with ⟨ei,ec⟩|⟨ce,ei,hC⟩
     ·subst ei ec
      simp only[v_0,v_1,v_2,v_3,v_4,v_5,v_6,v_7,v_8,Zx,GP,PN,aaC,Jq,aaB,aaA,VG,PL,PK,aaz,o9,VF,VD,aay,VB,lX]at e1
      cases e1
      cases e2
      cases e3
      exact QKz (after s4' H2' I3' (Nx.refl st.eX))
     ·subst ei
      refine wpAny_tests_one (cu (hC cl fp s3 H3 ok' _ s4' φ H2' (fun k H'=>k=bc/\Nx X.K τ2 φ H2' τ3 H') I3' ⟨τ2,st.eX,by rw[e1];exact⟨dc,bc,e2,e3,fun H' N=>⟨rfl,N⟩⟩⟩) fun k s5⟨H5,I5,hk',N5⟩=>?_)
      subst hk'
      exact after s5 H5 I5 N5
   ·--the end
    have e:i=xs.length:=Nat.le_antisymm L.le (Nat.le_of_not_lt hi)
    have q0:=L.go
    rw[e,List.drop_length,aP]at q0
    cases q0
    refine cu (T.done (blk X scope cl (bW η X.N) fp s3 H3) rfl rfl rfl hc i [] s1 ξ H1 _ I1 (fpk f1) t1 (G.stop H1 (N3.pers.trans L.pers) i (by omega))) fun r s2⟨hr,I2⟩=>?_
    subst hr
    obtain⟨m,hm,_⟩:=I2.loc
    have IX:Inv X γ σ H1 s2:=Inv.call' I3 I2.os I2.base I2.hok I2.bare fun b hb=>⟨(hf3 b hb).2.2.2.1,(hf3 b hb).2.1,(hf3 b hb).2.2.2.2.1,(hf3 b hb).2.2.2.2.2⟩
    refine hRR D s3.heap.objs.size s2 H1 vs m IX ⟨?_,fun k a z=>?_,N3.pers.trans L.pers,fun b ws z w=>?_,fun b z=>N3.dom b (L.dom b z),fun k ws z=>?_⟩ L.cur L.den hDn hm (I3.zL (QVz _) I2.free)
    ·have:=L.eX.drop (nl:=η.length)
     rw[L.out]at this
     exact this
    ·have z':aQ (τ.drop η.length) (ξ.drop η.length) k a:=by rw[L.out];exact z
     obtain⟨j,ej,o⟩:=gZ (L.sub _ a (qN.mp z'))
     have:k=j:=by omega
     subst this
     exact o
    ·refine L.keep b ws (N3.keep b ws z w) (fun q=>?_) fun k o=>?_
     ·subst q;rw[hDn]at z;cases z
     ·obtain⟨j,_,o'⟩:=gZ o
      exact w j o'
    ·obtain⟨ws',q⟩:=L.bors (η.length+k) ws (by rw[QIz (by simp)];simpa using z)
     exact⟨ws',by rw[List.getElem?_drop];exact q⟩
  ·refine⟨0,[],[],_,_,H3,rfl,I4,T.keep _ _ _ t0 fun b _ o e=>hk3 b o (hk b o e),fun b hb=>(hf3 b hb).1,⟨QIq _,hgo,N3.eX.front _,by simp,QVz _,hD3,ao.fZ,fun _ _ z=>z,bR.refl _,fun _ _ z _ _=>z,fun _ z=>z,fun _ ws z=>⟨ws,z⟩⟩⟩
 exact codeAny_compStart_list (loop _ rfl) (T.self _ 0 _ _ _ (T.keep _ _ _ t0 fun b _ o e=>hk3 b o (hk b o e)) (loop _ rfl))
section
noncomputable def eG:Cm->CmpOp
 |.eq=>.Eq
 |.ne=>.NotEq
 |.lt=>.Lt
 |.le=>.LtE
 |.gt=>.Gt
 |.isin=>.In
 |.notin=>.NotIn
 |.dZ=>.Is
 |.notN=>.IsNot
def ig(X:Cx)(op:CmpOp)(f:D->D->Option Bool):Prop:=
 ∃r,fM X (compareOp op) r/\∀(H:Hp)(x y:D)(k:Bool)(v u:V)(Q:VK),bD X.K H x v->cU X.K H y u->f x y=some k->Q (.bl k) H->r v u H Q
theorem cU.int{H:Hp}{v:V}(h:cU K H (.int i) v):v=.int i:=by
 rcases h with h|⟨o,a,q,_⟩
 ·exact h
 ·cases o<;>cases q
def J1{g:Int->Int->Bool}(ho:fM X (compareOp op) (Pj fun i j=>.bl (g i j)))(hf:∀x y k,f x y=some k->∃i j,x=.int i/\y=.int j/\k=g i j):ig X op f:=
 ⟨_,ho,fun H x y k v u Q Dx Dy e q=>by
  obtain⟨i,j,rfl,rfl,rfl⟩:=hf x y k e
  exact⟨i,j,Dx,Dy.int,q⟩⟩
def abw(hu:X.A.units+60<cLine):ig X .Eq (aG .eq):=⟨_,Xk hu,fun H x y k v u Q Dx Dy e q=>by
 unfold aG at e;dsimp only at e
 split at e
 ·rename_i h;cases e;exact⟨x,y,.inl Dx,Dy,h,q⟩
 ·cases e⟩
def abq(hu:X.A.units+60<cLine):ig X .NotEq (aG .ne):=⟨_,Xc hu,fun H x y k v u Q Dx Dy e q=>by
 unfold aG at e;dsimp only at e
 split at e
 ·rename_i h;cases e;exact⟨x,y,.inl Dx,Dy,h,q⟩
 ·cases e⟩
def abt:ig X .LtE (aG .le):=J1 abY fun x y k e=>by
 cases x<;>cases y<;>(unfold aG at e;simp at e)
 exact⟨_,_,rfl,rfl,e.symm⟩
def cU.Qk{H:Hp}{v:V}(h:cU K H (.tup xs) v):OJ K H xs v:=by
 rcases h with h|⟨o,a,q,_⟩
 ·obtain⟨a,vs,rfl,hq,l⟩:=cg h
  exact⟨a,vs,rfl,.inr hq,l⟩
 ·cases o<;>cases q
def cU.JQ{H:Hp}{v:V}(h:cU K H (.lst xs) v):OJ K H xs v:=by
 rcases h with h|⟨o,a,q,rfl,u,ha,hq⟩
 ·obtain⟨a,vs,rfl,hq,l⟩:=cR h
  exact⟨a,vs,rfl,.inl hq.sq,l⟩
 ·cases o<;>cases q
  obtain⟨vs,rfl,l⟩:=hq
  exact⟨a,vs,rfl,.inl (.inl (.inl ha)),l⟩
theorem cU.str{H:Hp}{v:V}(h:cU K H (.str x) v):v=.str x:=by
 rcases h with h|⟨o,a,q,_⟩
 ·exact h
 ·cases o<;>cases q
def Ml(x y:Str)(h:x.length=1):(!(Builtin.Str.occurrences y x 0 y.length 1).isEmpty)=aN (.str x) (signs y):=by
 obtain⟨cps⟩:=x
 obtain⟨l⟩:=cps
 have hl:=h
 match l,hl with
 |[k],_=>
  have:=PySem.StrLaws.found_one y k
  rw[this]
  unfold signs
  generalize y.cps.toList=cs
  induction cs with
  |nil=>rfl
  |cons z zs ih=>
   show decide _=(cM _ _||aN _ _)
   rw[<-ih]
   have e:cM (.str ⟨#[z]⟩) (.str ⟨#[k]⟩)=decide (k=z):=by
    simp only[cM]
    by_cases q:k=z
    ·subst q;simp
    ·have q':¬z=k:=fun e=>q e.symm
     simp[q,q']
   rw[e]
   by_cases q:k=z
   ·simp[q]
   ·simp[q]
def jP{kvs:List (Key×V)}(k:Key):(jq kvs k).isSome=aN (dI k) (kvs.map fun p=>dI p.1):=by
 induction kvs with
 |nil=>rfl
 |cons p r ih=>
  obtain⟨k',v⟩:=p
  show _=(cM _ _||aN _ _)
  rw[<-ih]
  have e:cM (dI k') (dI k)=decide (k'=k):=by
   cases k'<;>cases k<;>simp[dI,cM,Bool.beq_eq_decide_eq]
  rw[e]
  by_cases q:k'=k
  ·subst q;simp[lV]
  ·simp[q,lW]
def fU(h:keyOk x=true):∃k:Key,x=dI k:=by
 cases x<;>simp[keyOk]at h
 ·exact⟨.inl _,rfl⟩
 ·exact⟨.inr _,rfl⟩
def j7{H:Hp}{v:V}(h:bD K H (dI k) v):v=kV k:=by
 cases k<;>exact h
noncomputable def Kg(neg:Bool):R2:=fun x y H Q=>∃a k kvs,y=.ref a/\x=kV k/\Rd H a (.dK kvs)/\Q (.bl (if neg then !(jq kvs k).isSome else(jq kvs k).isSome)) H
def K1(hu:X.A.units+1<cLine):fM X (compareOp .In) (Kg false):=by
 intro γ s σ H x y v u Q I rx ry h
 obtain⟨a,k,kvs,rfl,rfl,hd,q⟩:=h
 cases ry
 exact agE hu I ⟨kvs,k,hd,rfl,rfl⟩ rx fun s3 I3=>⟨.bl _,H,I3,rfl,q⟩
def yU(hu:X.A.units+1<cLine):fM X (compareOp .NotIn) (Kg true):=by
 intro γ s σ H x y v u Q I rx ry h
 obtain⟨a,k,kvs,rfl,rfl,hd,q⟩:=h
 cases ry
 exact R5 hu I ⟨kvs,k,hd,rfl,rfl⟩ rx fun s3 I3=>⟨.bl _,H,I3,rfl,q⟩
def iT{H:Hp}{v:V}(h:cU K H (.dU ks ds) v):∃a kvs,v=.ref a/\Rd H a (.dK kvs)/\ks=kvs.map (fun p=>dI p.1)/\ao K H ds (kvs.map (·.2)):=by
 rcases h with h|⟨o,a,q,rfl,u,ha,hq⟩
 ·unfold bD at h;obtain⟨a,o,kvs,e,r,k⟩:=h;exact⟨a,kvs,e,.inr ⟨o,r⟩,k⟩
 ·cases o<;>cases q
  obtain⟨kvs,rfl,k,l⟩:=hq
  exact⟨a,kvs,rfl,.inl ha,k,l⟩
noncomputable def abE(K:QQq)(neg:Bool):R2:=fun x y H Q=>∃a d k xs,x=.ref a/\y=.ref d/\Rd H d (.dS xs)/\(∀x∈xs,cL K H x.1 x.2.1)/\cL K H k a/\Q (.bl (if neg then !(wG k xs).isSome else(wG k xs).isSome)) H
def Xh(hu:X.A.units+9<cLine):fM X (compareOp .In) (abE X.K false):=by
 intro γ s σ H x y v u Q I rx ry h
 obtain⟨a,d,k,xs,rfl,rfl,hd,hk,ha,q⟩:=h
 cases rx
 cases ry
 exact aeE hu I hd hk ha fun s3 I3=>⟨.bl _,H,I3,rfl,q⟩
def Ht(hu:X.A.units+9<cLine):fM X (compareOp .NotIn) (abE X.K true):=by
 intro γ s σ H x y v u Q I rx ry h
 obtain⟨a,d,k,xs,rfl,rfl,hd,hk,ha,q⟩:=h
 cases rx
 cases ry
 exact Qn hu I hd hk ha fun s3 I3=>⟨.bl _,H,I3,rfl,q⟩
def xr{K:QQq}{H:Hp}{ks ds:List D}{v:V}(h:cU K H (.gH ks ds) v):∃a xs,v=.ref a/\Rd H a (.dS xs)/\gk K H ks ds xs:=by
 rcases h with h|⟨o,a,q,rfl,u,ha,hq⟩
 ·unfold bD at h;obtain⟨a,o,xs,e,r,k⟩:=h;exact⟨a,xs,e,.inr ⟨o,r⟩,k⟩
 ·cases o<;>cases q
  obtain⟨xs,rfl,k⟩:=hq
  exact⟨a,xs,rfl,.inl ha,k⟩
noncomputable def abH(K:QQq)(b:Bool):R2:=fun x y H Q=>∃a d k,x=.ref a/\y=.ref d/\Rd H d (.dK [])/\cL K H k a/\Q (.bl b) H
def Xj(hu:X.A.units+9<cLine):fM X (compareOp .In) (abH X.K false):=by
 intro γ s σ H x y v u Q I rx ry h
 obtain⟨a,d,k,rfl,rfl,hd,ha,q⟩:=h
 cases rx
 cases ry
 exact abh hu I hd ha fun s3 I3=>⟨.bl _,H,I3,rfl,q⟩
def Q8(hu:X.A.units+9<cLine):fM X (compareOp .NotIn) (abH X.K true):=by
 intro γ s σ H x y v u Q I rx ry h
 obtain⟨a,d,k,rfl,rfl,hd,ha,q⟩:=h
 cases rx
 cases ry
 exact JV hu I hd ha fun s3 I3=>⟨.bl _,H,I3,rfl,q⟩
def abu(hu:X.A.units+60<cLine):ig X .In (aG .isin):=
 ⟨_,(Xi hu).or ((K1 (by omega)).or (Hv.or ((Xh (by omega)).or (Xj (by omega))))),fun H x y k v u Q Dx Dy e q=>by
  cases y with
  |tup xs=>
   unfold aG at e;dsimp only at e
   split at e
   ·rename_i h;cases e;exact .inl ⟨x,xs,Dx,Dy.Qk,h,q⟩
   ·cases e
  |lst xs=>
   unfold aG at e;dsimp only at e
   split at e
   ·rename_i h;cases e;exact .inl ⟨x,xs,Dx,Dy.JQ,h,q⟩
   ·cases e
  |dU ks vs=>
   unfold aG at e;dsimp only at e
   split at e
   ·rename_i h
    cases e
    obtain⟨k,rfl⟩:=fU h
    obtain⟨a,kvs,rfl,ha,rfl,l⟩:=iT Dy
    exact .inr (.inl ⟨a,k,kvs,rfl,j7 Dx,ha,by simpa[jP]using q⟩)
   ·split at e
    ·rename_i h
     rw[QUq,List.isEmpty_iff]at h
     cases e
     obtain⟨a,rfl,ka⟩:=iy h.1 Dx
     obtain⟨d,kvs,rfl,ha,hk,l⟩:=iT Dy
     rw[h.2]at hk
     cases kvs with
     |nil=>exact .inr (.inr (.inr (.inr ⟨a,d,_,rfl,rfl,ha,ka,q⟩)))
     |cons=>cases hk
    ·cases e
  |gH ks vs=>
   unfold aG at e;dsimp only at e
   split at e
   ·rename_i h
    cases e
    obtain⟨a,rfl,ka⟩:=iy h Dx
    obtain⟨d,xs,rfl,hd,l⟩:=xr Dy
    exact .inr (.inr (.inr (.inl ⟨a,d,kC x,xs,rfl,rfl,hd,l.zB,ka,by rw[l.inD h]at q;simpa using q⟩)))
   ·cases e
  |str y=>
   cases x with
   |str x=>
    unfold aG at e;dsimp only at e
    split at e
    ·rename_i h;cases e;exact .inr (.inr (.inl ⟨x,y,Dx,Dy.str,by rw[Ml x y h];exact q⟩))
    ·cases e
   |_=>unfold aG at e;simp at e
  |_=>unfold aG at e;simp at e⟩
def J2(hu:X.A.units+60<cLine):ig X .NotIn (aG .notin):=
 ⟨_,(Hu hu).or ((yU (by omega)).or ((Ht (by omega)).or (Q8 (by omega)))),fun H x y k v u Q Dx Dy e q=>by
  cases y with
  |tup xs=>
   unfold aG at e;dsimp only at e
   split at e
   ·rename_i h;cases e;exact .inl ⟨x,xs,Dx,Dy.Qk,h,q⟩
   ·cases e
  |lst xs=>
   unfold aG at e;dsimp only at e
   split at e
   ·rename_i h;cases e;exact .inl ⟨x,xs,Dx,Dy.JQ,h,q⟩
   ·cases e
  |dU ks vs=>
   unfold aG at e;dsimp only at e
   split at e
   ·rename_i h
    cases e
    obtain⟨k,rfl⟩:=fU h
    obtain⟨a,kvs,rfl,ha,rfl,l⟩:=iT Dy
    exact .inr (.inl ⟨a,k,kvs,rfl,j7 Dx,ha,by simpa[jP]using q⟩)
   ·split at e
    ·rename_i h
     rw[QUq,List.isEmpty_iff]at h
     cases e
     obtain⟨a,rfl,ka⟩:=iy h.1 Dx
     obtain⟨d,kvs,rfl,ha,hk,l⟩:=iT Dy
     rw[h.2]at hk
     cases kvs with
     |nil=>exact .inr (.inr (.inr ⟨a,d,_,rfl,rfl,ha,ka,q⟩))
     |cons=>cases hk
    ·cases e
  |gH ks vs=>
   unfold aG at e;dsimp only at e
   split at e
   ·rename_i h
    cases e
    obtain⟨a,rfl,ka⟩:=iy h Dx
    obtain⟨d,xs,rfl,hd,l⟩:=xr Dy
    exact .inr (.inr (.inl ⟨a,d,kC x,xs,rfl,rfl,hd,l.zB,ka,by rw[l.inD h]at q;simpa using q⟩))
   ·cases e
  |_=>unfold aG at e;simp at e⟩
end
section
open PySem.SeqAt
open PySem.AutoSeq1 (wpAny_loadPart')
open PySem.MeetsSeq PySem.MeetsSeq2 PySem.MeetsSeq3
inductive BoolsAre:List Value->List Bool->Prop
 |nil:BoolsAre [] []
 |cons (b:Bool) {vs:List Value} {bs:List Bool}:BoolsAre vs bs->BoolsAre (.bool b::vs) (b::bs)
theorem BoolsAre.length{bs:List Bool}(h:BoolsAre vs bs):vs.length=bs.length:=by
 induction h with
 |nil=>rfl
 |cons b _ ih=>simp[ih]
def uN x y xs ys:kE (x::xs) (y::ys)=if x=y then kE xs ys else(!x&&y):=rfl
def Fp:kE [] []=false:=rfl
def Fq y ys:kE [] (y::ys)=true:=rfl
def Rq x xs:kE (x::xs) []=false:=rfl
def uC(A:Around)(s:Shared)(a c:Bool)(prog:Program)(w:World)(E:QZq)(Q:QZq)(h:Q (.bool (!a&&c)) s):
  wpAny (model prog w) A (richCompare .Lt (.bool a) (.bool c)) Q E s:=
 (PyProof.Rows.lt_bool (by cases a<;>cases c<;>exact h))
def pZ l b items items2 n n2 dd dd2 sl sl2 ns ms(hi:BoolsAre items.toList ns)(hj:BoolsAre items2.toList ms):
  Meets (Builtin.«tuple.__lt__» ⟨[.ref l,.ref b],[]⟩)
   (fun _ R s=>s.heap.get? l=some {cls:=.type "tuple",dict:=dd,data:=.seq items n,slots:=sl}/\s.heap.get? b=some {cls:=.type "tuple",dict:=dd2,data:=.seq items2 n2,slots:=sl2}/\
    R (.ok (.ret (.bool (kE ns ms)))) s):=
 .of_wp fun prog w A R s h=>by
  obtain⟨hp,g,d,tk,os⟩:=s;obtain⟨hl,hb,h⟩:=h
  have f2:=AutoSeq1.sub_tuple_tuple
  have z1:items.size=ns.length:=by rw[<-hi.length];simp
  have z2:items2.size=ms.length:=by rw[<-hj.length];simp
  wp_walk using wpAny_loadPart' hl,wpAny_loadPart' hb,wpAny_forIn_list _ (fun rest b s'=>b.1=none/\s'=⟨hp,g,d,tk,os⟩/\∃(vs ws:List Value)(ns' ms':List Bool),rest=vs.zip ws/\
   BoolsAre vs ns'/\BoolsAre ws ms'/\ns'.length+items2.size=ms'.length+items.size/\R (.ok (.ret (.bool (kE ns' ms')))) ⟨hp,g,d,tk,os⟩) _
  case turn=>
   rintro ⟨y,x⟩ rest b s' ⟨hb',rfl,vs,ws,ns',ms',hz,hvi,hwi,hlen,hR⟩
   cases hvi with
   |nil=>rw[List.zip_nil_left]at hz;cases hz
   |cons a hvi'=>
    cases hwi with
    |nil=>rw[List.zip_nil_right]at hz;cases hz
    |cons c hwi'=>
     rw[List.zip_cons_cons]at hz
     injection hz with hyx hrest
     injection hyx with hy hx
     subst hy hx
     rw[uN]at hR
     simp only[QBq]at hlen
     refine QKq ((SeqAt.EqAt.bool_bool (A:=A.in1) (s:=⟨hp,g,d,tk,os⟩) a c) prog w _ _ ?_)
     by_cases hac:a=c
     ·subst hac
      rw[if_pos rfl]at hR
      rw[beq_self_eq_true]
      wp_walk
      exact⟨rfl,rfl,_,_,_,_,hrest,hvi',hwi',by omega,hR⟩
     ·rw[if_neg hac]at hR
      wp_walk using (uC A.in1 ⟨hp,g,d,tk,os⟩ a c prog w)
      exact⟨_,rfl,by simpa using hR⟩
  case fin=>
   rintro ⟨b1,b2⟩ s' ⟨hb',rfl,vs,ws,ns',ms',hz,hvi,hwi,hlen,hR⟩
   simp only at hb'
   subst hb'
   have hv:kE ns' ms'=decide (items.size<items2.size):=by
    cases hvi with
    |nil=>
     cases hwi with
     |nil=>
      rw[Fp]
      exact(QEz (by omega)).symm
     |cons c hw=>
      simp only[List.length_nil,QBq]at hlen
      rw[Fq]
      exact(QFq (by omega)).symm
    |cons a hv=>
     cases hwi with
     |nil=>
      simp only[List.length_nil,QBq]at hlen
      rw[Rq]
      exact(QEz (by omega)).symm
     |cons c hw=>
      rw[List.zip_cons_cons]at hz
      cases hz
   rw[hv]at hR
   wp_walk
   exact⟨_,rfl,by simpa[Builtin.Tuple.tupleCompareSizes]using hR⟩
  case h=>
   exact⟨rfl,rfl,items.toList,items2.toList,ns,ms,rfl,hi,hj,by omega,h⟩
end
theorem fV{K:QQq}{H:Hp}:∀{ds:List D}{vs:List V}{us:List Value}{bs:List Bool},bools ds=some bs->ao K H ds vs->Vals vs us->BoolsAre us bs
 |[],vs,us,bs,e,l,r=>by
  cases e
  rw[ao.bL.mp l]at r
  cases r
  exact .nil
 |d::ds,vs,us,bs,e,l,r=>by
  obtain⟨v,w,rfl,h1,h2⟩:=ao.aF.mp l
  cases d with
  |bl b=>
   simp only[bools,QJz]at e
   obtain⟨bs',e1,rfl⟩:=e
   cases h1
   cases r with
   |cons r1 r2=>cases r1;exact .cons b (fV e1 h2 r2)
  |_=>cases e
section
variable{m m1 m2 m3:E}
noncomputable def afw(K:QQq):R2:=fun x y H Q=>∃xs ys bs cs,bD K H (.tup xs) x/\bD K H (.tup ys) y/\bools xs=some bs/\bools ys=some cs/\Q (.bl (kE bs cs)) H
def Xf(hu:X.A.units<cLine):fM X (compareOp .Lt) (afw X.K):=by
 intro γ s σ H x y v u Q I rx ry h
 obtain⟨xs,ys,bs,cs,Dx,Dy,e1,e2,q⟩:=h
 obtain⟨a,vs,rfl,ha,la⟩:=cg Dx
 obtain⟨b,ws,rfl,hb,lb⟩:=cg Dy
 cases rx
 cases ry
 obtain⟨its,r1,p1,_⟩:=I.tuple ha
 obtain⟨its2,r2,p2,_⟩:=I.tuple hb
 obtain⟨⟨cls,dd,data,sl⟩,ho,hc,n,hd⟩:=id p1
 obtain⟨⟨cls2,dd2,data2,sl2⟩,ho2,hc2,n2,hd2⟩:=id p2
 subst hc hd hc2 hd2
 exact richCompare_meets_room (op:=.Lt) ⟨_,ho,rfl⟩ ⟨_,ho2,rfl⟩ PySem.F.slot_tuple_lt PySem.F.entry_tuple_lt (PySem.F.args_tuple_lt_2 _ _)
  (pZ a b its.toArray its2.toArray n n2 dd dd2 sl sl2 bs cs (by simpa using fV e1 la r1) (by simpa using fV e2 lb r2))
  ⟨ho,ho2,show Value.bool _≠Value.notImplemented/\EP X γ σ Q _ s from⟨(fun x=>nomatch x),⟨.bl _,H,I,rfl,q⟩⟩⟩ hu
theorem cU.tup{K:QQq}{H:Hp}{xs:List D}{v:V}(h:cU K H (.tup xs) v):bD K H (.tup xs) v:=by
 rcases h with h|⟨o,a,q,_⟩
 ·exact h
 ·cases o<;>cases q
def abr(hu:X.A.units+60<cLine):ig X .Lt (aG .lt):=
 ⟨_,abX.or (Xf (by omega)),fun H x y k v u Q Dx Dy e q=>by
  cases x with
  |int i=>
   cases y with
   |int j=>cases e;exact .inl ⟨i,j,Dx,Dy.int,q⟩
   |_=>cases e
  |tup xs=>
   cases y with
   |tup ys=>
    unfold aG at e;dsimp only[ltD]at e
    cases e1:bools xs with
    |none=>rw[e1]at e;cases e
    |some bs=>
     cases e2:bools ys with
     |none=>rw[e1,e2]at e;cases e
     |some cs=>
      rw[e1,e2]at e
      cases e
      exact .inr ⟨xs,ys,bs,cs,Dx,Dy.tup,e1,e2,q⟩
   |_=>cases e
  |_=>cases y<;>cases e⟩
def abv:ig X .Gt (aG .gt):=J1 abZ fun x y k e=>by
 cases x<;>cases y<;>(unfold aG at e;simp at e)
 exact⟨_,_,rfl,rfl,e.symm⟩
def Gk{H:Hp}{v:V}(h:bD K H d v):decide (v=.non)=aR d:=by
 cases d<;>unfold bD at h<;>first
  |(obtain⟨a,_,rfl,_⟩:=h;rfl)
  |(obtain⟨a,_,_,rfl,_⟩:=h;rfl)
  |(subst h;rfl)
def Wu:ig X .Is (aG .dZ):=⟨_,Xg,fun H x y k v u Q Dx Dy e q=>by
 cases y<;>(unfold aG at e;dsimp only at e;cases e)
 rcases Dy with h|⟨o,a,z,_⟩
 ·exact⟨h,by rw[Gk Dx];exact q⟩
 ·cases o<;>cases z⟩
def QB:ig X .IsNot (aG .notN):=⟨_,Q7,fun H x y k v u Q Dx Dy e q=>by
 cases y<;>(unfold aG at e;dsimp only at e;cases e)
 rcases Dy with h|⟨o,a,z,_⟩
 ·exact⟨h,by rw[Gk Dx];exact q⟩
 ·cases o<;>cases z⟩
def nM(hu:X.A.units+60<cLine)o:ig X (eG o) (aG o):=by
 cases o with
 |eq=>exact abw hu
 |ne=>exact abq hu
 |lt=>exact abr hu
 |le=>exact abt
 |gt=>exact abv
 |isin=>exact abu hu
 |notin=>exact J2 hu
 |dZ=>exact Wu
 |notN=>exact QB
def dq{env:Ev}{H:Hp}{d:D}(S:Sat K env σ H)(h:bw k env=some d):∃v,σ[k]? =some (some v)/\cU K H d v:=by
 unfold bw at h
 cases e:env[k]? with
 |none=>rw[e]at h;cases h
 |some s=>
  rw[e]at h
  have q:=S.sl k s e
  cases s with
  |un=>cases h
  |val d'=>cases h;obtain⟨v,e1,e2⟩:=q;exact⟨v,bZ e1,.inl e2⟩
  |own xs=>cases h;obtain⟨a,e1,e2⟩:=q;exact⟨.ref a,bZ e1,.inr ⟨xs,a,rfl,rfl,e2⟩⟩
  |bor xs=>cases h;obtain⟨a,e1,e2⟩:=q;exact⟨.ref a,bZ e1,.inr ⟨xs,a,rfl,rfl,e2⟩⟩
structure ik(X:Cx)(i:Nat)(x:Str):Prop where
 at_:X.N[i]? =some x
 vis:Vis X.env.scope x
 nd:(x==("__debug__":Str))=false
 nc:(x==("__classdict__":Str))=false
def ik.pe{x:Str}(h:ik X i x):PE X (.Name x pos) (JC i):=Kz h.at_ h.vis h.nd h.nc
def ik.ge{x:Str}(h:ik X i x):GE X W c (.var i) (.Name x pos):=Yp h.at_ h.vis h.nd h.nc
theorem Gs(R:ig X (eG o) (aG o))(hb:GE X W c m2 b)(hv:∀k,m2.aq=some k->∃x p,b=.Name x p/\ik X k x):
  ∃r tb,fM X (compareOp (eG o)) r/\PE X b tb/\∀env σ H Q,tM X.K W env (ev c (.cmp o m1 m2) env) σ H Q->ZD r (aD X W c m1) tb σ H Q:=by
 obtain⟨r,ho,rule⟩:=R
 cases q:m2.aq with
 |some k=>
  obtain⟨x,p,rfl,nm⟩:=hv k q
  refine⟨r,JC k,ho,nm.pe,fun env σ H Q h=>?_⟩
  simp only[v_7,q]at h
  refine⟨env,aU h fun d δ v H1 N1 D1 h1=>?_⟩
  obtain⟨z,ez,S,q3⟩:=cH h1
  cases e1:bw k δ with
  |none=>rw[e1]at ez;cases ez
  |some d2=>
   rw[e1]at ez
   simp only[Option.bind]at ez
   obtain⟨u,eu,D2⟩:=dq S e1
   cases e2:aG o d d2 with
   |none=>rw[e2]at ez;cases ez
   |some k2=>
    rw[e2]at ez
    cases ez
    exact⟨u,eu,rule H1 d d2 k2 v u Q D1 D2 e2 (q3 _ H1 (Nx.refl S) rfl)⟩
 |none=>
  refine⟨r,aD X W c m2,ho,hb.d,fun env σ H Q h=>?_⟩
  simp only[v_7,q]at h
  refine⟨env,aU h fun d δ v H1 N1 D1 h1=>⟨δ,aU h1 fun d2 ε u H2 N2 D2 h2=>?_⟩⟩
  obtain⟨z,ez,S,q3⟩:=cH h2
  cases e2:aG o d d2 with
  |none=>rw[e2]at ez;cases ez
  |some k2=>
   rw[e2]at ez
   cases ez
   exact rule H2 d d2 k2 v u Q (D1.mono N2.pers) (.inl D2) e2 (q3 _ H2 (Nx.refl S) rfl)
def YF(R:ig X (eG o) (aG o))(ha:GE X W c m1 a)(hb:GE X W c m2 b)(hv:∀k,m2.aq=some k->∃x p,b=.Name x p/\ik X k x)
  (hm:behindInMarks (eG o) b=false):GE X W c (.cmp o m1 m2) (.Compare a [eG o] [b] pos):=by
 intro env
 obtain⟨r,tb,ho,pb,imp⟩:=Gs R hb hv
 exact PE.imp (Q0 ho ha.d pb hm) fun σ H Q h=>imp env σ H Q h
theorem yg{env:Ev}{σ:St}{Q:Bool->Hp->Prop}(h:tT K W env r σ H Q)(hb:∀x env',r=.ok x env'->∃b,x=.val (.bl b)):
  tM K W env r σ H (fun v H'=>∃k,v=.bl k/\Q k H'):=by
 obtain⟨S,h⟩:=h
 refine⟨S,?_⟩
 cases r with
 |bad=>exact h
 |exc c δ=>exact h
 |ok x δ=>
  obtain⟨b,rfl⟩:=hb x δ rfl
  obtain⟨d,k,e1,e2,q⟩:=h
  cases e1
  cases e2
  exact fun v H' N z=>⟨b,z,q H' N⟩
def jW{o:Option Bool}(h:lift env (o.map fun q=>Rv.val (.bl q))=.ok x env'):∃b,x=.val (.bl b):=by
 cases o with
 |none=>cases h
 |some b=>cases h;exact⟨b,rfl⟩
def zU{env env':Ev}(h:ev c (.cmp o m1 m2) env=.ok x env'):∃b,x=.val (.bl b):=by
 simp only[v_7]at h
 cases r:ev c m1 env with
 |bad=>rw[r]at h;cases h
 |exc k δ=>rw[r]at h;cases h
 |ok x1 δ=>
  rw[r]at h
  have go:∀d,(match m2.aq with
    |some k=>lift δ ((bw k δ).bind fun d'=>(aG o d d').map fun q=>Rv.val (.bl q))
    |none=>(ev c m2 δ).ak fun y σ=>lift σ ((aG o d y).map fun q=>Rv.val (.bl q)))=.ok x env'->∃b,x=.val _:=fun d h=>by
   cases q:m2.aq with
   |some k=>
    simp only[q]at h
    cases e:bw k δ with
    |none=>simp only[e,Option.bind]at h;cases h
    |some d'=>simp only[e,Option.bind]at h;exact jW h
   |none=>
    simp only[q]at h
    cases r2:ev c m2 δ with
    |bad=>rw[r2]at h;cases h
    |exc k ε=>rw[r2]at h;cases h
    |ok x2 ε=>
     rw[r2]at h
     cases x2 with
     |val d2=>exact jW h
     |new xs=>exact jW h
     |ref i=>cases h
  cases x1 with
  |val d=>exact go d h
  |new xs=>exact go xs.d h
  |ref i=>cases h
def Yi(R:ig X (eG o) (aG o))(ha:GE X W c m1 a)(hb:GE X W c m2 b)(hv:∀k,m2.aq=some k->∃x p,b=.Name x p/\ik X k x)
  (hm:behindInMarks (eG o) b=false):GT X W c (.cmp o m1 m2) (.Compare a [eG o] [b] pos):=by
 obtain⟨r,tb,ho,pb,imp⟩:=Gs R hb hv
 exact PT.imp (QK ho ha.d pb hm) fun σ H Q⟨env,h⟩=>imp env σ H _ (yg h fun x env' e=>zU e)
theorem vz(R1:ig X (eG π) (aG π))(R2:ig X (eG υ) (aG υ)):
  ∃r r',fM X (compareOp (eG π)) r/\fM X (compareOp (eG υ)) r'/\∀env σ H Q,tM X.K W env (ev c (.chain π υ m1 m2 m3) env) σ H Q->Az r r' (aD X W c m1) (aD X W c m2) (aD X W c m3) σ H Q:=by
 obtain⟨r,ho,rule⟩:=R1
 obtain⟨r',ho',rule'⟩:=R2
 refine⟨r,r',ho,ho',fun env σ H Q h=>?_⟩
 refine⟨env,aU h fun d δ v H1 N1 D1 h1=>⟨δ,aU h1 fun d2 ε u H2 N2 D2 h2=>?_⟩⟩
 cases e2:aG π d d2 with
 |none=>rw[e2]at h2;exact h2.2.elim
 |some k=>
  rw[e2]at h2
  simp only[lift,Out.bind]at h2
  refine rule H2 d d2 k v u _ (D1.mono N2.pers) (.inl D2) e2 ⟨k,rfl,?_⟩
  cases k with
  |false=>
   exact dW h2 rfl
  |true=>
   refine⟨ε,aU h2 fun d3 env3 w H3 N3 D3 h3=>?_⟩
   obtain⟨z,ez,S,q3⟩:=cH h3
   cases e3:aG υ d2 d3 with
   |none=>rw[e3]at ez;cases ez
   |some k2=>
    rw[e3]at ez
    cases ez
    exact rule' H3 d2 d3 k2 u w Q (D2.mono N3.pers) (.inl D3) e3 (q3 _ H3 (Nx.refl S) rfl)
def tZ{env env':Ev}(h:ev c (.chain π υ m1 m2 m3) env=.ok x env'):∃b,x=.val (.bl b):=by
 have val:∀{r:Out Rv}{f:D->Ev->Out Rv},r.ak f=.ok x env'->∃d σ,f d σ=.ok x env':=fun{r f}q=>by
  cases r with
  |bad=>cases q
  |exc k e1=>cases q
  |ok y e1=>
   cases y with
   |val d=>exact⟨d,e1,q⟩
   |new xs=>exact⟨_,e1,q⟩
   |ref i=>cases q
 obtain⟨d1,ξ,h⟩:=val h
 obtain⟨d2,φ,h⟩:=val h
 cases e:aG π d1 d2 with
 |none=>rw[e]at h;cases h
 |some k=>
  rw[e]at h
  simp only[lift,Out.bind]at h
  cases k with
  |false=>cases h;exact⟨false,rfl⟩
  |true=>
   obtain⟨d3,σ3,h⟩:=val h
   exact jW h
def MT{d:Expr}(R1:ig X (eG π) (aG π))(R2:ig X (eG υ) (aG υ))(ha:GE X W c m1 a)(hb:GE X W c m2 b)(hd:GE X W c m3 d)(hm:lastMarks [eG π,eG υ] [b,d]=false):
  GE X W c (.chain π υ m1 m2 m3) (.Compare a [eG π,eG υ] [b,d] pos):=by
 obtain⟨r,r',ho,ho',imp⟩:=vz R1 R2
 exact fun env=>PE.imp (KY ho ho' ha.d hb.d hd.d hm) fun σ H Q h=>imp env σ H Q h
def Mv{d:Expr}(R1:ig X (eG π) (aG π))(R2:ig X (eG υ) (aG υ))(ha:GE X W c m1 a)(hb:GE X W c m2 b)(hd:GE X W c m3 d)(hm:lastMarks [eG π,eG υ] [b,d]=false):
  GT X W c (.chain π υ m1 m2 m3) (.Compare a [eG π,eG υ] [b,d] pos):=by
 obtain⟨r,r',ho,ho',imp⟩:=vz R1 R2
 exact PT.imp (Ko ho ho' ha.d hb.d hd.d hm) fun σ H Q⟨env,h⟩=>imp env σ H _ (yg h fun x env' e=>tZ e)
def aaT(K:QQq)(ta:TE):TE:=fun σ H Q=>ta σ H fun x H1=>∃k,Oz K x H1 k/\Q (.bl (!k)) H1
def QW(ha:PE X a ta):PE X (.UnaryOp .Not a pos) (aaT X.K ta):=by
 intro γ s σ H Q I h
 exact PyProof.Rows.UnaryOp_ (cu (ha γ s σ H _ I h) fun v s1⟨x,H1,I1,r1,k,t,q1⟩=>PyProof.Rows.not_of (cu (Ju γ s1 σ H1 x v _ I1 r1 ⟨k,t,q1⟩) fun b s2⟨H2,I2,q2⟩=>⟨.bl (!b),H2,I2,rfl,q2⟩))
def Yu(ha:GE X W c m1 a):GE X W c (.not m1) (.UnaryOp .Not a pos):=fun env=>
 PE.imp (QW ha.d) fun σ H Q q=>⟨env,yp (yo (by simpa only[PN]using q) fun k δ H1 N q1=>dW (d:=.bl (!k)) q1 rfl)⟩
def Yg(ha:GT X W c m1 a):GT X W c (.not m1) (.UnaryOp .Not a pos):=by
 refine PT.imp (WR ha) fun σ H Q⟨env,q⟩=>⟨env,q.1,?_⟩
 have q2:=q.2
 simp only[PN]at q2
 cases r:ev c m1 env with
 |bad=>rw[r]at q2;exact q2
 |exc k δ=>rw[r]at q2;exact q2
 |ok x δ=>
  rw[r]at q2
  have go:∀d,x.jl=some d->(match (match gF d with|some b=>Out.ok (Rv.val (.bl (!b))) δ|none=>.bad)with
    |.ok x env'=>∃d b,x.jl=some d/\gF d=some b/\∀H',Nx X.K env σ H env' H'->Q b H'
    |.exc c env'=>∀H',Nx X.K env σ H env' H'->W c env' σ H'
    |.bad=>False)->∃d b,x.jl=some d/\gF d=some b/\∀H',Nx X.K env σ H δ H'->Q (!b) H':=fun d ed z=>by
   cases t:gF d with
   |none=>rw[t]at z;exact z.elim
   |some b=>
    rw[t]at z
    obtain⟨d',b',e1,e2,z⟩:=z
    cases e1
    cases e2
    exact⟨d,b,ed,t,z⟩
  cases x with
  |val d=>exact go d rfl q2
  |new o=>exact go o.d rfl q2
  |ref i=>exact q2.elim
def RV(ha:GE X W c m1 a):GE X W c (.and (.cons m1 .nil)) (.BoolOp .And [a] pos):=fun env=>by
 have:=KH (op:=.And) (pos:=pos) (ha env)
 simpa only[Zx,gD]using this
def Yt(ha:GE X W c m1 a):GE X W c (.or (.cons m1 .nil)) (.BoolOp .Or [a] pos):=fun env=>by
 have:=KH (op:=.Or) (pos:=pos) (ha env)
 simpa only[GP,mV]using this
end
def aM(X:Cx)(W:Wi)(c:Cf)(m:E):TE:=fun σ H Q=>∃env,tM X.K W env (ev c m env) σ H Q
def Tw{W:Wi}{σ:St}{r:Out Rv}(h:tT K W env r σ H Q)(N:Nx K env σ H δ H1):tT K W δ r σ H1 Q:=by
 obtain⟨_,h⟩:=h
 refine⟨N.eX,?_⟩
 cases r with
 |bad=>exact h
 |exc c ε=>exact fun H' N'=>h H' (N.trans N')
 |ok x ε=>
  obtain⟨d,b,e1,e2,q⟩:=h
  exact⟨d,b,e1,e2,fun H' N'=>q H' (N.trans N')⟩
section
variable{es rest:List Expr}
def GE.am(h:GE X W c m e):PE X e (aM X W c m):=fun γ s σ H Q I⟨env,q⟩=>h env γ s σ H Q I q
def YG(ha:GE X W c m1 a)(hb:GE X W c (.and (.cons m2 m3)) (.BoolOp .And (b::rest) pos)):GE X W c (.and (.cons m1 (.cons m2 m3))) (.BoolOp .And (a::b::rest) pos):=by
 intro env
 refine PE.imp (W8 ha.d hb.am) fun σ H Q q=>?_
 refine⟨env,aU q fun d δ v H1 N1 D1 q1=>?_⟩
 cases d with
 |bl k=>
  refine⟨k,D1,?_⟩
  cases k with
  |true=>rw[if_pos rfl];exact⟨δ,by simpa only[Zx,gD]using q1⟩
  |false=>rw[if_neg Qjz];exact dW q1 rfl
 |_=>exact q1.2.elim
def acK(ha:GE X W c m1 a)(hb:GE X W c (.or (.cons m2 m3)) (.BoolOp .Or (b::rest) pos)):GE X W c (.or (.cons m1 (.cons m2 m3))) (.BoolOp .Or (a::b::rest) pos):=by
 intro env
 refine PE.imp (abS ha.d hb.am) fun σ H Q q=>?_
 refine⟨env,aU q fun d δ v H1 N1 D1 q1=>?_⟩
 cases d with
 |bl k=>
  refine⟨k,D1,?_⟩
  cases k with
  |true=>rw[if_pos rfl];exact dW q1 rfl
  |false=>rw[if_neg Qjz];exact⟨δ,by simpa only[GP,mV]using q1⟩
 |_=>exact q1.2.elim
def GW(X:Cx)(W:Wi)(c:Cf)(m:E)(e:Expr):Prop:=PW X e (aT X W c m)
def PW.imp(h:PW X e t)(i:∀σ H Q,t' σ H Q->t σ H Q):PW X e t':=fun wh γ s σ H Q I q=>h wh γ s σ H Q I (i σ H Q q)
def GW.t(h:GW X W c m e):GT X W c m e:=PW.pt h
theorem yh{env:Ev}{σ:St}{Q R:Bool->Hp->Prop}(h:tT K W env (r.ak f) σ H Q)
  (hf:∀d δ,(∀k,d≠ .bl k)->f d δ=.bad)
  (k:∀b δ H1,Nx K env σ H δ H1->tT K W δ (f (.bl b) δ) σ H1 Q->R b H1):tT K W env r σ H R:=by
 have step:∀d δ x,x.jl=some d->r=.ok x δ->∃b,gF d=some b/\∀H1,Nx K env σ H δ H1->R b H1:=fun d δ x ex er=>by
  subst er
  have h':tT K W env (f d δ) σ H Q:=by
   cases x with
   |val d'=>cases ex;exact h
   |new xs=>cases ex;exact h
   |ref i=>cases ex
  by_cases hb:∃b,d=.bl b
  ·obtain⟨b,rfl⟩:=hb
   exact⟨b,rfl,fun H1 N=>k b δ H1 N (Tw h' N)⟩
  ·rw[hf d δ fun b e=>hb ⟨b,e⟩]at h'
   exact h'.2.elim
 refine⟨h.1,?_⟩
 cases r with
 |bad=>exact h.2
 |exc c δ=>exact h.2
 |ok x δ=>
  cases x with
  |val d=>obtain⟨b,e,q⟩:=step d δ _ rfl rfl;exact⟨d,b,rfl,e,q⟩
  |new xs=>obtain⟨b,e,q⟩:=step (xs.d) δ _ rfl rfl;exact⟨xs.d,b,rfl,e,q⟩
  |ref i=>exact h.2.elim
def RB(ha:GT X W c m1 a):GW X W c (.and (.cons m1 .nil)) (.BoolOp .And [a] pos):=PW.imp (QH ha) fun σ H Q⟨env,q⟩=>⟨env,by simpa only[Zx,gD]using q⟩
def Ye(ha:GT X W c m1 a):GW X W c (.or (.cons m1 .nil)) (.BoolOp .Or [a] pos):=PW.imp (WK ha) fun σ H Q⟨env,q⟩=>⟨env,by simpa only[GP,mV]using q⟩
def Yj(ha:GT X W c m1 a)(hb:GW X W c (.and (.cons m2 m3)) (.BoolOp .And (b::rest) pos)):GW X W c (.and (.cons m1 (.cons m2 m3))) (.BoolOp .And (a::b::rest) pos):=by
 refine PW.imp (WL ha hb) fun σ H Q⟨env,q⟩=>⟨env,?_⟩
 refine yh q (fun d δ hd=>?_) fun k δ H1 N q1=>?_
 ·cases d with
  |bl k=>exact absurd rfl (hd k)
  |_=>rfl
 ·cases k with
  |true=>rw[if_pos rfl];exact⟨δ,by simpa only[Zx,gD]using q1⟩
  |false=>
   obtain⟨d,k',e1,e2,q3⟩:=q1.2
   cases e1
   cases e2
   exact q3 H1 (Nx.refl q1.1)
def acG(ha:GT X W c m1 a)(hb:GW X W c (.or (.cons m2 m3)) (.BoolOp .Or (b::rest) pos)):GW X W c (.or (.cons m1 (.cons m2 m3))) (.BoolOp .Or (a::b::rest) pos):=by
 refine PW.imp (abJ ha hb) fun σ H Q⟨env,q⟩=>⟨env,?_⟩
 refine yh q (fun d δ hd=>?_) fun k δ H1 N q1=>?_
 ·cases d with
  |bl k=>exact absurd rfl (hd k)
  |_=>rfl
 ·cases k with
  |false=>rw[if_neg Qjz];exact⟨δ,by simpa only[GP,mV]using q1⟩
  |true=>
   obtain⟨d,k',e1,e2,q3⟩:=q1.2
   cases e1
   cases e2
   exact q3 H1 (Nx.refl q1.1)
def Yx(ht:GT X W c m1 t)(ha:GE X W c m2 a)(hb:GE X W c m3 b):GE X W c (.ite m1 m2 m3) (.IfExp t a b pos):=by
 intro env
 refine PE.imp (KN ht ha.am hb.am) fun σ H Q q=>?_
 refine⟨env,yo q fun k δ H1 N q1=>?_⟩
 cases k with
 |true=>rw[if_pos rfl]at q1⊢;exact⟨δ,q1⟩
 |false=>rw[if_neg Qjz]at q1⊢;exact⟨δ,q1⟩
def DG{i:Int}{K:QQq}{vs:List V}(h:at? xs i=some d)(l:ao K H xs vs):∃v,Y9 vs i=some v/\bD K H d v:=by
 unfold at? at h
 cases e:ix? xs.length i with
 |none=>rw[e]at h;cases h
 |some j=>
  rw[e]at h
  obtain⟨v,q1,q2⟩:=l.get (h)
  refine⟨v,?_,q2⟩
  unfold Y9
  have:Rw vs.length i=some j:=by
   unfold ix? at e
   unfold Rw
   rw[<-l.length]
   by_cases h0:i<0
   ·simp only[h0,if_true]at e
    split at e
    ·rename_i hc
     cases e
     rw[if_neg (by omega),if_pos (by omega)]
    ·cases e
   ·simp only[h0,if_false]at e
    split at e
    ·rename_i hc
     cases e
     rw[if_pos (by omega),if_pos (by omega)]
    ·cases e
  rw[this]
  exact q1
theorem n6{K:QQq}{H:Hp}(k:Key):∀{kvs:List (Key×V)}{ds:List D}{d:D},bH (dI k) (kvs.map fun p=>dI p.1) ds=some d->ao K H ds (kvs.map (·.2))->∃v,jq kvs k=some v/\bD K H d v
 |[],ds,d,h,_=>by cases h
 |(k',v)::r,ds,d,h,l=>by
  rw[Qyz]at h l
  cases ds with
  |nil=>obtain⟨⟩:=ao.bL.mp l
  |cons d' ds=>
   obtain⟨w,ws,e,h1,h2⟩:=ao.aF.mp l
   cases e
   have e:cM (dI k') (dI k)=decide (k'=k):=by
    cases k'<;>cases k<;>simp[dI,cM,Bool.beq_eq_decide_eq]
   simp only[bH,e]at h
   by_cases q:k'=k
   ·simp only[q,decide_true,if_true]at h
    cases h
    exact⟨v,lV q,h1⟩
   ·simp only[q,decide_false,Qxq,if_false]at h
    obtain⟨u,q1,q2⟩:=n6 k h h2
    exact⟨u,by rw[lW q];exact q1,q2⟩
noncomputable def abC:R2:=fun x y H Q=>∃a k kvs v,x=.ref a/\y=kV k/\Rd H a (.dK kvs)/\jq kvs k=some v/\Q v H
def XX(hu:X.A.units+1<cLine):Jh X abC:=by
 intro value slice γ s σ H x y v u Q I rx ry h hs
 obtain⟨a,k,kvs,w,rfl,rfl,hd,hv,q⟩:=h
 cases rx
 have g:ud H a (kV k) _:=⟨kvs,k,hd,rfl,hv.symm⟩
 exact PyProof.Rows.tail_any (zW I g) PySem.F.slot_dict_getitem.lookup (Iw hu I g ry fun w' s3 I3 rw'=>⟨w,H,I3,rw',q⟩) hs
noncomputable def Kd(K:QQq):R2:=fun x y H Q=>∃d a k xs v,x=.ref d/\y=.ref a/\Rd H d (.dS xs)/\(∀x∈xs,cL K H x.1 x.2.1)/\cL K H k a/\wG k xs=some v/\Q v H
def acz(hu:X.A.units+9<cLine):Jh X (Kd X.K):=by
 intro value slice γ s σ H x y v u Q I rx ry h hs
 obtain⟨d,a,k,xs,w,rfl,rfl,hd,hk,ka,hv,q⟩:=h
 cases rx
 cases ry
 obtain⟨ys,_,dd,_⟩:=j6 I hd hk
 exact PyProof.Rows.tail_any dd.typeIs PySem.F.slot_dict_getitem.lookup (Hb hu I hd hk ka hv fun u s3 I3 ru=>⟨w,H,I3,ru,q⟩) hs
def abD(K:QQq):R2:=fun x y H Q=>WD K x y H Q\/Wz K x y H Q\/abC x y H Q\/Kd K x y H Q
def Ma(hu:X.A.units+9<cLine):Jh X (abD X.K):=FP.or (LQ.or ((XX (by omega)).or (acz hu)))
def vd{K:QQq}{H:Hp}{d y z:D}{v u:V}{Q:VK}(D1:cU K H d v)(D2:bD K H y u)(e:getD d y=some z)(q:∀w,bD K H z w->Q w H):abD K v u H Q:=by
 cases d with
 |tup xs=>
  cases y with
  |int i=>
   obtain⟨a,vs,rfl,hq,l⟩:=cg D1.tup
   obtain⟨w,e1,e2⟩:=DG e l
   exact .inr (.inl ⟨a,vs,i,w,rfl,D2,hq,e1,q w e2⟩)
  |_=>cases e
 |lst xs=>
  cases y with
  |int i=>
   obtain⟨a,vs,rfl,hq,l⟩:=D1.JQ
   rcases hq with hq|hq
   ·obtain⟨w,e1,e2⟩:=DG e l
    exact .inl ⟨a,vs,i,w,rfl,D2,hq,e1,q w e2⟩
   ·obtain⟨w,e1,e2⟩:=DG e l
    exact .inr (.inl ⟨a,vs,i,w,rfl,D2,hq,e1,q w e2⟩)
  |_=>cases e
 |dU ks ds=>
  have e':(if keyOk y=true then bH y ks ds else none)=some z:=by cases y<;>exact e
  split at e'
  ·rename_i hk
   obtain⟨k,rfl⟩:=fU hk
   obtain⟨a,kvs,rfl,ha,rfl,l⟩:=iT D1
   obtain⟨w,e1,e2⟩:=n6 k e' l
   exact .inr (.inr (.inl ⟨a,k,kvs,w,rfl,j7 D2,ha,e1,q w e2⟩))
  ·cases e'
 |gH ks ds=>
  have e':(if cP y=true then bH y ks ds else none)=some z:=by cases y<;>exact e
  split at e'
  ·rename_i hk
   obtain⟨a,rfl,ka⟩:=iy hk D2
   obtain⟨d,xs,rfl,hd,l⟩:=xr D1
   obtain⟨w,e1,e2⟩:=l.look hk e'
   exact .inr (.inr (.inr ⟨d,a,kC y,xs,w,rfl,rfl,hd,l.zB,ka,e1,q w e2⟩))
  ·cases e'
 |_=>cases y<;>cases e
def Yz(hu:X.A.units+9<cLine)(ha:GE X W c m1 a)(hb:GE X W c m2 b)(hv:∀k,m1.aq=some k->∃x p,a=.Name x p/\ik X k x)(hs:xR b):GE X W c (.idx m1 m2) (.Subscript a b pos):=by
 intro env
 cases q:m1.aq with
 |some k=>
  obtain⟨x,p,rfl,nm⟩:=hv k q
  refine PE.imp (Uj (Ma hu) nm.pe hb.d hs) fun σ H Q h=>?_
  simp only[Jq,q]at h
  cases e0:bw k env with
  |none=>rw[e0]at h;exact h.2.elim
  |some d0=>
   rw[e0]at h
   obtain⟨u,eu,_⟩:=dq h.1 e0
   refine⟨u,eu,env,aU h fun d δ v H1 N1 D1 h1=>?_⟩
   obtain⟨z,ez,S,q3⟩:=cH h1
   cases e1:bw k δ with
   |none=>rw[e1]at ez;cases ez
   |some d2=>
    rw[e1]at ez
    simp only[Option.bind]at ez
    obtain⟨u',eu',D2⟩:=dq S e1
    rw[eu]at eu'
    cases eu'
    cases e2:getD d2 d with
    |none=>rw[e2]at ez;cases ez
    |some w=>
     rw[e2]at ez
     cases ez
     exact vd D2 D1 e2 fun w' hw=>q3 w' H1 (Nx.refl S) hw
 |none=>
  refine PE.imp (Uj (Ma hu) ha.d hb.d hs) fun σ H Q h=>?_
  simp only[Jq,q]at h
  refine⟨env,aU h fun d δ v H1 N1 D1 h1=>⟨δ,aU h1 fun d2 ε u H2 N2 D2 h2=>?_⟩⟩
  obtain⟨z,ez,S,q3⟩:=cH h2
  cases e2:getD d d2 with
  |none=>rw[e2]at ez;cases ez
  |some w=>
   rw[e2]at ez
   cases ez
   exact vd (.inl (D1.mono N2.pers)) D2 e2 fun w' hw=>q3 w' H2 (Nx.refl S) hw
end
structure Nz(K:QQq)(env:Ev)(σ:St)(H:Hp)(env':Ev)(ζ:St)(H':Hp):Prop where
 eX:Sat K env' ζ H'
 sub:∀(i:Nat)a,aQ env' ζ i a->aQ env σ i a\/H a=none
 pers:bR H H'
 keep:∀b u,H b=some u->(∀i,¬aQ env σ i b)->H' b=some u
 dom:∀b,H' b=none->H b=none
 bors:∀(i:Nat)xs,env[i]? =some (.bor xs)->(∃ys,env'[i]? =some (.bor ys))/\ζ[i]? =σ[i]?
section
theorem Nx.z(N:Nx K env σ H δ H1):Nz K env σ H δ σ H1:=⟨N.eX,fun i a z=>.inl (N.sub i a z),N.pers,N.keep,N.dom,fun i xs e=>⟨N.bors i xs e,rfl⟩⟩
theorem Nz.refl(S:Sat K env σ H):Nz K env σ H env σ H:=(Nx.refl S).z
theorem Nz.trans(a:Nz K env σ H δ ξ H1)(b:Nz K δ ξ H1 ε φ H2):Nz K env σ H ε φ H2 where
 eX:=b.eX
 sub:=fun i c z=>by
  rcases b.sub i c z with q|q
  ·exact a.sub i c q
  ·exact .inr (a.dom c q)
 pers:=a.pers.trans b.pers
 keep:=fun c vs z n=>b.keep c vs (a.keep c vs z n) fun i w=>by
  rcases a.sub i c w with q|q
  ·exact n i q
  ·rw[q]at z;cases z
 dom:=fun c z=>a.dom c (b.dom c z)
 bors:=fun i xs e=>by
  obtain⟨⟨ys,e1⟩,s1⟩:=a.bors i xs e
  obtain⟨q,s2⟩:=b.bors i ys e1
  exact⟨q,s2.trans s1⟩
noncomputable def O1(K:QQq)(env:Ev)(σ:St)(H H':Hp):Rv->V->Prop
 |.val d,v=>bD K H' d v
 |.new q,v=>∃a,v=.ref a/\jk K H' q a/\(H a=none\/∃(i:Nat)(ys:Ob),env[i]? =some (.own ys)/\σ[i]? =some (some (.ref a)))
 |_,_=>False
def O1.back{v:V}(N:Nz K env σ H δ ξ H1)(h:O1 K δ ξ H1 H2 r v):O1 K env σ H H2 r v:=by
 cases r with
 |val d=>exact h
 |new xs=>
  obtain⟨a,e,p,z⟩:=h
  refine⟨a,e,p,?_⟩
  rcases z with z|⟨i,ys,z1,z2⟩
  ·exact .inl (N.dom a z)
  ·rcases N.sub i a ⟨⟨_,ys,z1,rfl⟩,z2⟩with ⟨⟨s,xs',q1,q2⟩,q3⟩|q
   ·cases s with
    |own w=>exact .inr ⟨i,w,q1,q3⟩
    |bor w=>
     obtain⟨⟨w',q⟩,_⟩:=N.bors i w q1
     rw[z1]at q;cases q
    |un=>cases q2
    |val d=>cases q2
   ·exact .inl q
 |ref i=>exact h.elim
end
noncomputable def tS(K:QQq)(W:Wi)(env:Ev)(f:Fl):TS:=fun D σ H=>Sat K env σ H/\match f with
 |.next env'=>∀ζ H',Nz K env σ H env' ζ H'->D.nx ζ H'
 |.ret r env'=>∀v ζ H',Nz K env σ H env' ζ H'->O1 K env σ H H' r v->D.rt v H'
 |.brk env'=>∀ζ H',Nz K env σ H env' ζ H'->D.bk ζ H'
 |.cont env'=>∀ζ H',Nz K env σ H env' ζ H'->D.ct ζ H'
 |.exc c env'=>∀ζ H',Nz K env σ H env' ζ H'->W c env' ζ H'
 |.bad=>False
def GS(X:Cx)(W:Wi)(c:Cf)(m:S)(st:Stmt):Prop:=∀env,PS X st (tS X.K W env (ex c m env))
def Pq(X:Cx)(W:Wi)(c:Cf)(m:S)(st:List Stmt):Prop:=∀env,xT X st (tS X.K W env (ex c m env))
section
def PS.imp(h:PS X st t)(i:∀D σ H,t' D σ H->t D σ H):PS X st t':=fun γ s σ H D I q=>h γ s σ H D I (i D σ H q)
def xT.imp(h:xT X sts t)(i:∀D σ H,t' D σ H->t D σ H):xT X sts t':=fun γ s σ H D I q=>h γ s σ H D I (i D σ H q)
def p8{env δ:Ev}{H H1:Hp}{D:Ends}(h:tS K W env f D σ H)(N:Nz K env σ H δ ξ H1):tS K W δ f D ξ H1:=by
 obtain⟨_,h⟩:=h
 refine⟨N.eX,?_⟩
 cases f with
 |next ε=>exact fun ζ H' N'=>h ζ H' (N.trans N')
 |ret r ε=>exact fun v ζ H' N' k=>h v ζ H' (N.trans N') (k.back N)
 |brk ε=>exact fun ζ H' N'=>h ζ H' (N.trans N')
 |cont ε=>exact fun ζ H' N'=>h ζ H' (N.trans N')
 |exc k ε=>exact fun ζ H' N'=>h ζ H' (N.trans N')
 |bad=>exact h
def RC:Pq X W c .nil []:=fun env=>xT.imp QL fun D σ H q=>by
 exact q.2 σ H (Nz.refl q.1)
def Mw(h:GS X W c m1 st)(t:Pq X W c m2 sts):Pq X W c (.cons m1 m2) (st::sts):=by
 intro env
 have B:xT X _ (aaP (fun D σ H=>∃env,tS X.K W env _ D σ H) (fun D σ H=>∃env,tS X.K W env _ D σ H)):=
  Kp (fun γ s σ H D I⟨env,q⟩=>h env γ s σ H D I q) (fun γ s σ H D I⟨env,q⟩=>t env γ s σ H D I q)
 refine xT.imp B fun D σ H q=>?_
 simp only[x_1]at q
 refine⟨env,q.1,?_⟩
 cases r:ex c m1 env with
 |next δ=>
  rw[r]at q
  exact fun ξ H1 N1=>⟨δ,p8 q N1⟩
 |_=>rw[r]at q;exact q.2
theorem nG{env:Ev}{H:Hp}{D:Ends}{r:Out Rv}{R:VK}(h:tS K W env (r.lR f) D σ H)
  (k:∀d δ v H1,Nx K env σ H δ H1->bD K H1 d v->tS K W δ (f d δ) D σ H1->R v H1):tD K W env r σ H R:=by
 have step:∀d δ,r.lR f=f d δ->∀v H1,Nx K env σ H δ H1->bD K H1 d v->R v H1:=fun d δ e v H1 N Dv=>by
  rw[e]at h
  exact k d δ v H1 N Dv (p8 h N.z)
 obtain⟨S,h⟩:=h
 refine⟨S,?_⟩
 cases r with
 |bad=>exact h
 |exc c δ=>exact fun H' N=>h σ H' N.z
 |ok x δ=>
  cases x with
  |val d=>exact fun v H1 N Dv=>step d δ rfl v H1 N Dv
  |new xs=>exact fun v H1 N Dv=>step xs.d δ rfl v H1 N Dv
  |ref i=>exact h
theorem JF{env:Ev}{H:Hp}{D:Ends}{f:Bool->Ev->Fl}(h:tS K W env (r.Am f) D σ H)
  (k:∀b δ H1,Nx K env σ H δ H1->tS K W δ (f b δ) D σ H1->R b H1):tT K W env r σ H R:=by
 have step:∀d δ x,x.jl=some d->r=.ok x δ->∃b,gF d=some b/\∀H1,Nx K env σ H δ H1->R b H1:=fun d δ x ex er=>by
  subst er
  cases q:gF d with
  |none=>
   cases x with
   |val d'=>cases ex;simp only[Out.Am,Out.lR,q]at h;exact h.2.elim
   |new xs=>cases ex;simp only[Out.Am,Out.lR,q]at h;exact h.2.elim
   |ref i=>cases ex
  |some b=>
   refine⟨b,rfl,fun H1 N=>k b δ H1 N (p8 ?_ N.z)⟩
   cases x with
   |val d'=>cases ex;simp only[Out.Am,Out.lR,q]at h;exact h
   |new xs=>cases ex;simp only[Out.Am,Out.lR,q]at h;exact h
   |ref i=>cases ex
 refine⟨h.1,?_⟩
 cases r with
 |bad=>exact h.2
 |exc c δ=>exact fun H' N=>h.2 σ H' N.z
 |ok x δ=>
  cases x with
  |val d=>obtain⟨b,e,q⟩:=step d δ _ rfl rfl;exact⟨d,b,rfl,e,q⟩
  |new xs=>obtain⟨b,e,q⟩:=step xs.d δ _ rfl rfl;exact⟨xs.d,b,rfl,e,q⟩
  |ref i=>exact h.2.elim
def acH{te:Expr}(ht:GT X W c t te)(h1:Pq X W c m1 s1)(h2:Pq X W c m2 s2):GS X W c (.ite t m1 m2) (.If te s1 s2 pos):=by
 intro env
 refine PS.imp (abO ht (t:=fun D σ H=>∃env,tS X.K W env _ D σ H) (u:=fun D σ H=>∃env,tS X.K W env _ D σ H)
  (fun γ s σ H D I⟨env,q⟩=>h1 env γ s σ H D I q) (fun γ s σ H D I⟨env,q⟩=>h2 env γ s σ H D I q)) fun D σ H q=>?_
 refine⟨env,JF q fun b δ H1 N q1=>?_⟩
 cases b with
 |true=>rw[if_pos rfl]at q1⊢;exact⟨δ,q1⟩
 |false=>rw[if_neg Qjz]at q1⊢;exact⟨δ,q1⟩
def RJ{m:E}(h:GE X W c m e)(hs:swapsWith e none pos.line X.env=pure false):GS X W c (.expr m) (.Expr e pos):=by
 intro env
 exact PS.imp (wj h.d hs) fun D σ H q=>⟨env,nG q fun d δ v H1 N Dv q1=>q1.2 σ H1 (Nz.refl q1.1)⟩
def MF:GS X W0 c (.raise k) st:=fun env γ s σ H D I q=>by
 exact(q.2 σ H (Nz.refl q.1)).elim
end
section
variable{env δ ε:Ev}{σ ξ φ:St}
def jQ{s:Sl}{a:Addr}(h:aQ (env.set i s) (σ.set i (some v)) j a)(hj:i≠j):aQ env σ j a:=by
 obtain⟨⟨t,xs,e1,e2⟩,e3⟩:=h
 rw[Qxz hj]at e1 e3
 exact⟨⟨t,xs,e1,e2⟩,e3⟩
def mF{s:Sl}{a:Addr}(hi:i<env.length)(hs:i<σ.length)(h:aQ (env.set i s) (σ.set i (some v)) i a):isOwn s≠none/\v=.ref a:=by
 obtain⟨⟨t,xs,e1,e2⟩,e3⟩:=h
 rw[Qwq hi]at e1
 rw[Qwq hs]at e3
 cases e1
 cases e3
 exact⟨by rw[e2];simp,rfl⟩
def Sat.BJ{q:Ob}(S:Sat K env σ H)(hi:i<env.length)(ha:jk K H q a)(no:∀k,¬aQ env σ k a):Sat K (env.set i (.own q)) (σ.set i (some (.ref a))) H:=by
 have hs:i<σ.length:=by rw[<-S.len];exact hi
 refine⟨by simpa using S.len,fun j s e=>?_,fun j k b h1 h2=>?_⟩
 ·by_cases hj:i=j
  ·subst hj
   rw[Qwq hi]at e
   cases e
   exact⟨a,by rw[Qwq hs];rfl,ha⟩
  ·rw[Qxz hj]at e⊢
   exact S.sl j s e
 ·by_cases hj:i=j
  ·subst hj
   by_cases hk:i=k
   ·exact hk
   ·obtain⟨_,z⟩:=mF hi hs h1
    cases z
    exact absurd (jQ h2 hk) (no k)
  ·by_cases hk:i=k
   ·subst hk
    obtain⟨_,z⟩:=mF hi hs h2
    cases z
    exact absurd (jQ h1 hj) (no j)
   ·exact S.ne j k b (jQ h1 hj) (jQ h2 hk)
theorem Nz.put{x:Rv}{v:V}(S:Sat K env σ H)(N:Nx K env σ H δ H1)(hx:gr K σ H H1 x v)(hs:x.Be=some s)(h:cj i s δ=some ε):Nz K env σ H ε (σ.set i (some v)) H1:=by
 obtain⟨rfl,hi,nb⟩:=qu h
 have hsl:i<σ.length:=by rw[<-N.eX.len];exact hi
 have bors:∀(j:Nat)xs,env[j]? =some _->(∃ys,(δ.set i s)[j]? =some _)/\(σ.set i (some v))[j]? =σ[j]? :=fun j xs e=>by
  obtain⟨ys,e1⟩:=N.bors j xs e
  have hj:i≠j:=fun z=>by subst z;exact nb ys e1
  exact⟨⟨ys,by rw[Qxz hj];exact e1⟩,by rw[Qxz hj]⟩
 cases x with
 |val d=>
  cases hs
  refine⟨N.eX.put hi hx,fun j a z=>.inl ?_,N.pers,N.keep,N.dom,bors⟩
  by_cases hj:i=j
  ·subst hj
   exact absurd rfl (mF hi hsl z).1
  ·exact N.sub j a (jQ z hj)
 |new q=>
  cases hs
  obtain⟨a,rfl,oa,h0⟩:=hx
  refine⟨N.eX.BJ hi oa fun k z=>S.qQ h0 k (N.sub k a z),fun j b z=>?_,N.pers,N.keep,N.dom,bors⟩
  by_cases hj:i=j
  ·subst hj
   obtain⟨_,z⟩:=mF hi hsl z
   cases z
   exact .inr h0
  ·exact .inl (N.sub j b (jQ z hj))
 |ref j=>cases hs
end
section
theorem Tz{env:Ev}{H:Hp}{D:Ends}{r:Out Rv}{R:VK}(h:tS K W env (r.fl f) D σ H)
  (k:∀x δ v H1,Nx K env σ H δ H1->gr K σ H H1 x v->tS K W env (f x δ) D σ H->R v H1):tM K W env r σ H R:=by
 obtain⟨S,h⟩:=h
 refine⟨S,?_⟩
 cases r with
 |bad=>exact h
 |exc c δ=>exact fun H' N=>h σ H' N.z
 |ok x δ=>exact fun v H1 N z=>k x δ v H1 N z ⟨S,h⟩
def Eg{i:Nat}{D:Ends}{H:Hp}(q:tS K W env (ex c (.set i m) env) D σ H):tM K W env (ev c m env) σ H fun v H1=>D.nx (σ.set i (some v)) H1:=by
 refine Tz q fun x δ v H1 N z q1=>?_
 cases e1:x.Be with
 |none=>rw[e1]at q1;exact q1.2.elim
 |some s=>
  rw[e1]at q1
  simp only[Option.bind]at q1
  cases e2:cj i s δ with
  |none=>rw[e2]at q1;exact q1.2.elim
  |some ε=>
   rw[e2]at q1
   exact q1.2 _ _ (Nz.put q1.1 N z e1 e2)
def Mz{x:Str}(h:GE X W c m e)(hN:X.N.Nodup)(hi:X.N[i]? =some x)(hx:Loc X.env.scope x)(hf:X.fn x=true\/X.env.scope.names.lookup x=some .local)
  (hs:swapsWith e (some (.Name x pos')) pos.line X.env=pure false):GS X W c (.set i m) (.Assign [.Name x pos'] e pos):=fun env=>
 PS.imp (WT hN hi hx h.am hs hf) fun D σ H q=>⟨env,Eg q⟩
def JN{env:Ev}{D:Ends}{H:Hp}(q:tS K W env (ex c (.setT is m) env) D σ H):tD K W env (ev c m env) σ H fun v H1=>tG K (.tup is) v σ H1 D.nx:=by
 refine nG q fun d δ v H1 N Dv q1=>?_
 cases e2:bz _ d δ with
 |none=>rw[e2]at q1;exact q1.2.elim
 |some ε=>
  rw[e2]at q1
  exact⟨δ,d,ε,q1.1,Dv,e2,fun ζ st=>q1.2 ζ H1 ⟨st.eX,fun i a z=>.inl (st.sub z),bR.refl _,fun _ _ z _=>z,fun _ z=>z,fun i xs e=>⟨⟨xs,(st.same i (st.bors i xs e)).1.trans e⟩,(st.same i (st.bors i xs e)).2⟩⟩⟩
def RD{tg:Expr}(h:GE X W c m e)(hg:GG X (.tup is) tg)(hs:swapsWithSole [tg] e pos.line X.env=pure false)(hw:swappedStores [tg] e X.env=pure none)
  (h1:(assignEach [tg] X.env).map (·.2)=[assign tg X.env]):GS X W c (.setT is m) (.Assign [tg] e pos):=fun env=>
 PS.imp (Kr h.d hg hs hw h1) fun D σ H q=>⟨env,JN q⟩
end
theorem Dj(env:Env):∀(names:List (Str×NameKind))(cs:List (Str×Addr)),(∀x∈names,x.2=.free->∃c,env.cells.lookup x.1=some c)->(∀x c,cs.lookup x=some c->env.cells.lookup x=some c)->
  ∃cl,(do
   let s<-forIn names cs (fun(x:Str×NameKind)cs=>match x with
    |(name,kind)=>if (kind==NameKind.free)=true then do
      let a<-cellOf env name
      pure (ForInStep.yield ((name,a)::cs))
     else pure (ForInStep.yield cs))
   pure s:Sem (List (Str×Addr)))=(pure cl:Sem _)/\
   (∀x c,cl.lookup x=some c->env.cells.lookup x=some c)/\(∀x,(x,NameKind.free)∈names->∃c,cl.lookup x=some c)/\∀x c,cs.lookup x=some c->∃c,cl.lookup x=some c:=by
 intro names
 induction names with
 |nil=>intro cs h1 h2;exact⟨cs,rfl,h2,by simp,fun x c e=>⟨c,e⟩⟩
 |cons p r ih=>
  intro cs h1 h2
  obtain⟨n,k⟩:=p
  by_cases hk:k=.free
  ·subst hk
   obtain⟨c,hc⟩:=h1 _ QYz rfl
   have q2:∀x d,((n,c)::cs).lookup x=some d->env.cells.lookup x=some d:=fun x d e=>by
    rw[QHz]at e
    cases hx:x==n with
    |true=>rw[hx]at e;cases e;rw[eq_of_beq hx];exact hc
    |false=>rw[hx]at e;exact h2 x d e
   obtain⟨cl,e1,e2,e3,e4⟩:=ih _ (fun x hx=>h1 x (QYq _ hx)) q2
   have own:=e4 n c (by simp[QHz])
   refine⟨cl,?_,e2,fun x hx=>?_,fun x d e=>?_⟩
   ·rw[<-e1]
    have:cellOf env n=pure c:=by unfold cellOf;rw[hc]
    simp only[List.forIn_cons]
    rw[if_pos (show(NameKind.free==NameKind.free)=true from rfl),this]
    rfl
   ·rcases QCq.mp hx with z|z
    ·cases z;exact own
    ·exact e3 x z
   ·cases hx:x==n with
    |true=>rw[eq_of_beq hx];exact own
    |false=>exact e4 x d (by rw[QHz,hx];exact e)
  ·obtain⟨cl,e1,e2,e3,e4⟩:=ih cs (fun x hx=>h1 x (QYq _ hx)) h2
   refine⟨cl,?_,e2,fun x hx=>?_,e4⟩
   ·rw[<-e1]
    simp only[List.forIn_cons]
    rw[if_neg (fun z=>hk (eq_of_beq z))]
    rfl
   ·rcases QCq.mp hx with z|z
    ·cases z;exact absurd rfl hk
    ·exact e3 x z
def agH{env:Env}(h:∀x∈scope.names,x.2=.free->∃c,env.cells.lookup x.1=some c):∃cl,O6 scope env cl:=by
 obtain⟨cl,e1,e2,e3,_⟩:=Dj env scope.names [] h (by simp)
 refine⟨cl,?_,e2,fun x hx=>e3 x (PySem.mem_of_lookup hx)⟩
 have q:closureFor scope env=(forIn scope.names [] (fun(x:Str×NameKind)cs=>match x with
    |(name,kind)=>if (kind==NameKind.free)=true then do
      let a<-cellOf env name
      pure (ForInStep.yield ((name,a)::cs))
     else pure (ForInStep.yield cs)))>>=pure:=rfl
 rw[q,e1]
 rfl
section
variable{it cond elt:E}{pos spos py:Pos}
theorem Gq{env:Ev}{H:Hp}{Q:VK}
  (q:tM K W env (ev c (.comp nl tg it cond elt) env) σ H Q)
  (k:∀J H1 δ xs ys τ,Nx K env σ H δ H1->Gives K J xs H1->aP tg (ev c cond) (ev c elt) xs [] (List.replicate nl Sl.un++δ)=.ok ys τ->
   (∀v H2,Nx K env σ H (τ.drop nl) H2->gr K σ H H2 (.new (.lst ys)) v->Q v H2)->R J H1):tI K W env (ev c it env) σ H R:=by
 simp only[lX]at q
 obtain⟨S,q⟩:=q
 refine⟨S,?_⟩
 cases r:ev c it env with
 |bad=>rw[r]at q;exact q
 |exc k δ=>rw[r]at q;exact q
 |ok x δ=>
  rw[r]at q
  have go:∀d,x.jl=some d->(match (match items d with
    |some xs=>match aP tg (ev c cond) (ev c elt) xs [] (List.replicate nl Sl.un++δ)with
     |.ok ys τ=>Out.ok (Rv.new (.lst ys)) (τ.drop nl)
     |_=>.bad
    |none=>.bad)with
   |.ok x env'=>∀v H',Nx K env σ H env' H'->gr K σ H H' x v->Q v H'
   |.exc c env'=>∀H',Nx K env σ H env' H'->W c env' σ H'
   |.bad=>False)->∃d xs,x.jl=some d/\items d=some xs/\∀J H',Nx K env σ H δ H'->Gives K J xs H'->R J H':=fun d ed z=>by
   cases e1:items d with
   |none=>rw[e1]at z;exact z.elim
   |some xs=>
    rw[e1]at z
    simp only at z
    cases e2:aP tg _ _ xs [] _ with
    |bad=>rw[e2]at z;exact z.elim
    |exc k τ=>rw[e2]at z;exact z.elim
    |ok ys τ=>
     rw[e2]at z
     exact⟨d,xs,ed,e1,fun J H1 N G=>k J H1 δ xs ys τ N G e2 z⟩
  cases x with
  |val d=>exact go d rfl q
  |new o=>exact go o.d rfl q
  |ref i=>exact q.elim
def Inv.letGo{σ:St}{H:Hp}{C:Addr}(I:Inv X γ σ H s)(f:fP X γ H C)(hs:Heap.SameBut C s.heap h'):Inv X γ σ H {s with heap:=h'}:=by
 exact I.turned (fun b o hb e=>(hs.2 b hb).trans e) f.1 f.2.1 f.2.2.2.1 f.2.2.2.2.1 f.2.2.2.2.2
theorem Jb.cl{σ:St}{H:Hp}(sc:Jb X.env.scope scope η X.N)(I:Inv X γ σ H s):∃cl,O6 scope X.env cl:=
 agH fun x hx hf=>I.ok.has x.1 (sc.fre x hx hf)
def RQ(B:Ah X c scope η tg cond elt Φ Θ ifs)(hi:GI X W c it Φ ο)(hc:X.calm=true)(hs:∀x,foldedSetIterable ο X.env x=pure x):
  GE X W c (.comp η.length tg it cond elt) (.ListComp Θ [⟨Φ,ο,ifs,0⟩] scope pos):=by
 intro env γ s σ H Q I q
 obtain⟨cl,co⟩:=B.sc.cl I
 refine wpAny_comprehension_free rfl hs co.eq B.sc.kind B.sc.locs (cu (hi env γ s σ H _ I (Gq q (R:=fun J H1=>∃δ xs ys τ,Nx X.K env σ H δ H1/\Gives X.K J xs H1/\aP tg _ _ xs [] _=.ok ys τ/\
  (∀v H2,Nx X.K env σ H _ H2->gr X.K σ H H2 _ v->Q v H2)) fun J H1 δ xs ys τ N G e z=>⟨δ,xs,ys,τ,N,G,e,z⟩)) fun v s1 h1=>cu h1 fun itv s2 h2=>?_)
 obtain⟨ita,fp,tn,J,H1,rfl,I1,T,t0,hf,δ,xs,ys,τ,N,G,e,z⟩:=h2
 refine vy B hc co I1 N.eX T t0 hf G e fun D C s' H' vs m I' N' hD hl hn hC fC=>?_
 refine⟨m,hC,fun h' hs'=>⟨.ref D,H',Inv.letGo I' fC hs',rfl,z _ _ (N.trans N') ⟨D,rfl,⟨_,hD,vs,rfl,hl⟩,N.dom D hn⟩⟩⟩
def Cr{x:Str}(B:Ah X c scope η tg cond elt Φ Θ ifs)(hi:GI X W c it Φ ο)(hc:X.calm=true)(hs:∀x,foldedSetIterable ο X.env x=pure x)
  (hN:X.N.Nodup)(hx:X.N[i]? =some x)(hl:Loc X.env.scope x)(hf:X.fn x=true\/X.env.scope.names.lookup x=some .local)
  (hsw:swapsWith (.ListComp Θ [⟨Φ,ο,ifs,0⟩] scope pos) (some (.Name x py)) spos.line X.env=pure true):
  GS X W c (.set i (.comp η.length tg it cond elt)) (.Assign [.Name x py] (.ListComp Θ [⟨Φ,ο,ifs,0⟩] scope pos) spos):=by
 intro env γ s σ H D I q
 obtain⟨cl,co⟩:=B.sc.cl I
 rw[exec_Assign_Name_used _ _ _ _ hsw]
 refine QKq (wpAny_standAt (QKq ?_))
 refine QKq (QGq (wpAny_comprehension_free rfl hs co.eq B.sc.kind B.sc.locs
  (cu (hi env γ s σ H _ I (Gq (Eg q) (R:=fun J H1=>∃δ xs ys τ,Nx X.K env σ H δ H1/\Gives X.K J xs H1/\aP tg _ _ xs [] _=.ok ys τ/\
  (∀v H2,Nx X.K env σ H _ H2->gr X.K σ H H2 _ v->D.nx _ H2)) fun J H1 δ xs ys τ N G e z=>⟨δ,xs,ys,τ,N,G,e,z⟩)) fun v s1 h1=>cu h1 fun itv s2 h2=>?_))
  (fun _ s' hq=>QKz (QKz hq)) fun _ _ e=>e)
 obtain⟨ita,fp,tn,J,H1,rfl,I1,T,t0,hf',δ,xs,ys,τ,N,G,e,z⟩:=h2
 refine vy B hc co I1 N.eX T t0 hf' G e fun A C s' H' vs m I' N' hD hl' hn hC fC=>?_
 refine wpAny_assign_Name (uo (v:=.ref A) I' hN hx hl rfl (fun s'' I''⟨a,ha,hor⟩=>?_) hf)
 have hCa:C≠a:=by
  rcases hor with rfl|hor
  ·exact fC.2.1
  ·exact fun z=>fC.2.2.2.2.1 x a hor z.symm
 refine⟨m,hC.sameBut ha hCa,fun h' hs'=>⟨_,H',Inv.letGo I'' fC hs',z _ _ (N.trans N') ⟨A,rfl,⟨_,hD,vs,rfl,hl'⟩,N.dom A hn⟩⟩⟩
end
section
theorem Ik(hq:jg K H a vs)(l:ao K H xs vs)(hz:vs.length<=sizeLine):Gives K (Itt K a) xs H where
 go:=fun H1 p i d e=>by
  obtain⟨v,ev,_⟩:=l.get e
  exact⟨vs,v,p.Wd hq,ev⟩
 yld:=fun H1 p i d e x H2 y=>by
  obtain⟨rfl,y⟩:=y
  obtain⟨v,ev,dv⟩:=l.get e
  have:=y vs (p.Wd hq)
  rw[ev]at this
  cases this
  exact⟨dv.mono p,.inl rfl⟩
 stop:=fun H1 p i hi=>⟨vs,p.Wd hq,by rw[<-l.length];exact hi⟩
 len:=by rw[l.length];exact hz
theorem Il(hq:GD K H a vs)(l:ao K H xs vs)(hz:vs.length<=sizeLine):Gives K (Itl K a) xs H where
 go:=fun H1 p i d e=>by
  obtain⟨v,ev,_⟩:=l.get e
  exact⟨vs,v,(p.RW hq).sq,ev⟩
 yld:=fun H1 p i d e x H2 y=>by
  obtain⟨rfl,y⟩:=y
  obtain⟨v,ev,dv⟩:=l.get e
  have:=y vs (p.RW hq).sq
  rw[ev]at this
  cases this
  exact⟨dv.mono p,.inl rfl⟩
 stop:=fun H1 p i hi=>⟨vs,(p.RW hq).sq,by rw[<-l.length];exact hi⟩
 len:=by rw[l.length];exact hz
noncomputable def Its(x:Str):It:=⟨fun i _=>i<x.cps.size,fun i H v H'=>H'=H/\∃c,x.cps[i]? =some c/\v=.str ⟨#[c]⟩,fun i _=>x.cps.size<=i⟩
def signs_get{i:Nat}(h:(signs x)[i]? =some d):∃c,x.cps[i]? =some c/\d=.str ⟨#[c]⟩:=by
 unfold signs at h
 rw[QFz]at h
 cases e:x.cps.toList[i]? with
 |none=>rw[e]at h;cases h
 |some c=>rw[e]at h;cases h;exact⟨c,by simpa using e,rfl⟩
def nH x:(signs x).length=x.cps.size:=by simp[signs]
theorem u9(hz:x.cps.size<=sizeLine):Gives K (Its x) (signs x) H where
 go:=fun H1 p i d e=>by
  have:=(QCz.mp e).1
  rw[nH]at this
  exact this
 yld:=fun H1 p i d e v H2 y=>by
  obtain⟨rfl,c,e1,rfl⟩:=y
  obtain⟨c',e2,rfl⟩:=signs_get e
  rw[e1]at e2
  cases e2
  exact⟨rfl,.inl rfl⟩
 stop:=fun H1 p i hi=>by rw[nH]at hi;exact hi
 len:=by rw[nH];exact hz
end
section
theorem ye it x t ty(W:∀A':Around,A'.handled=none->Walks P w A' it [it] [it] x.cps.size (SignAt x) (fun i h=>h.IsStrIter it ty x t i))
  (hn:["enumerate","zip","dict_itemiterator","dict_reverseitemiterator","odict_iterator","itertools.zip_longest","itertools.pairwise"].contains ty=false)
  (hself:∀(A:Around)(i:Nat)(s:Shared)(Q:QZq)(E:QZq),s.heap.IsStrIter it ty x t i->Q (.ref it) s->wpAny (model P w) A (pyIter (.ref it)) Q E s):
  Turn P w K tg (Its x) [it] it (fun i h=>h.IsStrIter it ty x t i/\i<=x.cps.size) where
 mem:=by simp
 obj:=fun i h st b hb=>by
  have e:b=it:=by simpa using hb
  subst e
  obtain⟨⟨o,e,_,d⟩,_⟩:=st
  exact⟨o,e,fun v z=>by rw[d]at z;cases z⟩
 keep:=fun i h h' st k=>⟨let ⟨o,e,r⟩:=st.1;⟨o,k it (by simp) o e,r⟩,st.2⟩
 item:=by
  intro X hP hw hK hc i γ s σ H E I hf st hg
  obtain⟨f0,f1,f2,f3,f4,f5⟩:=hf it (by simp)
  refine(W X.A (I.ok.hd hc)).item i s _ _ hg st.1 fun v h' tk hv st' kk=>?_
  obtain⟨c,t,hx,rfl⟩:=hv
  obtain⟨o,e,cl,d⟩:=id st'
  exact⟨_,rfl,FZ e cl d hn ⟨.str ⟨#[c]⟩,H,(I.turned (fun b o hb e=>kk b o (by simpa using hb) e) f0 f1 f3 f4 f5),⟨t,rfl⟩,⟨rfl,c,hx,rfl⟩,⟨st',hg⟩,fun b hb=>(hf b hb).1⟩⟩
 done:=by
  intro X hP hw hK hc i γ s σ H E I hf st hg
  obtain⟨f0,f1,f2,f3,f4,f5⟩:=hf it (by simp)
  have e:=Nat.le_antisymm st.2 hg
  subst e
  exact(W X.A (I.ok.hd hc)).done s _ _ st.1 fun h' tk kk=>⟨rfl,I.turned (fun b o hb e=>kk b o (by simpa using hb) e) f0 f1 f3 f4 f5⟩
 self:=fun A i s Q E st h=>hself A i s Q E st.1 h
end
section
end
section
end
section
theorem Mf{σ:St}{s:Shared}{d:D}{v:V}(I:Inv X γ σ H s)(rv:RelV v u)(hd:bD X.K H d v)(hi:items d=some xs)(q:∀J,Gives X.K J xs H->R J H):
  wpAny (model X.prog X.w) X.A (pyIter u) (PIE X γ σ tg R) X.xe s:=by
 cases d with
 |tup ds=>
  cases hi
  obtain⟨a,vs,rfl,hq,l⟩:=cg hd
  cases rv
  obtain⟨its,r,p,hz⟩:=I.tuple hq
  refine wpAny_pyIter_tuple (p) ?_
  refine⟨s.heap.objs.size,[s.heap.objs.size],_,_,H,rfl,I.kept fun b o e=>QWq _ e,Aq a _,⟨_,Qzq _ rfl,rfl,rfl⟩,fun b hb=>?_,q _ (Ik hq l hz)⟩
  have e:b=s.heap.objs.size:=by simpa using hb
  subst e
  exact I.zL (QVz _) (I.hok.fresh (QVz _))
 |lst ds=>
  cases hi
  obtain⟨a,vs,rfl,hq,l⟩:=cR hd
  cases rv
  obtain⟨its,r,p,hz⟩:=I.list hq.sq
  refine wpAny_pyIter_list p.isList ?_
  refine⟨s.heap.objs.size,[s.heap.objs.size],_,_,H,rfl,I.kept fun b o e=>QWq _ e,GQ a _,⟨_,Qzq _ rfl,rfl,rfl⟩,fun b hb=>?_,q _ (Il hq l hz)⟩
  have e:b=s.heap.objs.size:=by simpa using hb
  subst e
  exact I.zL (QVz _) (I.hok.fresh (QVz _))
 |str x=>
  simp only[items]at hi
  split at hi
  ·rename_i hf
   cases hi
   cases hd
   obtain⟨t,rfl⟩:=rv
   have hz:=dF hf
   have fin:∀b∈[s.heap.objs.size],fP X γ H b:=fun b hb=>by
    have e:b=s.heap.objs.size:=by simpa using hb
    subst e
    exact I.zL (QVz _) (I.hok.fresh (QVz _))
   cases ha:x.cps.all _
   ·exact wpAny_pyIter_wide ha ⟨s.heap.objs.size,[s.heap.objs.size],_,_,H,rfl,I.kept fun b o e=>QWq _ e,ye _ x t "str_iterator" (fun A' hA=>Walks.strWide hA _ x t) (by decide) (fun A i s Q E st h=>wpAny_pyIter_striter_wide st h),⟨⟨_,Qzq _ rfl,rfl,rfl⟩,QIq _⟩,fin,q _ (u9 hz)⟩
   ·exact wpAny_pyIter_ascii ha ⟨s.heap.objs.size,[s.heap.objs.size],_,_,H,rfl,I.kept fun b o e=>QWq _ e,ye _ x t "str_ascii_iterator" (fun A' hA=>Walks.strAscii hA _ x t) (by decide) (fun A i s Q E st h=>wpAny_pyIter_striter_ascii st h),⟨⟨_,Qzq _ rfl,rfl,rfl⟩,QIq _⟩,fin,q _ (u9 hz)⟩
  ·cases hi
 |_=>cases hi
def acJ(h:GE X W c m e):GI X W c m tg e:=by
 intro env γ s σ H R I q
 refine cu (h.d γ s σ H (fun v H'=>∃d xs,bD X.K H' d v/\items d=some xs/\∀J,Gives X.K J xs H'->R J H') I ⟨env,q.1,?_⟩) fun u s1⟨v,H1,I1,r1,d,xs,hd,hi,q1⟩=>Mf I1 r1 hd hi q1
 have q2:=q.2
 cases r:ev c m env with
 |bad=>rw[r]at q2;exact q2
 |exc k δ=>rw[r]at q2;exact q2
 |ok x δ=>
  rw[r]at q2
  obtain⟨d,xs,ed,ei,q3⟩:=q2
  cases x with
  |val d'=>cases ed;exact fun v H' N Dv=>⟨d,xs,Dv,ei,fun J G=>q3 J H' N G⟩
  |new o=>cases ed;exact fun v H' N Dv=>⟨o.d,xs,Dv,ei,fun J G=>q3 J H' N G⟩
  |ref i=>cases ed
end
noncomputable def tyN:Ty->String
 |.tup=>"tuple"
 |.lst=>"list"
 |.str=>"str"
 |.bool=>"bool"
 |.int=>"int"
section
noncomputable def afx(K:QQq):List V->Hp->VK->Prop:=fun xs H Q=>∃d v t,xs=[v,.ty (tyN t)]/\bD K H d v/\Q (.bl (tX t d)) H
def NT:fJ X (.builtin "isinstance") (afx X.K):=by
 intro γ s σ H xs us Q I r h
 obtain⟨d,v,t,rfl,hd,q⟩:=h
 obtain⟨u,u',rfl,ru,rt⟩:=Vals.two r
 cases rt
 have fin:∀k,Q _ H->EP X γ σ Q _ {s with toks:=s.toks+1}:=fun k z=>⟨.bl k,H,I.tok _,rfl,z⟩
 have fin0:∀k,Q _ H->EP X γ σ Q _ s:=fun k z=>⟨.bl k,H,I,rfl,z⟩
 cases d with
 |non=>
  cases hd;cases ru
  cases t with
  |tup=>exact IsiPair.NoneType_tuple (fin _ q)
  |lst=>exact IsiPair.NoneType_list (fin _ q)
  |str=>exact IsiPair.NoneType_str (fin _ q)
  |bool=>exact IsiPair.NoneType_bool (fin _ q)
  |int=>exact IsiPair.NoneType_int (fin _ q)
 |bl k=>
  cases hd;cases ru
  cases t with
  |tup=>exact IsiPair.bool_tuple (fin _ q)
  |lst=>exact IsiPair.bool_list (fin _ q)
  |str=>exact IsiPair.bool_str (fin _ q)
  |bool=>exact IsiPair.bool_bool (fin0 _ q)
  |int=>exact IsiPair.bool_int (fin0 _ q)
 |int k=>
  cases hd;obtain⟨tk,rfl⟩:=ru
  cases t with
  |tup=>exact IsiPair.int_tuple (fin _ q)
  |lst=>exact IsiPair.int_list (fin _ q)
  |str=>exact IsiPair.int_str (fin _ q)
  |bool=>exact IsiPair.int_bool (fin _ q)
  |int=>exact IsiPair.int_int (fin0 _ q)
 |str k=>
  cases hd;obtain⟨tk,rfl⟩:=ru
  cases t with
  |tup=>exact IsiPair.str_tuple (fin _ q)
  |lst=>exact IsiPair.str_list (fin _ q)
  |str=>exact IsiPair.str_str (fin0 _ q)
  |bool=>exact IsiPair.str_bool (fin _ q)
  |int=>exact IsiPair.str_int (fin _ q)
 |tup ds=>
  obtain⟨a,vs,rfl,hq,_⟩:=cg hd
  cases ru
  obtain⟨its,_,⟨o,e,cl,_⟩,_⟩:=I.tuple hq
  cases t with
  |tup=>exact IsiPair.tuple_tuple e cl (fin0 _ q)
  |lst=>exact IsiPair.tuple_list e cl (fin _ q)
  |str=>exact IsiPair.tuple_str e cl (fin _ q)
  |bool=>exact IsiPair.tuple_bool e cl (fin _ q)
  |int=>exact IsiPair.tuple_int e cl (fin _ q)
 |lst ds=>
  obtain⟨a,vs,rfl,hq,_⟩:=cR hd
  cases ru
  obtain⟨its,_,⟨o,n,e,cl,_⟩,_⟩:=I.list hq.sq
  cases t with
  |tup=>exact IsiPair.list_tuple e cl (fin _ q)
  |lst=>exact IsiPair.list_list e cl (fin0 _ q)
  |str=>exact IsiPair.list_str e cl (fin _ q)
  |bool=>exact IsiPair.list_bool e cl (fin _ q)
  |int=>exact IsiPair.list_int e cl (fin _ q)
 |dU ks ds=>
  obtain⟨a,o,kvs,rfl,ha,_⟩:=hd
  cases ru
  obtain⟨e,_,_,_,_,o',_,_,e',ex,_⟩:=I.hok a _ ha
  rw[e]at e'
  cases e'
  have cl:=ex.1
  cases t with
  |tup=>exact IsiPair.dict_tuple e cl (fin _ q)
  |lst=>exact IsiPair.dict_list e cl (fin _ q)
  |str=>exact IsiPair.dict_str e cl (fin _ q)
  |bool=>exact IsiPair.dict_bool e cl (fin _ q)
  |int=>exact IsiPair.dict_int e cl (fin _ q)
 |gH ks ds=>
  obtain⟨a,o,kvs,rfl,ha,_⟩:=hd
  cases ru
  obtain⟨e,_,_,_,_,o',_,_,_,e',ex,_⟩:=I.hok a _ ha
  rw[e]at e'
  cases e'
  have cl:=ex.1
  cases t with
  |tup=>exact IsiPair.dict_tuple e cl (fin _ q)
  |lst=>exact IsiPair.dict_list e cl (fin _ q)
  |str=>exact IsiPair.dict_str e cl (fin _ q)
  |bool=>exact IsiPair.dict_bool e cl (fin _ q)
  |int=>exact IsiPair.dict_int e cl (fin _ q)
def Yy{x:Str}(ha:GE X W c m a)(hx:x=Str.ofString (tyN t))(hg:Gl X x)(hm:X.mg x=none)(hi:Gl X "isinstance")(hmi:X.mg "isinstance"=none)
  (hs:starEach [a,.Name x p'] X.env=(false,eval a X.env)::starEach [.Name x p'] X.env):
  GE X W c (.isi m t) (.Call (.Name "isinstance" p) [a,.Name x p'] [] pos):=by
 intro env
 have hv:bootBuiltins x=some (.type (tyN t)):=by subst hx;cases t<;>kernel_rfl
 have N:PE X (.Name x p') (tC (.ty _)):=Q4 hg hm hv rfl (by subst hx;cases t<;>decide+kernel) (by subst hx;cases t<;>decide+kernel)
 exact PE.imp (qM NT hi hmi (by kernel_rfl) (cI ha.d (cI N eQ rfl) hs) (by decide+kernel) (by decide+kernel) hs rfl) fun σ H Q q=>⟨env,aU q fun d δ v H1 N1 D1 q1=>⟨d,v,t,rfl,D1,dW q1 rfl⟩⟩
end
def pI(X:Cx)(r:List V->Hp->VK->Prop)(f:D->Option Rv):Prop:=
 ∀(env:Ev)(σ:St)(H:Hp)(x:D)(z:Rv)(v:V)(Q:VK),Sat X.K env σ H->cU X.K H x v->f x=some z->(∀w H',Nx X.K env σ H env H'->gr X.K σ H H' z w->Q w H')->r [v] H Q
section
def N7{r:List V->Hp->VK->Prop}(R:pI X r (b1 bb)){σ:St}{Q:VK}(hv:m.aq=none)(q:tM X.K W env (ev c (.bi bb m) env) σ H Q):aD X W c m σ H fun v H1=>r [v] H1 Q:=by
 simp only[o9,hv]at q
 refine⟨env,aU q fun d δ v H1 N1 D1 q1=>?_⟩
 obtain⟨z,ez,S,q3⟩:=cH q1
 exact R δ σ H1 d z v Q S (.inl D1) ez q3
def Gy{r:List V->Hp->VK->Prop}(R:pI X r (b1 bb)){σ:St}{Q:VK}(hv:m.aq=some k)(q:tM X.K W env (ev c (.bi bb m) env) σ H Q):JC k σ H fun v H1=>r [v] H1 Q:=by
 simp only[o9,hv]at q
 obtain⟨z,ez,S,q3⟩:=cH q
 cases e0:bw k env with
 |none=>rw[e0]at ez;cases ez
 |some d0=>
  rw[e0]at ez
  obtain⟨u,eu,Du⟩:=dq S e0
  exact⟨u,eu,R env σ H d0 z u Q S Du ez q3⟩
theorem wX{id:String}{x:Str}(C:fJ X (.builtin id) r)(R:pI X r (b1 bb))(ha:GE X W c m a)(hv:∀k,m.aq=some k->∃x p,a=.Name x p/\ik X k x)
  (hg:Gl X x)(hm:X.mg x=none)(hb:bootBuiltins x=some (.builtin id))(hn:x≠"__name__")(hd:(x==("__debug__":Str))=false)(hs:starEach [a] X.env=[(false,eval a X.env)]):
  GE X W c (.bi bb m) (.Call (.Name x p) [a] [] pos):=by
 intro env
 cases q:m.aq with
 |none=>exact PE.imp (qM C hg hm hb (cI ha.d eQ hs) hn hd hs rfl) fun σ H Q h=>N7 R q h
 |some k=>
  obtain⟨y,p',rfl,nm⟩:=hv k q
  exact PE.imp (qM C hg hm hb (cI nm.pe eQ hs) hn hd hs rfl) fun σ H Q h=>Gy R q h
theorem CG{id:String}{x:Str}(C:fJ X (.type id) r)(R:pI X r (b1 bb))(ha:GE X W c m a)(hv:∀k,m.aq=some k->∃x p,a=.Name x p/\ik X k x)
  (hg:Gl X x)(hm:X.mg x=none)(hb:bootBuiltins x=some (.type id))(hn:x≠"__name__")(hd:(x==("__debug__":Str))=false)(hs:starEach [a] X.env=[(false,eval a X.env)]):
  GE X W c (.bi bb m) (.Call (.Name x p) [a] [] pos):=by
 intro env
 cases q:m.aq with
 |none=>exact PE.imp (nW C hg hm hb (cI ha.d eQ hs) hn hd hs rfl) fun σ H Q h=>N7 R q h
 |some k=>
  obtain⟨y,p',rfl,nm⟩:=hv k q
  exact PE.imp (nW C hg hm hb (cI nm.pe eQ hs) hn hd hs rfl) fun σ H Q h=>Gy R q h
def cU.seq{H:Hp}{xs:List D}(h:cU K H d v)(e:bK d=some xs):∃a vs,v=.ref a/\(jm K H a vs\/jg K H a vs)/\ao K H xs vs:=by
 cases d with
 |tup ys=>cases e;exact h.Qk
 |lst ys=>cases e;exact h.JQ
 |_=>cases e
theorem cU.dU{H:Hp}{v:V}(h:cU K H (.dU ks ds) v):∃a kvs,v=.ref a/\Rd H a (.dK kvs)/\ks=kvs.map (fun p=>dI p.1)/\ao K H ds (kvs.map (·.2)):=by
 rcases h with h|⟨o,a,q,rfl,u,ha,hq⟩
 ·unfold bD at h
  obtain⟨a,o,kvs,rfl,ha,k,l⟩:=h
  exact⟨a,kvs,rfl,.inr ⟨o,ha⟩,k,l⟩
 ·cases o<;>cases q
  obtain⟨kvs,rfl,k,l⟩:=hq
  exact⟨a,kvs,rfl,.inl ha,k,l⟩
theorem cU.gH{K:QQq}{H:Hp}{ks ds:List D}{v:V}(h:cU K H (.gH ks ds) v):∃a xs,v=.ref a/\Rd H a (sD xs)/\gk K H ks ds xs:=by
 rcases h with h|⟨o,a,q,rfl,u,ha,hq⟩
 ·unfold bD at h
  obtain⟨a,o,xs,rfl,ha,l⟩:=h
  exact⟨a,xs,rfl,.inr ⟨o,ha⟩,l⟩
 ·cases o<;>cases q
  obtain⟨xs,rfl,l⟩:=hq
  exact⟨a,xs,rfl,.inl ha,l⟩
noncomputable def Wy(K:QQq):List V->Hp->VK->Prop:=fun xs H Q=>(∃x n,xs=[x]/\Zf K x H n/\Q (.int n) H)\/(∃a kvs,xs=[.ref a]/\Rd H a (.dK kvs)/\Q (.int kvs.length) H)\/∃a ys,xs=[.ref a]/\Rd H a (sD ys)/\Q (.int ys.length) H
def IK:fJ X (.builtin "len") (Wy X.K):=by
 intro γ s σ H xs us Q I r h
 rcases h with h|⟨a,kvs,rfl,e,q⟩|⟨a,ys,rfl,e,q⟩
 ·exact NQ γ s σ H xs us Q I r h
 ·obtain⟨u,rfl,ru⟩:=vals1 r
  cases ru
  exact acR I e fun t s' I'=>⟨.int kvs.length,H,I',⟨t,rfl⟩,q⟩
 ·obtain⟨u,rfl,ru⟩:=vals1 r
  cases ru
  exact abg I e fun t s' I'=>⟨.int ys.length,H,I',⟨t,rfl⟩,q⟩
def Qt:pI X (Wy X.K) (b1 .len):=by
 intro env σ H x z v Q S Dx e q
 have go:∀(n:Nat),HQ x=some n->Zf X.K v H n->Wy X.K [v] H Q:=fun n en ln=>by
  simp only[b1,en]at e
  cases e
  exact .inl ⟨v,n,rfl,ln,q _ H (Nx.refl S) rfl⟩
 cases x with
 |tup xs=>
  obtain⟨a,vs,rfl,hq,l⟩:=Dx.Qk
  refine go xs.length rfl ?_
  rcases hq with hq|hq
  ·exact .inl ⟨vs,hq,l.length⟩
  ·exact .inr ⟨vs,hq,l.length⟩
 |lst xs=>
  obtain⟨a,vs,rfl,hq,l⟩:=Dx.JQ
  refine go xs.length rfl ?_
  rcases hq with hq|hq
  ·exact .inl ⟨vs,hq,l.length⟩
  ·exact .inr ⟨vs,hq,l.length⟩
 |str y=>
  have:=Dx.str
  subst this
  by_cases hf:fits y.length=true
  ·exact go y.length (by simp[HQ,hf]) ⟨dF hf,rfl⟩
  ·simp[b1,HQ,hf]at e
 |dU ks ds=>
  cases e
  obtain⟨a,kvs,rfl,hr,hk,l⟩:=Dx.dU
  have e2:ks.length=kvs.length:=by rw[hk,QAq]
  exact .inr (.inl ⟨a,kvs,rfl,hr,by rw[<-e2];exact q _ H (Nx.refl S) rfl⟩)
 |gH ks ds=>
  cases e
  obtain⟨a,xs,rfl,hr,l⟩:=Dx.gH
  exact .inr (.inr ⟨a,xs,rfl,hr,by rw[<-l.len.1];exact q _ H (Nx.refl S) rfl⟩)
 |_=>cases e
def Qu:pI X (fun xs H Q=>(∃i,xs=[.int i]/\Q (.int i) H)\/∃k,xs=[.bl k]/\Q (.int (if k then 1 else 0)) H) (b1 .int):=by
 intro env σ H x z v Q S Dx e q
 cases x with
 |int i=>
  cases e
  have:=Dx.int
  subst this
  exact .inl ⟨i,rfl,q _ H (Nx.refl S) rfl⟩
 |bl k=>
  cases e
  rcases Dx with h|⟨o,a,q',_⟩
  ·cases h
   exact .inr ⟨k,rfl,q _ H (Nx.refl S) (by cases k<;>rfl)⟩
  ·cases o<;>cases q'
 |_=>cases e
def Hd:pI X (fun xs H Q=>∃p ys,xs=[.ref p]/\((jm X.K H p ys/\∀l,H l=none->Q (.ref l) (upd H l (.tup ys)))\/(jg X.K H p ys/\Q (.ref p) H))) (b1 .tuple):=by
 intro env σ H x z v Q S Dx e q
 simp only[b1]at e
 cases es:bK x with
 |none=>rw[es]at e;cases e
 |some xs=>
  rw[es]at e
  cases e
  obtain⟨a,vs,rfl,hq,l⟩:=Dx.seq es
  refine⟨a,vs,rfl,?_⟩
  rcases hq with hq|hq
  ·refine .inl ⟨hq,fun p hp=>?_⟩
   have N:=Nx.laid (o:=.tup vs) S hp
   exact q _ _ N (dB (.inl (.inl aK)) (l.mono N.pers))
  ·exact .inr ⟨hq,q _ H (Nx.refl S) (dB hq l)⟩
def JX:pI X (fun xs H Q=>(∃p ys,xs=[.ref p]/\(jm X.K H p ys\/jg X.K H p ys)/\∀l,H l=none->Q (.ref l) (upd H l (.lst ys)))\/∃a ks,xs=[.ref a]/\Rd H a (sD ks)/\∀l,H l=none->Q (.ref l) (upd H l (.lst (ks.map fun x=>.ref x.2.1)))) (b1 .list):=by
 intro env σ H x z v Q S Dx e q
 simp only[b1]at e
 have go:∀{xs:List D},bK x=some xs->Sq .list xs=some z->∃p ys,[v]=[V.ref p]/\(jm X.K H p ys\/jg X.K H p ys)/\∀l,H l=none->Q (.ref l) (upd H l (.lst ys)):=fun es e=>by
  cases e
  obtain⟨a,vs,rfl,hq,l⟩:=Dx.seq es
  exact⟨a,vs,rfl,hq,fun p hp=>q _ _ (Nx.laid S hp) (jT S l hp)⟩
 cases x with
 |gH ks ds=>
  cases e
  obtain⟨a,xs,rfl,hr,l⟩:=Dx.gH
  exact .inr ⟨a,xs,rfl,hr,fun p hp=>q _ _ (Nx.laid S hp) (jT S l.2.2.1 hp)⟩
 |tup xs=>exact .inl (go rfl e)
 |lst xs=>exact .inl (go rfl e)
 |_=>cases e
def BoolsAre.get{bs:List Bool}(h:BoolsAre vs bs):∀{i:Nat}{v:Value},vs[i]? =some v->∃b,bs[i]? =some b/\v=.bool b:=by
 induction h with
 |nil=>intro i v e;simp at e
 |cons b t ih=>
  intro i v e
  cases i with
  |zero=>simp at e;subst e;exact⟨b,rfl,rfl⟩
  |succ i=>exact ih (by simpa using e)
def range_all(bs:List Bool):((List.range bs.length).all fun i=>bs.getD i false)=bs.all id:=by
 rw[Bool.eq_iff_iff]
 simp only[List.all_eq_true,List.mem_range,id]
 constructor
 ·intro h b hb
  obtain⟨i,hi,e⟩:=List.mem_iff_getElem.mp hb
  have:=h i hi
  rw[List.getD_eq_getElem?_getD,QXq hi]at this
  simpa[e]using this
 ·intro h i hi
  rw[List.getD_eq_getElem?_getD,QXq hi]
  exact h _ (List.getElem_mem hi)
def range_any(bs:List Bool):((List.range bs.length).any fun i=>bs.getD i false)=bs.any id:=by
 rw[Bool.eq_iff_iff]
 simp only[List.any_eq_true,List.mem_range,id]
 constructor
 ·rintro ⟨i,hi,h⟩
  rw[List.getD_eq_getElem?_getD,QXq hi]at h
  exact⟨bs[i],List.getElem_mem hi,by simpa using h⟩
 ·rintro ⟨b,hb,h⟩
  obtain⟨i,hi,e⟩:=List.mem_iff_getElem.mp hb
  exact⟨i,hi,by rw[List.getD_eq_getElem?_getD,QXq hi];simpa[e]using h⟩
noncomputable def ZG(K:QQq)(f:List Bool->Bool):List V->Hp->VK->Prop:=fun xs H Q=>∃p vs ds bs,xs=[.ref p]/\(jm K H p vs\/jg K H p vs)/\ao K H ds vs/\bools ds=some bs/\Q (.bl (f bs)) H
def oR{w:World}{its:List Value}(hb:BoolsAre its bs):TruthOf P w A (fun i v=>its.toArray[i]? =some v) fun i=>bs.getD i false:=by
 intro i v s Q E hv h
 obtain⟨b,e,rfl⟩:=hb.get (by simpa using hv)
 have h:Q (bs.getD i false) s:=h
 rw[List.getD_eq_getElem?_getD,e]at h
 exact wpAny_truthy_bool h
def su{id:String}{g:Nat->(Nat->Bool)->Bool}(hc:X.calm=true)(hg:∀bs:List Bool,g bs.length (fun i=>bs.getD i false)=f bs)
  (hcall:∀{E:QZq}{s:Shared}{x:Value}{Q:QZq},
   wpAny (model X.prog X.w) X.A.in1 (pyIter x) (fun it s₂=>∃I fp wr n P St tr,it=.ref I/\Walks X.prog X.w X.A.in1 I fp wr n P St/\St 0 s₂.heap/\TruthOf X.prog X.w X.A.in1 P tr/\
    ∀h' tk,(∀b o,b∉wr->s₂.heap.get? b=some o->h'.get? b=some o)->Q (.bool (g n tr)) {s₂ with heap:=h',toks:=tk}) E s->wpAny (model X.prog X.w) X.A (call (.builtin id) [x]) Q E s):
  fJ X (.builtin id) (ZG X.K f):=by
 intro γ s σ H xs us Q I r h
 obtain⟨a,vs,ds,bs,rfl,hq,l,hb,q⟩:=h
 obtain⟨u,rfl,ru⟩:=Vals.one r
 cases ru
 have hh:X.A.in1.handled=none:=I.ok.hd hc
 refine hcall ?_
 have fin:∀its o,Vals vs its->∀h' tk,(∀b o',b∉[s.heap.objs.size]->(s.heap.push o).get? b=some o'->h'.get? b=some o')->EP X γ σ Q (.bool (g its.toArray.size fun i=>bs.getD i false)) {s with heap:=h',toks:=tk}:=fun its o rv h' tk k=>by
  have hl:its.toArray.size=bs.length:=by
   have:=(fV hb l rv).length
   simpa using this
  rw[hl,hg]
  refine⟨.bl (f bs),H,I.kept fun b o' e=>k b o' ?_ (QWq _ e),rfl,q⟩
  simp only[QDz]
  exact Qvz (Qqz e)
 rcases hq with hq|hq
 ·obtain⟨its,rv,p,hz⟩:=I.list hq
  have hlt:a≠s.heap.objs.size:=by
   obtain⟨o,n,e,_⟩:=p
   exact Qvz (Qqz e)
  refine wpAny_pyIter_list p.isList ⟨s.heap.objs.size,[s.heap.objs.size,a],[s.heap.objs.size],its.toArray.size,_,_,_,rfl,Walks.list hh _ a hlt its.toArray,⟨⟨_,Qzq _ rfl,rfl,rfl⟩,p.isList.at fun o e=>QWq _ e⟩,oR (fV hb l rv),fin its _ rv⟩
 ·obtain⟨its,rv,p,hz⟩:=I.tuple hq
  have hlt:a≠s.heap.objs.size:=by
   obtain⟨o,e,_⟩:=p
   exact Qvz (Qqz e)
  have p':s.heap.IsTuple a its.toArray:=p
  refine wpAny_pyIter_tuple p' ⟨s.heap.objs.size,[s.heap.objs.size,a],[s.heap.objs.size],its.toArray.size,_,_,_,rfl,Walks.tuple hh _ a hlt its.toArray,⟨⟨_,Qzq _ rfl,rfl,rfl⟩,p'.at fun o e=>QWq _ e⟩,oR (fV hb l rv),fin its _ rv⟩
def I8(hc:X.calm=true):fJ X (.builtin "all") (ZG X.K (·.all id)):=su hc range_all call_all_walk
def IW(hc:X.calm=true):fJ X (.builtin "any") (ZG X.K (·.any id)):=su hc range_any call_any_walk
def uy{f:List Bool->Bool}(hb:∀xs,Sq bb xs=(bools xs).map fun bs=>.val (.bl (f bs)))(h1:∀x,b1 bb x=(bK x).bind (Sq bb)):pI X (ZG X.K f) (b1 bb):=by
 intro env σ H x z v Q S Dx e q
 rw[h1]at e
 cases es:bK x with
 |none=>rw[es]at e;cases e
 |some xs=>
  rw[es]at e
  simp only[Option.bind,hb]at e
  cases eb:bools xs with
  |none=>rw[eb]at e;cases e
  |some bs=>
   rw[eb]at e
   cases e
   obtain⟨a,vs,rfl,hq,l⟩:=Dx.seq es
   exact⟨a,vs,xs,bs,rfl,hq,l,eb,q _ H (Nx.refl S) rfl⟩
def Qw:pI X (ZG X.K (·.all id)) (b1 .all):=uy (fun _=>rfl) fun _=>rfl
def Qv:pI X (ZG X.K (·.any id)) (b1 .any):=uy (fun _=>rfl) fun _=>rfl
end
end Mini
end
section
namespace HT
open PySem PySem.Spec PyProof.Rows
section
def kI{t sl:Addr}{vl vu:Value}{lo hi:Option Int}(ht:IsTup s.heap t items)(hs:s.heap.IsSliceOf sl vl vu .none)(pl:IsPart vl lo)(pu:IsPart vu hi)
  (hw:fG items.size 0 lo=0/\fG items.size items.size hi=items.size)(h:Q (.ref t) s):wpAny (model prog w) A (getItem (.ref t) (.ref sl)) Q E s:=by
 obtain⟨os,hos,hcs,hds⟩:=id hs
 unfold getItem
 try with_reducible refine Qqq ?_
 first|refine QKq _|skip
 refine QKq (wpAny_sequenceKey ht.typeIs (by decide) ?_)
 refine QKq (wpAny_callSpecial?_slot ht.typeIs PyProof.Rows.slot_tuple_getitem
  (Qzz PyProof.Rows.slot_tuple_getitem ht.typeIs entry_tuple_getitem ?_ (args_tuple_getitem _ _)))
 show wpAny _ _ (Builtin.Tuple.tupleItemsOf _>>=_) _ _ s
 refine QKq (tupleItemsOf_ ht ?_)
 refine QKq (wpAny_typeOf ⟨os,hos,hcs⟩ ?_)
 refine QKq (gU hs pl pu ?_)
 have hno:((((fG items.size 0 lo):Int)==0&&(1:Int)==1&&(fG items.size items.size hi-fG items.size 0 lo)==items.size)=true):=by
  rw[hw.1,hw.2];simp
 show wpAny _ _ (if (((fG items.size 0 lo):Int)==0&&1==1&&_==items.size)=true then _ else _) _ _ s
 rw[if_pos hno]
 exact QKq (QKq (wpAny_typeOf ht.typeIs (QKz (QKq (wpAny_rule (QKz ⟨_,rfl,QKz h⟩))))))
end
end HT
namespace Mini
open PySem L2
section
noncomputable def T6(K:QQq):V->Option Int->Option Int->Hp->VK->Prop:=fun x lo hi H Q=>∃a xs,x=.ref a/\jg K H a xs/\
 (HT.fG xs.length 0 lo=0/\HT.fG xs.length xs.length hi=xs.length)/\Q (.ref a) H
def Qf:SN X (T6 X.K):=by
 intro γ s σ H x v vl vu lo hi sl Q I rx hs pl pu h
 obtain⟨a,xs,rfl,hx,hw,q⟩:=h
 cases rx
 obtain⟨its,r,ht,hz⟩:=I.tuple hx
 have hlen:its.toArray.size=xs.length:=by rw[Qyq];exact r.length.symm
 exact⟨"tuple",_,PyProof.Rows.slot_tuple_getitem.lookup,ht.typeIs,HT.kI ht hs pl pu (by rw[hlen];exact hw) ⟨.ref a,H,I,rfl,q⟩⟩
noncomputable def abA(K:QQq):V->Option Int->Option Int->Hp->VK->Prop:=fun x lo hi H Q=>aby K x lo hi H Q\/T6 K x lo hi H Q\/abz K x lo hi H Q
def Wg:SN X (abA X.K):=Wf.or (Qf.or Qg)
def pQ n i d:clip n i=HT.fG n d (some i):=by
 unfold clip HT.fG
 dsimp only
 by_cases h:i<0
 ·rw[if_pos h,if_pos h]
  split
  ·omega
  ·split<;>omega
 ·rw[if_neg h,if_neg h,if_neg h]
  split<;>omega
def Y0{α:Type}(xs:List α)a b:(xs.take b).drop a=(xs.drop a).take (b-a):=by
 rw[List.drop_take]
def xx{H:Hp}{vs:List V}(l:ao K H ds vs)lo hi:ao K H (cut ds lo hi) (xF vs lo hi):=by
 have hl:=l.length
 unfold cut xF
 rw[Y0]
 cases lo with
 |none=>
  cases hi with
  |none=>rw[HT.my,HT.my,<-hl];exact(l.drop _).take _
  |some j=>rw[HT.my,<-hl,<-pQ];exact(l.drop _).take _
 |some i=>
  cases hi with
  |none=>rw[HT.my,<-hl,<-pQ];exact(l.drop _).take _
  |some j=>rw[<-hl,<-pQ,<-pQ];exact(l.drop _).take _
def Iz{lo hi:Option Int}(h:HT.fG vs.length 0 lo=0/\HT.fG vs.length vs.length hi=vs.length):xF vs lo hi=vs:=by
 unfold xF
 rw[h.1,h.2]
 simp
def Bc{env:Ev}{H:Hp}{z:Rv}{lo hi:Option Int}(S:Sat K env σ H)(D1:bD K H d v)(e:cJ d lo hi=some z)(q:∀w H',Nx K env σ H env H'->gr K σ H H' z w->Q w H'):abA K v lo hi H Q:=by
 cases d with
 |tup xs=>
  cases e
  obtain⟨a,vs,rfl,hq,l⟩:=cg D1
  by_cases hw:HT.fG vs.length 0 lo=0/\HT.fG vs.length vs.length hi=vs.length
  ·refine .inr (.inl ⟨a,vs,rfl,hq,hw,q _ H (Nx.refl S) ?_⟩)
   have:=xx l lo hi
   rw[Iz hw]at this
   exact dB hq this
  ·refine .inl ⟨a,vs,rfl,hq,hw,fun p hp=>?_⟩
   have N:=Nx.laid (o:=.tup (xF vs lo hi)) S hp
   exact q _ _ N (dB (.inl (.inl aK)) ((xx l lo hi).mono N.pers))
 |lst xs=>
  cases e
  obtain⟨a,vs,rfl,hq,l⟩:=cR D1
  exact .inr (.inr ⟨a,vs,rfl,hq.sq,fun p hp=>q _ _ (Nx.laid S hp) (jT S (xx l lo hi) hp)⟩)
 |_=>cases e
def GO(X:Cx)(W:Wi)(c:Cf)(m:E)(eo:Option Expr):Prop:=(m=.noneE/\eo=Option.none)\/∃e,eo=Option.some e/\m.dZ=false/\GE X W c m e
noncomputable def tPt(X:Cx)(W:Wi)(c:Cf)(m:E):TO:=fun σ H Q=>∃env,tD X.K W env (ev c m env) σ H fun v H1=>∀d,bD X.K H1 d v->∃o,bQ m.dZ d=some o/\Q o H1
def GO.po(h:GO X W c m eo):PO X eo (tPt X W c m):=by
 rcases h with ⟨rfl,rfl⟩|⟨e,rfl,hn,h⟩
 ·intro γ s σ H Q I q
  obtain⟨env,q⟩:=q
  obtain⟨o,e,z⟩:=q.2 .non H (Nx.refl q.1) rfl .non rfl
  cases e
  exact QS γ s σ H Q I z
 ·intro γ s σ H Q I q
  obtain⟨env,q⟩:=q
  refine QR h.d γ s σ H Q I ⟨env,q.1,?_⟩
  have q2:=q.2
  have go:∀d v H',bD X.K H' d v->(∀d,bD X.K H' d v->∃o,bQ m.dZ d=some o/\Q o H')->∃i,v=.int i/\Q (some i) H':=fun d v H' Dv z=>by
   obtain⟨o,e,z⟩:=z d Dv
   rw[hn]at e
   cases d with
   |int i=>cases e;exact⟨i,Dv,z⟩
   |_=>cases e
  cases r:ev c m env with
  |bad=>rw[r]at q2;exact q2
  |exc k δ=>rw[r]at q2;exact q2
  |ok x δ=>
   rw[r]at q2
   cases x with
   |val d=>exact fun v H' N Dv=>go d v H' Dv (q2 v H' N Dv)
   |new o=>exact fun v H' N Dv=>go o.d v H' Dv (q2 v H' N Dv)
   |ref i=>exact q2
def yS{H:Hp}{d d':D}{o:Option Int}(h:bD K H d v)(e:bQ dZ d=some o)(h':bD K H d' v):bQ dZ d'=some o:=by
 cases dZ with
 |true=>exact e
 |false=>
  cases d with
  |int i=>
   subst h
   cases d' with
   |int j=>cases (h');exact e
   |non=>cases (h')
   |bl b=>cases (h')
   |str x=>cases (h')
   |tup ds=>obtain⟨a,vs,z,_⟩:=cg h';cases z
   |lst ds=>obtain⟨a,vs,z,_⟩:=cR h';cases z
   |dU ks ds=>unfold bD at h';obtain⟨a,o,kvs,z,_⟩:=h';cases z
   |gH ks ds=>unfold bD at h';obtain⟨a,o,xs,z,_⟩:=h';cases z
  |_=>cases e
def Yr(ha:GE X W c m1 a)(hl:GO X W c m2 lo)(hh:GO X W c m3 hi):GE X W c (.slc m1 m2 m3) (.Subscript a (.Slice lo hi none p2) pos):=by
 intro env
 refine PE.imp (KD Wg ha.d hl.po hh.po) fun σ H Q q=>?_
 refine⟨env,aU q fun d δ v H1 N1 D1 q1=>⟨δ,aU q1 fun dl ε vl H2 N2 D2 q2 dl' D2'=>?_⟩⟩
 cases el:bQ m2.dZ dl with
 |none=>rw[el]at q2;exact q2.2.elim
 |some l=>
  rw[el]at q2
  refine⟨l,yS D2 el D2',ε,aU q2 fun dh env3 vh H3 N3 D3 q3 dh' D3'=>?_⟩
  obtain⟨z,ez,S,q4⟩:=cH q3
  cases eh:bQ m3.dZ dh with
  |none=>rw[eh]at ez;cases ez
  |some h=>
   rw[eh]at ez
   exact⟨h,yS D3 eh D3',Bc S (D1.mono (N2.trans N3).pers) ez q4⟩
def adk(X:Cx)(x:Str)(d:D):Prop:=∃v u,X.mg x=some u/\RelV v u/\∀H,bD X.K H d v
def RM{x:Str}(hk:c.gl k=some d)(h:adk X x d)(hg:Gl X x)(hd:(x==("__debug__":Str))=false):GE X W c (.glob k) (.Name x pos):=by
 obtain⟨v,u,hm,r,hD⟩:=h
 intro env
 refine PE.imp (QX hg hm r hd) fun σ H Q q=>?_
 simp only[v_2,hk]at q
 exact dW q (hD H)
end
def fY{a:Addr}(h:H a=some u)(hu:O7 u):bR H (upd H a u'):=by
 refine⟨fun b xs q=>?_,fun b o' w q=>?_⟩
 ·rw[au (fun z=>by subst z;rw[h]at q;cases q;exact hu.tup xs rfl)];exact q
 ·rw[au (fun z=>by subst z;rw[h]at q;cases q;exact hu.frz o' w rfl)];exact q
def pX{f:Ob->Option Ob}(h:cV k f env=some env'):∃o o',f o=some o'/\((env[k]? =some (.own o)/\env'=env.set k (.own o'))\/(env[k]? =some (.bor o)/\env'=env.set k (.bor o'))):=by
 unfold cV at h
 cases e:env[k]? with
 |none=>rw[e]at h;cases h
 |some s=>
  rw[e]at h
  cases s with
  |un=>cases h
  |val d=>cases h
  |own o=>
   cases e2:f o with
   |none=>simp only[e2]at h;cases h
   |some o'=>simp only[e2]at h;cases h;exact⟨o,o',e2,.inl ⟨rfl,rfl⟩⟩
  |bor o=>
   cases e2:f o with
   |none=>simp only[e2]at h;cases h
   |some o'=>simp only[e2]at h;cases h;exact⟨o,o',e2,.inr ⟨rfl,rfl⟩⟩
def Nx.turn{env:Ev}{H:Hp}{sl sl':Sl}{a:Addr}(S:Sat K env σ H)(hs:(sl=.own o/\sl'=.own o')\/(sl=.bor o/\sl'=.bor o'))(e:env[k]? =some sl)(es:σ[k]? =some (some (.ref a)))
  (ha:H a=some u)(hu:O7 u)(hd:Jg K H o' u'):Nx K env σ H (env.set k sl') (upd H a u'):=by
 have p:=fY (u':=u') ha hu
 have ow:isOwn sl=some o/\isOwn sl'=some o':=by rcases hs with ⟨rfl,rfl⟩|⟨rfl,rfl⟩<;>exact⟨rfl,rfl⟩
 have oa:aQ env σ k a:=⟨⟨_,o,e,ow.1⟩,es⟩
 have hi:=(QCz.mp e).1
 have sub:∀j b,aQ (env.set k sl') σ j b->aQ env σ j b:=fun j b z=>by
  obtain⟨⟨s,ys,e1,e2⟩,e3⟩:=z
  by_cases hj:k=j
  ·subst hj;exact⟨⟨sl,o,e,ow.1⟩,e3⟩
  ·rw[Qxz hj]at e1;exact⟨⟨s,ys,e1,e2⟩,e3⟩
 refine⟨⟨by simpa using S.len,fun j s ej=>?_,fun j l b z w=>S.ne j l b (sub j b z) (sub l b w)⟩,sub,p,fun b w q n=>?_,fun b q=>?_,fun j ys ej=>?_⟩
 ·by_cases hj:k=j
  ·subst hj
   rw[Qwq hi]at ej
   cases ej
   have at_:jk K _ o' a:=⟨u',aK,hd.mono p⟩
   rcases hs with ⟨_,rfl⟩|⟨_,rfl⟩
   ·exact⟨a,by rw[es];rfl,at_⟩
   ·exact⟨a,by rw[es];rfl,at_⟩
  ·rw[Qxz hj]at ej
   refine(S.sl j s ej).keep p fun b w ho ev hb=>?_
   have nb:b≠a:=fun z=>by
    subst z
    exact hj (S.ne k j b oa (ww ej ho ev))
   rw[au nb];exact hb
 ·rw[au (fun z=>by subst z;exact n k oa)];exact q
 ·by_cases hb:b=a
  ·subst hb;rw[aK]at q;cases q
  ·rw[au hb]at q;exact q
 ·by_cases hj:k=j
  ·subst hj
   rw[e]at ej
   cases ej
   rcases hs with ⟨z,_⟩|⟨_,rfl⟩
   ·cases z
   ·exact⟨o',by rw[Qwq hi]⟩
  ·exact⟨ys,by rw[Qxz hj];exact ej⟩
def DY{env env':Ev}{H:Hp}{f:Ob->Option Ob}(S:Sat K env σ H)(h:cV k f env=some env'):
  ∃o o' a u,f o=some o'/\σ[k]? =some (some (.ref a))/\H a=some u/\Jg K H o u/\bw k env=some o.d/\∀u',Jg K H o' u'->Nx K env σ H env' (upd H a u'):=by
 obtain⟨o,o',ef,hh⟩:=pX h
 rcases hh with ⟨e,rfl⟩|⟨e,rfl⟩
 ·obtain⟨a,e1,u,e2,e3⟩:=S.sl k _ e
  exact⟨o,o',a,u,ef,bZ e1,e2,e3,by unfold bw;rw[e],fun u' hd=>Nx.turn S (.inl ⟨rfl,rfl⟩) e (bZ e1) e2 e3.uE hd⟩
 ·obtain⟨a,e1,u,e2,e3⟩:=S.sl k _ e
  exact⟨o,o',a,u,ef,bZ e1,e2,e3,by unfold bw;rw[e],fun u' hd=>Nx.turn S (.inr ⟨rfl,rfl⟩) e (bZ e1) e2 e3.uE hd⟩
def K4{o o':Ob}(h:wA f o=some o'):∃xs ys,o=.lst xs/\f xs=some ys/\o'=.lst ys:=by
 cases o with
 |lst xs=>
  simp only[wA]at h
  cases e:f xs with
  |none=>rw[e]at h;cases h
  |some ys=>rw[e]at h;cases h;exact⟨xs,ys,rfl,e,rfl⟩
 |dct ks vs=>cases h
 |sdt ks vs=>cases h
def pY{env env':Ev}{H:Hp}{f:List D->Option (List D)}(S:Sat K env σ H)(h:cV k (wA f) env=some env'):
  ∃xs ys a vs,f xs=some ys/\σ[k]? =some (some (.ref a))/\H a=some (.lst vs)/\ao K H xs vs/\bw k env=some (.lst xs)/\∀ws,ao K H ys ws->Nx K env σ H env' (upd H a (.lst ws)):=by
 obtain⟨o,o',a,u,ef,es,ha,hd,lk,N⟩:=DY S h
 obtain⟨xs,ys,rfl,e,rfl⟩:=K4 ef
 obtain⟨vs,rfl,l⟩:=hd
 exact⟨xs,ys,a,vs,e,es,ha,l,lk,fun ws hw=>N _ ⟨ws,rfl,hw⟩⟩
theorem cU.lst{K:QQq}{H:Hp}{xs:List D}{v:V}(h:cU K H (.lst xs) v):∃a vs,v=.ref a/\jm K H a vs/\ao K H xs vs:=by
 rcases h with h|⟨o,a,q,rfl,u,ha,hq⟩
 ·obtain⟨a,vs,rfl,hq,l⟩:=cR h
  exact⟨a,vs,rfl,hq.sq,l⟩
 ·cases o<;>cases q
  obtain⟨vs,rfl,l⟩:=hq
  exact⟨a,vs,rfl,.inl (.inl ha),l⟩
structure Ag(X:Cx)(o:Expr)(name:Str)(apos:Pos)(e:Expr)(cpos:Pos):Prop where
 base:attributeBase o name X.env (eval o X.env)=eval o X.env
 line:(apos.endLine==cpos.line)=true
 star:starEach [e] X.env=[(false,eval e X.env)]
section
def Ag.few(h:Ag X o name apos e cpos):((backTo cpos (starEach [e] X.env)).all (fun x=> !x.1)&&(backToKw cpos (keywordEach [] X.env)).all (fun x=>x.1.isSome)
   &&decide ([e].length+([]:List Keyword).length+(if ([]:List Keyword).isEmpty then 0 else 1)<30))=true:=by
 rw[h.star];rfl
def KJ{id:String}{to:TE}(M:Ag X o name apos e cpos)(slot:Slot "list" name id)(hty:typeOf (.builtin id)=pure (.type "method_descriptor"))(hm:MtR X id r)(ho:PE X o to)(he:PE X e te):
  PE X (.Call (.Attribute o name apos) [e] [] cpos) (tBM X.K "list" r to (JG te aaU)):=
 abT PySem.F.plainAttrs_list slot hty hm ho (cI he eQ M.star) M.base M.few M.line M.star rfl
def countV{K:QQq}{H:Hp}{p:D}{x:V}(Dp:bD K H p x)(fp:flat p=true):∀{ds:List D}{vs:List V}{us:List Value},ao K H ds vs->Vals vs us->ds.all flat=true->vs.all jf=true/\us.countP (Vb x)=gh p ds:=by
 intro ds
 induction ds with
 |nil=>intro vs us l r _;rw[ao.bL.mp l]at r⊢;cases r;exact⟨rfl,rfl⟩
 |cons d ds ih=>
  intro vs us l r f
  obtain⟨v,vs',rfl,hd,l'⟩:=ao.aF.mp l
  rw[List.all_cons,QUq]at f
  cases r with
  |cons r1 r2=>
   obtain⟨i1,i2⟩:=ih l' r2 f.2
   obtain⟨j1,j2⟩:=wO Dp fp (ao.cW hd ao.fZ) (by simp[f.1])
   simp only[List.all_cons,List.all_nil,Bool.and_true]at j1
   have j3:M9 v x=cM d p:=by simpa[inV,aN]using j2
   refine⟨by rw[List.all_cons,j1,i1];rfl,?_⟩
   rw[List.countP_cons,i2,CP r1 j1,j3,gh]
   split<;>omega
noncomputable def QF(K:QQq):V->List V->Hp->VK->Prop:=fun x ys H Q=>∃a vs ds d y,x=.ref a/\ys=[y]/\(jm K H a vs\/jg K H a vs)/\ao K H ds vs/\bD K H d y/\flat d=true/\ds.all flat=true/\Q (.int (gh d ds)) H
def M5{H:Hp}{v:V}(h:bD K H d v)(f:flat d=true):jf v=true:=by
 cases d with
 |non=>cases h;rfl
 |bl b=>cases h;rfl
 |int i=>cases h;rfl
 |str x=>cases h;rfl
 |_=>cases f
def HD:MtR X "list.count" (fun x ys H Q=>(∃a vs,x=.ref a/\jm X.K H a vs)/\QF X.K x ys H Q):=by
 intro γ s σ H x ys v us Q I rx ry h
 obtain⟨⟨a,vs,rfl,hq⟩,a',vs',ds,d,y,e1,rfl,hq',l,hd,f1,f2,q⟩:=h
 cases e1
 cases rx
 obtain⟨u,rfl,ru⟩:=Vals.one ry
 have hv:vs'=vs:=by
  rcases hq' with z|z
  ·exact I.zx z hq
  ·obtain⟨_,_,⟨o,e,c,_⟩,_⟩:=I.tuple z
   obtain⟨_,_,⟨o',_,e',c',_⟩,_⟩:=I.list hq
   rw[e]at e';cases e';rw[c]at c';injection c' with z;exact absurd z (by decide)
 subst hv
 obtain⟨its,r,pl,hz⟩:=I.list hq
 obtain⟨⟨cls,dd,data,sl⟩,n,ho,hc,hdd,hdt⟩:=id pl
 subst hc hdt
 obtain⟨g1,g2⟩:=countV hd f1 l r f2
 refine call_meets PySem.F.slot_list_count ⟨_,ho,rfl⟩ PySem.F.entry_list_count (PySem.F.args_list_count_2 _ _) (SeqAt.list_countAt a its.toArray n dd sl u _) ⟨ho,fun w hw=>gb ru (M5 hd f1) r g1 w (by simpa using hw),?_⟩
 refine⟨.int _,H,I.tok _,⟨s.toks,?_⟩,q⟩
 rw[show its.toArray.toList=its from rfl,g2]
def HB:MtR X "tuple.count" (fun x ys H Q=>(∃a vs,x=.ref a/\jg X.K H a vs)/\QF X.K x ys H Q):=by
 intro γ s σ H x ys v us Q I rx ry h
 obtain⟨⟨a,vs,rfl,hq⟩,a',vs',ds,d,y,e1,rfl,hq',l,hd,f1,f2,q⟩:=h
 cases e1
 cases rx
 obtain⟨u,rfl,ru⟩:=Vals.one ry
 have hv:vs'=vs:=by
  rcases hq' with z|z
  ·obtain⟨_,_,⟨o,e,c,_⟩,_⟩:=I.tuple hq
   obtain⟨_,_,⟨o',_,e',c',_⟩,_⟩:=I.list z
   rw[e]at e';cases e';rw[c]at c';injection c' with z;exact absurd z (by decide)
  ·exact I.ul z hq
 subst hv
 obtain⟨its,r,pl,hz⟩:=I.tuple hq
 obtain⟨⟨cls,dd,data,sl⟩,ho,hc,n,hdt⟩:=id pl
 subst hc hdt
 obtain⟨g1,g2⟩:=countV hd f1 l r f2
 refine call_meets PySem.F.slot_tuple_count ⟨_,ho,rfl⟩ PySem.F.entry_tuple_count (PySem.F.args_tuple_count_2 _ _) (SeqAt.tuple_countAt a its.toArray n dd sl u _) ⟨ho,fun w hw=>gb ru (M5 hd f1) r g1 w (by simpa using hw),?_⟩
 refine⟨.int _,H,I.tok _,⟨s.toks,?_⟩,q⟩
 rw[show its.toArray.toList=its from rfl,g2]
noncomputable def aev(K:QQq)(to te:TE):TE:=fun σ H Q=>to σ H fun x H1=>∃a vs,x=.ref a/\((jm K H1 a vs/\te σ H1 fun y H2=>(∃a vs,x=.ref a/\jm K H2 a vs)/\QF K x [y] H2 Q)\/(jg K H1 a vs/\te σ H1 fun y H2=>(∃a vs,x=.ref a/\jg K H2 a vs)/\QF K x [y] H2 Q))
def W7(M:Ag X o "count" apos e cpos)(ho:PE X o to)(he:PE X e te):PE X (.Call (.Attribute o "count" apos) [e] [] cpos) (aev X.K to te):=by
 intro γ s σ H Q I h
 refine wpAny_Call_method_late M.base M.few M.line rfl (cu (ho γ s σ H _ I h) fun v s1⟨x,H1,I1,r1,a,vs,ex,q1⟩=>?_)
 subst ex
 cases r1
 have arg:∀{id:String}{r:V->List V->Hp->VK->Prop},MtR X id r->(te σ H1 fun y H2=>r _ [y] H2 Q)->wpAny _ X.A (callWith cpos _ [.ref a] (backTo cpos (starEach [e] X.env)) _) _ X.xe s1:=fun{id r}hm z=>by
  have hA:=cI he eQ M.star cpos γ s1 σ H1 (fun vs H2=>r (.ref a) vs H2 Q) I1 z
  rw[M.star]at hA⊢
  exact Calls.callWith_builtin rfl (Calls.evalArgs_plain (cu hA fun us s2⟨vs,H2,I2,r2,q2⟩=>hm γ s2 σ H2 (.ref a) vs _ us Q I2 rfl r2 q2))
 rcases q1 with ⟨hq,z⟩|⟨hq,z⟩
 ·obtain⟨its,r,pl,hz⟩:=I1.list hq
  refine⟨"list","list.count",PySem.F.plainAttrs_list,PySem.F.slot_list_count,PySem.F.type_list_count,pl.isList.typeIs,fun b eb=>?_,arg HD z⟩
  cases eb
  obtain⟨o,n,e,c,hd,_⟩:=pl
  exact⟨o,e,hd⟩
 ·obtain⟨its,r,⟨o,eo,ec,hd,n,dt⟩,hz⟩:=I1.Aw hq
  refine⟨"tuple","tuple.count",PySem.F.plainAttrs_tuple,PySem.F.slot_tuple_count,PySem.F.type_tuple_count,⟨o,eo,ec⟩,fun b eb=>?_,arg HB z⟩
  cases eb
  exact⟨o,eo,hd⟩
def MP(M:Ag X o "count" apos e cpos)(ho:GE X W c m1 o)(he:GE X W c m2 e):GE X W c (.count m1 m2) (.Call (.Attribute o "count" apos) [e] [] cpos):=by
 intro env
 refine PE.imp (W7 M ho.d he.d) fun σ H Q q=>?_
 refine⟨env,aU q fun d δ v H1 N1 D1 q1=>?_⟩
 cases d with
 |tup xs=>
  obtain⟨a,vs,rfl,hq,l⟩:=cg D1
  refine⟨a,vs,rfl,.inr ⟨hq,δ,aU q1 fun d2 ε y H2 N2 D2 q2=>?_⟩⟩
  obtain⟨z,ez,S,q3⟩:=cH q2
  simp only[z6]at ez
  split at ez
  ·rename_i hf
   cases ez
   rw[QUq]at hf
   exact⟨⟨a,vs,rfl,N2.pers.Wd hq⟩,a,vs,xs,d2,y,rfl,rfl,.inr (N2.pers.Wd hq),l.mono N2.pers,D2,hf.1,hf.2,q3 _ H2 (Nx.refl S) rfl⟩
  ·cases ez
 |lst xs=>
  obtain⟨a,vs,rfl,hq,l⟩:=cR D1
  refine⟨a,vs,rfl,.inl ⟨hq.sq,δ,aU q1 fun d2 ε y H2 N2 D2 q2=>?_⟩⟩
  obtain⟨z,ez,S,q3⟩:=cH q2
  simp only[z6]at ez
  split at ez
  ·rename_i hf
   cases ez
   rw[QUq]at hf
   exact⟨⟨a,vs,rfl,(N2.pers.RW hq).sq⟩,a,vs,xs,d2,y,rfl,rfl,.inl (N2.pers.RW hq).sq,l.mono N2.pers,D2,hf.1,hf.2,q3 _ H2 (Nx.refl S) rfl⟩
  ·cases ez
 |_=>exact q1.2.elim
def LR{i:Int}(h:ix? n i=some j)(hn:n<=sizeLine): -(2 ^63)<=i/\i<2 ^63/\seqIndex? i n=some j/\j<n:=by
 have hl:=sizeLine_eq
 unfold ix? at h
 by_cases h0:i<0
 ·simp only[h0,if_true]at h
  by_cases hj:0<=i+n/\i+n<n
  ·rw[if_pos hj]at h
   have e:=QEq h
   exact⟨by omega,by omega,by rw[seqIndex_neg (by omega) (by omega),e],by omega⟩
  ·rw[if_neg hj]at h;cases h
 ·simp only[h0,if_false]at h
  by_cases hj:0<=i/\i<n
  ·rw[if_pos hj]at h
   have e:=QEq h
   exact⟨by omega,by omega,by rw[seqIndex_of (by omega) (by omega),e],by omega⟩
  ·rw[if_neg hj]at h;cases h
def lq(h:di d=true):∃xs,d=some (.lst xs):=by
 cases d with
 |none=>cases h
 |some d=>cases d with
  |lst xs=>exact⟨xs,rfl⟩
  |_=>cases h
def XM k k':cM (dI k') (dI k)=decide (k'=k):=by
 cases k'<;>cases k<;>simp[dI,cM,Bool.beq_eq_decide_eq]
def MN{x:Str}(M:Ag X (.Name x p) "pop" apos e cpos)(nm:ik X k x)(he:GE X W c m e):GE X W c (.popAt k m) (.Call (.Attribute (.Name x p) "pop" apos) [e] [] cpos):=by
 intro env γ s σ H Q I q
 refine PE.imp (KJ M PySem.F.slot_list_pop PySem.F.type_list_pop Lg nm.pe he.d) (t':=fun ζ H' Q'=>ζ=σ/\H'=H/\Q'=Q) (fun ζ H' Q'⟨e1,e2,e3⟩=>?_) γ s σ H Q I ⟨rfl,rfl,rfl⟩
 subst e1 e2 e3
 simp only[VB]at q
 cases hl:di _ with
 |false=>rw[hl]at q;exact q.2.elim
 |true=>
  rw[hl]at q
  obtain⟨xs0,e0⟩:=lq hl
  obtain⟨u,eu,Du⟩:=dq q.1 e0
  obtain⟨a0,vs0,rfl,hq0,l0⟩:=Du.lst
  refine⟨.ref a0,eu,.inl ⟨rfl,vs0,hq0⟩,env,aU q fun d δ y H1 N1 D1 q1=>?_⟩
  unfold qK at q1
  cases d with
  |int i=>
   cases e1:bw k δ with
   |none=>rw[e1]at q1;exact q1.2.elim
   |some d1=>
    rw[e1]at q1
    cases d1 with
    |lst xs=>
     simp only at q1
     cases hz:fits xs.length with
     |false=>rw[hz]at q1;exact q1.2.elim
     |true=>
     rw[hz]at q1
     cases e2:ix? xs.length i with
     |none=>rw[e2]at q1;exact q1.2.elim
     |some j=>
      rw[e2]at q1
      simp only at q1
      cases e3:xs[j]? with
      |none=>rw[e3]at q1;exact q1.2.elim
      |some dd=>
       cases e4:cV k _ δ with
       |none=>rw[e3,e4]at q1;exact q1.2.elim
       |some ε=>
        rw[e3,e4]at q1
        obtain⟨zs,ys,a,vs,ef,es,ha,l,lk,N⟩:=pY q1.1 e4
        rw[e1]at lk
        cases lk
        cases ef
        rw[eu]at es
        cases es
        subst D1
        obtain⟨w,ew,dw⟩:=l.get e3
        obtain⟨b1,b2,b3,b4⟩:=LR e2 (dF hz)
        exact⟨a0,vs,i,j,w,rfl,rfl,ha,b1,b2,by rw[<-l.length];exact b3,ew,q1.2 w _ (N _ (l.eraseIdx j)) (dw.mono (N _ (l.eraseIdx j)).pers)⟩
    |_=>exact q1.2.elim
  |_=>exact q1.2.elim
def Ij{x:Str}(M:Ag X (.Name x p) "append" apos e cpos)(nm:ik X k x)(he:GE X W c m e):GS X W c (.append k m) (.Expr (.Call (.Attribute (.Name x p) "append" apos) [e] [] cpos) pos):=by
 intro env
 refine PS.imp (wj (KJ M PySem.F.slot_list_append PySem.F.type_list_append uJ nm.pe he.d) rfl) fun D σ H q=>?_
 simp only[x_9]at q
 cases hl:di _ with
 |false=>rw[hl]at q;exact q.2.elim
 |true=>
  rw[hl]at q
  obtain⟨xs0,e0⟩:=lq hl
  obtain⟨u,eu,Du⟩:=dq q.1 e0
  obtain⟨a0,vs0,rfl,hq0,l0⟩:=Du.lst
  refine⟨.ref a0,eu,.inl ⟨rfl,vs0,hq0⟩,env,nG q fun d δ y H1 N1 D1 q1=>?_⟩
  cases e4:cV k _ δ with
  |none=>rw[e4]at q1;exact q1.2.elim
  |some ε=>
   rw[e4]at q1
   obtain⟨zs,ys,a,vs,ef,es,ha,l,lk,N⟩:=pY q1.1 e4
   rw[eu]at es
   cases es
   split at ef
   ·rename_i hf
    cases ef
    have:=dF hf
    refine⟨a0,vs,y,rfl,rfl,ha,by rw[<-l.length];omega,q1.2 _ _ (N _ (l.append (ao.cW D1 ao.fZ))).z⟩
   ·cases ef
noncomputable def abG(K:QQq):V->List V->Hp->VK->Prop:=fun x vs H Q=>∃l b xs zs,x=.ref l/\vs=[.ref b]/\H l=some (.lst xs)/\jm K H b zs/\xs.length+zs.length<=sizeLine/\Q .non (upd H l (.lst (xs++zs)))
def tU l items n b items2 n2 sl(hc0:¬(!items.isEmpty&&Builtin.List.listTooLong (items.size+items2.size))=true)(hc1:items.size<=sizeLine)(hs2:items.size+items2.size<=sizeLine+1):
  Meets (Builtin.«list.extend» ⟨[.ref l,.ref b],[]⟩) (fun _ R s=>s.heap.get? l=some {cls:=.type "list",dict:=none,data:=.seq items n,slots:= #[]}/\s.heap.get? b=some {cls:=.type "list",dict:=none,data:=.seq items2 n2,slots:=sl}/\R (.ok (.ret Value.none)) {s with heap:=s.heap.update l (Obj.mapSeq fun x=>x++items2),toks:=s.toks}):=
 .of_wp fun prog w A R s h=>by
  obtain⟨hp,g,d,tk,os⟩:=s;obtain⟨hl,hb,h⟩:=h;have f1:=AutoSeq1.idx_int;have f2:=AutoSeq1.sub_tuple_tuple;have f3:=AutoSeq1.sub_list_list;have f4:=AutoSeq1.sub_tuple_list;have f5:=AutoSeq1.sub_list_tuple;
  have hz':(items++items2).size<=sizeLine+1:=by rw[Array.size_append];exact hs2
  wp_walk using (wpAny_updateSeq hl rfl),AutoSeq1.wpAny_loadPart' hl,AutoSeq1.wpAny_loadPart' hb;exact⟨_,rfl,h⟩
def Rk:MtR X "list.extend" (abG X.K):=by
 intro γ s σ H x vs v us Q I rx rv h
 obtain⟨l,b,xs,zs,rfl,rfl,hH,hB,hz,q⟩:=h
 cases rx
 obtain⟨u,rfl,ru⟩:=Vals.one rv
 cases ru
 obtain⟨z,its,n,r,hl,e⟩:=I.Xv hH
 obtain⟨its2,r2,⟨⟨cls,dd,data,sl⟩,n2,e2,hc2,hd2,hdt⟩,hz2⟩:=I.list hB
 have hl2:=r2.length
 subst hc2 hdt hd2
 have hsz:its.toArray.size+its2.toArray.size<=sizeLine:=by rw[Qyq,Qyq];omega
 have hlong:¬(!its.toArray.isEmpty&&Builtin.List.listTooLong (its.toArray.size+its2.toArray.size))=true:=by
  rw[K6 hsz,Bool.and_false]
  exact Qjz
 refine call_meets PySem.F.slot_list_extend ⟨_,e,rfl⟩ PySem.F.entry_list_extend (PySem.F.args_list_extend_2 _ _)
  (tU l its.toArray n b its2.toArray n2 sl hlong (by rw[Qyq];omega) (by omega)) ⟨e,e2,?_⟩
 refine⟨.non,_,I.Xw hH e (by simp) (r.append r2) ?_,rfl,q⟩
 rw[QTq]
 omega
def Ii{x:Str}(M:Ag X (.Name x p) "extend" apos e cpos)(nm:ik X k x)(he:GE X W c m e):GS X W c (.extend k m) (.Expr (.Call (.Attribute (.Name x p) "extend" apos) [e] [] cpos) pos):=by
 intro env
 refine PS.imp (wj (KJ M PySem.F.slot_list_extend PySem.F.type_list_extend Rk nm.pe he.d) rfl) fun D σ H q=>?_
 simp only[aeh]at q
 cases hl:di _ with
 |false=>rw[hl]at q;exact q.2.elim
 |true=>
  rw[hl]at q
  obtain⟨xs0,e0⟩:=lq hl
  obtain⟨u,eu,Du⟩:=dq q.1 e0
  obtain⟨a0,vs0,rfl,hq0,l0⟩:=Du.lst
  refine⟨.ref a0,eu,.inl ⟨rfl,vs0,hq0⟩,env,nG q fun d δ y H1 N1 D1 q1=>?_⟩
  cases d with
  |lst ys=>
   simp only[gf,Option.bind]at q1
   cases e4:cV k _ δ with
   |none=>rw[e4]at q1;exact q1.2.elim
   |some ε=>
    rw[e4]at q1
    obtain⟨zs,ys',a,vs,ef,es,ha,l,lk,N⟩:=pY q1.1 e4
    rw[eu]at es
    cases es
    obtain⟨b,ws,rfl,hb,l1⟩:=cR D1
    split at ef
    ·rename_i hf
     cases ef
     exact⟨a0,b,vs,ws,rfl,rfl,ha,hb.sq,by rw[<-l.length,<-l1.length];exact dF hf,q1.2 _ _ (N _ (l.append l1)).z⟩
    ·cases ef
  |_=>exact q1.2.elim
noncomputable def T9:V->V->V->Hp->(Hp->Prop)->Prop:=fun o i v H Q=>∃a H',o=.ref a/\O5 H a i v H'/\Q H'
def Qi(hu:X.A.units+1<cLine):Jc X T9:=by
 intro γ s σ H o i v ov iv u Q I ro ri rv h
 obtain⟨a,H',rfl,g,q⟩:=h
 cases ro
 exact Iv hu I g ri rv fun s4 I4=>⟨H',I4,q⟩
noncomputable def T7(K:QQq):V->V->V->Hp->(Hp->Prop)->Prop:=fun o i v H Q=>∃d a k xs,o=.ref d/\i=.ref a/\H d=some (.dS xs)/\(∀x∈xs,cL K H x.1 x.2.1)/\cL K H k a/\xs.length<sizeLine/\Q (upd H d (.dS (nR k a v xs)))
def Wh(hu:X.A.units+9<cLine):Jc X (T7 X.K):=by
 intro γ s σ H o i v ov iv u Q I ro ri rv h
 obtain⟨d,a,k,xs,rfl,rfl,hd,hk,ka,hl,q⟩:=h
 cases ro
 cases ri
 exact Ha hu I hd hk ka hl rv fun s4 I4=>⟨_,I4,q⟩
noncomputable def Ua(K:QQq):V->V->V->Hp->(Hp->Prop)->Prop:=fun o i v H Q=>∃d a k,o=.ref d/\i=.ref a/\H d=some (.dK [])/\cL K H k a/\Q (upd H d (.dS [(k,a,v)]))
def set_0(hu:X.A.units+9<cLine):Jc X (Ua X.K):=by
 intro γ s σ H o i v ov iv u Q I ro ri rv h
 obtain⟨d,a,k,rfl,rfl,hd,ka,q⟩:=h
 cases ro
 cases ri
 exact Bg hu I hd ka rv fun s4 I4=>⟨_,I4,q⟩
noncomputable def abB(K:QQq):V->V->V->Hp->(Hp->Prop)->Prop:=fun o i v H Q=>T8 o i v H Q\/T9 o i v H Q\/T7 K o i v H Q\/Ua K o i v H Q
def Qj(hu:X.A.units+9<cLine):Jc X (abB X.K):=by
 intro γ s σ H o i v ov iv u Q I ro ri rv h
 rcases h with h|h|h|h
 ·exact set_list γ s σ H o i v ov iv u Q I ro ri rv h
 ·exact Qi (by omega) γ s σ H o i v ov iv u Q I ro ri rv h
 ·exact Wh hu γ s σ H o i v ov iv u Q I ro ri rv h
 ·exact set_0 hu γ s σ H o i v ov iv u Q I ro ri rv h
def XS{i:Int}(h:ix? n i=some j):Rw n i=some j:=by
 unfold ix? at h
 unfold Rw
 by_cases h0:i<0
 ·simp only[h0,if_true]at h
  rw[if_neg (by omega)]
  by_cases hj:0<=i+n/\i+n<n
  ·rw[if_pos hj]at h;rw[if_pos (by omega)];exact h
  ·rw[if_neg hj]at h;cases h
 ·simp only[h0,if_false]at h
  rw[if_pos (by omega)]
  by_cases hj:0<=i/\i<n
  ·rw[if_pos hj]at h;rw[if_pos hj.2];exact h
  ·rw[if_neg hj]at h;cases h
theorem yE{H:Hp}{d:D}(hv:bD K H d v):∀{kvs:List (Key×V)}{ds:List D},ao K H ds (kvs.map (·.2))->
  ao K H (qC (dI k) d (kvs.map fun p=>dI p.1) ds) ((kvs.map fun kv=>if kv.1=k then(kv.1,v)else kv).map (·.2))
 |[],ds,l=>by
  have:ds=[]:=by have:=l.length;cases ds<;>simp_all
  exact ao.fZ
 |(k',u)::r,ds,l=>by
  cases ds with
  |nil=>have:=l.length;simp at this
  |cons x ds=>
   obtain⟨w,ws,e,h1,h2⟩:=ao.aF.mp l
   cases e
   have ih:=yE (k:=k) hv h2
   simp only[Qyz,qC,XM]
   by_cases q:k'=k
   ·simp only[q,decide_true,if_true]
    exact ao.cW hv ih
   ·simp only[q,decide_false,Qxq,if_false]
    exact ao.cW h1 ih
theorem uB{v:V}:∀(kvs:List (Key×V)),(kvs.map fun kv=>if kv.1=k then(kv.1,v)else kv).map (fun p=>dI p.1)=kvs.map fun p=>dI p.1
 |[]=>rfl
 |(k',u)::r=>by
  simp only[Qyz,uB r]
  split<;>rfl
def Ep{H:Hp}{d:D}(hv:bD K H d v){ds:List D}(l:ao K H ds (kvs.map (·.2))):
  (putD (dI k) d (kvs.map fun p=>dI p.1) ds).1=(putK kvs k v).map (fun p=>dI p.1)/\ao K H (putD (dI k) d (kvs.map fun p=>dI p.1) ds).2 ((putK kvs k v).map (·.2)):=by
 unfold putD putK
 rw[<-jP,<-yd]
 split
 ·rename_i h
  exact⟨(uB kvs).symm,yE hv l⟩
 ·refine⟨by simp,?_⟩
  rw[List.map_append]
  exact l.append (ao.cW hv ao.fZ)
theorem My{k:Nat}{x:Str}{ix:E}{ixe:Expr}{tp:Pos}(nm:ik X k x)(he:GE X W c m e)(hi:GE X W c ix ixe)
  (ha:∀v,assign (.Subscript (.Name x p) ixe tp) X.env v=(do
   let ov<-holding [v] (eval (.Name x p) X.env)
   let iv<-holding [v,ov] (eval ixe X.env)
   standAt tp
   holding [v,ov,iv] (setItem ov iv v)
   release [v,ov,iv] []))
  (hs:swapsWithSole [.Subscript (.Name x p) ixe tp] e pos.line X.env=pure false)(hw:swappedStores [.Subscript (.Name x p) ixe tp] e X.env=pure none)(hu:X.A.units+9<cLine)
  (h1:(assignEach [.Subscript (.Name x p) ixe tp] X.env).map (·.2)=[assign (.Subscript (.Name x p) ixe tp) X.env]):
  GS X W c (.setIx k ix m) (.Assign [.Subscript (.Name x p) ixe tp] e pos):=by
 intro env
 refine PS.imp (Kr he.d (WY nm.pe hi.d (Qj hu) ha) hs hw h1) fun D σ H q=>?_
 simp only[x_7]at q
 refine⟨env,nG q fun d δ v H1 N1 D1 q1=>?_⟩
 cases e0:bw k δ with
 |none=>rw[e0]at q1;exact q1.2.elim
 |some d0=>
  rw[e0]at q1
  simp only[Option.isNone_some,Qxq,if_false]at q1
  obtain⟨u,eu,Du⟩:=dq q1.1 e0
  refine⟨u,eu,δ,nG q1 fun d2 ε y H2 N2 D2 q2=>?_⟩
  cases e4:cV k (nT d2 d) ε with
  |none=>rw[e4]at q2;exact q2.2.elim
  |some env3=>
   rw[e4]at q2
   obtain⟨o,o',a,w,ef,es,hA,hd,lk,N⟩:=DY q2.1 e4
   rw[eu]at es
   cases es
   cases o with
   |lst xs=>
    obtain⟨vs,rfl,l⟩:=hd
    cases d2 with
    |int i=>
     simp only[nT]at ef
     cases e5:ix? xs.length i with
     |none=>rw[e5]at ef;cases ef
     |some j=>
      rw[e5]at ef
      cases ef
      have D2':y=.int i:=D2
      subst D2'
      exact .inl ⟨a,vs,i,j,rfl,rfl,hA,by rw[<-l.length];exact XS e5,q2.2 _ _ (N _ ⟨_,rfl,l.set (D1.mono N2.pers) j⟩).z⟩
    |_=>cases ef
   |dct ks ds=>
    obtain⟨kvs,rfl,rfl,l⟩:=hd
    simp only[nT]at ef
    split at ef
    ·rename_i hk
     rw[QUq]at hk
     cases ef
     obtain⟨kk,rfl⟩:=fU hk.1
     have ek:=j7 D2
     subst ek
     obtain⟨g1,g2⟩:=Ep (k:=kk) (D1.mono N2.pers) l
     have hf:=dF hk.2
     rw[QAq]at hf
     exact .inr (.inl ⟨a,_,rfl,O5.k hA (by omega),q2.2 _ _ (N _ ⟨_,rfl,g1,g2⟩).z⟩)
    ·split at ef
     ·rename_i hk
      rw[QUq,List.isEmpty_iff]at hk
      cases ef
      obtain⟨b,rfl,kb⟩:=iy hk.1 D2
      have hn:kvs=[]:=by simpa using hk.2
      subst hn
      exact .inr (.inr (.inr ⟨a,b,_,rfl,rfl,hA,kb,q2.2 _ _ (N _ ⟨_,rfl,gk.aF.mpr ⟨_,_,rfl,rfl,hk.1,D2,D1.mono N2.pers,gk.nil⟩⟩).z⟩))
     ·cases ef
   |sdt ks ds=>
    obtain⟨xs,rfl,l⟩:=hd
    simp only[nT]at ef
    split at ef
    ·rename_i hk
     rw[QUq]at hk
     cases ef
     obtain⟨b,rfl,kb⟩:=iy hk.1 D2
     have g:=l.put hk.1 D2 (D1.mono N2.pers)
     have hf:=dF hk.2
     rw[l.len.1]at hf
     exact .inr (.inr (.inl ⟨a,b,_,xs,rfl,rfl,hA,l.zB,kb,by omega,q2.2 _ _ (N _ ⟨_,rfl,g⟩).z⟩))
    ·cases ef
end
section
def Yk(he:GE X W c m e)(hv:∀k,m.aq=some k->∃x p,e=.Name x p/\ik X k x):GS X W c (.ret m) (.Return (some e) pos):=by
 intro env
 have plain:∀D σ H,tS X.K W env ((ev c m env).fl tL) D σ H->aaR (aM X W c m) D σ H:=fun D σ H q=>by
  refine⟨env,Tz q fun x δ v H1 N z q1=>?_⟩
  cases x with
  |val d=>exact q1.2 v σ H1 N.z z
  |new o=>
   obtain⟨a,e1,e2,e3⟩:=z
   exact q1.2 v σ H1 N.z ⟨a,e1,e2,.inl e3⟩
  |ref i=>exact q1.2.elim
 cases q0:m.aq with
 |none=>exact PS.imp (nU he.am) fun D σ H q=>plain D σ H (by simpa only[Ao,q0]using q)
 |some k=>
  cases e0:env[k]? with
  |none=>exact PS.imp (nU he.am) fun D σ H q=>plain D σ H (by simpa only[Ao,q0,e0]using q)
  |some sl=>
   cases sl with
   |un=>exact PS.imp (nU he.am) fun D σ H q=>plain D σ H (by simpa only[Ao,q0,e0]using q)
   |val d=>exact PS.imp (nU he.am) fun D σ H q=>plain D σ H (by simpa only[Ao,q0,e0]using q)
   |bor o=>exact PS.imp (nU he.am) fun D σ H q=>plain D σ H (by simpa only[Ao,q0,e0]using q)
   |own o=>
    obtain⟨x,p,rfl,nm⟩:=hv k q0
    refine PS.imp (nU nm.pe) fun D σ H q=>?_
    simp only[Ao,q0,e0]at q
    obtain⟨a,e1,e2⟩:=q.1.sl k _ e0
    have es:=bZ e1
    have hi:=(QCz.mp e0).1
    have sub:∀j b,aQ (env.set k .un) σ j b->aQ env σ j b:=fun j b z=>by
     obtain⟨⟨s,ys,z1,z2⟩,z3⟩:=z
     by_cases hj:k=j
     ·subst hj;rw[Qwq hi]at z1;cases z1;cases z2
     ·rw[Qxz hj]at z1;exact⟨⟨s,ys,z1,z2⟩,z3⟩
    refine⟨.ref a,es,q.2 _ σ H ⟨⟨by simpa using q.1.len,fun j s ej=>?_,fun j l b z w=>q.1.ne j l b (sub j b z) (sub l b w)⟩,fun j b z=>.inl (sub j b z),bR.refl H,fun _ _ z _=>z,fun _ z=>z,fun j ys ej=>?_⟩ ⟨a,rfl,e2,.inr ⟨k,o,e0,es⟩⟩⟩
    ·by_cases hj:k=j
     ·subst hj;rw[Qwq hi]at ej;cases ej;trivial
     ·rw[Qxz hj]at ej;exact q.1.sl j s ej
    ·exact⟨⟨ys,by rw[Qxz (fun z=>by subst z;rw[e0]at ej;cases ej)];exact ej⟩,rfl⟩
def RG:GS X W c (.ret ABO) (.Return none pos):=fun env=>PS.imp QM fun D σ H q=>by
 simp only[Ao,E.aq,v_0,v_1,v_2,v_3,v_4,v_5,v_6,v_7,v_8,Zx,GP,PN,aaC,Jq,aaB,aaA,VG,PL,PK,aaz,o9,VF,VD,aay,VB,lX,Out.fl,tL]at q
 exact q.2 .non σ H (Nz.refl q.1) rfl
theorem iz lo:∀(n i:Nat)(d:D),(b7 lo n)[i]? =some d->d=.int (lo+i)/\i<n
 |0,i=>fun d h=>by simp[b7]at h
 |n+1,0=>fun d h=>by simp[b7]at h;exact⟨by rw[<-h];simp,by omega⟩
 |n+1,i+1=>fun d h=>by
  obtain⟨e,l⟩:=iz _ n i d h
  refine⟨by rw[e];congr 1;push_cast;omega,by omega⟩
theorem fX lo:∀n,(b7 lo n).length=n
 |0=>rfl
 |n+1=>by rw[b7,QBq,fX]
theorem zK{H:Hp}{n:Nat}(hz:n<=sizeLine):Gives K (Itr lo n) (b7 lo n) H where
 go:=fun H1 p i d e=>(iz lo n i d e).2
 yld:=fun H1 p i d e x H2 y=>by
  obtain⟨rfl,rfl⟩:=y
  rw[(iz lo n i d e).1]
  exact⟨rfl,.inl rfl⟩
 stop:=fun H1 p i hi=>by rw[fX]at hi;exact hi
 len:=by rw[fX];exact hz
def Lj(h:Jf i=true): -(2 ^62)<=i/\i<2 ^62:=by
 simp only[Jf,QUz]at h
 omega
def Im{tg:Expr}(ha:GE X W c m a)(hg:Gl X "range")(hm:X.mg "range"=none)(hs:starEach [a] X.env=[(false,eval a X.env)]):GI X W c (.range1 m) tg (.Call (.Name "range" p) [a] [] pos):=by
 intro env γ s σ H R I q
 refine Hs hg hm (cI ha.d eQ hs) hs γ s σ H R I ⟨env,q.1,?_⟩
 have q2:=q.2
 simp only[VF]at q2
 have go:∀d δ v H',Nx X.K env σ H δ H'->bD X.K H' d v->(match (lift δ (match d with|.int n=>if fits n.toNat&&Jf n then some (Rv.val (.lst (b7 0 n.toNat)))else none|_=>none))with
   |.ok x env'=>∃d xs,x.jl=some d/\items d=some xs/\∀J H',Nx X.K env σ H env' H'->Gives X.K J xs H'->R J H'
   |.exc c env'=>∀H',Nx X.K env σ H env' H'->W c env' σ H'
   |.bad=>False)->∃j:Int,[v]=[.int j]/\ -(2 ^62)<=j/\j<2 ^62/\R (Itr 0 j.toNat) H':=fun d δ v H' N Dv z=>by
  cases d with
  |int n=>
   simp only at z
   by_cases hf:(fits n.toNat&&Jf n)=true
   ·rw[if_pos hf]at z
    rw[QUq]at hf
    obtain⟨d',xs,e1,e2,z⟩:=z
    cases e1
    cases e2
    have hv:v=.int n:=Dv
    subst hv
    exact⟨n,rfl,(Lj hf.2).1,(Lj hf.2).2,z _ H' N (zK (dF hf.1))⟩
   ·rw[if_neg hf]at z;exact z.elim
  |_=>exact z.elim
 cases r:ev c m env with
 |bad=>rw[r]at q2;exact q2
 |exc k δ=>rw[r]at q2;exact q2
 |ok x δ=>
  rw[r]at q2
  cases x with
  |val d=>exact fun v H' N Dv=>go d δ v H' N Dv q2
  |new o=>exact fun v H' N Dv=>go o.d δ v H' N Dv q2
  |ref i=>exact q2
theorem ji.z{tg:Tg}{σ ζ:St}(st:ji K tg env σ env' ζ H):Nz K env σ H env' ζ H:=
 ⟨st.eX,fun i a z=>.inl (st.sub z),bR.refl _,fun _ _ z _=>z,fun _ z=>z,fun i xs e=>⟨⟨xs,(st.same i (st.bors i xs e)).1.trans e⟩,(st.same i (st.bors i xs e)).2⟩⟩
theorem Ea{env:Ev}{H:Hp}{f:Fl}{D:Ends}(q:tS K W env (f.turn g) D σ H)
  (k:∀ε φ H2,Nz K env σ H ε φ H2->tS K W ε (g ε) D φ H2->N φ H2):tS K W env f {D with nx:=N,ct:=N,bk:=D.nx} σ H:=by
 refine⟨q.1,?_⟩
 cases f with
 |next ε=>exact fun φ H2 N2=>k ε φ H2 N2 (p8 q N2)
 |cont ε=>exact fun φ H2 N2=>k ε φ H2 N2 (p8 q N2)
 |brk ε=>exact q.2
 |ret r ε=>exact q.2
 |exc j ε=>exact q.2
 |bad=>exact q.2
theorem Yl{tg:Tg}{it:E}{b:S}(hp:PassesOwn (model X.prog X.w) X.A X.env X.xe)(hc:X.calm=true)(hi:GI X W c it Φ ο)(hg:GG X tg Φ)(hb:Pq X W c b body)
  (hs:∀x,foldedSetIterable ο X.env x=pure x):GS X W c (.for_ tg it b) (.For Φ ο body [] pos):=by
 intro env γ s σ H D I q
 refine(WW (pos:=pos) hp hc (wi:=fun ζ H' R=>ζ=σ/\H'=H/\tI X.K W env (ev c it env) σ H R) (fun γ s ζ H' R I'⟨e1,e2,z⟩=>by subst e1 e2;exact hi env γ s _ _ R I' z) hg (tb:=fun D σ H=>∃env,tS X.K W env _ D σ H) (fun γ s σ H D I⟨env,z⟩=>hb env γ s σ H D I z) hs) γ s σ H D I ⟨rfl,rfl,?_⟩
 simp only[aeg]at q
 have tur:∀δ xs J H1,Nx X.K env σ H δ H1->Gives X.K J xs H1->tS X.K W δ _ D σ H1->∃W':Nat->Nat->St->Hp->Prop,(∃m,W' 0 m σ H1)/\∀i m σ H,W' i m σ H->
   (J.stop i H/\D.nx σ H)\/(J.go i H/\∃N:St->Hp->Prop,(∀ζ H',N ζ H'->∃m',m'<m/\W' (i+1) m' ζ H')/\∀x H',J.yld i H x H'->tG X.K tg x σ H' fun φ H2=>∃env,tS X.K W env (ex c b env) {D with nx:=N,ct:=N,bk:=D.nx} φ H2):=fun δ xs J H1 N1 G z=>by
  refine⟨fun i m ζ H'=>i<=xs.length/\m=xs.length-i/\bR H1 H'/\∃env',tS X.K W env' (aZ tg (ex c b) (xs.drop i) env') D ζ H',⟨xs.length,QIq _,by simp,bR.refl _,δ,z⟩,?_⟩
  rintro i m ζ H' ⟨hi,rfl,pe,env',z⟩
  by_cases hl:i<xs.length
  ·obtain⟨d,hd⟩:∃d,xs[i]? =some d:=⟨xs[i],by simp[hl]⟩
   rw[vq hd,aZ]at z
   cases e:bz tg d env' with
   |none=>rw[e]at z;exact z.2.elim
   |some ε=>
    rw[e]at z
    refine .inr ⟨G.go H' pe i d hd,fun φ H2=>bR H1 H2/\∃env3,tS X.K W env3 _ D φ H2,fun φ H2⟨p2,w⟩=>⟨xs.length- (i+1),by omega,hl,rfl,p2,w⟩,fun x H2 y=>?_⟩
    obtain⟨Dx,lay⟩:=G.yld H' pe i d hd x H2 y
    have N2:=z.1.lay lay
    refine⟨env',d,ε,N2.eX,Dx,e,fun φ st=>⟨ε,Ea (p8 z (N2.z.trans st.z)) fun env3 σ3 H3 N3 w=>⟨(pe.trans N2.pers).trans N3.pers,env3,w⟩⟩⟩
  ·have e:i=xs.length:=by omega
   subst e
   rw[List.drop_length,aZ]at z
   exact .inl ⟨G.stop H' pe _ (QVz _),z.2 ζ H' (Nz.refl z.1)⟩
 refine⟨q.1,?_⟩
 have go:∀(x:Rv)δ d,x.jl=some d->(match (match items d with|some xs=>aZ tg (ex c b) xs δ|none=>Fl.bad)with
   |.next env'=>∀ζ H',Nz X.K env σ H env' ζ H'->D.nx ζ H'
   |.ret r env'=>∀v ζ H',Nz X.K env σ H env' ζ H'->O1 X.K env σ H H' r v->D.rt v H'
   |.brk env'=>∀ζ H',Nz X.K env σ H env' ζ H'->D.bk ζ H'
   |.cont env'=>∀ζ H',Nz X.K env σ H env' ζ H'->D.ct ζ H'
   |.exc c env'=>∀ζ H',Nz X.K env σ H env' ζ H'->W c env' ζ H'
   |.bad=>False)->∃d xs,x.jl=some d/\items d=some xs/\∀J H',Nx X.K env σ H δ H'->Gives X.K J xs H'->∃W':Nat->Nat->St->Hp->Prop,(∃m,W' 0 m σ H')/\∀i m σ H,W' i m σ H->
   (J.stop i H/\D.nx σ H)\/(J.go i H/\∃N:St->Hp->Prop,(∀ζ H',N ζ H'->∃m',m'<m/\W' (i+1) m' ζ H')/\∀x H',J.yld i H x H'->tG X.K tg x σ H' fun φ H2=>∃env,tS X.K W env (ex c b env) {D with nx:=N,ct:=N,bk:=D.nx} φ H2):=fun x δ d ed z=>by
  cases e1:items d with
  |none=>rw[e1]at z;exact z.elim
  |some xs=>
   rw[e1]at z
   exact⟨d,xs,ed,e1,fun J H1 N G=>tur δ xs J H1 N G (p8 ⟨q.1,z⟩ N.z)⟩
 have q2:=q.2
 cases r:ev c it env with
 |bad=>rw[r]at q2;exact q2
 |exc k δ=>rw[r]at q2;exact fun H' N=>q2 σ H' N.z
 |ok x δ=>
  rw[r]at q2
  cases x with
  |val d=>exact go _ δ d rfl q2
  |new o=>exact go _ δ o.d rfl q2
  |ref i=>exact q2.elim
def Mx{t:E}{b:S}(hp:PassesOwn (model X.prog X.w) X.A X.env X.xe)(ht:GT X W c t te)(hb:Pq X W c b body):GS X W c (.while_ t b) (.While te body [] pos):=by
 intro env
 refine PS.imp (Kq hp ht (tb:=fun D σ H=>∃env,tS X.K W env _ D σ H) (fun γ s σ H D I⟨env,z⟩=>hb env γ s σ H D I z)) fun D σ H q=>?_
 refine⟨fun n ζ H'=>∃env',tS X.K W env' (cG _ _ n env') D ζ H',⟨c.turns,env,q⟩,?_⟩
 rintro n ξ H1 ⟨δ,q1⟩
 cases n with
 |zero=>exact q1.2.elim
 |succ n=>
  refine⟨δ,JF q1 fun k ε H2 N2 q2=>?_⟩
  cases k with
  |true=>
   refine⟨fun ζ H'=>∃env',tS X.K W env' _ D ζ H',fun ζ H' w=>⟨n,Nat.lt_succ_self n,w⟩,ε,Ea q2 fun env3 σ3 H3 N3 w=>⟨env3,w⟩⟩
  |false=>
   exact q2.2 ξ H2 (Nz.refl q2.1)
end
structure Cz(K:QQq)(ps:List Sl)(vs:List V)(H:Hp)(qs:List Sl)(H':Hp):Prop where
 bor:∀(i:Nat)o,ps[i]? =some (.bor o)->∃o' a,qs[i]? =some (.bor o')/\vs[i]? =some (.ref a)/\jk K H' o' a
 pers:bR H H'
 keep:∀b u,H b=some u->(∀i,¬aQ ps (vs.map some) i b)->H' b=some u
 dom:∀b,H' b=none->H b=none
noncomputable def agQ(K:QQq)(H H':Hp):Rv->V->Prop
 |.val d,v=>bD K H' d v
 |.new q,v=>∃a,v=.ref a/\jk K H' q a/\H a=none
 |_,_=>False
def noOwn(ps:List Sl):Prop:=∀(i:Nat)o,ps[i]? ≠some (.own o)
noncomputable def v4(K:QQq)(n:Nat)(f:List Sl->Res):Sp:=fun vs H Q _=>∃ps,vs.length=n/\Sat K ps (vs.map some) H/\noOwn ps/\match f ps with
 |.ok r qs=>∀v H',Cz K ps vs H qs H'->agQ K H H' r v->Q v H'
 |.exc _ qs=>∀H',Cz K ps vs H qs H'->False
 |.bad=>False
def wu{ps:List Sl}{vs:List V}{b:Addr}(hl:ps.length=vs.length):aQ (ps++List.replicate k .un) (vs.map some++List.replicate k none) i b↔aQ ps (vs.map some) i b:=by
 constructor
 ·rintro ⟨⟨s,o,e1,e2⟩,e3⟩
  by_cases hi:i<ps.length
  ·rw[Qwz hi]at e1
   rw[Qwz (by simpa[<-hl]using hi)]at e3
   exact⟨⟨s,o,e1,e2⟩,e3⟩
  ·rw[QIz (by omega),List.getElem?_replicate]at e1
   split at e1
   ·cases e1;cases e2
   ·cases e1
 ·rintro ⟨⟨s,o,e1,e2⟩,e3⟩
  have hi:=(QCz.mp e1).1
  exact⟨⟨s,o,by rw[Qwz hi];exact e1,e2⟩,by rw[Qwz (by simpa[<-hl]using hi)];exact e3⟩
def Sat.pad{ps:List Sl}{vs:List V}(S:Sat K ps (vs.map some) H)k:Sat K (ps++List.replicate k .un) (vs.map some++List.replicate k none) H:=by
 have hl:ps.length=vs.length:=by simpa using S.len
 refine⟨by simp[hl],fun i s e=>?_,fun i j a h1 h2=>S.ne i j a ((wu hl).mp h1) ((wu hl).mp h2)⟩
 by_cases hi:i<ps.length
 ·rw[Qwz hi]at e
  rw[Qwz (by simpa[<-hl]using hi)]
  exact S.sl i s e
 ·rw[QIz (by omega),List.getElem?_replicate]at e
  split at e
  ·cases e;trivial
  ·cases e
def Nz.cz{ps:List Sl}{H H':Hp}{k n:Nat}{ζ:St}(S:Sat K ps (vs.map some) H)(hn:vs.length=n)(N:Nz K (ps++List.replicate k .un) (vs.map some++List.replicate k none) H env' ζ H'):Cz K ps vs H (env'.take n) H':=by
 have hl:ps.length=vs.length:=by simpa using S.len
 refine⟨fun i o e=>?_,N.pers,fun b u hb no=>N.keep b u hb fun i z=>no i ((wu hl).mp z),N.dom⟩
 have hi:=(QCz.mp e).1
 obtain⟨⟨o',e1⟩,e2⟩:=N.bors i o (by rw[Qwz hi];exact e)
 obtain⟨a,z1,z2⟩:=N.eX.sl i _ e1
 rw[e2,Qwz (by simpa[<-hl]using hi),QFz]at z1
 refine⟨o',a,by rw[List.getElem?_take_of_lt (by omega)];exact e1,?_,z2⟩
 cases q:vs[i]? with
 |none=>rw[q]at z1;cases z1
 |some v=>rw[q]at z1;simp at z1;rw[z1]
section
theorem RX{st:Stmt}{fd:FuncData}{k:Nat}{g:Fn}(F:Zh K x qual st f fd)(S:km N ps (bj st))(hp:g.pars=ps.length)(hn:g.names=N.length)
  (hb:∀(cdv:Value)(A:Around)(outer:List Env)(s:Shared)(H:Hp)(E:XK),jj k (A.deeper (PyProof.Rows.envOfC qual (bj st) s.heap.objs.size f cdv))->Pq (CZ O9 P w K mg base N qual (bj st) f cdv A outer s H E).nox W0 c g.body (eE st)):
  oO P w K mg base O9 (k+1) f fd ps (v4 K ps.length (gW c g)):=by
 refine F.ok S (fun vs H Q E h=>?_) (fun cdv A outer s H vs Q E hr h=>?_)
 ·obtain⟨_,h,_⟩:=h
  exact h
 ·obtain⟨sl,hl,S0,no,q⟩:=h
  refine⟨_,hb cdv A outer s H E hr (sl++List.replicate (g.names-g.pars) .un),?_⟩
  have hlen:sl.length=vs.length:=by simpa using S0.len
  have hst:L2.start N vs=vs.map some++List.replicate (g.names-g.pars) none:=by
   unfold L2.start
   rw[hn,hp,hl]
  have e0:gW c g sl=match ex c g.body (sl++List.replicate (g.names-g.pars) .un)with
    |.next σ=>.ok (.val .non) (σ.take g.pars)
    |.ret r σ=>.ok r (σ.take g.pars)
    |.exc k σ=>.exc k (σ.take g.pars)
    |_=>.bad:=by
   unfold gW
   rw[if_pos (by rw[hp,<-hl,hlen])]<;>cases ex c g.body _<;>rfl
  rw[e0]at q
  rw[hst]
  refine⟨S0.pad _,?_⟩
  have hg:vs.length=g.pars:=by rw[hl,hp]
  cases r:ex c g.body _ with
  |next env'=>rw[r]at q;exact fun ζ H' N=>q .non H' (N.cz S0 hg) rfl
  |ret rv env'=>
   rw[r]at q
   refine fun v ζ H' N z=>q v H' (N.cz S0 hg) ?_
   cases rv with
   |val d=>exact z
   |new o=>
    obtain⟨a,e1,e2,e3⟩:=z
    refine⟨a,e1,e2,?_⟩
    rcases e3 with e3|⟨i,ys,e3,_⟩
    ·exact e3
    ·by_cases hi:i<sl.length
     ·rw[Qwz hi]at e3
      exact absurd e3 (no i ys)
     ·rw[QIz (by omega),List.getElem?_replicate]at e3
      split at e3<;>cases e3
   |ref i=>exact z.elim
  |brk env'=>rw[r]at q;exact q.elim
  |cont env'=>rw[r]at q;exact q.elim
  |exc j env'=>rw[r]at q;exact fun ζ H' N=>q H' (N.cz S0 hg)
  |bad=>rw[r]at q;exact q.elim
end
inductive En(K:QQq)(env:Ev)(σ:St)(H0 H:Hp):List Rv->List Sl->List V->Prop
 |nil:En K env σ H0 H [] [] []
 |val {d:D} {v:V} {rs:List Rv} {ps:List Sl} {vs:List V}:bD K H d v->En K env σ H0 H rs ps vs->En K env σ H0 H (.val d::rs) (.val d::ps) (v::vs)
 |ref {o:Ob} {j:Nat} {a:Addr} {s:Sl} {rs:List Rv} {ps:List Sl} {vs:List V}:env[j]? =some s->isOwn s=some o->σ[j]? =some (some (.ref a))->jk K H o a->Rv.ref j∉rs->En K env σ H0 H rs ps vs->En K env σ H0 H (.ref j::rs) (.bor o::ps) (.ref a::vs)
section
theorem mW(S:Sat K env σ H):∀{rs:List Rv}{ps:List Sl}{vs:List V},enter rs env=some ps->ie K σ H0 H rs vs->En K env σ H0 H rs ps vs
 |[],ps,vs,h,r=>by
  cases h
  have:=r
  subst this
  exact .nil
 |x::rs,ps,vs,h,r=>by
  obtain⟨v,vr,rfl,h1,h2⟩:=r
  cases x with
  |val d=>
   simp only[enter]at h
   cases e:enter rs env with
   |none=>rw[e]at h;cases h
   |some ps'=>rw[e]at h;cases h;exact .val h1 (mW S e h2)
  |new o=>cases h
  |ref j=>
   simp only[enter]at h
   split at h
   ·cases h
   ·rename_i hn
    have nr:Rv.ref j∉rs:=fun hq=>hn (List.any_eq_true.mpr ⟨_,hq,by simp[j0]⟩)
    cases e1:env[j]? with
    |none=>rw[e1]at h;cases h
    |some s=>
     rw[e1]at h
     have h1':=h1
     cases s with
     |un=>cases h
     |val d=>cases h
     |own o=>
      cases e:enter rs env with
      |none=>simp only[e]at h;cases h
      |some ps'=>
       simp only[e]at h
       cases h
       obtain⟨a,z1,z2⟩:=S.sl j _ e1
       rw[h1']at z1
       cases z1
       exact .ref e1 rfl h1' z2 nr (mW S e h2)
     |bor o=>
      cases e:enter rs env with
      |none=>simp only[e]at h;cases h
      |some ps'=>
       simp only[e]at h
       cases h
       obtain⟨a,z1,z2⟩:=S.sl j _ e1
       rw[h1']at z1
       cases z1
       exact .ref e1 rfl h1' z2 nr (mW S e h2)
def En.len{ps:List Sl}(h:En K env σ H0 H rs ps vs):ps.length=vs.length/\rs.length=vs.length:=by
 induction h with
 |nil=>exact⟨rfl,rfl⟩
 |val _ _ ih=>simp[ih.1,ih.2]
 |ref _ _ _ _ _ _ ih=>simp[ih.1,ih.2]
theorem En.noOwn{ps:List Sl}(h:En K env σ H0 H rs ps vs):noOwn ps:=by
 induction h with
 |nil=>intro i o e;simp at e
 |val _ _ ih=>intro i o e;cases i with
  |zero=>simp at e
  |succ i=>exact ih i o (by simpa using e)
 |ref _ _ _ _ _ _ ih=>intro i o e;cases i with
  |zero=>simp at e
  |succ i=>exact ih i o (by simpa using e)
def En.lent{ps:List Sl}(h:En K env σ H0 H rs ps vs):∀{i:Nat}{a:Addr},aQ ps (vs.map some) i a->∃j,rs[i]? =some (.ref j)/\aQ env σ j a:=by
 induction h with
 |nil=>rintro i a ⟨⟨s,o,e,_⟩,_⟩;simp at e
 |val _ _ ih=>
  rintro i a ⟨⟨s,o,e1,e2⟩,e3⟩
  cases i with
  |zero=>simp at e1;subst e1;cases e2
  |succ i=>simpa using ih ⟨⟨s,o,by simpa using e1,e2⟩,by simpa using e3⟩
 | @ref o j b s rs ps vs e1 e2 e3 oa nr _ ih=>
  rintro i a ⟨⟨s',o',z1,z2⟩,z3⟩
  cases i with
  |zero=>
   simp at z3
   subst z3
   exact⟨j,rfl,⟨⟨s,o,e1,e2⟩,e3⟩⟩
  |succ i=>simpa using ih ⟨⟨s',o',by simpa using z1,z2⟩,by simpa using z3⟩
def En.eX(S0:Sat K env0 σ H0)(S:Sat K env σ H)(sub:∀(i:Nat)a,aQ env σ i a->aQ env0 σ i a){ps:List Sl}(h:En K env σ H0 H rs ps vs):Sat K ps (vs.map some) H:=by
 refine⟨by simpa using h.len.1,?_,?_⟩
 ·clear S0 sub
  induction h with
  |nil=>intro i s e;simp at e
  |val hd _ ih=>
   intro i s e
   cases i with
   |zero=>simp at e;subst e;exact⟨_,rfl,hd⟩
   |succ i=>simpa using ih i s (by simpa using e)
  |ref _ _ _ oa _ _ ih=>
   intro i s e
   cases i with
   |zero=>simp at e;subst e;exact⟨_,rfl,oa⟩
   |succ i=>simpa using ih i s (by simpa using e)
 ·--no two slots have one address
  induction h with
  |nil=>rintro i j a ⟨⟨s,o,e,_⟩,_⟩;simp at e
  |val hd t ih=>
   rintro i j a ⟨⟨s,o,e1,e2⟩,e3⟩ ⟨⟨s',o',e1',e2'⟩,e3'⟩
   cases i with
   |zero=>simp at e1;subst e1;cases e2
   |succ i=>cases j with
    |zero=>simp at e1';subst e1';cases e2'
    |succ j=>rw[ih i j a ⟨⟨s,o,by simpa using e1,e2⟩,by simpa using e3⟩ ⟨⟨s',o',by simpa using e1',e2'⟩,by simpa using e3'⟩]
  | @ref o k b s0 rs ps vs z1 z2 z3 oa nr t ih=>
   have ok:aQ env σ k b:=⟨⟨s0,o,z1,z2⟩,z3⟩
   have clash:∀i,¬aQ ps _ i b:=fun i z=>by
    obtain⟨q,e,ow⟩:=t.lent z
    have:=S.ne k q b ok ow
    subst this
    exact nr (QBz e)
   rintro i j a ⟨⟨s,o,e1,e2⟩,e3⟩ ⟨⟨s',o',e1',e2'⟩,e3'⟩
   cases i with
   |zero=>
    simp at e3
    subst e3
    cases j with
    |zero=>rfl
    |succ j=>exact absurd ⟨⟨s',o',by simpa using e1',e2'⟩,by simpa using e3'⟩ (clash j)
   |succ i=>cases j with
    |zero=>
     simp at e3'
     subst e3'
     exact absurd ⟨⟨s,o,by simpa using e1,e2⟩,by simpa using e3⟩ (clash i)
    |succ j=>rw[ih i j a ⟨⟨s,o,by simpa using e1,e2⟩,by simpa using e3⟩ ⟨⟨s',o',by simpa using e1',e2'⟩,by simpa using e3'⟩]
end
def Sl.Fo(o':Ob):Sl->Option Sl
 |.own _=>some (.own o')
 |.bor _=>some (.bor o')
 |_=>none
def Js{o':Ob}(h:cV j (fun _=>some o') env=some env'):∃s s',env[j]? =some s/\s.Fo o'=some s'/\env'=env.set j s':=by
 obtain⟨o,q,e,hh⟩:=pX h
 cases e
 rcases hh with ⟨e,rfl⟩|⟨e,rfl⟩
 ·exact⟨_,_,e,rfl,rfl⟩
 ·exact⟨_,_,e,rfl,rfl⟩
theorem oA:∀{rs:List Rv}{qs:List Sl}{env ε:Ev},giveBack rs qs env=some ε->ε.length=env.length/\∀j:Nat,
  ((∀i:Nat,rs[i]? ≠some (Rv.ref j))/\ε[j]? =env[j]?)\/∃(i:Nat)(o':Ob)(s s':Sl),rs[i]? =some (.ref j)/\qs[i]? =some (.bor o')/\env[j]? =some s/\s.Fo o'=some s'/\ε[j]? =some s'
 |[],[],env,ε,h=>by
  cases h
  exact⟨rfl,fun j=>.inl ⟨fun i=>by simp,rfl⟩⟩
 |[],_::_,env,ε,h=>by cases h
 |x::rs,[],env,ε,h=>by cases x<;>cases h
 |x::rs,q::qs,env,ε,h=>by
  have skip:giveBack rs qs env=some ε->(∀j,x≠ .ref j)->ε.length=env.length/\∀j:Nat,
    ((∀i:Nat,(x::rs)[i]? ≠some _)/\ε[j]? =env[j]?)\/∃(i:Nat)(o':Ob)(s s':Sl),(x::rs)[i]? =some _/\(q::qs)[i]? =some (.bor o')/\env[j]? =some s/\s.Fo o'=some s'/\ε[j]? =some s':=fun h nx=>by
   obtain⟨l,g⟩:=oA h
   refine⟨l,fun j=>?_⟩
   rcases g j with ⟨g1,g2⟩|⟨i,o',s,s',g1,g2,g3⟩
   ·refine .inl ⟨fun i e=>?_,g2⟩
    cases i with
    |zero=>simp at e;exact nx j e
    |succ i=>exact g1 i (by simpa using e)
   ·exact .inr ⟨i+1,o',s,s',by simpa using g1,by simpa using g2,g3⟩
  cases x with
  |val d=>exact skip h fun j z=>by cases z
  |new o=>exact skip h fun j z=>by cases z
  |ref k=>
   cases q with
   |bor o=>
    change Option.bind _ _=some ε at h
    cases e:cV k _ env with
    |none=>rw[e]at h;cases h
    |some δ=>
     rw[e]at h
     obtain⟨s0,s1,z1,z2,rfl⟩:=Js e
     have hk:=(QCz.mp z1).1
     obtain⟨l,g⟩:=oA h
     refine⟨by simpa using l,fun j=>?_⟩
     rcases g j with ⟨g1,g2⟩|⟨i,o',s,s',g1,g2,g3,g4,g5⟩
     ·by_cases hj:k=j
      ·subst hj
       rw[Qwq hk]at g2
       exact .inr ⟨0,o,s0,s1,rfl,rfl,z1,z2,g2⟩
      ·rw[Qxz hj]at g2
       refine .inl ⟨fun i e=>?_,g2⟩
       cases i with
       |zero=>simp at e;exact hj e
       |succ i=>exact g1 i (by simpa using e)
     ·by_cases hj:k=j
      ·subst hj
       rw[Qwq hk]at g3
       cases g3
       refine .inr ⟨i+1,o',s0,s',by simpa using g1,by simpa using g2,z1,?_,g5⟩
       cases s0 with
       |own q=>cases z2;exact g4
       |bor q=>cases z2;exact g4
       |un=>cases z2
       |val d=>cases z2
      ·rw[Qxz hj]at g3
       exact .inr ⟨i+1,o',s,s',by simpa using g1,by simpa using g2,g3,g4,g5⟩
   |un=>cases h
   |val d=>cases h
   |own o=>cases h
def Lp{o':Ob}(h:s.Fo o'=some s'):(∃o,isOwn s=some o)/\isOwn s'=some o':=by
 cases s with
 |own q=>cases h;exact⟨⟨q,rfl⟩,rfl⟩
 |bor q=>cases h;exact⟨⟨q,rfl⟩,rfl⟩
 |un=>cases h
 |val d=>cases h
section
def En.Ws(h:En K env σ H0 H rs ps vs):∀{i j:Nat},rs[i]? =some (.ref j)->∃o a,ps[i]? =some (.bor o)/\vs[i]? =some (.ref a)/\σ[j]? =some (some (.ref a)):=by
 induction h with
 |nil=>intro i j e;simp at e
 |val _ _ ih=>intro i j e;cases i with
  |zero=>simp at e
  |succ i=>simpa using ih (by simpa using e)
 | @ref o k a s rs ps vs e1 e2 e3 oa nr t ih=>
  intro i j e
  cases i with
  |zero=>simp at e;subst e;exact⟨o,a,rfl,rfl,e3⟩
  |succ i=>simpa using ih (by simpa using e)
def Sg(S0:Sat K env0 σ H0)(N:Nx K env0 σ H0 env H)(E:En K env σ H0 H rs ps vs)(C:Cz K ps vs H qs H2)(g:giveBack rs qs env=some ε):Nx K env0 σ H0 ε H2:=by
 have S:=N.eX
 have sub:=N.sub
 obtain⟨gl,gs⟩:=oA g
 have own2:∀j b,aQ ε σ j b->aQ env σ j b:=fun j b z=>by
  obtain⟨⟨s,o,e1,e2⟩,e3⟩:=z
  rcases gs j with ⟨_,g2⟩|⟨i,o',s0,s1,_,_,g3,g4,g5⟩
  ·rw[g2]at e1;exact⟨⟨s,o,e1,e2⟩,e3⟩
  ·obtain⟨⟨q,hq⟩,_⟩:=Lp g4
   exact⟨⟨s0,q,g3,hq⟩,e3⟩
 have notLent:∀j b,aQ env σ j b->(∀i:Nat,rs[i]? ≠some _)->∀i,¬aQ ps _ i b:=fun j b ow nr i z=>by
  obtain⟨k,e,ow'⟩:=E.lent z
  have:=S.ne j k b ow ow'
  subst this
  exact nr i e
 refine⟨⟨by rw[gl];exact S.len,fun j s e=>?_,fun j k b z w=>S.ne j k b (own2 j b z) (own2 k b w)⟩,fun j b z=>sub j b (own2 j b z),N.pers.trans C.pers,fun b u hb no=>C.keep b u (N.keep b u hb no) fun i z=>?_,fun b z=>N.dom b (C.dom b z),fun j xs e=>?_⟩
 ·rcases gs j with ⟨g1,g2⟩|⟨i,o',s0,s1,g1,g2,g3,g4,g5⟩
  ·rw[g2]at e
   exact(S.sl j s e).keep C.pers fun b u ho ev hb=>C.keep b u hb (notLent j b (ww e ho ev) g1)
  ·rw[g5]at e
   cases e
   obtain⟨o,a,p1,p2,p3⟩:=E.Ws g1
   obtain⟨o'',a',c1,c2,c3⟩:=C.bor i o p1
   rw[g2]at c1
   cases c1
   rw[p2]at c2
   cases c2
   cases s0 with
   |own q=>cases g4;exact⟨a,by rw[p3];rfl,c3⟩
   |bor q=>cases g4;exact⟨a,by rw[p3];rfl,c3⟩
   |un=>cases g4
   |val d=>cases g4
 ·obtain⟨k,e,ow⟩:=E.lent z
  exact no k (sub k b ow)
 ·obtain⟨xs,e⟩:=N.bors j xs e
  rcases gs j with ⟨g1,g2⟩|⟨i,o',s0,s1,g1,g2,g3,g4,g5⟩
  ·exact⟨xs,by rw[g2];exact e⟩
  ·rw[e]at g3
   cases g3
   cases g4
   exact⟨o',g5⟩
end
section
theorem RT(F:oO X.prog X.w X.K X.mg X.base O9 k f fd ps (v4 X.K ps.length (c.fn g)))(hr:jj k X.A)(hg:Gl X x)(hm:X.mg x=some (.ref f))(hk:PySem.W.keepIn X.K (.ref f)=true)(hb:Binds X.K fd ps [])
  (hd:(x==("__debug__":Str))=false)(ha:GA X W c m (e::es))(he:starEach (e::es) X.env=(false,eval e X.env)::starEach es X.env)(hpl:(backTo pos (starEach es X.env)).any (·.1)=false)(hn:∀sl,c.fn g sl=.bad\/sl.length=ps.length):
  GE X W c (.call g m) (.Call (.Name x p) (e::es) [] pos):=by
 intro env γ s σ H Q I q
 refine Q3 F hr hg hm hk hb .nil abV (t:=fun ζ H' R=>ζ=σ/\H'=H/\TF X.K W env (evs c m env) σ H R) (fun p γ s ζ H' R I'⟨e1,e2,z⟩=>by subst e1 e2;exact ha env p γ s _ _ R I' z) hd he hpl γ s σ H Q I ⟨rfl,rfl,?_⟩
 simp only[VG]at q
 obtain⟨S,q⟩:=q
 refine⟨S,?_⟩
 cases r:evs c m env with
 |bad=>rw[r]at q;exact q
 |exc j δ=>rw[r]at q;exact q
 |ok rs δ=>
  rw[r]at q
  simp only[Out.bind,sE]at q
  intro vs H1 N rv
  rw[List.append_nil]
  cases e1:enter rs δ with
  |none=>rw[e1]at q;exact q.elim
  |some sl=>
   rw[e1]at q
   simp only at q
   have E:=mW N.eX e1 rv
   refine⟨sl,?_,E.eX S N.eX N.sub,E.noOwn,?_⟩
   ·rcases hn sl with z|z
    ·rw[z]at q;exact q.elim
    ·rw[<-E.len.1,z]
   ·cases e2:c.fn g sl with
    |bad=>rw[e2]at q;exact q.elim
    |ok rv qs=>
     rw[e2]at q
     simp only at q
     intro v H2 C z
     cases e3:giveBack rs qs δ with
     |none=>rw[e3]at q;exact q.elim
     |some ε=>
      rw[e3]at q
      refine q v H2 (Sg S N E C e3) ?_
      cases rv with
      |val d=>exact z
      |new o=>obtain⟨a,z1,z2,z3⟩:=z;exact⟨a,z1,z2,N.dom a z3⟩
      |ref i=>exact z.elim
    |exc j qs=>rw[e2]at q;exact q.elim
end
def Hc c g sl:gW c g sl=.bad\/sl.length=g.pars:=by
 unfold gW
 split
 ·exact .inr (by assumption)
 ·exact .inl rfl
end Mini
end
section
namespace Mini
open PySem L2 PyProof.Rows
structure Ae(z TI TO i1 i2:Addr)(b1 b2:Bool)(l1 l2:Addr)(k:Nat)(h:Heap):Prop where
 zr:∃f0 f1,jc h z TI TO f0 f1/\F0 f0
 ti:IsPair h TI (.ref i1) (.ref i2)
 to:∃a b,IsPair h TO a b
 it1:tu b1 h i1 l1 k
 it2:tu b2 h i2 l2 k
section
variable{E:QZq}
def vB{b1 b2:Bool}{xs ys:Array Value}(hl1:xX b1 s.heap l1 xs)(hl2:xX b2 s.heap l2 ys)
  (h:∀h',Ae (s.heap.objs.size+4) (s.heap.objs.size+2) (s.heap.objs.size+3) s.heap.objs.size (s.heap.objs.size+1) b1 b2 l1 l2 0 h'->h'.objs.size=s.heap.objs.size+5->
   (∀c o,s.heap.get? c=some o->h'.get? c=some o)->Q (.ref (s.heap.objs.size+4)) {s with heap:=h'}):
  wpAny (model prog w) A (call (.type "zip") [.ref l1,.ref l2]) Q E s:=by
 refine callType_new PySem.F.called_zip (by decide) (PySem.F.typeCall_zip_2 _ _) (PySem.F.newCall_zip_2 _ _) (fun obj=>PySem.F.args_object_init_3 obj _ _) PySem.F.entry_zip_new
  (Ji b1 b2 l1 l2 xs ys) ⟨hl1,hl2,?_⟩
 have z1:(zH1 b1 s.heap l1).objs.size=s.heap.objs.size+1:=Heap.size_push ..
 have z2:(zH2 b1 b2 s.heap l1 l2).objs.size=s.heap.objs.size+2:=by rw[Heap.size_push,z1]
 have z3:(zH3 b1 b2 s.heap l1 l2).objs.size=s.heap.objs.size+3:=by rw[Heap.size_push,z2]
 have z4:(zH4 b1 b2 s.heap l1 l2).objs.size=s.heap.objs.size+4:=by rw[Heap.size_push,z3]
 have g5:(Zj b1 b2 s.heap l1 l2).get? (zH4 b1 b2 s.heap l1 l2).objs.size=some _:=Qzq _ rfl
 have g4:(Zj b1 b2 s.heap l1 l2).get? (zH3 b1 b2 s.heap l1 l2).objs.size=some _:=QWq _ (Qzq _ rfl)
 have g3:(Zj b1 b2 s.heap l1 l2).get? (zH2 b1 b2 s.heap l1 l2).objs.size=some _:=QWq _ (QWq _ (Qzq _ rfl))
 have g2:(Zj b1 b2 s.heap l1 l2).get? (zH1 b1 s.heap l1).objs.size=some _:=QWq _ (QWq _ (QWq _ (Qzq _ rfl)))
 rw[z2,z3,z4]at g5
 rw[z1,z2]at g3
 rw[z3]at g4
 rw[z1]at g2
 rw[z4]
 have i1:tu b1 (Zj b1 b2 s.heap l1 l2) s.heap.objs.size l1 0:=by cases b1<;>exact⟨_,(QWq _ (QWq _ (QWq _ (QWq _ (Qzq _ rfl))))),rfl,rfl⟩
 exact⟨⟨_,g5,rfl⟩,h _ ⟨⟨_,_,g5,.inl rfl⟩,g3,⟨_,_,g4⟩,i1,(by cases b2<;>exact⟨_,g2,rfl,rfl⟩)⟩ (by rw[Heap.size_push,z4]) fun c o x=>
  QWq _ (QWq _ (QWq _ (QWq _ (QWq _ x))))⟩
end
def uf(h1:l1<n)(h2:l2<n):ZipApart (n+4) (n+2) (n+3) n (n+1) l1 l2:=zipApart_new h1 h2
def Inv.DX{X:Cx}{σ:L2.St}{H:Hp}{h':Heap}{ch:List Addr}(I:Inv X γ σ H s)(k:∀b o,b∉ch->s.heap.get? b=some o->h'.get? b=some o)(hf:∀b∈ch,fP X γ H b):
  Inv X γ σ H {s with heap:=h',toks:=t'}:=by
 have nit:∀b u,H b=some u->b∉ch:=fun b u e z=>by rw[(hf b z).1]at e;cases e
 refine I.step (fun b hb=>⟨(hf b hb).2.2.2.1,(hf b hb).2.1,(hf b hb).2.2.2.2.1,(hf b hb).2.2.2.2.2⟩) (fun b o _ _ hc e _=>k b o hc e) (fun b o _ _ hc e _=>⟨o.slots,k b o hc e⟩) (fun _ _ _ _ n=>n)
  (fun b o hc e=>⟨o,k b o hc e⟩) (fun _ _ e=>e) (fun _ _ _ e=>e) (fun b ps e=>⟨#[],by rw[e];simp⟩) (fun m hm=>?_) (fun b u e=>?_) I.bare
 ·obtain⟨o,es,ep,ho,r⟩:=hm
  exact⟨o,es,ep,k _ o (fun z=>(hf _ z).2.1 rfl) ho,r⟩
 ·refine(I.hok b u e).stay (fun c v hc q=>k c v ?_ q) (fun _ q=>q) fun _ _ q=>q
  rcases hc with z|z
  ·rw[z];exact nit b u e
  ·exact nit c _ z
def Inv.uh{X:Cx}{σ:L2.St}{H:Hp}{h':Heap}{ch:List Addr}{a:Addr}(I:Inv X γ σ H s)(k:∀b o,b∉ch->s.heap.get? b=some o->h'.get? b=some o)(hf:∀b∈ch,fP X γ H b)
  (ha:s.heap.objs.size<=a)(new:b8 X.prog X.w (upd H a u) h' a u):Inv X γ σ (upd H a u) {s with heap:=h',toks:=t'}:=by
 have nit:∀b u,H b=some u->b∉ch:=fun b u e z=>by rw[(hf b z).1]at e;cases e
 have ne:∀b w,H b=some w->b≠a:=fun b w e z=>by subst z;rw[I.hok.fresh ha]at e;cases e
 refine I.step (fun b hb=>⟨(hf b hb).2.2.2.1,(hf b hb).2.1,(hf b hb).2.2.2.2.1,(hf b hb).2.2.2.2.2⟩) (fun b o _ _ hc e _=>k b o hc e) (fun b o _ _ hc e _=>⟨o.slots,k b o hc e⟩)
  (fun b o _ e n=>by rw[au (Qvz (Qvq (Qqz e) ha))];exact n)
  (fun b o hc e=>⟨o,k b o hc e⟩) (fun b xs e=>by rw[au (ne b _ e)];exact e) (fun b o w e=>by rw[au (ne b _ e)];exact e) (fun b ps e=>⟨#[],by rw[au (ne b _ e),e];simp⟩) (fun m hm=>?_) (fun b w e=>?_) I.bare
 ·obtain⟨o,es,ep,ho,r⟩:=hm
  exact⟨o,es,ep,k _ o (fun z=>(hf _ z).2.1 rfl) ho,r⟩
 ·by_cases hb:b=a
  ·subst hb
   rw[aK]at e
   cases e
   exact new
  ·rw[au hb]at e
   refine(I.hok b w e).stay (fun c v hc q=>k c v ?_ q) (fun c q=>by rw[au (ne c _ q)];exact q) fun c xs q=>by rw[au (ne c _ q)];exact q
   rcases hc with z|z
   ·rw[z];exact nit b w e
   ·exact nit c _ z
def OD(K:QQq)(b:Bool)(H:Hp)(l:Addr)(vs:List V):Prop:=match b with|true=>GD K H l vs|false=>jg K H l vs
def bR.vZ{K:QQq}{b:Bool}{l:Addr}(p:bR H H')(h:OD K b H l vs):OD K b H' l vs:=by
 cases b with
 |true=>exact p.RW h
 |false=>exact p.Wd h
def Inv.vZ{X:Cx}{σ:L2.St}{H:Hp}{b:Bool}{l:Addr}(I:Inv X γ σ H s)(h:OD X.K b H l vs):∃its:List Value,Vals vs its/\xX b s.heap l its.toArray/\vs.length<=sizeLine/\l<s.heap.objs.size:=by
 cases b with
 |true=>
  obtain⟨its,r,p,z⟩:=I.list (GD.sq h)
  obtain⟨o,e,_⟩:=p.isList
  exact⟨its,r,p.isList,z,Qqz e⟩
 |false=>
  obtain⟨its,r,p,z⟩:=I.tuple h
  obtain⟨o,e,_⟩:=id p
  exact⟨its,r,p,z,Qqz e⟩
noncomputable def Itz(K:QQq)(b1 b2:Bool)(l1 l2:Addr)(vs ws:List V):It:=
 ⟨fun i H=>OD K b1 H l1 vs/\OD K b2 H l2 ws/\∃v u,vs[i]? =some v/\ws[i]? =some u,
  fun i H x H'=>∃p v u,H p=none/\x=.ref p/\vs[i]? =some v/\ws[i]? =some u/\H'=upd H p (.tup [v,u]),
  fun i H=>OD K b1 H l1 vs/\OD K b2 H l2 ws/\(vs.length<=i\/ws.length<=i)⟩
theorem jt{w:World}{K:QQq}{z TI TO i1 i2 l1 l2:Addr}{b1 b2:Bool}(D:ZipApart z TI TO i1 i2 l1 l2):
  Turn P w K tg (Itz K b1 b2 l1 l2 vs ws) [z,TI,TO,i1,i2] z (fun i h=>Ae z TI TO i1 i2 b1 b2 l1 l2 i h) where
 mem:=by simp
 obj:=fun i h st b hb=>by
  obtain⟨f0,f1,zr,_⟩:=st.zr
  obtain⟨x,y,to⟩:=st.to
  simp only[QCq,QAz,or_false]at hb
  rcases hb with rfl|rfl|rfl|rfl|rfl
  ·exact⟨_,zr,fun v z=>by cases z⟩
  ·exact⟨_,st.ti,fun v z=>by cases z⟩
  ·exact⟨_,to,fun v z=>by cases z⟩
  ·exact st.it1.obj
  ·exact st.it2.obj
 keep:=fun i h h' st k=>by
  obtain⟨f0,f1,zr,hf⟩:=st.zr
  obtain⟨x,y,to⟩:=st.to
  exact⟨⟨f0,f1,k z (by simp) _ zr,hf⟩,k TI (by simp) _ st.ti,⟨x,y,k TO (by simp) _ to⟩,st.it1.at fun o e=>k i1 (by simp) o e,st.it2.at fun o e=>k i2 (by simp) o e⟩
 item:=by
  intro X hP hw hK hc i γ s σ H E I hf st hg
  subst hP hw hK
  obtain⟨hq1,hq2,v,u,ev,eu⟩:=hg
  obtain⟨its,r1,p1,_,_⟩:=Inv.vZ I hq1
  obtain⟨its2,r2,p2,_,_⟩:=Inv.vZ I hq2
  obtain⟨x,ex,rx⟩:=r1.get ev
  obtain⟨y,ey,ry⟩:=r2.get eu
  obtain⟨f0,f1,zr,h0⟩:=st.zr
  obtain⟨a,b,to⟩:=st.to
  refine pB D zr h0 st.ti to st.it1 st.it2 p1 p2 (by simpa using ex) (by simpa using ey) fun h' T=>?_
  obtain⟨g0,g1,zr',h0'⟩:=T.zr
  refine⟨_,rfl,HN zr' h0' fun h'' q0 zr'' hq0 sb=>?_⟩
  have f1':∀b∈[z,TO,i1,i2],fP X γ H b:=fun b hb=>hf b (by
   simp only[QCq,QAz,or_false]at hb⊢
   rcases hb with h|h|h|h<;>simp[h])
  have kk:∀b o,b∉[z,TO,i1,i2]->s.heap.get? b=some o->h''.get? b=some o:=fun b o hb e=>by
   simp only[QCq,QAz,or_false,not_or]at hb
   exact sb.extBut _ _ hb.1 (T.keep b o hb.1 hb.2.1 hb.2.2.1 hb.2.2.2 e)
  have new'':=sb.extBut _ _ (by
   obtain⟨q,e,_⟩:∃q,s.heap.get? z=some q/\True:=⟨_,zr,trivial⟩
   exact Nat.ne_of_gt (Qqz e)) T.new
  have I1:Inv X γ σ (upd H s.heap.objs.size (.tup [v,u])) {s with heap:=h''}:=by
   refine Inv.uh I kk f1' (QVz _) ⟨by show 2<=sizeLine;rw[sizeLine_eq];decide,[x,y],.cons rx (.cons ry .nil),_,new'',rfl,rfl,_,rfl⟩
  refine⟨.ref s.heap.objs.size,upd H s.heap.objs.size _,I1,rfl,⟨_,v,u,I.hok.fresh (QVz _),rfl,ev,eu,rfl⟩,?_,fun b hb=>?_⟩
  ·have up:∀c o,c≠z->h'.get? c=some o->h''.get? c=some o:=fun c o hcz e=>sb.extBut _ _ hcz e
   obtain⟨a',b',to'⟩:=T.to
   exact⟨⟨q0,g1,zr'',hq0⟩,up _ _ D.TIz T.ti,⟨a',b',up _ _ D.TOz to'⟩,T.it1.at fun o e=>up _ o D.i1z e,T.it2.at fun o e=>up _ o D.i2z e⟩
  ·have lt:b<s.heap.objs.size:=by
    simp only[QCq,QAz,or_false]at hb
    rcases hb with rfl|rfl|rfl|rfl|rfl
    ·exact Qqz zr
    ·exact Qqz st.ti
    ·exact Qqz to
    ·exact st.it1.lt
    ·exact st.it2.lt
   rw[au (Qvz lt)]
   exact(hf b hb).1
 done:=by
  intro X hP hw hK hc i γ s σ H E I hf st hg
  subst hP hw hK
  obtain⟨hq1,hq2,hend⟩:=hg
  obtain⟨its,r1,p1,_,_⟩:=Inv.vZ I hq1
  obtain⟨its2,r2,p2,_,_⟩:=Inv.vZ I hq2
  have l1:=r1.length
  have l2:=r2.length
  obtain⟨f0,f1,zr,h0⟩:=st.zr
  obtain⟨a,b,to⟩:=st.to
  refine qJ (I.ok.hd hc) D zr h0 st.ti to st.it1 st.it2 p1 p2 ?_ fun h' kk=>⟨rfl,?_⟩
  ·rcases hend with h|h
   ·exact .inl (by simp;omega)
   ·exact .inr (by simp;omega)
  ·refine Inv.DX (ch:=[z,TO,i1,i2]) I (fun b o hb e=>?_) fun b hb=>hf b (by
    simp only[QCq,QAz,or_false]at hb⊢
    rcases hb with h|h|h|h<;>simp[h])
   simp only[QCq,QAz,or_false,not_or]at hb
   exact kk b o hb.1 hb.2.1 hb.2.2.1 hb.2.2.2 e
 self:=fun A i s Q E st h=>by
  obtain⟨f0,f1,zr,h0⟩:=st.zr
  exact iD zr h
end Mini
end
section
namespace Mini
open PySem L2
theorem jo:∀{xs ys:List D}{i:Nat}{d:D},(aC xs ys)[i]? =some d->∃x y,xs[i]? =some x/\ys[i]? =some y/\d=.tup [x,y]
 |[],_,i,d,h=>by simp[aC]at h
 |_::_,[],i,d,h=>by simp[aC]at h
 |x::xs,y::ys,0,d,h=>by simp[aC]at h;exact⟨x,y,rfl,rfl,h.symm⟩
 |x::xs,y::ys,i+1,d,h=>by
  rw[aC,List.getElem?_cons_succ]at h
  simpa using jo h
theorem jn:∀(xs ys:List D),(aC xs ys).length=min xs.length ys.length
 |[],ys=>by simp[aC]
 |_::_,[]=>by simp[aC]
 |x::xs,y::ys=>by rw[aC,QBq,jn xs ys,QBq,QBq];omega
theorem u6{H:Hp}{b1 b2:Bool}{vs ws:List V}(h1:OD K b1 H l1 vs)(h2:OD K b2 H l2 ws)(d1:ao K H xs vs)(d2:ao K H ys ws)(hz:vs.length<=sizeLine):
  Gives K (Itz K b1 b2 l1 l2 vs ws) (aC xs ys) H where
 go:=fun H1 p i d e=>by
  obtain⟨x,y,ex,ey,_⟩:=jo e
  obtain⟨v,ev,_⟩:=d1.get ex
  obtain⟨u,eu,_⟩:=d2.get ey
  exact⟨p.vZ h1,p.vZ h2,v,u,ev,eu⟩
 yld:=fun H1 p i d e x H2 y=>by
  obtain⟨a,v,u,hn,rfl,ev,eu,rfl⟩:=y
  obtain⟨dx,dy,ex,ey,rfl⟩:=jo e
  obtain⟨v',ev',dv⟩:=d1.get ex
  obtain⟨u',eu',du⟩:=d2.get ey
  rw[ev]at ev'
  rw[eu]at eu'
  cases ev'
  cases eu'
  have pp:bR H1 (upd H1 a (.tup [v,u])):=by
   refine⟨fun b xs q=>?_,fun b o w q=>?_⟩
   ·rw[au (fun z=>by subst z;rw[hn]at q;cases q)];exact q
   ·rw[au (fun z=>by subst z;rw[hn]at q;cases q)];exact q
  exact⟨dB (.inl (.inl aK)) (ao.cW ((dv.mono p).mono pp) (ao.cW ((du.mono p).mono pp) ao.fZ)),.inr ⟨a,_,hn,rfl⟩⟩
 stop:=fun H1 p i hi=>by
  rw[jn]at hi
  have:=d1.length
  have:=d2.length
  exact⟨p.vZ h1,p.vZ h2,by omega⟩
 len:=by rw[jn];have:=d1.length;omega
def bD.vZ{H:Hp}{xs:List D}(h:bD K H d v)(e:bK d=some xs):∃b l vs,v=.ref l/\OD K b H l vs/\ao K H xs vs:=by
 cases d with
 |tup ys=>cases e;obtain⟨a,vs,rfl,hq,l⟩:=cg h;exact⟨false,a,vs,rfl,hq,l⟩
 |lst ys=>cases e;obtain⟨a,vs,rfl,hq,l⟩:=cR h;exact⟨true,a,vs,rfl,hq,l⟩
 |_=>cases e
section
def aaW{H1:Hp}(h:tI K W env r σ H R)(N:Nx K env σ H δ H1):tI K W δ r σ H1 R:=by
 obtain⟨_,h⟩:=h
 refine⟨N.eX,?_⟩
 cases r with
 |bad=>exact h
 |exc c ε=>exact fun H' N'=>h H' (N.trans N')
 |ok x ε=>
  obtain⟨d,xs,e1,e2,z⟩:=h
  exact⟨d,xs,e1,e2,fun J H' N' G=>z J H' (N.trans N') G⟩
theorem qd{f:D->Ev->Out Rv}(h:tI K W env (r.ak f) σ H R)
  (k:∀d δ v H1,Nx K env σ H δ H1->bD K H1 d v->tI K W δ (f d δ) σ H1 R->R' v H1):tD K W env r σ H R':=by
 have step:∀d δ,r.ak f=f d δ->∀v H1,Nx K env σ H δ H1->bD K H1 d v->R' v H1:=fun d δ e v H1 N D=>by
  rw[e]at h
  exact k d δ v H1 N D (aaW h N)
 obtain⟨S,h⟩:=h
 refine⟨S,?_⟩
 cases r with
 |bad=>exact h
 |exc c δ=>exact h
 |ok x δ=>
  cases x with
  |val d=>exact fun v H1 N D=>step d δ rfl v H1 N D
  |new xs=>exact fun v H1 N D=>step xs.d δ rfl v H1 N D
  |ref i=>exact h
end
section
theorem Yo(ha:GE X W c m1 a)(hb:GE X W c m2 b)(hg:Gl X "zip")(hm:X.mg "zip"=none)(hs:starEach [a,b] X.env=[(false,eval a X.env),(false,eval b X.env)])(hs2:starEach [b] X.env=[(false,eval b X.env)]):
  GI X W c (.zip m1 m2) tg (.Call (.Name "zip" p) [a,b] [] pos):=by
 intro env γ s σ H R I q
 let RR:List V->Hp->Prop:=fun vs H'=>∃ε d1 d2 xs ys v1 v2,vs=[v1,v2]/\bD X.K H' d1 v1/\bD X.K H' d2 v2/\bK d1=some xs/\bK d2=some ys/\Sat X.K ε σ H'/\∀J H2,Nx X.K ε σ H' ε H2->Gives X.K J (aC xs ys) H2->R J H2
 have go:aD X W c m1 σ H fun v1 H1=>aD X W c m2 σ H1 fun v2 H2=>RR [v1,v2] H2:=by
  refine⟨env,qd q fun d1 δ v1 H1 N1 D1 q1=>⟨δ,qd q1 fun d2 ε v2 H2 N2 D2 q2=>?_⟩⟩
  cases e1:bK d1 with
  |none=>rw[e1]at q2;exact q2.2.elim
  |some xs=>
   cases e2:bK d2 with
   |none=>rw[e1,e2]at q2;exact q2.2.elim
   |some ys=>
    rw[e1,e2]at q2
    obtain⟨S,d,zs,z1,z2,z3⟩:=q2
    cases z1
    cases z2
    exact⟨ε,d1,d2,xs,ys,v1,v2,rfl,D1.mono N2.pers,D2,e1,e2,S,z3⟩
 refine wpAny_Call_Name_kw (iI I hg hm PyProof.Rows.boot_zip ?_ (by decide) (by decide))
 refine PyProof.Rows.callWith_type1 (cu (cI ha.d (cI hb.d eQ hs2) (by rw[hs,hs2]) pos γ s σ H RR I go) fun us s1⟨vs,H1,I1,r1,q1⟩=>?_) (by rw[hs,hs2]) (by rw[hs2];rfl)
 obtain⟨ε,d1,d2,xs,ys,v1,v2,rfl,D1,D2,e1,e2,S2,q3⟩:=q1
 obtain⟨b1,l1,vs,rfl,h1,dl1⟩:=D1.vZ e1
 obtain⟨b2,l2,ws,rfl,h2,dl2⟩:=D2.vZ e2
 obtain⟨u1,u2,rfl,ru1,ru2⟩:=Vals.two r1
 cases ru1
 cases ru2
 obtain⟨its,rr1,p1,z1,lt1⟩:=Inv.vZ I1 h1
 obtain⟨its2,rr2,p2,z2,lt2⟩:=Inv.vZ I1 h2
 refine vB p1 p2 fun h' st sz kk=>?_
 obtain⟨f0,f1,zr,h0⟩:=st.zr
 refine iD zr ?_
 refine⟨s1.heap.objs.size+4,[s1.heap.objs.size+4,s1.heap.objs.size+2,s1.heap.objs.size+3,s1.heap.objs.size,s1.heap.objs.size+1],_,_,H1,rfl,I1.kept kk,jt (uf lt1 lt2),st,fun b hb=>?_,q3 _ H1 (Nx.refl S2) (u6 h1 h2 dl1 dl2 z1)⟩
 have hb':s1.heap.objs.size<=b:=by
  simp only[QCq,QAz,or_false]at hb
  rcases hb with rfl|rfl|rfl|rfl|rfl<;>omega
 exact I1.zL hb' (I1.hok.fresh hb')
end
def Nx.chg{env:Ev}{H0 H:Hp}{u u':HO}(N:Nx K env σ H0 env H)(S:Sat K env σ H0)(h0:H0 d=none)(h:H d=some u)(hu:O7 u):Nx K env σ H0 env (upd H d u'):=by
 have p:=fY (u':=u') h hu
 refine⟨N.eX.keep p fun i b w ow hb=>?_,N.sub,N.pers.trans p,fun b w q n=>?_,fun b q=>?_,N.bors⟩
 ·rw[au (fun z=>by subst z;exact S.qQ h0 i (N.sub i b ow))];exact hb
 ·rw[au (fun z=>by subst z;rw[h0]at q;cases q)];exact N.keep b w q n
 ·refine N.dom b ?_
  by_cases hb:b=d
  ·subst hb;rw[aK]at q;cases q
  ·rw[au hb]at q;exact q
def NK:O7 (.dK kvs):=by
 constructor
 all_goals (intros;intro z;cases z)
def Gv:O7 (.lst vs):=by
 constructor
 all_goals (intros;intro z;cases z)
def Cx.under(X:Cx)(A:Around):Cx:={X with A:=A}
theorem Inv.under{A:Around}{σ:St}{H:Hp}(I:Inv X γ σ H s)(h1:A.handled=X.A.handled)(h2:A.frames=X.A.frames):Inv (Cx.under X A) γ σ H s:=
 ⟨⟨I.ok.mod,I.ok.kind,I.ok.glob,I.ok.blt,I.ok.above,I.ok.inj,I.ok.has,I.ok.cab,fun hc=>h1.trans (I.ok.hd hc),h2.trans I.ok.frames,I.ok.stk,I.ok.exf,I.ok.bs,I.ok.bsz,I.ok.noex,I.ok.exfs,I.ok.lu,I.ok.frf⟩,
  I.os,I.bare,I.base,I.loc,I.cell,I.free,I.freeC,I.pin,I.hok,I.len⟩
def Inv.back{A:Around}{σ:St}{H:Hp}(I:Inv (Cx.under X A) γ σ H s)(h1:X.A.handled=A.handled)(h2:X.A.frames=A.frames):Inv X γ σ H s:=
 Inv.under (X:=Cx.under X A) I h1 h2
def wU{M:Model}{β:Type}{p:Pos}{m:Sem β}{Q:β->Shared->Prop}{E:QZq}
  (h:wpAny M A (letOwnedTupleGo (.Name x p) it u) (fun _ s=>wpAny M A m Q E s) E s):wpAny M A m Q E s:=by
 have:=QKq h
 exact this
def dG:entryFor table "dict.update.loop"=some Builtin.«dict.update.loop»:=entryFor_of_tree (by kernel_rfl)
def bV:plainId "dict.update.loop"=true:=by decide+kernel
def zX{d:D}(h:dictOf ks vs (d::r)=some p):∃k v,d=.tup [k,v]/\keyOk k=true/\dictOf (putD k v ks vs).1 (putD k v ks vs).2 r=some p:=by
 unfold dictOf at h
 split at h
 ·rename_i e;cases e
 ·rename_i k v r' e
  cases e
  split at h
  ·rename_i hk
   exact⟨k,v,rfl,hk,h⟩
  ·cases h
 ·cases h
def xm{xs:List D}(h:i<xs.length):∃d,xs[i]? =some d/\xs.drop i=d::xs.drop (i+1):=⟨xs[i],QXq h,List.drop_eq_getElem_cons h⟩
def CV{d:D}(h:jB ks vs (d::r)=some p):∃k v,d=.tup [k,v]/\cP k=true/\jB (putD k v ks vs).1 (putD k v ks vs).2 r=some p:=by
 unfold jB at h
 split at h
 ·rename_i e;cases e
 ·rename_i k v r' e
  cases e
  split at h
  ·rename_i hk
   exact⟨k,v,rfl,hk,h⟩
  ·cases h
 ·cases h
def NB:O7 (.dS xs):=by
 constructor
 all_goals (intros;intro z;cases z)
def Nf{w:World}(h:Heap)(hb:sysModules<h.objs.size):b8 P w H (h.push {cls:=.type "dict",data:=.dict #[]}) h.objs.size (.dS []):=
 ⟨QIq _,beq_eq_false_iff_ne.mpr (Ne.symm (Qvz hb)),List.nodup_nil,[],_, #[],0,.nil,Qzq _ rfl,⟨rfl,rfl,rfl⟩,rfl,rfl⟩
noncomputable def zY(xs:List D):Option Ob:=((dictOf [] [] xs).map fun p=>Ob.dct p.1 p.2).or ((jB [] [] xs).map fun p=>Ob.sdt p.1 p.2)
def Aa xs:Sq .dict xs=(zY xs).map .new:=by
 unfold zY
 simp only[Sq]
 cases dictOf [] [] xs<;>cases jB [] [] xs<;>rfl
def Nq{o:Ob}(h:zY xs=some o):(∃p,dictOf [] [] xs=some p/\o=.dct p.1 p.2)\/∃p,jB [] [] xs=some p/\o=.sdt p.1 p.2:=by
 unfold zY at h
 cases e:dictOf [] [] xs with
 |some p=>rw[e]at h;cases h;exact .inl ⟨p,rfl,rfl⟩
 |none=>
  rw[e]at h
  cases e2:jB [] [] xs with
  |some p=>rw[e2]at h;cases h;exact .inr ⟨p,rfl,rfl⟩
  |none=>rw[e2]at h;cases h
section
theorem Ir(hA:X.A=A.in1)(hc:X.calm=true)(T:Turn X.prog X.w X.K (.Name x p) J fp it tn)(G:Gives X.K J xs H1)(S:Sat X.K env τ H0)(h0:H0 d=none)
  (fin:∀s H,Inv X γ σ H s->Nx X.K env τ H0 env H->jk X.K H (.dct ks' vs') d->R (.ok (.ret .none)) s):
  ∀(n i:Nat)(s:Shared)(H:Hp)(kvs:List (Key×V))(vs:List D),xs.length-i=n->Inv X γ σ H s->(∀b∈fp,fP X γ H b)->tn i s.heap->bR H1 H->Nx X.K env τ H0 env H->H d=some (.dK kvs)->
   ao X.K H vs (kvs.map (·.2))->dictOf (kvs.map fun q=>dI q.1) vs (xs.drop i)=some (ks',vs')->kvs.length<=i->i<=xs.length->
   codeAny (model X.prog X.w) A (.builtin "dict.update.loop" ⟨[.ref d,.ref it,rawInt ((i:Nat):Int),.none],[]⟩) R s:=by
 intro n
 induction n with
 |zero=>
  intro i s H kvs vs hn I hf st P N hd dl ho hk hi
  refine codeAny_builtin dG ?_
  rw[Around.under_plainId bV _,<-hA]
  refine QKq (QGq (T.done X rfl rfl rfl hc i γ s σ H _ I hf st (G.stop H P i (by omega))) (fun r s1 h=>?_) fun _ _ h=>h)
  obtain⟨rfl,I1⟩:=h
  rw[List.drop_eq_nil_of_le (by omega)]at ho
  cases ho
  exact QKq (QKz (QKz (fin s1 H I1 N ⟨_,hd,kvs,rfl,rfl,dl⟩)))
 |succ n ih=>
  intro i s H kvs vs hn I hf st P N hd dl ho hk hi
  have hlt:i<xs.length:=by omega
  obtain⟨dd,ed,edr⟩:=xm hlt
  rw[edr]at ho
  obtain⟨k,v,rfl,hkk,ho'⟩:=zX ho
  refine codeAny_builtin dG ?_
  rw[Around.under_plainId bV _,<-hA]
  refine QKq (QGq (T.item X rfl rfl rfl hc i γ s σ H _ I hf st (G.go H P i _ ed)) (fun r s1 h=>?_) fun _ _ h=>h)
  obtain⟨u,rfl,h⟩:=h
  refine wU (QGq h (fun _ s2 h2=>?_) fun _ _ h=>h)
  obtain⟨y,H',I',ry,yl,st',nf⟩:=h2
  obtain⟨Dy,hH⟩:=G.yld H P i _ ed y H' yl
  obtain⟨a,ws,rfl,hq,l⟩:=cg Dy
  cases ry
  obtain⟨vk,r1,rfl,Dk,l⟩:=ao.aF.mp l
  obtain⟨vv,r2,rfl,Dv,l⟩:=ao.aF.mp l
  have:=ao.bL.mp l
  subst this
  obtain⟨kk,rfl⟩:=fU hkk
  have ek:=j7 Dk
  subst ek
  obtain⟨its,rr,pt,_⟩:=I'.tuple hq
  obtain⟨uk,uv,rfl,rk,rv⟩:=Vals.two rr
  obtain⟨o,eo,ec,nn,edt⟩:=pt
  have N':Nx X.K env τ H0 env H'/\bR H H'/\H' d=some (.dK kvs):=by
   rcases hH with rfl|⟨q,ws,hq0,rfl⟩
   ·exact⟨N,bR.refl _,hd⟩
   ·have NL:=Nx.laid (o:=.tup ws) N.eX hq0
    exact⟨N.trans NL,NL.pers,by rw[au (fun z=>by subst z;rw[hq0]at hd;cases hd)];exact hd⟩
  obtain⟨N',PP,hd'⟩:=N'
  refine QKq (Qqq ?_)
  refine QKq (wpAny_tryCatch ?_)
  have hty:s2.TypeIs (.ref a) "tuple":=⟨o,eo,ec⟩
  refine QKq (wpAny_typeOf hty ?_)
  refine QKq (wpAny_seqItems eo edt (QKz ?_))
  refine Qqq ?_
  obtain⟨z,hds,vvs,rel,dd⟩:=Nh I'.hok hd'
  have hz:vvs.length<=sizeLine:=by rw[<-rel.length];exact z
  have hG:=G.len
  have hl:(putK kvs kk vv).length<=i+1:=by have:=oZ kvs kk vv;omega
  refine wpAny_dictSet_pairs (uU rk) dd fun h' dd' hs=>?_
  have he:∃q,h'.get? d=some q:=let ⟨q,_,_,hq,_⟩:=dd';⟨q,hq⟩
  have I2:Inv X γ σ (upd H' d (.dK (putK kvs kk vv))) {s2 with heap:=h',toks:=s2.toks+1}:=j8 I' (by rw[hd'];exact True.intro) hs he (Ni (by omega) hds (rel.put kk rv) dd')
  have N2:=Nx.chg (u':=.dK (putK kvs kk vv)) N' S h0 hd' NK
  have p2:=fY (u':=.dK (putK kvs kk vv)) hd' NK
  obtain⟨g1,g2⟩:=Ep Dv (dl.mono PP)
  refine QKz ⟨plainId_quiet bV _,?_⟩
  refine ih (i+1) _ _ (putK kvs kk vv) _ (by omega) I2 (fun b hb=>?_) (T.keep _ _ _ st' fun b hb o e=>?_) ((P.trans PP).trans p2) N2 aK (g2.mono p2) ?_ hl (by omega)
  ·have nb:b≠d:=fun e=>by subst e;rw[nf b hb]at hd';cases hd'
   exact⟨by rw[au nb];exact nf b hb,(hf b hb).2⟩
  ·have nb:b≠d:=fun e=>by subst e;rw[nf b hb]at hd';cases hd'
   exact(hs.2 b nb).trans e
  ·rw[<-g1];exact ho'
theorem CT(hA:X.A=A.in1)(hu:X.A.units+8<cLine)(hc:X.calm=true)(T:Turn X.prog X.w X.K (.Name x p) J fp it tn)(G:Gives X.K J xs H1)(S:Sat X.K env τ H0)(h0:H0 d=none)
  (fin:∀s H,Inv X γ σ H s->Nx X.K env τ H0 env H->jk X.K H (.sdt ks' vs') d->R (.ok (.ret .none)) s):
  ∀(n i:Nat)(s:Shared)(H:Hp)(kvs:List SV)(ks vs:List D),xs.length-i=n->Inv X γ σ H s->(∀b∈fp,fP X γ H b)->tn i s.heap->bR H1 H->Nx X.K env τ H0 env H->H d=some (.dS kvs)->
   gk X.K H ks vs kvs->jB ks vs (xs.drop i)=some (ks',vs')->kvs.length<=i->i<=xs.length->
   codeAny (model X.prog X.w) A (.builtin "dict.update.loop" ⟨[.ref d,.ref it,rawInt ((i:Nat):Int),.none],[]⟩) R s:=by
 intro n
 induction n with
 |zero=>
  intro i s H kvs ks vs hn I hf st P N hd dl ho hk hi
  refine codeAny_builtin dG ?_
  rw[Around.under_plainId bV _,<-hA]
  show wpAny _ X.A (pyNext (.ref it)>>=_) _ _ s
  refine QKq (QGq (T.done X rfl rfl rfl hc i γ s σ H _ I hf st (G.stop H P i (by omega))) (fun r s1 h=>?_) fun _ _ h=>h)
  obtain⟨rfl,I1⟩:=h
  rw[List.drop_eq_nil_of_le (by omega)]at ho
  cases ho
  show wpAny _ X.A (Builtin.Dict.addKeywords d []>>=_) _ _ s1
  exact QKq (QKz (QKz (fin s1 H I1 N ⟨_,hd,kvs,rfl,dl⟩)))
 |succ n ih=>
  intro i s H kvs ks vs hn I hf st P N hd dl ho hk hi
  have hlt:i<xs.length:=by omega
  obtain⟨dd,ed,edr⟩:=xm hlt
  rw[edr]at ho
  obtain⟨k,v,rfl,hkk,ho'⟩:=CV ho
  refine codeAny_builtin dG ?_
  rw[Around.under_plainId bV _,<-hA]
  show wpAny _ X.A (pyNext (.ref it)>>=_) _ _ s
  refine QKq (QGq (T.item X rfl rfl rfl hc i γ s σ H _ I hf st (G.go H P i _ ed)) (fun r s1 h=>?_) fun _ _ h=>h)
  obtain⟨u,rfl,h⟩:=h
  refine wU (QGq h (fun _ s2 h2=>?_) fun _ _ h=>h)
  obtain⟨y,H',I',ry,yl,st',nf⟩:=h2
  obtain⟨Dy,hH⟩:=G.yld H P i _ ed y H' yl
  obtain⟨a,ws,rfl,hq,l⟩:=cg Dy
  cases ry
  obtain⟨vk,r1,rfl,Dk,l⟩:=ao.aF.mp l
  obtain⟨vv,r2,rfl,Dv,l⟩:=ao.aF.mp l
  have:=ao.bL.mp l
  subst this
  obtain⟨ka,rfl,hka⟩:=iy hkk Dk
  obtain⟨its,rr,pt,_⟩:=I'.tuple hq
  obtain⟨uk,uv,rfl,rk,rv⟩:=Vals.two rr
  cases rk
  obtain⟨o,eo,ec,nn,edt⟩:=pt
  have N':Nx X.K env τ H0 env H'/\bR H H'/\H' d=some (.dS kvs):=by
   rcases hH with rfl|⟨q,ws,hq0,rfl⟩
   ·exact⟨N,bR.refl _,hd⟩
   ·have NL:=Nx.laid (o:=.tup ws) N.eX hq0
    exact⟨N.trans NL,NL.pers,by rw[au (fun z=>by subst z;rw[hq0]at hd;cases hd)];exact hd⟩
  obtain⟨N',PP,hd'⟩:=N'
  have sr:=dl.mono PP
  show wpAny _ X.A (holding [.ref a] _>>=_) _ _ s2
  refine QKq (Qqq ?_)
  refine QKq (wpAny_tryCatch ?_)
  unfold Builtin.Dict.pairItems
  have hty:s2.TypeIs (.ref a) "tuple":=⟨o,eo,ec⟩
  refine QKq (wpAny_typeOf hty ?_)
  rw[if_pos (by decide)]
  refine QKq (wpAny_seqItems eo edt (QKz ?_))
  show wpAny _ X.A (holding [.ref ka,uv] (dictSet d (.ref ka) uv)) _ _ s2
  refine Qqq ?_
  obtain⟨ys,pr,dd,y,z⟩:=j6 I' (.inl hd') sr.zB
  have hz:ys.length<=sizeLine:=by
   have:=congrArg List.length (jZ pr)
   simp at this
   omega
  have hG:=G.len
  have hl:(nR (kC k) ka vv kvs).length<=i+1:=by have:=Eo (k:=kC k) (a:=ka) (xs:=kvs) vv;omega
  refine wpAny_dictSet_heap (knd:=eN X.prog X.w) (hsz:=hz) hu (gO I' hka) dd fun h' dd' hs=>?_
  have he:∃q,h'.get? d=some q:=let ⟨q,_,_,hq,_⟩:=dd';⟨q,hq⟩
  have I2:Inv X γ σ (upd H' d (.dS (nR (kC k) ka vv kvs))) {s2 with heap:=h',toks:=s2.toks+(eN X.prog X.w).draws (kC k)}:=j8 I' (by rw[hd'];exact True.intro) hs he (Ei (by omega) y (mD rv pr) dd')
  have N2:=Nx.chg (u':=.dS (nR (kC k) ka vv kvs)) N' S h0 hd' NB
  have p2:=fY (u':=.dS (nR (kC k) ka vv kvs)) hd' NB
  have g:=sr.put hkk Dk Dv
  refine QKz ⟨plainId_quiet bV _,?_⟩
  refine ih (i+1) _ _ (nR (kC k) ka vv kvs) _ _ (by omega) I2 (fun b hb=>?_) (T.keep _ _ _ st' fun b hb o e=>?_) ((P.trans PP).trans p2) N2 aK (g.mono p2) ho' hl (by omega)
  ·have nb:b≠d:=fun e=>by subst e;rw[nf b hb]at hd';cases hd'
   exact⟨by rw[au nb];exact nf b hb,(hf b hb).2⟩
  ·have nb:b≠d:=fun e=>by subst e;rw[nf b hb]at hd';cases hd'
   exact(hs.2 b nb).trans e
end
section
variable{E:QZq}
def sy{oo:Ob}(hc:X.calm=true)(hu:X.A.units+60<cLine)(I:Inv X γ σ H s)(S:Sat X.K env τ H)(ho:s.heap.get? o=some ob)(hcl:ob.cls=.type T)(hT:(T !="dict")=true)(hd:zY xs=some oo)
  (hkey:∀(s1:Shared)(E:QZq)(Q:Option Value->Shared->Prop),s1.heap.get? o=some ob->(∀h' tk,(∀b u,s1.heap.get? b=some u->h'.get? b=some u)->Q none {s1 with heap:=h',toks:=tk})->
   wpAny (model X.prog X.w) X.A.in1.in1 (getAttr? (.ref o) "keys") Q E s1)
  (hit:∀(s1:Shared)(u:HO)(E:QZq)(Q:QZq),Inv (Cx.under X X.A.in1.in1) γ σ (upd H s.heap.objs.size u) s1->Nx X.K env τ H env (upd H s.heap.objs.size u)->(∀b u,s.heap.get? b=some u->s1.heap.get? b=some u)->
   (∀s2 it fp tn J,Inv (Cx.under X X.A.in1.in1) γ σ (upd H s.heap.objs.size u) s2->Turn X.prog X.w X.K (.Name x p) J fp it tn->tn 0 s2.heap->(∀b∈fp,fP X γ (upd H s.heap.objs.size u) b)->Gives X.K J xs (upd H s.heap.objs.size u)->Q (.ref it) s2)->
   wpAny (model X.prog X.w) X.A.in1.in1 (pyIter (.ref o)) Q E s1)
  (h:∀a s' H',Inv X γ σ H' s'->Nx X.K env τ H env H'->jk X.K H' oo a->H a=none->Q (.ref a) s'):
  wpAny (model X.prog X.w) X.A (call (.type "dict") [.ref o]) Q E s:=by
 have hfr:H s.heap.objs.size=none:=I.hok.fresh (QVz _)
 have LP:∃u0,(∀H',b8 X.prog X.w H' (s.heap.push {cls:=.type "dict",data:=.dict #[]}) s.heap.objs.size u0)/\∀(s3:Shared)it fp tn J(R:Result->Shared->Prop),(∀s4 H4,Inv (Cx.under X X.A.in1.in1) γ σ H4 s4->Nx X.K env τ H env H4->jk X.K H4 oo s.heap.objs.size->R (.ok (.ret .none)) s4)->
   Inv (Cx.under X X.A.in1.in1) γ σ (upd H s.heap.objs.size u0) s3->Turn X.prog X.w X.K (.Name x p) J fp it tn->tn 0 s3.heap->(∀b∈fp,fP X γ (upd H s.heap.objs.size u0) b)->Gives X.K J xs (upd H s.heap.objs.size u0)->Nx X.K env τ H env (upd H s.heap.objs.size u0)->
   codeAny (model X.prog X.w) X.A.in1 (.builtin "dict.update.loop" ⟨[.ref s.heap.objs.size,.ref it,rawInt ((0:Nat):Int),.none],[]⟩) R s3:=by
  have hu2:(Cx.under X X.A.in1.in1).A.units+8<cLine:=by
   show X.A.in1.in1.units+8<cLine
   have:X.A.in1.in1.units<=X.A.units+2:=by simp[Around.in1]
   omega
  rcases Nq hd with ⟨pr,hd1,rfl⟩|⟨pr,hd1,rfl⟩
  ·exact⟨.dK [],fun H'=>rT s.heap I.big,fun s3 it fp tn J R fin I3 Tn st hf G N1=>Ir (X:=Cx.under X X.A.in1.in1) (A:=X.A.in1) rfl hc Tn G S hfr fin xs.length 0 s3 _ [] [] rfl I3 hf st (bR.refl _) N1 aK ao.fZ hd1 (QVz _) (QIq _)⟩
  ·exact⟨.dS [],fun H'=>Nf s.heap I.big,fun s3 it fp tn J R fin I3 Tn st hf G N1=>CT (X:=Cx.under X X.A.in1.in1) (A:=X.A.in1) rfl hu2 hc Tn G S hfr fin xs.length 0 s3 _ [] [] [] rfl I3 hf st (bR.refl _) N1 aK gk.nil hd1 (QVz _) (QIq _)⟩
 obtain⟨u0,ok0,LP⟩:=LP
 refine callType_codes (Q₁:=fun obj ι=>obj=.ref s.heap.objs.size/\ι={s with heap:=s.heap.push {cls:=.type "dict",data:=.dict #[]}}) PySem.F.kt_called_dict (PySem.F.kt_typeCall_dict_1 _) PySem.F.entry_dict_init (kt_code_dict_new _ ⟨rfl,rfl⟩) ?_
 rintro obj ι ⟨rfl,rfl⟩
 have hnew:(s.heap.push {cls:=.type "dict",data:=.dict #[]}).DictOf (fK X.prog X.w) s.heap.objs.size []:=Heap.DictOf.new s.heap
 have k1:∀b u,s.heap.get? b=some u->(s.heap.push {cls:=.type "dict",data:=.dict #[]}).get? b=some u:=fun _ _ q=>QWq _ q
 have I1:=I.laid (a:=s.heap.objs.size) (o:=u0) (h':=s.heap.push {cls:=.type "dict",data:=.dict #[]}) (t':=s.toks) k1 (QVz _) (ok0 _)
 have N1:=Nx.laid (o:=u0) S hfr
 refine⟨hnew.typeIs,PySem.F.args_dict_init_2 _ _,?_⟩
 unfold Builtin.«dict.__init__»
 refine QKq ?_
 unfold Builtin.Dict.selfAndRest
 refine QKq (wpAny_notOrdered_dict hnew.typeIs ?_)
 show wpAny _ _ (pure (s.heap.objs.size,[Value.ref o])) _ _ _
 refine QKz ?_
 show wpAny _ _ (Builtin.Dict.updateFrom "dict.__init__" s.heap.objs.size (.ref o) [] .none) _ _ _
 unfold Builtin.Dict.updateFrom
 have hty:(⟨s.heap.push {cls:=.type "dict",data:=.dict #[]},s.gens,s.drawn,s.toks,s.os⟩:Shared).TypeIs (.ref o) T:=⟨ob,k1 o ob ho,hcl⟩
 refine QKq (wpAny_typeOf hty ?_)
 have ht:((Value.type T) !=(Value.type "dict"))=true:=by
  have:T≠"dict":=by simpa using hT
  simpa using this
 rw[if_pos ht]
 refine QKq (hkey _ _ _ (k1 o ob ho) fun h2 tk k2=>?_)
 simp only[Option.isNone_none,if_true]
 refine QKq (wpAny_rule ?_)
 have I2:Inv X γ σ _ {s with heap:=h2,toks:=tk}:=I1.kept (t':=tk) k2
 refine QKq (hit _ _ _ _ (Inv.under I2 rfl rfl) N1 (fun b u q=>k2 b u (k1 b u q)) fun s3 it fp tn J I3 Tn st hf G=>?_)
 refine QKq (QKz (QKz ⟨plainId_quiet bV _,?_⟩))
 exact LP s3 it fp tn J _ (fun s4 H4 I4 N4 O4=>⟨rfl,h _ s4 H4 (Inv.back I4 rfl rfl) N4 O4 hfr⟩) I3 Tn st hf G N1
end
def An:typeLookup (.type "zip") "__len__"=pure none:=by rw[typeLookup_type,builtinLookup_eq_fast];kernel_rfl
def xY:typeLookup (.type "zip") "__length_hint__"=pure none:=by rw[typeLookup_type,builtinLookup_eq_fast];kernel_rfl
section
def Inv.abM{s:Shared}{y:V}{u:Value}{E:QZq}(I:Inv X γ σ H s)(hd:H d=some (.lst vs))(ry:RelV y u)(hz:vs.length<sizeLine)
  (h:∀h',(∀b o,b≠d->s.heap.get? b=some o->h'.get? b=some o)->Inv X γ σ (upd H d (.lst (vs++[y]))) {s with heap:=h'}->Q () {s with heap:=h'}):
  wpAny (model X.prog X.w) A (updateSeq d (·.push u)) Q E s:=by
 obtain⟨z,its,n,r,e⟩:=(I.hok d _ hd)
 have hl:=r.length
 refine wpAny_updateSeq e rfl ?_ (by show its.toArray.size<=_;rw[Qyq];omega) (by show(its.toArray.push u).size<=_;rw[Array.size_push,Qyq];omega)
 have es:=Heap.get?_update_self (Obj.mapSeq (·.push u)) e rfl
 have oth:∀b o,b≠d->s.heap.get? b=some o->(s.heap.update d (Obj.mapSeq (·.push u))).get? b=some o:=fun b o hb q=>(Heap.get?_update_other _ _ (Ne.symm hb)).trans q
 refine h _ oth (I.write (by rw[hd];exact True.intro) (.inl rfl) (fun b q hb z=>oth b q hb z) ⟨_,es⟩ ?_)
 have ea:(its++[u]).toArray=its.toArray.push u:=by simp
 exact⟨by simp;omega,its++[u],_,Vals.append r (.cons ry .nil),by rw[ea];exact es⟩
theorem HJ(hA:X.A=A.in1)(hc:X.calm=true)(T:Turn X.prog X.w X.K (.Name x p) J fp it tn)(G:Gives X.K J xs H1)(S:Sat X.K env τ H0)(h0:H0 d=none)
  (fin:∀s H,Inv X γ σ H s->Nx X.K env τ H0 env H->jk X.K H (.lst xs) d->R (.ok (.ret .none)) s):
  ∀(n i:Nat)(s:Shared)(H:Hp)(vs:List V),xs.length-i=n->Inv X γ σ H s->(∀b∈fp,fP X γ H b)->tn i s.heap->bR H1 H->Nx X.K env τ H0 env H->H d=some (.lst vs)->
   ao X.K H (xs.take i) vs->i<=xs.length->
   codeAny (model X.prog X.w) A (.builtin "list.extend.loop" ⟨[.ref d,.ref it,.none],[]⟩) R s:=by
 intro n
 induction n with
 |zero=>
  intro i s H vs hn I hf st P N hd dl hi
  refine codeAny_builtin PySem.F.entry_extend_loop ?_
  rw[Around.under_plainId PySem.F.plain_extend_loop _,<-hA]
  refine QKq (QGq (T.done X rfl rfl rfl hc i γ s σ H _ I hf st (G.stop H P i (by omega))) (fun r s1 h=>?_) fun _ _ h=>h)
  obtain⟨rfl,I1⟩:=h
  rw[List.take_of_length_le (by omega)]at dl
  exact QKz (fin s1 H I1 N ⟨_,hd,vs,rfl,dl⟩)
 |succ n ih=>
  intro i s H vs hn I hf st P N hd dl hi
  have hlt:i<xs.length:=by omega
  obtain⟨dd,ed,edr⟩:=xm hlt
  refine codeAny_builtin PySem.F.entry_extend_loop ?_
  rw[Around.under_plainId PySem.F.plain_extend_loop _,<-hA]
  refine QKq (QGq (T.item X rfl rfl rfl hc i γ s σ H _ I hf st (G.go H P i _ ed)) (fun r s1 h=>?_) fun _ _ h=>h)
  obtain⟨u,rfl,h⟩:=h
  refine wU (QGq h (fun _ s2 h2=>?_) fun _ _ h=>h)
  obtain⟨y,H',I',ry,yl,st',nf⟩:=h2
  obtain⟨Dy,hH⟩:=G.yld H P i _ ed y H' yl
  have N':Nx X.K env τ H0 env H'/\bR H H'/\H' d=some (.lst vs):=by
   rcases hH with rfl|⟨q,ws,hq0,rfl⟩
   ·exact⟨N,bR.refl _,hd⟩
   ·have NL:=Nx.laid (o:=.tup ws) N.eX hq0
    exact⟨N.trans NL,NL.pers,by rw[au (fun z=>by subst z;rw[hq0]at hd;cases hd)];exact hd⟩
  obtain⟨N',PP,hd'⟩:=N'
  have hG:=G.len
  have lv:=dl.length
  rw[List.length_take]at lv
  refine QKq (Inv.abM I' hd' ry (by omega) fun h' oth I2=>?_)
  have p2:=fY (u':=.lst (vs++[y])) hd' Gv
  refine QKz ⟨plainId_quiet PySem.F.plain_extend_loop _,?_⟩
  refine ih _ _ _ _ (by omega) I2 (fun b hb=>?_) (T.keep _ _ _ st' fun b hb o e=>?_) ((P.trans PP).trans p2) (Nx.chg (u':=.lst (vs++[y])) N' S h0 hd' Gv) aK ?_ (by omega)
  ·exact⟨by rw[au (fun e=>by subst e;rw[nf b hb]at hd';cases hd')];exact nf b hb,(hf b hb).2⟩
  ·exact oth b o (fun e=>by subst e;rw[nf b hb]at hd';cases hd') e
  ·have:xs.take (i+1)=xs.take i++[dd]:=by rw[List.take_add_one,ed];rfl
   rw[this]
   exact((dl.mono PP).append (ao.cW Dy ao.fZ)).mono p2
end
section
variable{E:QZq}
def Dr(hc:X.calm=true)(I:Inv X γ σ H s)(S:Sat X.K env τ H)(ho:s.heap.get? o=some ob)(hcl:ob.cls=.type "zip")
  (hself:∀(s1:Shared)(E:QZq)(Q:QZq),(∀b u,s.heap.get? b=some u->s1.heap.get? b=some u)->Q (.ref o) s1->wpAny (model X.prog X.w) X.A.in1.in1 (pyIter (.ref o)) Q E s1)
  (hit:∀(s1:Shared)(u:HO),Nx X.K env τ H env (upd H s.heap.objs.size u)->(∀b u,s.heap.get? b=some u->s1.heap.get? b=some u)->
   ∃fp tn J,Turn X.prog X.w X.K (.Name x p) J fp o tn/\tn 0 s1.heap/\(∀b∈fp,fP X γ (upd H s.heap.objs.size u) b)/\Gives X.K J xs (upd H s.heap.objs.size u))
  (h:∀a s' H',Inv X γ σ H' s'->Nx X.K env τ H env H'->jk X.K H' (.lst xs) a->H a=none->Q (.ref a) s'):
  wpAny (model X.prog X.w) X.A (call (.type "list") [.ref o]) Q E s:=by
 refine callType_codes (Q₁:=fun obj ι=>obj=.ref s.heap.objs.size/\ι={s with heap:=s.heap.push {cls:=.type "list",data:=.seq #[]}}) PySem.F.called_list (PySem.F.typeCall_list_1 _) PySem.F.entry_list_init
  (code_list_new _ ⟨rfl,rfl⟩) fun obj ι Δ=>?_
 obtain⟨rfl,rfl⟩:=Δ
 have hS:(s.heap.push {cls:=.type "list",data:=.seq #[]}).get? s.heap.objs.size=some {cls:=.type "list",data:=.seq #[]}:=Qzq _ rfl
 have hfr:=I.hok.fresh (QVz _)
 have hne:s.heap.objs.size≠o:=fun e=>absurd (Qqz ho) (by rw[e];exact Nat.lt_irrefl _)
 have oth:∀f(h':Heap)b u,b≠s.heap.objs.size->h'.get? b=some u->(h'.update s.heap.objs.size (Obj.mapSeq f)).get? b=some u:=
  fun f h' b u hb e=>(Heap.get?_update_other _ _ (Ne.symm hb)).trans e
 have old:∀b u,s.heap.get? b=some u->b≠s.heap.objs.size:=fun b u e=>Qvz (Qqz e)
 refine⟨⟨_,hS,rfl⟩,PySem.F.args_list_init_2 _ _,?_⟩
 refine QKq ?_
 refine QKq (wpAny_seqItems hS rfl (QKz ?_))
 refine QKq (wpAny_updateSeq hS rfl ?_)
 have hS₂:=Heap.get?_update_self (Obj.mapSeq (fun _=>(#[]))) hS rfl
 have k2:∀b u,s.heap.get? b=some u->((s.heap.push {cls:=.type "list",data:=.seq #[]}).update s.heap.objs.size (Obj.mapSeq (fun _=>(#[])))).get? b=some u:=fun b u e=>oth _ _ b u (old b u e) ((fun _ _ q=>QWq _ q) b u e)
 refine QKq (wpAny_letGo ?_)
 have hty:(⟨(s.heap.push {cls:=.type "list",data:=.seq #[]}).update s.heap.objs.size (Obj.mapSeq (fun _=>(#[]))),s.gens,s.drawn,s.toks,s.os⟩:Shared).TypeIs (.ref o) "zip":=⟨ob,k2 o ob ho,hcl⟩
 refine QKq (wpAny_typeOf hty ?_)
 have h1:Builtin.List.listSameRef (.ref s.heap.objs.size) (.ref o)=false:=by simp[Builtin.List.listSameRef,hne]
 have h2:(Value.type "zip"==Value.type "list")=false:=by decide
 have h3:(Value.type "zip"==Value.type "tuple")=false:=by decide
 simp only[h1,h2,h3,Bool.or_false,Qxq,if_false]
 refine QKq (hself _ _ _ k2 ?_)
 refine QKq (Qqq ?_)
 refine QKq (wpAny_specialOf hty An ?_)
 refine QKq (wpAny_specialOf hty xY ?_)
 refine QKz ?_
 refine QKq (wpAny_rule ?_)
 refine QKq ?_
 refine QKq (wpAny_updateSeq hS₂ rfl ?_)
 have hS₃:=Heap.get?_update_self (Obj.mapSeq (·.push Value.none)) hS₂ rfl
 refine wpAny_updateSeq hS₃ rfl ?_
 have k4:∀b u,s.heap.get? b=some u->((((s.heap.push {cls:=.type "list",data:=.seq #[]}).update s.heap.objs.size (Obj.mapSeq (fun _=>(#[])))).update s.heap.objs.size (Obj.mapSeq (·.push Value.none))).update s.heap.objs.size (Obj.mapSeq (·.pop))).get? b=some u:=
  fun b u e=>oth _ _ b u (old b u e) (oth _ _ b u (old b u e) (k2 b u e))
 have N1:=Nx.laid (o:=.lst []) S hfr
 obtain⟨fp,tn,J,Tn,st,hf,G⟩:=hit {s with heap:=_} _ N1 k4
 refine QKz ⟨plainId_quiet PySem.F.plain_extend_loop _,?_⟩
 exact HJ (X:=Cx.under X X.A.in1.in1) rfl hc Tn G S hfr (fun s4 H4 I4 N4 O4=>⟨rfl,h _ s4 H4 (Inv.back I4 rfl rfl) N4 O4 hfr⟩) xs.length 0 _ _ [] rfl (Inv.under (I.laid (o:=.lst []) (t':=s.toks) k4 (QVz _) ⟨QIq _,[],_,.nil,Heap.get?_update_self (Obj.mapSeq (·.pop)) hS₃ rfl⟩) rfl rfl) hf st (bR.refl _) N1 aK ao.fZ (QIq _)
end
def Gives.mono{J:It}{H H':Hp}(g:Gives K J xs H)(p:bR H H'):Gives K J xs H':=
 ⟨fun H1 q=>g.go H1 (p.trans q),fun H1 q=>g.yld H1 (p.trans q),fun H1 q=>g.stop H1 (p.trans q),g.len⟩
def Inv.S6{E:QZq}{σ:St}{H:Hp}(I:Inv X γ σ H s):Inv {X with xe:=E} γ σ H s:=
 ⟨⟨I.ok.mod,I.ok.kind,I.ok.glob,I.ok.blt,I.ok.above,I.ok.inj,I.ok.has,I.ok.cab,I.ok.hd,I.ok.frames,I.ok.stk,I.ok.exf,I.ok.bs,I.ok.bsz,I.ok.noex,I.ok.exfs,I.ok.lu,I.ok.frf⟩,
  I.os,I.bare,I.base,I.loc,I.cell,I.free,I.freeC,I.pin,I.hok,I.len⟩
def Inv.unE{E:QZq}{σ:St}{H:Hp}(I:Inv {X with xe:=E} γ σ H s):Inv X γ σ H s:=Inv.S6 (X:={X with xe:=E}) I
theorem Inv.seqObj{X:Cx}{σ:St}{H:Hp}{b:Bool}{l:Addr}(I:Inv X γ σ H s)(h:OD X.K b H l vs):
  ∃(its:Array Value)(k:Nat)(sl:Array (Option Value)),s.heap.get? l=some {cls:=.type (if b then "list" else "tuple"),dict:=none,data:=.seq its k,slots:=sl}:=by
 cases b with
 |true=>
  obtain⟨its,r,⟨o,n,e,c,d,dt⟩,z⟩:=I.list (GD.sq h)
  obtain⟨oc,od,odt,os⟩:=o
  subst c d dt
  exact⟨_,_,_,e⟩
 |false=>
  obtain⟨its,r,⟨o,e,c,d,n,dt⟩,z⟩:=I.Aw h
  obtain⟨oc,od,odt,os⟩:=o
  subst c d dt
  exact⟨_,_,_,e⟩
def wM{xs:List D}(h:bK d=some xs):items d=some xs:=by
 cases d<;>simp[bK]at h<;>simp[items,h]
noncomputable def Uc(K:QQq):List V->Hp->VK->Prop:=fun us H Q=>∃env τ v d xs pr,us=[v]/\Sat K env τ H/\bD K H d v/\bK d=some xs/\zY xs=some pr/\
 ∀a H',Nx K env τ H env H'->jk K H' pr a->H a=none->Q (.ref a) H'
section
def Ds(hc:X.calm=true)(hu:X.A.units+60<cLine):fJ X (.type "dict") (Uc X.K):=by
 intro γ s σ H us ws Q I r h
 obtain⟨env,τ,v,d,xs,pr,rfl,S,Dv,es,hd,q⟩:=h
 obtain⟨u,rfl,ru⟩:=vals1 r
 obtain⟨bb,l,vs,rfl,hq,dl⟩:=Dv.vZ es
 cases ru
 obtain⟨its,k,sl,eo⟩:=Inv.seqObj I hq
 refine sy (x:=("_")) (p:=default) hc hu I S eo rfl (by cases bb<;>decide) hd (fun s1 E Q e1 k1=>?_) (fun s1 u E Q I1 N1 k1 hQ=>?_) fun a s' H' I' N' O' h'=>⟨.ref a,H',I',rfl,q a H' N' O' h'⟩
 ·cases bb with
  |true=>exact q9 e1 (I.ok.hd hc) k1
  |false=>exact pD e1 (I.ok.hd hc) k1
 ·refine QGq (Mf (tg:=.Name ("_") default) (R:=fun J H'=>Gives X.K J xs H'/\H'=upd H s.heap.objs.size u) (Inv.S6 I1) (show RelV (.ref l) _ from rfl) (Dv.mono N1.pers) (wM es) fun J g=>⟨g,rfl⟩) (fun v2 s2 h2=>?_) fun _ _ h=>h
  obtain⟨it,fp,tn,J,H',rfl,I2,T,st,hf,g,rfl⟩:=h2
  exact hQ s2 it fp tn J (Inv.unE I2) T st hf g
def Nm{σ:St}{Q:VK}(hv:m.aq=none)(q:tM X.K W env (ev c (.bi .dict m) env) σ H Q):aD X W c m σ H fun v H1=>Uc X.K [v] H1 Q:=by
 simp only[o9,hv]at q
 refine⟨env,aU q fun d δ v H1 N1 D1 q1=>?_⟩
 obtain⟨z,ez,S,q3⟩:=cH q1
 simp only[b1]at ez
 cases es:bK d with
 |none=>rw[es]at ez;cases ez
 |some xs=>
  rw[es]at ez
  simp only[QHq,Aa]at ez
  cases ed:zY xs with
  |none=>rw[ed]at ez;cases ez
  |some pr=>
   rw[ed]at ez
   cases ez
   exact⟨δ,σ,v,d,xs,pr,rfl,S,D1,es,ed,fun a H' N O h0=>q3 _ H' N ⟨a,rfl,O,h0⟩⟩
def RP(hc:X.calm=true)(hu:X.A.units+60<cLine)(ha:GE X W c m a)(hv:m.aq=none)(hg:Gl X "dict")(hm:X.mg "dict"=none)(hs:starEach [a] X.env=[(false,eval a X.env)]):
  GE X W c (.bi .dict m) (.Call (.Name "dict" p) [a] [] pos):=fun env=>
 PE.imp (nW (Ds hc hu) hg hm PyProof.Rows.boot_dict (cI ha.d eQ hs) (by decide) (by decide) hs rfl) fun σ H Q h=>Nm hv h
structure agN(X:Cx)(W:Wi)(γ:QQz)(σ:St)(Q:VK)(f:D->Ev->Out Rv)(v:Value)(s:Shared):Prop where
 go:∃z TI TO i1 i2 b1 b2 l1 l2 vs ws xs ys env H,v=.ref z/\Inv X γ σ H s/\Ae z TI TO i1 i2 b1 b2 l1 l2 0 s.heap/\ZipApart z TI TO i1 i2 l1 l2/\(∀b∈[z,TI,TO,i1,i2],fP X γ H b)/\
  Gives X.K (Itz X.K b1 b2 l1 l2 vs ws) (aC xs ys) H/\tM X.K W env (f (.lst (aC xs ys)) env) σ H Q
theorem xZ{env:Ev}{s:Shared}{σ:St}{Q:VK}(ha:GE X W c m1 a)(hb:GE X W c m2 b)(hg:Gl X "zip")(hm:X.mg "zip"=none)
  (hs:starEach [a,b] X.env=[(false,eval a X.env),(false,eval b X.env)])(hs2:starEach [b] X.env=[(false,eval b X.env)])(I:Inv X γ σ H s)(q:tM X.K W env ((ev c (.zip m1 m2) env).ak f) σ H Q):
  wpAny (model X.prog X.w) X.A (eval (.Call (.Name "zip" p) [a,b] [] pos) X.env) (agN X W γ σ Q f) X.xe s:=by
 simp only[VD]at q
 let RR:List V->Hp->Prop:=fun vs H'=>∃ε d1 d2 xs ys v1 v2,vs=[v1,v2]/\bD X.K H' d1 v1/\bD X.K H' d2 v2/\bK d1=some xs/\bK d2=some ys/\tM X.K W ε (f (.lst (aC xs ys)) ε) σ H' Q
 have asc:∀(o:Out Rv)g,(o.ak g).ak f=o.ak fun d e=>(g d e).ak f:=fun o g=>by
  cases o with
  |ok x e=>cases x<;>rfl
  |exc c e=>rfl
  |bad=>rfl
 rw[asc]at q
 have go:aD X W c m1 σ H fun v1 H1=>aD X W c m2 σ H1 fun v2 H2=>RR [v1,v2] H2:=by
  refine⟨env,aU q fun d1 δ v1 H1 N1 D1 q1=>⟨δ,?_⟩⟩
  rw[asc]at q1
  refine aU q1 fun d2 ε v2 H2 N2 D2 q2=>?_
  cases e1:bK d1 with
  |none=>rw[e1]at q2;exact q2.2.elim
  |some xs=>
   cases e2:bK d2 with
   |none=>rw[e1,e2]at q2;exact q2.2.elim
   |some ys=>
    rw[e1,e2]at q2
    exact⟨ε,d1,d2,xs,ys,v1,v2,rfl,D1.mono N2.pers,D2,e1,e2,q2⟩
 refine wpAny_Call_Name_kw (iI I hg hm PyProof.Rows.boot_zip ?_ (by decide) (by decide))
 refine PyProof.Rows.callWith_type1 (cu (cI ha.d (cI hb.d eQ hs2) (by rw[hs,hs2]) pos γ s σ H RR I go) fun us s1⟨vs,H1,I1,r1,q1⟩=>?_) (by rw[hs,hs2]) (by rw[hs2];rfl)
 obtain⟨ε,d1,d2,xs,ys,v1,v2,rfl,D1,D2,e1,e2,q3⟩:=q1
 obtain⟨b1,l1,vs,rfl,h1,dl1⟩:=D1.vZ e1
 obtain⟨b2,l2,ws,rfl,h2,dl2⟩:=D2.vZ e2
 obtain⟨u1,u2,rfl,ru1,ru2⟩:=Vals.two r1
 cases ru1
 cases ru2
 obtain⟨its,rr1,p1,z1,lt1⟩:=Inv.vZ I1 h1
 obtain⟨its2,rr2,p2,z2,lt2⟩:=Inv.vZ I1 h2
 refine vB p1 p2 fun h' st sz kk=>?_
 refine⟨s1.heap.objs.size+4,s1.heap.objs.size+2,s1.heap.objs.size+3,s1.heap.objs.size,s1.heap.objs.size+1,b1,b2,l1,l2,vs,ws,xs,ys,ε,H1,rfl,I1.kept kk,st,uf lt1 lt2,fun b hb=>?_,u6 h1 h2 dl1 dl2 z1,q3⟩
 have hb':s1.heap.objs.size<=b:=by
  simp only[QCq,QAz,or_false]at hb
  rcases hb with rfl|rfl|rfl|rfl|rfl<;>omega
 exact I1.zL hb' (I1.hok.fresh hb')
theorem Ae.lt{z TI TO i1 i2:Addr}{b1 b2:Bool}{k:Nat}(st:Ae z TI TO i1 i2 b1 b2 l1 l2 k h):∀b∈[z,TI,TO,i1,i2],b<h.objs.size:=by
 intro b hb
 obtain⟨f0,f1,zr,_⟩:=st.zr
 obtain⟨x,y,to⟩:=st.to
 simp only[QCq,QAz,or_false]at hb
 rcases hb with rfl|rfl|rfl|rfl|rfl
 ·exact Qqz zr
 ·exact Qqz st.ti
 ·exact Qqz to
 ·exact st.it1.lt
 ·exact st.it2.lt
theorem Cy(hc:X.calm=true)(hu:X.A.units+60<cLine)(ha:GE X W c m1 a)(hb:GE X W c m2 b)(hg:Gl X "zip")(hm:X.mg "zip"=none)
  (hs:starEach [a,b] X.env=[(false,eval a X.env),(false,eval b X.env)])(hs2:starEach [b] X.env=[(false,eval b X.env)])(hg':Gl X "dict")(hm':X.mg "dict"=none)
  (hs':starEach [.Call (.Name "zip" q1) [a,b] [] q2] X.env=[(false,eval (.Call (.Name "zip" q1) [a,b] [] q2) X.env)]):
  GE X W c (.bi .dict (.zip m1 m2)) (.Call (.Name "dict" p) [.Call (.Name "zip" q1) [a,b] [] q2] [] pos):=by
 intro env γ s σ H Q I q
 simp only[o9,E.aq]at q
 refine wpAny_Call_Name_kw (iI I hg' hm' PyProof.Rows.boot_dict ?_ (by decide) (by decide))
 refine PyProof.Rows.callWith_type1 ?_ hs' rfl
 refine Calls.spliced_cons (cu (xZ ha hb hg hm hs hs2 I (by simpa only[o9]using q)) fun u s1 h1=>Calls.spliced_nil ?_)
 obtain⟨z,TI,TO,i1,i2,b1,b2,l1,l2,vs,ws,xs,ys,δ,H1,rfl,I1,st,ap,hf,G,q1⟩:=h1.go
 obtain⟨r,er,S,q3⟩:=cH q1
 simp only[Mini.b1,bK,QHq,Aa]at er
 cases ed:zY _ with
 |none=>rw[ed]at er;cases er
 |some pr=>
  rw[ed]at er
  cases er
  obtain⟨f0,f1,zr,h0⟩:=st.zr
  refine sy (x:=("_")) (p:=default) hc hu I1 S zr rfl (by decide) ed (fun s2 E Q e1 k1=>tW e1 (I1.ok.hd hc) k1) (fun s2 u E Q I2 N2 k2 hQ=>?_)
   fun a s' H' I' N' O' h'=>⟨.ref a,H',I',rfl,q3 _ H' N' ⟨a,rfl,O',h'⟩⟩
  refine iD (k2 _ _ zr) (hQ s2 z [z,TI,TO,i1,i2] _ _ I2 (jt ap) ((jt (P:=X.prog) (w:=X.w) (K:=X.K) (tg:=.Name ("_") default) (vs:=vs) (ws:=ws) ap).keep 0 _ _ st fun b _ o e=>k2 b o e) (fun b hb=>⟨?_,(hf b hb).2⟩) (G.mono N2.pers))
  rw[au (Qvz (st.lt b hb))]
  exact(hf b hb).1
def Cw(hc:X.calm=true)(ha:GE X W c m1 a)(hb:GE X W c m2 b)(hg:Gl X "zip")(hm:X.mg "zip"=none)
  (hs:starEach [a,b] X.env=[(false,eval a X.env),(false,eval b X.env)])(hs2:starEach [b] X.env=[(false,eval b X.env)])(hg':Gl X "list")(hm':X.mg "list"=none)
  (hs':starEach [.Call (.Name "zip" q1) [a,b] [] q2] X.env=[(false,eval (.Call (.Name "zip" q1) [a,b] [] q2) X.env)]):
  GE X W c (.bi .list (.zip m1 m2)) (.Call (.Name "list" p) [.Call (.Name "zip" q1) [a,b] [] q2] [] pos):=by
 intro env γ s σ H Q I q
 simp only[o9,E.aq]at q
 refine wpAny_Call_Name_kw (iI I hg' hm' PyProof.Rows.boot_list ?_ (by decide) (by decide))
 refine PyProof.Rows.callWith_type1 ?_ hs' rfl
 refine Calls.spliced_cons (cu (xZ ha hb hg hm hs hs2 I (by simpa only[o9]using q)) fun u s1 h1=>Calls.spliced_nil ?_)
 obtain⟨z,TI,TO,i1,i2,b1,b2,l1,l2,vs,ws,xs,ys,δ,H1,rfl,I1,st,ap,hf,G,q1⟩:=h1.go
 obtain⟨r,er,S,q3⟩:=cH q1
 cases er
 obtain⟨f0,f1,zr,h0⟩:=st.zr
 refine Dr (x:=("_")) (p:=default) hc I1 S zr rfl (fun s2 E Q k2 hQ=>iD (k2 _ _ zr) hQ) (fun s2 u N2 k2=>?_)
  fun a s' H' I' N' O' h'=>⟨.ref a,H',I',rfl,q3 _ H' N' ⟨a,rfl,O',h'⟩⟩
 refine⟨[z,TI,TO,i1,i2],_,_,jt ap,(jt (P:=X.prog) (w:=X.w) (K:=X.K) (tg:=.Name ("_") default) (vs:=vs) (ws:=ws) ap).keep 0 _ _ st fun b _ o e=>k2 b o e,fun b hb=>⟨?_,(hf b hb).2⟩,G.mono N2.pers⟩
 rw[au (Qvz (st.lt b hb))]
 exact(hf b hb).1
end
section
variable{E:QZq}
def xN{Q:QZq}(h:Q (.bool (!a&&b)) s):wpAny (model prog w) A (call (.builtin "int.__lt__") [.bool a,.bool b]) Q E s:=by
 refine Qzz PySem.F.slot_bool_lt (PyProof.Rows.typeIs_bool' s a) PySem.F.entry_int_lt ?_ (PySem.F.args_int_lt_2 _ _)
 have e:(decide ((if a=true then 1 else 0)< (if b=true then(1:Int)else 0)))=(!a&&b):=by cases a<;>cases b<;>rfl
 show wpAny _ _ (ret (.bool (decide ((if a=true then 1 else 0)< (if b=true then 1 else 0))))) _ _ s
 rw[e]
 exact QKz ⟨_,rfl,h⟩
def yV{Q:Bool->Shared->Prop}(h:Q (!a&&b) s):wpAny (model prog w) A (PyProof.Rows.oneLt' true (.bool a) (.bool b)) Q E s:=by
 rw[PyProof.Rows.oneLt'_eq]
 refine QKq (wpAny_cRoomFor_byValue rfl ?_)
 refine QKq (wpAny_callSpecialIfBound?_slot (PyProof.Rows.typeIs_bool' s a) PySem.F.slot_bool_lt (xN ?_))
 exact wpAny_truthy_bool h
def BR{Q:Bool->Shared->Prop}(h:Q (!a&&b) s):wpAny (model prog w) A (PyProof.Rows.oneLt' c (.bool a) (.bool b)) Q E s:=by
 cases c with
 |true=>exact yV h
 |false=>exact PySem.W.kat_one _ _ (uC A s a b prog w _ _ h)
theorem uT{b fin:Bool}{Q:Bool->Shared->Prop}{nx ny:Nat}:∀{vs ws:List Value}{ns ms:List Bool}(i:Nat),BoolsAre vs ns->BoolsAre ws ms->ns.length+ny=ms.length+nx->fin=decide (nx<ny)->Q (kE ns ms) s->
  PySem.W.KatLex prog w A b fin Q (vs.zip ws) i s
 |_,_,_,_,i,.nil,hw=>fun hl hf h=>by
  refine PySem.W.kat_nil ?_
  cases hw with
  |nil=>rw[Fp]at h;rw[hf];simp at hl;rw[QEz (by omega)];exact h
  |cons c hw=>rw[Fq]at h;rw[hf];simp at hl;rw[QFq (by omega)];exact h
 |_,_,_,_,i,.cons a hv,.nil=>fun hl hf h=>by
  refine PySem.W.kat_nil ?_
  rw[hf]
  simp at hl
  rw[QEz (by omega)]
  exact h
 |_,_,_,_,i,.cons a hv,.cons c hw=>fun hl hf h=>by
  rw[uN]at h
  simp only[QBq]at hl
  refine PySem.W.kat_cons (SeqAt.EqAt.bool_bool a c prog w _ _ ?_)
  by_cases hac:a=c
  ·subst hac
   rw[if_pos rfl]at h
   rw[beq_self_eq_true]
   exact PySem.W.kat_yes (uT _ hv hw (by omega) hf h)
  ·rw[if_neg hac]at h
   rw[beq_eq_false_iff_ne.mpr hac]
   exact PySem.W.kat_no (BR h)
def zA{x y:Addr}{ns ms:List Bool}(hx:∃o n,s.heap.get? x=some o/\o.data=.seq xs n)(hy:∃o n,s.heap.get? y=some o/\o.data=.seq ys n)(bx:BoolsAre xs.toList ns)(by':BoolsAre ys.toList ms)
  (h:Q (kE ns ms) s):wpAny (model prog w) A (PyProof.Rows.keyLt' (PyProof.Rows.tuples' b) (.ref x) (.ref y)) Q E s:=by
 obtain⟨ox,nx,ex,dx⟩:=hx
 obtain⟨oy,ny,ey,dy⟩:=hy
 have l1:=bx.length
 have l2:=by'.length
 simp at l1 l2
 exact PySem.W.kat_lt ex dx ey dy (uT 0 bx by' (by omega) rfl h)
end
end Mini
end
section
namespace Mini
open PySem L2 PyProof.Rows
section
variable{E:QZq}
def wH{vs out:List Value}{P:PySem.Fin->Shared->Prop}(ho:s.heap.get? a=some (seqObj "list" vs.toArray n))(h64:vs.length<64)(hl:out.length=vs.length)
  (h1:vs.length<2->out=vs)
  (h2:2<=vs.length->∀h':Heap,(∀b o,b≠a->s.heap.get? b=some o->h'.get? b=some o)->wpAny (model prog w) A (keyKind' vs.toArray) (fun κ s'=>s'={s with heap:=h'}/\
   (PySem.W.kas_sort vs.length).kasWp (PySem.W.kas_ask prog w A κ vs) (fun p s''=>s''={s with heap:=h'}/\(p.toList.map fun i=>vs.getD i Value.none)=out) s') (fun _ _=>False) {s with heap:=h'})
  (h:P (.done (.ret .none)) {s with heap:=sortedHeap s.heap a vs out.toArray}):
  wpAny (model prog w) A (Builtin.«list.sort» ⟨[.ref a],[]⟩) P E s:=by
 rw[list_sort_plain]
 have ha:=Qqz ho
 have hz:vs.length<=sizeLine:=by rw[sizeLine_eq];omega
 refine QKq (listItems_at ho rfl ?_)
 refine QKq (listUpdate_at ho rfl ?_ (by rw[Qyq];exact hz) (QIq _))
 obtain⟨e1,ho1⟩:∃e1,(s.heap.update a _).get? a=some (seqObj "list" #[] e1):=⟨_,get?_update_seq ho (fun _=> #[])⟩
 refine QKq (seqEpoch_at ho1 rfl ?_)
 refine QKq (wpAny_newTuple ?_ (by show vs.length<=_;exact hz))
 refine QKq (wpAny_newList ?_ (QIq _))
 refine Qqq ?_
 have ho6:(((s.heap.update a (Obj.mapSeq fun _=> #[])).push (seqObj "tuple" vs.toArray 0)).push (seqObj "list" #[] 0)).get? a=some (seqObj "list" #[] e1):=by
  rw[Heap.get?_push_ne _ _ _ (by rw[size_push',Heap.size_update];exact Qvz (Nat.lt_succ_of_lt ha)),Heap.get?_push_ne _ _ _ (by rw[Heap.size_update];exact Qvz ha)]
  exact ho1
 have kp:∀b o,b≠a->s.heap.get? b=some o->(((s.heap.update a (Obj.mapSeq fun _=> #[])).push (seqObj "tuple" vs.toArray 0)).push (seqObj "list" #[] 0)).get? b=some o:=fun b o hb e=>
  QWq _ (QWq _ ((Heap.get?_update_other _ _ (Ne.symm hb)).trans e))
 by_cases hn:vs.toArray.size<2
 ·rw[if_pos hn,if_pos hn]
  refine QKq (QKz ?_)
  refine QKq (QKz ?_)
  have em:(arrOf (SortSt.mk' general' (vs.toArray.zip vs.toArray) #[] 7 none)).map (·.2)=out.toArray:=by
   rw[h1 (by simpa using hn)]
   apply Array.toList_inj.mp
   simp[List.map_snd_zip]
  refine QKq (seqEpoch_at ho6 rfl ?_)
  rw[em]
  refine QKq (listUpdate_at ho6 rfl ?_ (QIq _) (by show out.toArray.size<=_;rw[Qyq];omega))
  simp only[bne_self_eq_false,Qxq,if_false]
  exact QKz h
 ·rw[if_neg hn,if_neg hn]
  have hn2:2<=vs.length:=by simpa using hn
  refine QKq (QGq (h2 hn2 _ kp) (fun κ s0 hk=>?_) fun _ _ x=>x.elim)
  obtain⟨rfl,hk⟩:=hk
  refine QKq (QGq (PySem.W.kat_run (Q:=fun st' s'=>∃p:Array Nat,arrOf st'=p.map _/\failedOf st'=none/\s'={s with heap:=((s.heap.update a _).push _).push _}/\(p.toList.map fun i=>vs.getD i Value.none)=out)
   rfl hn2 h64 (fun p' st' s' a1 a2 a3 a4=>⟨p',a2,a3,a4.1,a4.2⟩) hk) ?_ fun _ _ e=>e)
  rintro ⟨⟨⟩,st'⟩ s' ⟨p,har,hf,rfl,hp⟩
  have em:(arrOf st').map (·.2)=out.toArray:=by rw[PySem.W.kat_snds rfl har,hp]
  refine QKq (seqEpoch_at ho6 rfl ?_)
  rw[em]
  refine QKq (listUpdate_at ho6 rfl ?_ (QIq _) (by show out.toArray.size<=_;rw[Qyq];omega))
  rw[hf]
  simp only[bne_self_eq_false,Qxq,if_false]
  exact QKz h
def ur{vs out:List Value}(hls:s.heap.IsList l vs.toArray)(h64:vs.length<64)(hl:out.length=vs.length)(h1:vs.length<2->out=vs)
  (h2:2<=vs.length->∀h':Heap,(∀b o,s.heap.get? b=some o->h'.get? b=some o)->wpAny (model prog w) A.in1.in1 (keyKind' vs.toArray) (fun κ s'=>s'={s with heap:=h'}/\
   (PySem.W.kas_sort vs.length).kasWp (PySem.W.kas_ask prog w A.in1.in1 κ vs) (fun p s''=>s''={s with heap:=h'}/\(p.toList.map fun i=>vs.getD i Value.none)=out) s') (fun _ _=>False) {s with heap:=h'})
  (h:Q (.ref (s.heap.objs.size+1)) {s with heap:=sortedAll s.heap vs out.toArray}):
  wpAny (model prog w) A (call (.builtin "sorted") [.ref l]) Q E s:=by
 refine Calls.call_function_entry kind_sorted plain_sorted entry_sorted (args_sorted1 _) ?_
 have hz:vs.length<=sizeLine:=by rw[sizeLine_eq];omega
 refine QKq (QKz ?_)
 refine QKq (collect_list hls ?_ hz)
 refine QKq (wpAny_newList ?_ hz)
 have hsz:((s.heap.push (seqObj "list" #[] 0)).update s.heap.objs.size (Obj.mapSeq (· ++vs.toArray))).objs.size=s.heap.objs.size+1:=by
  rw[Heap.size_update,size_push']
 have hoL:(((s.heap.push (seqObj "list" #[] 0)).update s.heap.objs.size (Obj.mapSeq (· ++vs.toArray))).push (seqObj "list" vs.toArray 0)).get? (s.heap.objs.size+1)=some (seqObj "list" vs.toArray 0):=by
  rw[<-hsz];exact Qzq _ rfl
 have keep:∀b o,s.heap.get? b=some o->(((s.heap.push _).update s.heap.objs.size _).push (seqObj "list" vs.toArray 0)).get? b=some o:=fun b o q=>by
  have hlt:=Qqz q
  rw[Heap.get?_push_ne _ _ _ (by rw[hsz];exact Qvz (Nat.lt_succ_of_lt hlt)),Heap.get?_update_ne _ _ _ _ (Qvz hlt),Heap.get?_push_ne _ _ _ (Qvz hlt)]
  exact q
 rw[hsz]
 refine QKq (Qqq (Qzz slot_list_sort ⟨_,hoL,rfl⟩ entry_list_sort (wH hoL h64 hl h1 (fun hn h' kp=>?_) ⟨_,rfl,?_⟩) (args_list_sort _)))
 ·exact h2 hn h' fun b o e=>kp b o (Qvz (Nat.lt_succ_of_lt (Qqz e))) (keep b o e)
 ·exact QKz ⟨_,rfl,h⟩
theorem rm{α:Type}{cmp:Nat->Nat->(Bool->Shared->Prop)->Shared->Prop}{f:Nat->Nat->Option Bool}{Q:α->Shared->Prop}{a:α}(hc:∀i j b(C:Bool->Shared->Prop),f i j=some b->C b s->cmp i j C s):
  ∀(t:PySem.W.KasT α),JW f t=some a->Q a s->t.kasWp cmp Q s
 |.ret x,e,q=>by cases e;exact q
 |.ask i j k,e,q=>by
  simp only[JW]at e
  cases z:f i j with
  |none=>rw[z]at e;cases e
  |some b=>rw[z]at e;exact hc i j b _ z (rm hc (k b) e q)
end
end Mini
end
section
namespace Mini
open PySem L2
inductive fD(h:Heap):List Value->List (List Bool)->Prop
 |nil:fD h [] []
 |cons {a:Addr} {o:Obj} {arr:Array Value} {n:Nat} {b:Bool} {bs:List Bool} {vs:List Value} {rs:List (List Bool)}:h.get? a=some o->o.cls=.type "tuple"->o.data=.seq arr n->BoolsAre arr.toList (b::bs)->fD h vs rs->fD h (.ref a::vs) ((b::bs)::rs)
theorem fD.mono(k:∀b o,h.get? b=some o->h'.get? b=some o):∀{vs:List Value}{rs:List (List Bool)},fD h vs rs->fD h' vs rs
 |_,_,.nil=>.nil
 |_,_,.cons e c d b r=>.cons (k _ _ e) c d b (fD.mono k r)
theorem fD.tups:∀{vs:List Value}{rs:List (List Bool)},fD h vs rs->∃fs,PySem.W.KatTups h vs fs/\fs.length=vs.length/\∀v∈fs,∃b,v=.bool b
 |_,_,.nil=>⟨[],PySem.W.KatTups.nil,rfl,fun v z=>nomatch z⟩
 |_,_,.cons (b:=b) e c d bb r=>by
  obtain⟨fs,t,l,f⟩:=r.tups
  have h0:∃x,(‹Array Value›)[0]? =some x/\x=.bool b:=by
   rename_i arr _ _ _ _
   cases q:arr.toList with
   |nil=>rw[q]at bb;cases bb
   |cons x xs=>
    rw[q]at bb
    cases bb
    refine⟨.bool b,?_,rfl⟩
    have:arr=(Value.bool b::xs).toArray:=by rw[<-q]
    rw[this]
    rfl
  obtain⟨x,hx,rfl⟩:=h0
  refine⟨.bool b::fs,PySem.W.KatTups.cons e c d hx t,by simp[l],fun v z=>?_⟩
  rcases QCq.mp z with rfl|z
  ·exact⟨b,rfl⟩
  ·exact f v z
theorem fD.at{h:Heap}:∀{vs:List Value}{rs:List (List Bool)},fD h vs rs->∀{i:Nat}{r:List Bool},rs[i]? =some r->∃a o arr n,vs.getD i Value.none=.ref a/\h.get? a=some o/\o.data=.seq arr n/\BoolsAre arr.toList r
 |_,_,.cons e c d b t,0,r,q=>by cases q;exact⟨_,_,_,_,rfl,e,d,b⟩
 |_,_,.cons e c d b t,i+1,r,q=>by
  obtain⟨a,o,arr,n,z⟩:=t.at (by simpa using q)
  exact⟨a,o,arr,n,by simpa using z⟩
theorem sG{K:QQq}{H:Hp}:∀{ys:List D}{bs:List Bool}{vs:List V}{us:List Value},bools ys=some bs->ao K H ys vs->Vals vs us->BoolsAre us bs
 |[],bs,vs,us,e,d,v=>by
  cases e
  rw[ao.bL.mp d]at v
  cases v
  exact .nil
 |y::ys,bs,vs,us,e,d,v=>by
  obtain⟨w,ws,rfl,h1,h2⟩:=ao.aF.mp d
  cases v with
  |cons r t=>
   cases y with
   |bl b=>
    simp only[bools]at e
    cases q:bools ys with
    |none=>rw[q]at e;cases e
    |some bs'=>
     rw[q]at e
     cases e
     cases h1
     cases r
     exact .cons b (sG q h2 t)
   |_=>simp[bools]at e
theorem Ej{X:Cx}{γ:QQz}{σ:St}{H:Hp}{s:Shared}(I:Inv X γ σ H s):∀{xs:List D}{rs:List (List Bool)}{vs:List V}{us:List Value},jd xs=some rs->ao X.K H xs vs->Vals vs us->fD s.heap us rs
 |[],rs,vs,us,e,d,v=>by
  cases e
  rw[ao.bL.mp d]at v
  cases v
  exact .nil
 |y::ys,rs,vs,us,e,d,v=>by
  obtain⟨w,ws,rfl,h1,h2⟩:=ao.aF.mp d
  cases v with
  |cons r t=>
   cases y with
   |tup zs=>
    simp only[jd]at e
    cases q:bools zs with
    |none=>rw[q]at e;cases e
    |some bs=>
     cases bs with
     |nil=>rw[q]at e;cases e
     |cons b bs=>
      rw[q]at e
      cases q2:jd ys with
      |none=>rw[q2]at e;cases e
      |some rs'=>
       rw[q2]at e
       cases e
       obtain⟨a,us',rfl,hq,l⟩:=cg h1
       cases r
       obtain⟨its,rr,⟨o,eo,c,n,dt⟩,_⟩:=I.tuple hq
       exact .cons eo c dt (by simpa using sG q l rr) (Ej I q2 h2 t)
   |_=>simp[jd]at e
theorem o5{H:Hp}{vs:List V}(d:ao K H xs vs)(v:Vals vs us):∀{is:List Nat}{ys:List D},rH xs is=some ys->∃ws,ao K H ys ws/\Vals ws (is.map fun i=>us.getD i Value.none)
 |[],ys,e=>by cases e;exact⟨[],ao.fZ,.nil⟩
 |i::is,ys,e=>by
  simp only[rH]at e
  cases q:xs[i]? with
  |none=>rw[q]at e;cases e
  |some x=>
   rw[q]at e
   cases q2:rH xs is with
   |none=>rw[q2]at e;cases e
   |some ys'=>
    rw[q2]at e
    cases e
    obtain⟨ws,h1,h2⟩:=o5 d v q2
    obtain⟨w,ew,dw⟩:=d.get q
    obtain⟨u,eu,ru⟩:=v.get ew
    refine⟨w::ws,ao.cW dw h1,?_⟩
    rw[Qyz]
    have:us.getD i Value.none=u:=by simp[List.getD,eu]
    rw[this]
    exact .cons ru h2
def cU.afE{H:Hp}{v:V}(h:cU K H (.lst xs) v):∃a vs,v=.ref a/\jm K H a vs/\ao K H xs vs:=by
 rcases h with h|⟨o,a,q,rfl,u,ha,hq⟩
 ·obtain⟨a,vs,rfl,hq,l⟩:=cR h
  exact⟨a,vs,rfl,hq.sq,l⟩
 ·cases o<;>cases q
  obtain⟨vs,rfl,l⟩:=hq
  exact⟨a,vs,rfl,.inl (.inl ha),l⟩
noncomputable def T5(K:QQq):List V->Hp->VK->Prop:=fun us H Q=>∃l vs xs ys,us=[.ref l]/\jm K H l vs/\ao K H xs vs/\oV xs=some ys/\∀ws,ao K H ys ws->∀a,H a=none->Q (.ref a) (upd H a (.lst ws))
section
def xK:fJ X (.builtin "sorted") (T5 X.K):=by
 intro γ s σ H us ws Q I r h
 obtain⟨l,vs,xs,ys,rfl,hq,dl,es,q⟩:=h
 obtain⟨u,rfl,ru⟩:=vals1 r
 cases ru
 obtain⟨its,rr,pl,hz⟩:=I.list hq
 have lx:=dl.length
 have lv:=rr.length
 have fin:∀zs out,ao X.K H ys zs->Vals zs out->out.length<=sizeLine->EP X γ σ Q _ {s with heap:=PyProof.Rows.sortedAll s.heap its out.toArray}:=fun zs out d v lz=>by
  obtain⟨e,ea⟩:=PyProof.Rows.sortedAll_at s.heap its out.toArray
  exact⟨.ref _,_,I.laid (fun b o x=>PyProof.Rows.sortedAll_old x) (Nat.le_succ _) (show b8 X.prog X.w _ _ _ (.lst zs)from⟨by rw[v.length];exact lz,out,e,v,ea⟩),rfl,q zs d _ (I.hok.fresh (Nat.le_succ _))⟩
 unfold oV at es
 by_cases h1:xs.length<2
 ·rw[if_pos h1]at es
  cases es
  exact ur pl.isList (by omega) rfl (fun _=>rfl) (fun z=>absurd z (by omega)) (fin vs its dl rr (by omega))
 ·rw[if_neg h1]at es
  by_cases h64:xs.length<64
  ·rw[if_pos h64]at es
   unfold ac4 at es
   cases e1:jd xs with
   |none=>
    rw[e1]at es
    cases es
   |some rs=>
    rw[e1]at es
    simp only[QHq]at es
    cases e2:JW _ _ with
    |none=>rw[e2]at es;cases es
    |some p=>
     rw[e2]at es
     simp only[QHq]at es
     by_cases e3:p.size=xs.length
     ·rw[if_pos e3]at es
      obtain⟨zs,d,v⟩:=o5 dl rr es
      have lo:(p.toList.map fun i=>its.getD i Value.none).length=its.length:=by rw[QAq,Array.length_toList];omega
      refine ur pl.isList (by omega) lo (fun z=>absurd z (by omega)) (fun _ h' kp=>?_) (fin zs _ d v (by omega))
      have RA':=(Ej I e1 dl rr).mono kp
      obtain⟨fs,t,lf,fb⟩:=RA'.tups
      refine PySem.W.kat_kind (T:=.type "bool") t (by omega) (fun v hv=>?_) (by decide) ⟨rfl,?_⟩
      ·obtain⟨b,rfl⟩:=fb v hv
       exact PySem.W.Looks.of_pure rfl
      ·have el:its.length=xs.length:=by omega
       rw[el]
       refine rm (fun i j b C e c=>?_) _ e2 ⟨rfl,rfl⟩
       unfold ac5 at e
       cases ei:rs[i]? with
       |none=>rw[ei]at e;cases e
       |some ri=>
        cases ej:rs[j]? with
        |none=>rw[ei,ej]at e;cases e
        |some rj=>
         rw[ei,ej]at e
         cases e
         obtain⟨ai,oi,arri,ni,x1,x2,x3,x4⟩:=RA'.at ei
         obtain⟨aj,oj,arrj,nj,y1,y2,y3,y4⟩:=RA'.at ej
         show wpAny _ _ _ _ _ _
         rw[x1,y1]
         exact zA ⟨oi,ni,x2,x3⟩ ⟨oj,nj,y2,y3⟩ x4 y4 c
     ·rw[if_neg e3]at es;cases es
  ·rw[if_neg h64]at es;cases es
def Bh:pI X (T5 X.K) (b1 .sorted):=by
 intro env σ H x z v Q S Dx e q
 simp only[b1]at e
 cases x with
 |lst xs=>
  simp only[gf,QHq,Sq]at e
  cases es:oV xs with
  |none=>rw[es]at e;cases e
  |some ys=>
   rw[es]at e
   cases e
   obtain⟨a,vs,rfl,hq,l⟩:=Dx.afE
   exact⟨a,vs,xs,ys,rfl,hq,l,es,fun ws d p hp=>q _ _ (Nx.laid S hp) (jT S d hp)⟩
 |_=>simp[gf]at e
end
section
def Ys{x:Str}(nm:ik X k x):GE X W c (.ref k) (.Name x pos):=by
 intro env
 refine PE.imp nm.pe fun σ H Q q=>?_
 simp only[PL]at q
 have go:∀o,(env[k]? =some (.own o)\/env[k]? =some (.bor o))->tM X.K W env (.ok (.ref k) env) σ H Q->JC k σ H Q:=fun o e q=>by
  have:∃a,(σ[k]?).join=some (.ref a):=by
   rcases e with e|e
   ·obtain⟨a,z,_⟩:=q.1.sl k _ e;exact⟨a,z⟩
   ·obtain⟨a,z,_⟩:=q.1.sl k _ e;exact⟨a,z⟩
  obtain⟨a,z⟩:=this
  exact⟨.ref a,bZ z,q.2 _ H (Nx.refl q.1) (bZ z)⟩
 cases e:env[k]? with
 |none=>rw[e]at q;exact q.2.elim
 |some s=>
  rw[e]at q
  cases s with
  |un=>exact q.2.elim
  |val d=>exact q.2.elim
  |own o=>exact go o (.inl e) q
  |bor o=>exact go o (.inr e) q
theorem JD{env:Ev}{H:Hp}{f:Bool->Ev->Out Rv}(h:tT K W env (r.cC gF f) σ H Q)
  (k:∀b δ H1,Nx K env σ H δ H1->tT K W δ (f b δ) σ H1 Q->R b H1):tT K W env r σ H R:=by
 have step:∀d δ x,x.jl=some d->r=.ok x δ->∃b,gF d=some b/\∀H1,Nx K env σ H δ H1->R b H1:=fun d δ x ex er=>by
  subst er
  cases q:gF d with
  |none=>
   cases x with
   |val d'=>cases ex;simp only[Out.cC,Out.ak,q]at h;exact h.2.elim
   |new xs=>cases ex;simp only[Out.cC,Out.ak,q]at h;exact h.2.elim
   |ref i=>cases ex
  |some b=>
   refine⟨b,rfl,fun H1 N=>k b δ H1 N (Tw ?_ N)⟩
   cases x with
   |val d'=>cases ex;simp only[Out.cC,Out.ak,q]at h;exact h
   |new xs=>cases ex;simp only[Out.cC,Out.ak,q]at h;exact h
   |ref i=>cases ex
 refine⟨h.1,?_⟩
 cases r with
 |bad=>exact h.2
 |exc c δ=>exact h.2
 |ok x δ=>
  cases x with
  |val d=>obtain⟨b,e,q⟩:=step d δ _ rfl rfl;exact⟨d,b,rfl,e,q⟩
  |new xs=>obtain⟨b,e,q⟩:=step xs.d δ _ rfl rfl;exact⟨xs.d,b,rfl,e,q⟩
  |ref i=>exact h.2.elim
def Yh(ht:GT X W c m1 t)(ha:GT X W c m2 a)(hb:GT X W c m3 b):GT X W c (.ite m1 m2 m3) (.IfExp t a b pos):=by
 intro γ s σ H Q I ⟨env,q⟩
 have e:∀w,isTrue (.IfExp t a b pos) X.env w=(isTrue t X.env _>>=fun q=>if q=true then isTrue a X.env _ else isTrue b X.env _):=fun w=>by first|rfl|rw[PySem.isTrue]|simp only[PySem.isTrue]
 refine QKq (cu (ht γ s σ H (fun k H1=>∃δ,tT X.K W δ _ σ H1 Q) I ⟨env,JD q fun k δ H1 N q1=>⟨δ,q1⟩⟩) fun k s1⟨H1,I1,δ,q1⟩=>?_)
 cases k with
 |true=>rw[if_pos rfl]at q1⊢;exact ha γ s1 σ H1 Q I1 ⟨δ,q1⟩
 |false=>rw[if_neg Qjz]at q1⊢;exact hb γ s1 σ H1 Q I1 ⟨δ,q1⟩
end
section
variable{X:Cx}{W:Wi}{c:Cf}{m m1 m2 m3:E}{o a b e:Expr}{pos p p2 apos cpos:Pos}{name:Str}
end
section
def MJ{H:Hp}{v y w:V}{Q:VK}(D1:cU K H d v)(D2:bD K H k y)(D3:bD K H x w)(e:rJ d k x=some z)(q:∀u,bD K H z u->Q u H):∃a,v=.ref a/\∃o,ud H a y o/\Q (o.getD w) H:=by
 cases d with
 |dU ks ds=>
  simp only[rJ]at e
  split at e
  ·rename_i hk
   cases e
   obtain⟨kk,rfl⟩:=fU hk
   have ek:=j7 D2
   subst ek
   obtain⟨a,kvs,rfl,ha,rfl,l⟩:=iT D1
   refine⟨a,rfl,jq kvs kk,⟨kvs,kk,ha,rfl,rfl⟩,q _ ?_⟩
   cases e1:bH _ _ ds with
   |some d=>
    obtain⟨w,e2,e3⟩:=n6 kk e1 l
    rw[e2]
    exact e3
   |none=>
    have n:=jP (kvs:=kvs) kk
    have e4:∀{ks vs:List D},vs.length=ks.length->bH (dI kk) ks vs=none->aN (dI kk) ks=false:=by
     intro ks
     induction ks with
     |nil=>intro vs _ _;rfl
     |cons k' ks ih=>
      intro vs hl h
      cases vs with
      |nil=>simp at hl
      |cons v vs=>
       simp only[bH]at h
       split at h
       ·cases h
       ·rename_i ne
        simp[aN,ne,ih (by simpa using hl) h]
    rw[e4 (by have:=l.length;simpa using this) e1]at n
    have e5:jq kvs kk=none:=by
     cases e6:jq kvs kk with
     |none=>rfl
     |some w=>rw[e6]at n;cases n
    rw[e5]
    exact D3
  ·cases e
 |_=>cases e
def Mg{H:Hp}{v:V}(D1:cU K H d v)(e:rE (some d)=true):∃a,v=.ref a/\IsD H a:=by
 cases d with
 |dU ks ds=>
  obtain⟨a,kvs,rfl,ha,_⟩:=iT D1
  exact⟨a,rfl,kvs,ha⟩
 |_=>cases e
def RN(hu:X.A.units+1<cLine)(M:M2 X o "get" apos e f cpos)(hv:∀k,m1.aq=some k->∃x p,o=.Name x p/\ik X k x)(hd:GE X W c m1 o)(hk:GE X W c m2 e)(hx:GE X W c m3 f):GE X W c (.get2 m1 m2 m3) (.Call (.Attribute o "get" apos) [e,f] [] cpos):=by
 intro env
 cases qv:m1.aq with
 |some i=>
  obtain⟨x,p,rfl,nm⟩:=hv i qv
  refine PE.imp (KR hu nm.pe hk.d hx.d M) fun σ H Q q=>?_
  simp only[Vz,qv]at q
  cases e0:rE _ with
  |false=>rw[e0]at q;exact q.2.elim
  |true=>
   rw[e0]at q
   cases e1:bw i env with
   |none=>rw[e1]at e0;cases e0
   |some d0=>
    rw[e1]at e0
    obtain⟨u,eu,D0⟩:=dq q.1 e1
    obtain⟨a,rfl,ia⟩:=Mg D0 e0
    refine⟨.ref a,eu,a,rfl,ia,env,aU q fun k ε y H2 N2 D2 q2=>⟨ε,aU q2 fun x env3 z H3 N3 D3 q3=>?_⟩⟩
    obtain⟨r,er,S,q4⟩:=cH q3
    cases e2:bw i env3 with
    |none=>rw[e2]at er;cases er
    |some d3=>
     rw[e2]at er
     simp only[Option.bind]at er
     obtain⟨u',eu',D4⟩:=dq S e2
     rw[eu]at eu'
     cases eu'
     cases e3:rJ d3 k x with
     |none=>rw[e3]at er;cases er
     |some w=>
      rw[e3]at er
      cases er
      obtain⟨a',ea,o,g,q5⟩:=MJ D4 (D2.mono N3.pers) D3 e3 fun u hu=>q4 u H3 (Nx.refl S) hu
      cases ea
      exact⟨o,g,q5⟩
 |none=>
  intro γ s σ H Q I q
  simp only[Vz,qv]at q
  exact q.2.elim
def aA(X:Cx)(W:Wi)(c:Cf)(m:E):TE:=fun σ H Q=>∃env,tA X.K W env (ev c m env) σ H Q
inductive Kv(X:Cx)(W:Wi)(c:Cf):E->List (Option Expr)->List Expr->List (TE×TE)->Prop
 |nil:Kv X W c .nil [] [] []
 |cons {k v r:E} {ke ve:Expr} {ks:List (Option Expr)} {vs:List Expr} {m8:List (TE×TE)}:GE X W c k ke->GE X W c v ve->Kv X W c r ks vs m8->Kv X W c (.cons k (.cons v r)) (some ke::ks) (ve::vs) ((aA X W c k,aA X W c v)::m8)
def ym{env:Ev}{H:Hp}{Q:VK}(q:TF K W env (evs c (.cons m1 m2) env) σ H R)(k:∀v H1 δ,TF K W δ (evs c m2 δ) σ H1 (fun vs H2=>R (v::vs) H2)->Q v H1):tA K W env (ev c m1 env) σ H Q:=by
 obtain⟨S,q⟩:=q
 refine⟨S,?_⟩
 simp only[evs]at q
 cases r:ev c m1 env with
 |bad=>rw[r]at q;exact q.elim
 |exc k δ=>rw[r]at q;exact q
 |ok x δ=>
  rw[r]at q
  intro v H1 N1 k1
  refine k v H1 δ ⟨N1.eX,?_⟩
  simp only[Out.bind]at q
  cases r2:evs c m2 δ with
  |bad=>rw[r2]at q;exact q.elim
  |exc k ε=>rw[r2]at q;exact fun H2 N2=>q H2 (N1.trans N2)
  |ok xs ε=>
   rw[r2]at q
   intro vs H2 N2 k2
   exact q _ H2 (N1.trans N2) ⟨v,vs,rfl,k1.on S N1 N2,k2.weaken N1.dom⟩
def nA:List (V×V)->List V
 |[]=>[]
 |p::r=>p.1::p.2::nA r
theorem pU:∀{a b:List (V×V)},nA a=nA b->a=b
 |[],[]=>fun _=>rfl
 |[],_::_=>fun h=>by cases h
 |_::_,[]=>fun h=>by cases h
 |(x,y)::a,_::b=>fun h=>by
  simp only[nA,List.cons.injEq]at h
  obtain⟨rfl,rfl,h⟩:=h
  rw[pU h]
def Kv.pps{ks:List (Option Expr)}{m8:List (TE×TE)}(h:Kv X W c es ks vs m8):PPs X pos ks vs m8:=by
 induction h with
 |nil=>exact QQ
 |cons hk hv _ ih=>exact Ks (fun γ s σ H Q I⟨env,q⟩=>hk.ag env γ s σ H Q I q) (fun γ s σ H Q I⟨env,q⟩=>hv.ag env γ s σ H Q I q) ih
def Kv.go{ks:List (Option Expr)}{m8:List (TE×TE)}(h:Kv X W c es ks vs m8):∀{env:Ev}{σ:St}{H:Hp}{R:List V->Hp->Prop},TF X.K W env (evs c es env) σ H R->vW m8 σ H fun ps H2=>R (nA ps) H2:=by
 induction h with
 |nil=>
  intro env σ H R q
  obtain⟨S,q⟩:=q
  exact q [] H (Nx.refl S) rfl
 |cons hk hv _ ih=>
  intro env σ H R q
  exact⟨env,ym q fun x H1 δ q1=>⟨δ,ym q1 fun y H2 ε q2=>ih q2⟩⟩
def Nx.relaid{env δ:Ev}{σ:St}{p:Addr}(S:Sat K env σ H)(hp:H p=none)(hu:O7 u)(N:Nx K env σ (upd H p u) δ H2):H2 p=some u/\Nx K env σ H δ (upd H2 p u'):=by
 have no:=S.qQ hp
 have e:=N.keep p u aK no
 have N0:=(Nx.laid S hp).trans N
 have P:=fY (u':=u') e hu
 refine⟨e,⟨N.eX.keep P fun i b w o q=>?_,N0.sub,N0.pers.trans P,fun b w q n=>?_,fun b q=>?_,N0.bors⟩⟩
 ·rw[au (fun z=>by subst z;exact no i (N.sub i _ o))];exact q
 ·rw[au ((fun b w q z=>by subst z;rw[hp]at q;cases q) b w q)];exact N0.keep b w q n
 ·by_cases hb:b=p
  ·subst hb;exact hp
  ·rw[au hb]at q;exact N0.dom b q
def Nb{ds:List D}{r:Rv}(h:Io ds=some r):∃k v:D,ds=[k,v]/\cP k=true/\r=.new (.sdt [k] [v]):=by
 unfold Io at h
 split at h
 ·split at h
  ·rename_i hk
   cases h
   exact⟨_,_,rfl,hk,rfl⟩
  ·cases h
 ·cases h
def YC(hu:X.A.units+9<cLine){es:E}{ks:List (Option Expr)}{vs:List Expr}{m8:List (TE×TE)}(h:Kv X W c es ks vs m8)(hall:ks.all (·.isSome)=true)(hl:ks.length=vs.length)(h0:ks≠[])(h15:ks.length<=15):GE X W c (.dsp es) (.Dict ks vs pos):=by
 intro env
 refine PE.imp (QZ hu h.pps hall hl h0 h15) fun σ H Q q p hp=>?_
 simp only[aej]at q
 obtain⟨S,q⟩:=q
 have S1:=(Nx.laid (o:=.dK []) S hp).eX
 have go:TF X.K W env (evs c es env) σ (upd H p (.dK [])) (fun us H2=>H2 p=some (.dK [])/\∃k a v,us=nA [(.ref a,v)]/\cL X.K H2 k a/\Q (.ref p) (upd H2 p (sD [(k,a,v)]))):=by
  refine⟨S1,?_⟩
  cases r:evs c es env with
  |bad=>rw[r]at q;exact q.elim
  |exc k δ=>rw[r]at q;exact fun H2 N=>q H2 ((Nx.laid S hp).trans N)
  |ok rs δ=>
   rw[r]at q
   simp only[Out.bind]at q
   cases e1:aJ rs with
   |none=>rw[e1]at q;exact q.elim
   |some ds=>
    rw[e1]at q
    simp only[QHq]at q
    unfold zV at q
    by_cases hd:(decide (ds.length<=30)&& !ds.isEmpty)=true
    ·rw[if_pos hd]at q
     simp only[QUq,QUz]at hd
     cases e0:Io ds with
     |some rv0=>
      rw[e0]at q
      intro us H2 N rv
      have l:ao X.K H2 ds us:=ie.ds (by rw[zT es env r];exact rv) e1
      obtain⟨k,v,rfl,hk,rfl⟩:=Nb e0
      obtain⟨x,w1,rfl,h1,l1⟩:=ao.aF.mp l
      obtain⟨y,w2,rfl,h2,l2⟩:=ao.aF.mp l1
      cases ao.bL.mp l2
      obtain⟨a,rfl,ka⟩:=iy hk h1
      obtain⟨b1,b2⟩:=Nx.relaid (u':=sD [(kC k,a,y)]) S hp (by constructor<;>(intros;intro z;cases z)) N
      have P:=fY (u':=sD [(kC k,a,y)]) b1 (by constructor<;>(intros;intro z;cases z))
      exact⟨b1,⟨kC k,a,y,rfl,ka,q _ _ b2 ⟨p,rfl,⟨_,aK,_,rfl,gk.aF.mpr ⟨_,_,rfl,rfl,hk,h1.mono P,h2.mono P,gk.nil⟩⟩,hp⟩⟩⟩
     |none=>rw[e0]at q;exact q.elim
    ·rw[if_neg hd]at q;exact q.elim
 have:=h.go go
 refine cast ?_ this
 congr 1
 funext ps H2
 refine propext ⟨fun⟨z,f⟩=>⟨z,?_⟩,fun⟨z,f⟩=>⟨z,?_⟩⟩
 ·obtain⟨k,a,v,e,h⟩:=f
  exact⟨k,a,v,pU e,h⟩
 ·obtain⟨k,a,v,e,h⟩:=f
  exact⟨k,a,v,by rw[e],h⟩
def YB:GE X W c .emp (.Dict [] [] pos):=by
 intro env
 refine PE.imp KQ fun σ H Q q p hp=>?_
 obtain⟨S,q⟩:=q
 exact q _ _ (Nx.laid S hp) ⟨p,rfl,⟨_,aK,[],rfl,rfl,ao.fZ⟩,hp⟩
end
noncomputable def Ite(K:QQq)(l:Addr)(vs:List V):It:=
 ⟨fun i H=>GD K H l vs/\i<vs.length,
  fun i H x H'=>∃p v,H p=none/\x=.ref p/\vs[i]? =some v/\H'=upd H p (.tup [.int i,v]),
  fun i H=>GD K H l vs/\vs.length<=i⟩
theorem GR{w:World}{elts:List Expr}{pos:Pos}{vs:List V}(ne:e≠it):
  Turn P w K (.Tuple elts x1 pos) (Ite K l vs) [e,it] e (fun i h=>(∃old,IsEnum h e it i old)/\h.IsListIter it l i) where
 mem:=by simp
 obj:=fun i h st b hb=>by
  obtain⟨⟨old,he⟩,o,ho,_,hd⟩:=st
  simp only[QCq,QAz,or_false]at hb
  rcases hb with rfl|rfl
  ·exact⟨_,he,fun v z=>by cases z⟩
  ·exact⟨o,ho,fun v z=>by rw[hd]at z;cases z⟩
 keep:=fun i h h' st k=>by
  obtain⟨⟨old,he⟩,hit⟩:=st
  exact⟨⟨old,k e (by simp) _ he⟩,hit.at fun o q=>k it (by simp) o q⟩
 item:=by
  intro X hP hw hK hc i γ s σ H E I hf st hg
  subst hP hw hK
  obtain⟨hq,hi⟩:=hg
  obtain⟨its,r,p,_⟩:=I.list hq.sq
  have ev:=QXq hi
  obtain⟨x,ex,rx⟩:=r.get ev
  obtain⟨⟨old,he⟩,hit⟩:=st
  have lt:∀b∈[e,it],b<s.heap.objs.size:=fun b hb=>by
   obtain⟨o,ho,_⟩:=id hit
   simp only[QCq,QAz,or_false]at hb
   rcases hb with rfl|rfl
   ·exact Qqz he
   ·exact Qqz ho
  refine wpAny_pyNext_enum_item he hit p.isList (by simpa using ex) ne fun h' ho hit' hT hsz hk=>?_
  refine⟨_,rfl,wpAny_letOwnedTupleGo_enum ho fun h'' he'' sb=>?_⟩
  have kk:∀b o,b∉[e,it]->s.heap.get? b=some o->h''.get? b=some o:=fun b o hb q=>by
   simp only[QCq,QAz,or_false,not_or]at hb
   exact sb.extBut _ _ hb.1 (hk b o hb.1 hb.2 q)
  have I1:Inv X γ σ (upd H s.heap.objs.size (.tup [.int i,vs[i]])) {s with heap:=h'',toks:=s.toks+1}:=
   Inv.uh I kk hf (QVz _) ⟨by show 2<=sizeLine;rw[sizeLine_eq];decide,[.int i s.toks,x],.cons ⟨s.toks,rfl⟩ (.cons rx .nil),_,sb.extBut _ _ (Nat.ne_of_gt (lt e (by simp))) hT,rfl,rfl,_,rfl⟩
  refine⟨.ref s.heap.objs.size,_,I1,rfl,⟨_,_,I.hok.fresh (QVz _),rfl,ev,rfl⟩,⟨⟨x,by simpa using he''⟩,hit'.at fun o q=>sb.extBut _ _ (Ne.symm ne) q⟩,fun b hb=>?_⟩
  rw[au (Qvz (lt b hb))]
  exact(hf b hb).1
 done:=by
  intro X hP hw hK hc i γ s σ H E I hf st hg
  subst hP hw hK
  obtain⟨hq,hi⟩:=hg
  obtain⟨its,r,p,_⟩:=I.list hq.sq
  obtain⟨⟨old,he⟩,hit⟩:=st
  have l1:=r.length
  exact wpAny_pyNext_enum_end (I.ok.hd hc) he hit p.isList (by simp;omega) fun h' kk=>⟨rfl,Inv.DX I (fun b o hb q=>kk b o (fun z=>hb (by simp[z])) q) hf⟩
 self:=fun A i s Q E st h=>by
  obtain⟨⟨old,he⟩,_⟩:=st
  exact wpAny_pyIter_enum he h
def Gg(xs:List D):List D:=aC (b7 0 xs.length) xs
theorem Cu{H:Hp}{vs:List V}(h1:GD K H l vs)(d1:ao K H xs vs)(hz:vs.length<=sizeLine):Gives K (Ite K l vs) (Gg xs) H where
 go:=fun H1 p i d e=>by
  obtain⟨x,y,ex,ey,_⟩:=jo e
  obtain⟨v,ev,_⟩:=d1.get ey
  exact⟨p.RW h1,(QCz.mp ev).1⟩
 yld:=fun H1 p i d e x H2 y=>by
  obtain⟨a,v,hn,rfl,ev,rfl⟩:=y
  obtain⟨dx,dy,ex,ey,rfl⟩:=jo e
  obtain⟨v',ev',dv⟩:=d1.get ey
  rw[ev]at ev'
  cases ev'
  rw[(iz 0 xs.length i dx ex).1]
  have pp:bR H1 (upd H1 a (.tup [.int i,v])):=by
   refine⟨fun b xs q=>?_,fun b o w q=>?_⟩
   ·rw[au (fun z=>by subst z;rw[hn]at q;cases q)];exact q
   ·rw[au (fun z=>by subst z;rw[hn]at q;cases q)];exact q
  exact⟨dB (.inl (.inl aK)) (ao.cW (by simp[bD]) (ao.cW ((dv.mono p).mono pp) ao.fZ)),.inr ⟨a,_,hn,rfl⟩⟩
 stop:=fun H1 p i hi=>by
  rw[Gg,jn,fX]at hi
  have:=d1.length
  exact⟨p.RW h1,by omega⟩
 len:=by rw[Gg,jn,fX];have:=d1.length;omega
section
theorem RL{x1:_}(ha:GE X W c m1 a)(hg:Gl X "enumerate")(hm:X.mg "enumerate"=none)(hs:starEach [a] X.env=[(false,eval a X.env)]):
  GI X W c (.enum m1) (.Tuple elts x1 tp) (.Call (.Name "enumerate" p) [a] [] pos):=by
 intro env γ s σ H R I q
 let RR:List V->Hp->Prop:=fun vs H'=>∃ε xs v1,vs=[v1]/\bD X.K H' (.lst xs) v1/\Sat X.K ε σ H'/\∀J H2,Nx X.K ε σ H' ε H2->Gives X.K J (Gg xs) H2->R J H2
 have go:aD X W c m1 σ H fun v1 H1=>RR [v1] H1:=by
  refine⟨env,qd q fun d1 δ v1 H1 N1 D1 q1=>?_⟩
  cases d1 with
  |lst xs=>
   obtain⟨S,d,zs,z1,z2,z3⟩:=q1
   cases z1
   cases z2
   exact⟨δ,xs,v1,rfl,D1,S,z3⟩
  |_=>exact q1.2.elim
 refine wpAny_Call_Name_kw (iI I hg hm PyProof.Rows.boot_enumerate ?_ (by decide) (by decide))
 refine PyProof.Rows.callWith_type1 (cu (cI ha.d eQ hs pos γ s σ H RR I go) fun us s1⟨vs,H1,I1,r1,q1⟩=>?_) hs rfl
 obtain⟨ε,xs,v1,rfl,D1,S2,q3⟩:=q1
 obtain⟨l,vs,rfl,hq,dl⟩:=cR D1
 obtain⟨u1,rfl,ru1⟩:=Vals.one r1
 cases ru1
 obtain⟨its,rr1,p1,z1⟩:=I1.list hq.sq
 refine call_enumerate_list p1.isList fun h' he hit sz kk=>?_
 refine wpAny_pyIter_enum he ?_
 refine⟨s1.heap.objs.size+1,[s1.heap.objs.size+1,s1.heap.objs.size],_,_,H1,rfl,I1.kept kk,GR (Nat.succ_ne_self _),⟨⟨.none,he⟩,hit⟩,fun b hb=>?_,q3 _ H1 (Nx.refl S2) (Cu hq dl z1)⟩
 have hb':s1.heap.objs.size<=b:=by
  simp only[QCq,QAz,or_false]at hb
  rcases hb with rfl|rfl<;>omega
 exact I1.zL hb' (I1.hok.fresh hb')
end
end Mini
end
section
namespace Mini
open PySem
structure Ct where
 N:List Str
 sc:Scope
 fns:List (Str×List Bool)
 m9:List Str
 exs:List Str:=[]
 rz:List Str:=[]
noncomputable def n8:List Str->Str->Option Nat
 |[],_=>none
 |y::r,x=>if x=y then some 0 else(n8 r x).map (· +1)
noncomputable def Nu:Const->Option D
 |.none=>some .non
 |.bool b=>some (.bl b)
 |.int i=>some (.int i)
 |.str x=>some (.str x)
 |_=>none
noncomputable def Vy(sc:Scope)(x:Str):Bool:=match sc.names.lookup x with
 |some .local=>true
 |some .cell=>true
 |some .free=>true
 |_=>false
def xW(sc:Scope)(x:Str):Bool:=sc.names.lookup x==some .globalImplicit
def Hz(x:Str):Bool:= !(x==("__debug__":Str))&& !(x==("__classdict__":Str))
noncomputable def iu(C:Ct)(x:Str):Option E:=
 if Hz x then
  match n8 C.N x with
  |some k=>if Vy C.sc x then some (.var k)else none
  |none=>if xW C.sc x then(n8 C.m9 x).map .glob else none
 else none
noncomputable def opB:Operator->Option Ze
 |.Add=>some .add
 |.Sub=>some .sub
 |.Mult=>some .mul
 |.Mod=>some .mod
 |_=>none
noncomputable def cmB:CmpOp->Option Cm
 |.Eq=>some .eq
 |.NotEq=>some .ne
 |.Lt=>some .lt
 |.LtE=>some .le
 |.Gt=>some .gt
 |.In=>some .isin
 |.NotIn=>some .notin
 |.Is=>some .dZ
 |.IsNot=>some .notN
 |_=>none
noncomputable def tyB(x:Str):Option Ty:=
 if x="tuple" then some .tup else if x="list" then some .lst else if x="str" then some .str else if x="bool" then some .bool else if x="int" then some .int else none
noncomputable def Z8(x:Str):Option Bi:=
 if x="len" then some .len else if x="int" then some .int else if x="tuple" then some .tuple else if x="list" then some .list else if x="all" then some .all else if x="any" then some .any
 else if x="sorted" then some .sorted else if x="dict" then some .dict else none
noncomputable def plain:Expr->Bool
 |.BoolOp .. |.BinOp .. |.UnaryOp .. |.IfExp .. |.ListComp .. |.Compare .. |.Call .. |.Constant .. |.Subscript .. |.Name .. |.List .. |.Tuple .. |.Dict .. =>true
 |_=>false
def E.Mi:E->Bool
 |.nil=>true
 |_=>false
noncomputable def fnAt(C:Ct)(x:Str):Option (Nat×List Bool):=(n8 (C.fns.map (·.1)) x).bind fun g=>(C.fns[g]?).map fun p=>(g,p.2)
noncomputable def qD(scope outer:Scope):Scope:=
 {scope with names:=scope.names.map fun(n,k)=>if (k== .free&&outer.kind== .function&&outer.names.lookup n==some .cell)then(n,.cell)else(n,k)}
def qt(η N:List Str):List Str:=η++N.map fun x=>if η.contains x then(".":Str)++x else x
def tR:Expr->Option Str
 |.Name x _=>some x
 |_=>none
noncomputable def VP:Expr->Option (List Str×Tg)
 |.Name x _=>some ([x],.name 0)
 |.Tuple es _ _=>(es.mapM tR).map fun xs=>(xs,.tup (List.range xs.length))
 |_=>none
noncomputable def Wl(outer inner:Scope)(η N:List Str):Bool:=
 decide (inner.kind=.function)&&decide ((qt η N).Nodup)
 &&(inner.names.all fun p=>(p.2 != .local)||((η.contains p.1||p.1==(".0":Str))&&inner.names.lookup p.1==some .local))
 &&(η.all fun x=>inner.names.lookup x==some .local)
 &&(inner.names.all fun p=>p.2 != .cell)
 &&(inner.names.all fun p=>(p.2 != .free)||outer.names.lookup p.1==some .cell||outer.names.lookup p.1==some .free)
 &&(N.all fun x=> !η.contains x||(inner.names.lookup ((".":Str)++x)).isNone)
 && !N.contains (".0":Str)
def isCall:Expr->Bool
 |.Call .. =>true
 |_=>false
def BV(ap cp:Pos):Bool:=ap.endLine==cp.line
mutual
noncomputable def dj:Nat->Ct->Expr->Option E
 |0,_,_=>none
 |n+1,C,e=>match e with
  |.Constant k _ _=>(Nu k).map .con
  |.Name x _=>iu C x
  |.Tuple es _ _=>(vQ n C es).map .tup
  |.List es _=>(vQ n C es).map .lis
  |.BinOp a o b _=>(opB o).bind fun o=>(dj n C a).bind fun a=>(dj n C b).map fun b=>.op o a b
  |.UnaryOp o a _=>match o with
   |.USub=>(dj n C a).map .neg
   |.Not=>(dj n C a).map .not
   |_=>none
  |.BoolOp o es _=>(vQ n C es).bind fun m=>if m.Mi then none else match o with
   |.And=>some (.and m)
   |.Or=>some (.or m)
  |.Compare a ops cs _=>match ops,cs with
   |[o],[b]=>(cmB o).bind fun o=>(dj n C a).bind fun a=>(dj n C b).map fun b=>.cmp o a b
   |[o,o2],[b,d]=>(cmB o).bind fun o=>(cmB o2).bind fun o2=>(dj n C a).bind fun a=>(dj n C b).bind fun b=>(dj n C d).map fun d=>.chain o o2 a b d
   |_,_=>none
  |.IfExp t a b _=>(dj n C t).bind fun t=>(dj n C a).bind fun a=>(dj n C b).map fun b=>.ite t a b
  |.Subscript a i _=>match i with
   |.Slice lo hi st _=>match st with
    |none=>(dj n C a).bind fun a=>(Zz n C lo).bind fun lo=>(Zz n C hi).map fun hi=>.slc a lo hi
    |some _=>none
   |i=>(dj n C a).bind fun a=>(dj n C i).map fun i=>.idx a i
  |.Call f args kw cp=>match kw with
   |[]=>match f with
    |.Name x _=>if Hz x&&xW C.sc x then(match fnAt C x with
      |some (g,fl)=>(GZ n C fl args).bind fun m=>if m.Mi then none else some (.call g m)
      |none=>trB n C x args)else none
    |.Attribute o name ap=>if BV ap cp then(match args with
      |[e]=>if name="count" then(dj n C o).bind fun m1=>(if plain o&& !isCall o then some ()else none).bind fun _=>(dj n C e).map fun m2=>.count m1 m2
       else if name="pop" then(match o with
        |.Name x _=>(iu C x).bind fun m=>match m with
         |.var k=>(dj n C e).map fun m2=>.popAt k m2
         |_=>none
        |_=>none)
       else none
      |[e,f]=>if name="get" then(dj n C o).bind fun m1=>(if plain o&& !isCall o then some ()else none).bind fun _=>(dj n C e).bind fun m2=>(dj n C f).map fun m3=>.get2 m1 m2 m3 else none
      |_=>none)else none
    |_=>none
   |_=>none
  |.Dict ks vs _=>if ks.isEmpty&&vs.isEmpty then some .emp else if ks.length=vs.length&&decide (ks.length<=15)&& !ks.isEmpty then(GX n C ks vs).map .dsp else none
  |.ListComp elt gens sc _=>match gens with
   |[g]=>trC n C elt g sc
   |_=>none
  |_=>none
noncomputable def GX:Nat->Ct->List (Option Expr)->List Expr->Option E
 |0,_,_,_=>none
 |n+1,C,ks,vs=>match ks,vs with
  |[],[]=>some .nil
  |some k::ks,v::vs=>(dj n C k).bind fun k=>(dj n C v).bind fun v=>(GX n C ks vs).map fun r=>.cons k (.cons v r)
  |_,_=>none
noncomputable def trC:Nat->Ct->Expr->Comprehension->Scope->Option E
 |0,_,_,_,_=>none
 |n+1,C,elt,g,sc=>if g.is_async=0 then(VP g.target).bind fun(η,tg)=>
   if Wl C.sc sc η C.N then
    let C2:Ct:={C with N:=qt η C.N,sc:=qD sc C.sc}
    (ZC n C g.iter).bind fun it=>(match g.ifs with
     |[]=>some (E.con (.bl true))
     |[c]=>dj n C2 c
     |_=>none).bind fun cond=>(dj n C2 elt).map fun m=>.comp η.length tg it cond m
   else none else none
noncomputable def ZC:Nat->Ct->Expr->Option E
 |0,_,_=>none
 |n+1,C,e=>match e with
  |.Call f args kw cp=>match f,args,kw with
   |.Name x _,[a],[]=>if x="range"&&xW C.sc x&&(fnAt C x).isNone then(dj n C a).map .range1 else dj n C e
   |.Name x _,[a,b],[]=>if x="zip"&&xW C.sc x&&(fnAt C x).isNone then(dj n C a).bind fun a=>(dj n C b).map fun b=>.zip a b else dj n C e
   |_,_,_=>dj n C e
  |_=>dj n C e
noncomputable def trB:Nat->Ct->Str->List Expr->Option E
 |0,_,_,_=>none
 |n+1,C,x,args=>match args with
  |[a,t]=>if x="isinstance" then(match t with
    |.Name y _=>if xW C.sc y then(tyB y).bind fun t=>(dj n C a).map fun a=>.isi a t else none
    |_=>none)else none
  |[a]=>match a with
   |.Call f zs kw _=>(match f,zs,kw with
    |.Name z _,[p,q],[]=>if z="zip"&&xW C.sc z&&(fnAt C z).isNone then
      (if x="dict" then(dj n C p).bind fun p=>(dj n C q).map fun q=>.bi .dict (.zip p q)
       else if x="list" then(dj n C p).bind fun p=>(dj n C q).map fun q=>.bi .list (.zip p q)else none)
     else(Z8 x).bind fun b=>(dj n C a).bind fun m=>if b=.dict&&m.aq.isSome then some (.bi b (.rd m))else some (.bi b m)
    |_,_,_=>(Z8 x).bind fun b=>(dj n C a).bind fun m=>if b=.dict&&m.aq.isSome then some (.bi b (.rd m))else some (.bi b m))
   |a=>(Z8 x).bind fun b=>(dj n C a).bind fun m=>if b=.dict&&m.aq.isSome then some (.bi b (.rd m))else some (.bi b m)
  |_=>none
noncomputable def GZ:Nat->Ct->List Bool->List Expr->Option E
 |0,_,_,_=>none
 |n+1,C,fl,es=>match fl,es with
  |[],[]=>some .nil
  |false::fl,e::es=>(dj n C e).bind fun m=>(GZ n C fl es).map fun ms=>.cons m ms
  |true::fl,e::es=>(match e with
    |.Name x _=>(iu C x).bind fun m=>match m with
     |.var k=>some (E.ref k)
     |_=>none
    |_=>none).bind fun m=>(GZ n C fl es).map fun ms=>.cons m ms
  |_,_=>none
noncomputable def Zz:Nat->Ct->Option Expr->Option E
 |0,_,_=>none
 |n+1,C,o=>match o with
  |none=>some .noneE
  |some e=>dj n C e
noncomputable def vQ:Nat->Ct->List Expr->Option E
 |0,_,_=>none
 |n+1,C,es=>match es with
  |[]=>some .nil
  |e::es=>(dj n C e).bind fun m=>(vQ n C es).map fun ms=>.cons m ms
end
noncomputable def J4(C:Ct)(e f:Option Expr):Nat:=match e,f with
 |some (.Call (.Name x _) [.Constant (.str _) _ _] [] _),none=>if xW C.sc x&&Hz x then(match n8 C.exs x with|some k=>k+1|none=>0)else 0
 |_,_=>0
def HH(sc:Scope)(x:Str):Bool:=sc.names.lookup x==some .local||sc.names.lookup x==some .cell
noncomputable def slotsOf(C:Ct):List Expr->Option (List Nat)
 |[]=>some []
 |.Name x _::es=>if HH C.sc x then(n8 C.N x).bind fun i=>(slotsOf C es).map (i:: ·)else none
 |_=>none
noncomputable def Jx(C:Ct):Expr->Option Tg
 |.Name x _=>if HH C.sc x then(n8 C.N x).map .name else none
 |.Tuple es _ _=>(slotsOf C es).map .tup
 |_=>none
def isTup:Expr->Bool
 |.Tuple .. =>true
 |_=>false
def oh:Expr->Bool
 |.ListComp .. =>true
 |_=>false
def isSlice:Expr->Bool
 |.Slice .. =>true
 |_=>false
noncomputable def trN(n:Nat)(C:Ct)(tg it:Expr):Option E:=if isTup tg then(match it with
  |.Call f as kw _=>(match f,as,kw with
   |.Name x _,[a],[]=>if x="enumerate"&&xW C.sc x&&(fnAt C x).isNone then(dj n C a).map .enum else none
   |_,_,_=>none)
  |_=>none)else none
noncomputable def trF(n:Nat)(C:Ct)(tg it:Expr):Option E:=match trN n C tg it with
 |some m=>some m
 |none=>ZC n C it
def rzB(C:Ct):Expr->Bool
 |.Name x _=>C.rz.contains x
 |_=>false
noncomputable def trX(n:Nat)(C:Ct)(f:Expr)(args:List Expr)(kw:List Keyword):Option S:=
 match f,kw with
 |.Name x _,[]=>if Hz x&&xW C.sc x then(match fnAt C x with
   |some (g,fl)=>(GZ n C fl args).bind fun m=>if m.Mi then none else some (.callx g m)
   |none=>none)else none
 |_,_=>none
mutual
noncomputable def Tt:Nat->Ct->Stmt->Option S
 |0,_,_=>none
 |n+1,C,st=>match st with
  |.Return v _=>match v with
   |none=>some (.ret ABO)
   |some e=>(dj n C e).map .ret
  |.Assign ts e _=>match ts with
   |[t]=>match t with
    |.Name x _=>if HH C.sc x then(n8 C.N x).bind fun i=>(dj n C e).map fun m=>.set i m else none
    |.Tuple es _ _=>if isTup e||oh e then none else(slotsOf C es).bind fun is=>(dj n C e).map fun m=>.setT is m
    |.Subscript o ix _=>match o with
     |.Name x _=>if oh e||isSlice ix then none else(iu C x).bind fun v=>match v with
      |.var k=>(dj n C ix).bind fun i=>(dj n C e).map fun m=>.setIx k i m
      |_=>none
     |_=>none
    |_=>none
   |_=>none
  |.Expr e _=>match e with
   |.Call f args kw cp=>match f,args,kw with
    |.Attribute o name ap,[a],[]=>match o with
     |.Name x _=>if BV ap cp&&name="append" then(iu C x).bind fun v=>(match v with
       |.var k=>(dj n C a).map fun m=>.append k m
       |_=>none)
      else if BV ap cp&&name="extend" then(iu C x).bind fun v=>(match v with
       |.var k=>(dj n C a).map fun m=>.extend k m
       |_=>none)
      else(dj n C e).map .expr
     |_=>none
    |f,args,kw=>if rzB C f then trX n C f args kw else(dj n C e).map .expr
   |_=>none
  |.If t a b _=>(dj n C t).bind fun t=>(p6 n C a).bind fun a=>(p6 n C b).map fun b=>.ite t a b
  |.For tg it b el _=>match el with
   |[]=>(Jx C tg).bind fun tg'=>(trF n C tg it).bind fun it=>(p6 n C b).map fun b=>.for_ tg' it b
   |_=>none
  |.While t b el _=>match el with
   |[]=>(dj n C t).bind fun t=>(p6 n C b).map fun b=>.while_ t b
   |_=>none
  |.Raise e f _=>some (.raise (J4 C e f))
  |_=>none
noncomputable def p6:Nat->Ct->List Stmt->Option S
 |0,_,_=>none
 |n+1,C,ss=>match ss with
  |[]=>some .nil
  |s::ss=>(Tt n C s).bind fun m=>(p6 n C ss).map fun ms=>.cons m ms
end
end Mini
end
section
namespace Mini
open PySem L2
noncomputable def mY:List Str:=["isinstance","tuple","list","str","bool","int","dict","len","all","any","sorted","zip","range","enumerate"]
def Zi(X:Cx)(c:Cf)(g:Nat)(x:Str):Prop:=∃k f fd ps,oO X.prog X.w X.K X.mg X.base O9 k f fd ps (v4 X.K ps.length (c.fn g))/\jj k X.A/\X.mg x=some (.ref f)/\PySem.W.keepIn X.K (.ref f)=true/\Binds X.K fd ps []/\∀sl,c.fn g sl=.bad\/sl.length=ps.length
structure ir(C:Ct)(X:Cx)(c:Cf):Prop where
 N:X.N=C.N
 sc:X.env.scope=C.sc
 nd:C.N.Nodup
 calm:X.calm=true
 hu:X.A.units+60<cLine
 bi:∀x∈mY,X.mg x=none
 gl:∀k x,C.m9[k]? =some x->∃d,c.gl k=some d/\adk X x d
 fn:∀g x fl,C.fns[g]? =some (x,fl)->Zi X c g x
structure Sd(X:Cx)(c:Cf)(m:E)(e:Expr):Prop where
 ge:GE X W0 c m e
 gt:GT X W0 c m e
 pl:plain e=true
 va:∀k,m.aq=some k->∃x p,e=.Name x p/\ik X k x
 nn:m.dZ=false
theorem iJ:∀{N:List Str}{x:Str}{k:Nat},n8 N x=some k->N[k]? =some x
 |[],_,_,h=>by cases h
 |y::r,x,k,h=>by
  unfold n8 at h
  split at h
  ·rename_i e;cases h;subst e;rfl
  ·cases q:n8 r x with
   |none=>rw[q]at h;cases h
   |some j=>rw[q]at h;cases h;simpa using iJ q
def Vx{x:Str}(h:Vy sc x=true):Vis sc x:=by
 unfold Vy at h
 unfold Vis
 cases q:sc.names.lookup x with
 |none=>rw[q]at h;cases h
 |some k=>rw[q]at h;cases k<;>simp at h<;>simp
def Ex(h:Hz x=true):(x==("__debug__":Str))=false/\(x==("__classdict__":Str))=false:=by
 unfold Hz at h
 rw[QUq]at h
 exact⟨by simpa using h.1,by simpa using h.2⟩
section
def kO(O:ir C X c)(h:xW C.sc x=true):Gl X x:=by
 unfold xW at h
 show X.env.scope.names.lookup x=_
 rw[O.sc]
 simpa using h
def bB(h:plain e=true)es env:starEach (e::es) env=(false,eval e env)::starEach es env:=by
 cases e<;>first|rfl|exact absurd (h) Qjz
def qU(h:plain e=true)o:behindInMarks o e=false:=by
 cases e<;>first|rfl|exact absurd (h) Qjz
def wY(h:plain e=true)env x:foldedSetIterable e env x=pure x:=by
 cases e<;>first|rfl|exact absurd (h) Qjz
def BK(h:plain e=true):xR e:=by
 intro o i
 cases e<;>first|rfl|exact absurd (h) Qjz
def tame:Expr->Bool
 |.UnaryOp .Not .. |.BoolOp .. |.IfExp .. |.Compare .. =>false
 |_=>true
def Mu(h:GE X W0 c m e)(hp:plain e=true)(ht:tame e=true):GT X W0 c m e:=by
 refine h.t fun whole=>?_
 cases e with
 |UnaryOp o a q=>cases o<;>first|rfl|exact absurd (ht) Qjz
 |_=>first|rfl|exact absurd (hp) Qjz|exact absurd (ht) Qjz
def Eh(O:ir C X c)(h:iu C x=some m):Sd X c m (.Name x p):=by
 unfold iu at h
 split at h
 ·rename_i nb
  obtain⟨n1,n2⟩:=Ex nb
  cases q:n8 C.N x with
  |some k=>
   rw[q]at h
   simp only at h
   split at h
   ·rename_i hv
    cases h
    have nm:ik X k x:=⟨by rw[O.N];exact iJ q,by rw[O.sc];exact Vx hv,n1,n2⟩
    exact⟨nm.ge,Mu nm.ge rfl rfl,rfl,fun k' e=>by cases e;exact⟨x,p,rfl,nm⟩,rfl⟩
   ·cases h
  |none=>
   rw[q]at h
   simp only at h
   split at h
   ·rename_i hg
    cases q2:n8 C.m9 x with
    |none=>rw[q2]at h;cases h
    |some k=>
     rw[q2]at h
     cases h
     obtain⟨d,hk,ok⟩:=O.gl k x (iJ q2)
     have ge:GE X W0 c _ (.Name x p):=RM hk ok (kO O hg) n1
     exact⟨ge,Mu ge rfl rfl,rfl,fun k' e=>(by cases e),rfl⟩
   ·cases h
 ·cases h
def zb(O:ir C X c)(h:iu C x=some (.var k)):ik X k x:=by
 obtain⟨y,q,e,nm⟩:=(Eh (p:=default) O h).va k rfl
 cases e
 exact nm
inductive Al(X:Cx)(c:Cf):E->List Expr->Prop
 |nil:Al X c .nil []
 |cons {m ms:E} {e:Expr} {es:List Expr}:Sd X c m e->Al X c ms es->Al X c (.cons m ms) (e::es)
theorem Al.ga:∀{ms:E}{es:List Expr},Al X c ms es->GA X W0 c ms es
 |_,_,.nil=>M3
 |_,_,.cons h t=>Ga h.ge t.ga (bB h.pl _ _)
theorem Al.and{es:List Expr}:∀{m ms:E}{e:Expr},Al X c (.cons m ms) (e::es)->GE X W0 c (.and (.cons m ms)) (.BoolOp .And (e::es) pos)/\GW X W0 c (.and (.cons m ms)) (.BoolOp .And (e::es) pos):=by
 induction es with
 |nil=>intro m ms e h;cases h with|cons h t=>cases t;exact⟨RV h.ge,RB h.gt⟩
 |cons e2 es ih=>intro m ms e h;cases h with|cons h t=>cases t with|cons h2 t=>exact⟨YG h.ge (ih (.cons h2 t)).1,Yj h.gt (ih (.cons h2 t)).2⟩
theorem Al.or{es:List Expr}:∀{m ms:E}{e:Expr},Al X c (.cons m ms) (e::es)->GE X W0 c (.or (.cons m ms)) (.BoolOp .Or (e::es) pos)/\GW X W0 c (.or (.cons m ms)) (.BoolOp .Or (e::es) pos):=by
 induction es with
 |nil=>intro m ms e h;cases h with|cons h t=>cases t;exact⟨Yt h.ge,Ye h.gt⟩
 |cons e2 es ih=>intro m ms e h;cases h with|cons h t=>cases t with|cons h2 t=>exact⟨acK h.ge (ih (.cons h2 t)).1,acG h.gt (ih (.cons h2 t)).2⟩
def Xm{q:Ze}(h:opB o=some q):o=ab1 q:=by
 cases o<;>first|(cases (h);rfl)|cases (h)
def Di{q:Cm}(h:cmB o=some q):o=eG q:=by
 cases o<;>first|(cases (h);rfl)|cases (h)
def Nt{d:D}(h:Nu k=some d):Ew d k=true:=by
 cases k<;>simp[Nu]at h<;>subst h<;>simp[Ew]
def VM(h:tyB x=some t):x=Str.ofString (tyN t)/\x∈mY:=by
 unfold tyB at h
 split at h
 ·rename_i e;cases h;subst e;exact⟨rfl,by decide⟩
 split at h
 ·rename_i e;cases h;subst e;exact⟨rfl,by decide⟩
 split at h
 ·rename_i e;cases h;subst e;exact⟨rfl,by decide⟩
 split at h
 ·rename_i e;cases h;subst e;exact⟨rfl,by decide⟩
 split at h
 ·rename_i e;cases h;subst e;exact⟨rfl,by decide⟩
 cases h
def U3(O:ir C X c){bb:Bi}(h:Z8 x=some bb)(hg:xW C.sc x=true)(ha:Sd X c m a)(hd:bb=.dict->m.aq=none):GE X W0 c (.bi bb m) (.Call (.Name x p) [a] [] pos):=by
 have hs:=bB ha.pl [] X.env
 have hG:=kO O hg
 unfold Z8 at h
 split at h
 ·rename_i e;cases h;subst e;exact wX IK Qt ha.ge ha.va hG (O.bi _ (by decide)) PySem.boot_len (by decide) (by decide) hs
 split at h
 ·rename_i e;cases h;subst e;exact CG IV Qu ha.ge ha.va hG (O.bi _ (by decide)) PyProof.Rows.boot_int (by decide) (by decide) hs
 split at h
 ·rename_i e;cases h;subst e;exact CG uc Hd ha.ge ha.va hG (O.bi _ (by decide)) PyProof.Rows.boot_tuple (by decide) (by decide) hs
 split at h
 ·rename_i e;cases h;subst e;exact CG (Do O.calm) JX ha.ge ha.va hG (O.bi _ (by decide)) PyProof.Rows.boot_list (by decide) (by decide) hs
 split at h
 ·rename_i e;cases h;subst e;exact wX (I8 O.calm) Qw ha.ge ha.va hG (O.bi _ (by decide)) PyProof.Rows.boot_all (by decide) (by decide) hs
 split at h
 ·rename_i e;cases h;subst e;exact wX (IW O.calm) Qv ha.ge ha.va hG (O.bi _ (by decide)) PyProof.Rows.boot_any (by decide) (by decide) hs
 split at h
 ·rename_i e;cases h;subst e;exact wX xK Bh ha.ge ha.va hG (O.bi _ (by decide)) PyProof.Rows.boot_sorted (by decide) (by decide) hs
 split at h
 ·rename_i e;cases h;subst e;exact RP O.calm O.hu ha.ge (hd rfl) hG (O.bi _ (by decide)) hs
 cases h
end
def Bl{env:Env}(h:env.scope=outer):relabel sc env=qD sc outer:=by
 subst h
 rfl
def JT{η N:List Str}(h:Wl outer inner η N=true):(qt η N).Nodup:=by
 unfold Wl at h
 simp only[QUq,QUz]at h
 exact h.1.1.1.1.1.1.2
def JS{η N:List Str}(h:Wl outer inner η N=true):Jb outer inner η N:=by
 unfold Wl at h
 simp only[QUq,QUz,List.all_eq_true,Bool.or_eq_true,bne_iff_ne,beq_iff_eq,Bool.not_eq_true',ne_eq]at h
 obtain⟨⟨⟨⟨⟨⟨⟨h1,h2⟩,h3⟩,h4⟩,h5⟩,h6⟩,h7⟩,h8⟩:=h
 refine⟨h1,h2,fun x hx=>?_,fun p hp hl=>?_,h4,h5,fun p hp hf=>?_,fun x hx ht=>?_,fun hx=>?_⟩
 ·rcases h3 _ (PySem.mem_of_lookup hx)with z|z
  ·exact absurd rfl z
  ·rcases z.1 with z|z
   ·exact .inl (by simpa using z)
   ·exact .inr z
 ·rcases h3 p hp with z|z
  ·exact absurd hl z
  ·exact z.2
 ·rcases h6 p hp with (z|z)|z
  ·exact absurd hf z
  ·exact .inl z
  ·exact .inr z
 ·rcases h7 x hx with z|z
  ·rw[ht]at z;cases z
  ·simpa using z
 ·have:N.contains (".0")=true:=by simpa using hx
  rw[this]at h8;cases h8
section
variable{sc:Scope}
theorem ir.blk(O:ir C X c)(hs:Wl C.sc sc η C.N=true){fp:List Addr}{H₀:Hp}:ir {C with N:=qt η C.N,sc:=qD sc C.sc} (Mini.blk X sc cl (bW η X.N) fp s₀ H₀) c:=
 ⟨by show bW η X.N=qt η C.N;rw[O.N];rfl,Bl O.sc,JT hs,O.calm,O.hu,O.bi,O.gl,O.fn⟩
theorem qP{sc:Scope}{N:List Str}:∀{es:List Expr}{xs:List Str}(k:Nat),es.mapM tR=some xs->(∀j x,xs[j]? =some x->N[k+j]? =some x)->(∀x∈xs,sc.names.lookup x=some .local)->gB sc N (List.range' k xs.length) es=true
 |[],xs,k,h,_,_=>by
  simp at h;subst h;rfl
 |e::es,xs,k,h,hN,hl=>by
  rw[List.mapM_cons]at h
  cases q:tR e with
  |none=>rw[q]at h;cases h
  |some x=>
   rw[q]at h
   cases q2:es.mapM tR with
   |none=>rw[q2]at h;cases h
   |some ys=>
    rw[q2]at h
    cases h
    cases e<;>simp[tR]at q
    subst q
    rw[QBq,List.range'_succ]
    unfold gB
    rw[qP _ q2 (fun j y e=>by have:=hN (j+1) y (by simpa using e);rw[<-this];congr 1;omega) (fun y hy=>hl y (QYq _ hy))]
    have:=hN 0 _ rfl
    simp at this
    simp[this,hl _ QYz]
theorem qT:∀{es:List Expr}{xs:List Str},es.mapM tR=some xs->(assignEach es env).length=xs.length/\(assignEach es env).findIdx? (·.1)=none
 |[],xs,h=>by simp at h;subst h;exact⟨rfl,rfl⟩
 |e::es,xs,h=>by
  rw[List.mapM_cons]at h
  cases q:tR e with
  |none=>rw[q]at h;cases h
  |some x=>
   rw[q]at h
   cases q2:es.mapM tR with
   |none=>rw[q2]at h;cases h
   |some ys=>
    rw[q2]at h
    cases h
    obtain⟨i1,i2⟩:=qT (env:=env) q2
    cases e<;>simp[tR]at q
    constructor
    ·show(_::assignEach es env).length=_
     simp[i1]
    ·show(List.findIdx? (·.1) ((false,_)::assignEach es env))=none
     rw[List.findIdx?_cons]
     simp[i2]
def aaO(O:ir C X c){Φ:Expr}(ht:VP Φ=some (η,tg))(hs:Wl C.sc sc η C.N=true):(∀i∈slots tg,i<η.length)/\∀(cl:List (Str×Addr))(fp:List Addr)(s₀:Shared)(H₀:Hp),GG (Mini.blk X sc cl (bW η X.N) fp s₀ H₀) tg Φ:=by
 have lc:∀x∈η,∀cl fp s₀ H₀,(Mini.blk X sc cl (bW η X.N) fp s₀ H₀).env.scope.names.lookup x=some .local:=fun x hx cl fp s₀ H₀=>lookup_relabel_local ((JS hs).tg x hx)
 have nd:∀cl fp s₀ H₀,(Mini.blk X sc cl (bW η X.N) fp s₀ H₀).N.Nodup:=fun cl fp s₀ H₀=>by
  rw[O.N]
  exact JT hs
 cases Φ<;>simp only[VP]at ht<;>try (cases ht;done)
 ·rename_i x q
  cases ht
  refine⟨fun i hi=>?_,fun cl fp s₀ H₀=>wV (nd cl fp s₀ H₀) rfl (.inl (lc x (by simp) cl fp s₀ H₀)) (.inr (lc x (by simp) cl fp s₀ H₀))⟩
  simp[slots]at hi
  subst hi
  simp
 ·rename_i es k q
  cases qm:es.mapM tR with
  |none=>rw[qm]at ht;cases ht
  |some xs=>
   rw[qm]at ht
   cases ht
   refine⟨fun i hi=>by simpa[slots]using hi,fun cl fp s₀ H₀=>?_⟩
   obtain⟨l1,l2⟩:=qT qm
   refine Cv (nd cl fp s₀ H₀) O.calm (K7 ?_) (by simp[l1]) l2
   have:=qP (N:=(Mini.blk X sc cl (bW η X.N) fp s₀ H₀).N) 0 qm (fun j x e=>?_) (fun x hx=>lc x hx cl fp s₀ H₀)
   ·rwa[List.range_eq_range']
   ·show(bW η X.N)[0+j]? =some x
    unfold bW
    rw[Nat.zero_add,Qwz (QCz.mp e).1]
    exact e
end
inductive Ar(X:Cx)(c:Cf):E->List Expr->Prop
 |nil:Ar X c .nil []
 |cons {m ms:E} {e:Expr} {es:List Expr}:GE X W0 c m e->plain e=true->Ar X c ms es->Ar X c (.cons m ms) (e::es)
theorem Ar.ga{c:Cf}:∀{ms:E}{es:List Expr},Ar X c ms es->GA X W0 c ms es
 |_,_,.nil=>M3
 |_,_,.cons h p t=>Ga h t.ga (bB p _ _)
theorem Ar.plain{c:Cf}:∀{ms:E}{es:List Expr},Ar X c ms es->(backTo pos (starEach es X.env)).any (·.1)=false
 |_,_,.nil=>rfl
 |_,_,.cons h p t=>by
  rw[bB p]
  have:=t.plain (pos:=pos)
  simpa[backTo]using this
def DQ(X:Cx)(c:Cf)(m:E)(elt:Expr)(g:Comprehension)(sc:Scope):Prop:=
 ∃η tg it cond m',m=.comp η.length tg it cond m'/\Ah X c sc η tg cond m' g.target elt g.ifs/\GI X W0 c it g.target g.iter/\plain g.iter=true/\g.is_async=0
structure Ih(c:Cf)(n:Nat):Prop where
 e:∀C X e m,ir C X c->dj n C e=some m->Sd X c m e
 es:∀C X es m,ir C X c->vQ n C es=some m->Al X c m es
 a:∀C X fl es m,ir C X c->GZ n C fl es=some m->Ar X c m es
 o:∀C X o m,ir C X c->Zz n C o=some m->GO X W0 c m o
 b:∀C X x args m p pos,ir C X c->xW C.sc x=true->trB n C x args=some m->GE X W0 c m (.Call (.Name x p) args [] pos)/\m.aq=none/\m.dZ=false
 i:∀C X tg e m,ir C X c->ZC n C e=some m->GI X W0 c m tg e/\plain e=true
 k:∀C X elt g sc m,ir C X c->trC n C elt g sc=some m->DQ X c m elt g sc
 d:∀C X ks vs m,ir C X c->GX n C ks vs=some m->∃m8,Kv X W0 c m ks vs m8/\ks.all (·.isSome)=true
def ih0 c:Ih c 0:=by
 constructor
 all_goals (intros;rename_i h;first|(rw[dj]at h;cases h)|(rw[vQ]at h;cases h)|(rw[GZ]at h;cases h)|(rw[Zz]at h;cases h)|(rw[trB]at h;cases h)|(rw[ZC]at h;cases h)|(rw[trC]at h;cases h)|(rw[GX]at h;cases h))
section
def Qe(I:Ih c n)(O:ir C X c)(h:vQ (n+1) C es=some m):Al X c m es:=by
 cases es with
 |nil=>rw[vQ]at h;cases h;exact .nil
 |cons e es=>
  rw[vQ]at h
  simp only[QJq,QJz]at h
  obtain⟨m1,h1,m2,h2,rfl⟩:=h
  exact .cons (I.e C X e m1 O h1) (I.es C X es m2 O h2)
def V9(I:Ih c n)(O:ir C X c){vs:List Expr}(h:GX (n+1) C ks vs=some m):∃m8,Kv X W0 c m ks vs m8/\ks.all (·.isSome)=true:=by
 unfold GX at h
 split at h
 ·cases h;exact⟨[],.nil,rfl⟩
 ·simp only[QJq,QJz]at h
  obtain⟨k1,h1,v1,h2,r,h3,rfl⟩:=h
  obtain⟨m8,K,a⟩:=I.d C X _ _ r O h3
  exact⟨_,.cons (I.e C X _ k1 O h1).ge (I.e C X _ v1 O h2).ge K,by simpa using a⟩
 ·cases h
def V4(I:Ih c n)(O:ir C X c)(h:Zz (n+1) C o=some m):GO X W0 c m o:=by
 cases o with
 |none=>rw[Zz]at h;cases h;exact .inl ⟨rfl,rfl⟩
 |some e=>
  have s:=I.e C X e m O h
  exact .inr ⟨e,rfl,s.nn,s.ge⟩
def Wb(I:Ih c n)(O:ir C X c){es:List Expr}(h:GZ (n+1) C fl es=some m):Ar X c m es:=by
 cases fl with
 |nil=>
  cases es with
  |nil=>rw[GZ]at h;cases h;exact .nil
  |cons e es=>rw[GZ]at h<;>first|cases h|(intros;simp_all)
 |cons f fl=>
  cases es with
  |nil=>rw[GZ]at h<;>first|cases h|(intros;simp_all)
  |cons e es=>
   cases f with
   |false=>
    rw[GZ]at h
    simp only[QJq,QJz]at h
    obtain⟨m1,h1,m2,h2,rfl⟩:=h
    have s:=I.e C X e m1 O h1
    exact .cons s.ge s.pl (I.a C X fl es m2 O h2)
   |true=>
    by_cases hN:∃x p,e=.Name x p
    ·obtain⟨x,p,rfl⟩:=hN
     rw[GZ]at h
     simp only[QJq,QJz]at h
     obtain⟨m1,⟨m3,h3,h4⟩,m2,h2,rfl⟩:=h
     split at h4
     ·cases h4
      exact .cons (Ys (zb O h3)) rfl (I.a C X fl es m2 O h2)
     ·cases h4
    ·rw[GZ]at h
     ·simp only[QJq,QJz]at h
      obtain⟨m1,h3,_⟩:=h
      cases h3
     ·exact fun x p z=>hN ⟨x,p,z⟩
def Wv{x:Str}(O:ir C X c)(h:(decide (x="range")&&xW C.sc x&&(fnAt C x).isNone)=true):x="range"/\Gl X "range":=by
 simp only[QUq,QUz]at h
 obtain⟨⟨rfl,h2⟩,_⟩:=h
 exact⟨rfl,kO O h2⟩
def aaq{x:Str}(O:ir C X c)(h:(decide (x="zip")&&xW C.sc x&&(fnAt C x).isNone)=true):x="zip"/\Gl X "zip":=by
 simp only[QUq,QUz]at h
 obtain⟨⟨rfl,h2⟩,_⟩:=h
 exact⟨rfl,kO O h2⟩
def V6(I:Ih c n)(O:ir C X c)(h:ZC (n+1) C e=some m):GI X W0 c m tg e/\plain e=true:=by
 have dflt:dj n C e=some m->GI X W0 c m tg e/\plain e=true:=fun h=>let s:=I.e C X e m O h;⟨acJ s.ge,s.pl⟩
 unfold ZC at h
 split at h
 ·split at h
  ·split at h
   ·rename_i hr
    obtain⟨rfl,hg⟩:=Wv O hr
    simp only[QJz]at h
    obtain⟨m1,h1,rfl⟩:=h
    have s:=I.e C X _ m1 O h1
    exact⟨Im s.ge hg (O.bi _ (by decide)) (bB s.pl _ _),rfl⟩
   ·exact dflt h
  ·split at h
   ·rename_i hr
    obtain⟨rfl,hg⟩:=aaq O hr
    simp only[QJq,QJz]at h
    obtain⟨m1,h1,m2,h2,rfl⟩:=h
    have s1:=I.e C X _ m1 O h1
    have s2:=I.e C X _ m2 O h2
    exact⟨Yo s1.ge s2.ge hg (O.bi _ (by decide)) (by rw[bB s1.pl,bB s2.pl];rfl) (bB s2.pl _ _),rfl⟩
   ·exact dflt h
  ·exact dflt h
 ·exact dflt h
def V5(I:Ih c n)(O:ir C X c){g:Comprehension}(h:trC (n+1) C elt g sc=some m):DQ X c m elt g sc:=by
 rw[trC]at h
 split at h
 ·rename_i ha
  simp only[QJq]at h
  obtain⟨⟨η,tg⟩,ht,h⟩:=h
  split at h
  ·rename_i hs
   simp only[QJq,QJz]at h
   obtain⟨it,h1,cond,h2,m',h3,rfl⟩:=h
   obtain⟨sm,gg⟩:=aaO O ht hs
   obtain⟨gi,gp⟩:=I.i C X g.target g.iter it O h1
   refine⟨η,tg,it,cond,m',rfl,⟨by rw[O.sc,O.N];exact JS hs,sm,fun cl fp s₀ H₀ _=>gg cl fp s₀ H₀,?_,fun cl fp s₀ H₀ _=>(I.e _ _ elt m' (O.blk hs) h3).ge⟩,gi,gp,ha⟩
   split at h2
   ·rename_i hi
    cases h2
    exact .inl ⟨hi,rfl⟩
   ·rename_i ce hi
    exact .inr ⟨ce,hi,fun cl fp s₀ H₀ _=>(I.e _ _ ce cond (O.blk hs) h2).gt⟩
   ·cases h2
  ·cases h
 ·cases h
end
section
theorem K3(I:Ih c n)(O:ir C X c){a:Expr}(hg:xW C.sc x=true)(h:((Z8 x).bind fun b=>(dj n C a).bind fun m=>if (decide (b=.dict)&&m.aq.isSome)=true then some (E.bi b (.rd m))else some (E.bi b m))=some m):
  GE X W0 c m (.Call (.Name x p) [a] [] pos)/\m.aq=none/\m.dZ=false:=by
 simp only[QJq]at h
 obtain⟨bb,h1,m1,h2,h3⟩:=h
 split at h3
 ·cases h3
  have s:=I.e C X a m1 O h2
  exact⟨U3 O h1 hg ⟨(fun env=>PE.imp (s.ge env) fun σ H Q q=>by simpa only[PK]using q),fun γ sh σ H Q I⟨env,q⟩=>s.gt γ sh σ H Q I ⟨env,by simpa only[PK]using q⟩,s.pl,fun k z=>(by cases z),rfl⟩ fun _=>rfl,rfl,rfl⟩
 ·rename_i hn
  cases h3
  refine⟨U3 O h1 hg (I.e C X a m1 O h2) (fun z=>?_),rfl,rfl⟩
  subst z
  cases q:m1.aq with
  |none=>rfl
  |some k=>rw[q]at hn;exact absurd rfl hn
def Wa(I:Ih c n)(O:ir C X c){x:Str}{args:List Expr}{p pos:Pos}(hg:xW C.sc x=true)(h:trB (n+1) C x args=some m):GE X W0 c m (.Call (.Name x p) args [] pos)/\m.aq=none/\m.dZ=false:=by
 unfold trB at h
 split at h
 ·--isinstance
  split at h
  ·rename_i hx
   subst hx
   split at h
   ·split at h
    ·rename_i hy
     simp only[QJq,QJz]at h
     obtain⟨t,h1,m1,h2,rfl⟩:=h
     have s:=I.e C X _ m1 O h2
     obtain⟨e1,e2⟩:=VM h1
     exact⟨Yy s.ge e1 (kO O hy) (O.bi _ e2) (kO O hg) (O.bi _ (by decide)) (bB s.pl _ _),rfl,rfl⟩
    ·cases h
   ·cases h
  ·cases h
 ·split at h
  ·split at h
   ·split at h
    ·rename_i hz
     obtain⟨rfl,hgz⟩:=aaq O hz
     split at h
     ·rename_i hx
      subst hx
      simp only[QJq,QJz]at h
      obtain⟨m1,h1,m2,h2,rfl⟩:=h
      have s1:=I.e C X _ m1 O h1
      have s2:=I.e C X _ m2 O h2
      exact⟨Cy O.calm O.hu s1.ge s2.ge hgz (O.bi _ (by decide)) (by rw[bB s1.pl,bB s2.pl];rfl) (bB s2.pl _ _) (kO O hg) (O.bi _ (by decide)) rfl,rfl,rfl⟩
     ·split at h
      ·rename_i hx
       subst hx
       simp only[QJq,QJz]at h
       obtain⟨m1,h1,m2,h2,rfl⟩:=h
       have s1:=I.e C X _ m1 O h1
       have s2:=I.e C X _ m2 O h2
       exact⟨Cw O.calm s1.ge s2.ge hgz (O.bi _ (by decide)) (by rw[bB s1.pl,bB s2.pl];rfl) (bB s2.pl _ _) (kO O hg) (O.bi _ (by decide)) rfl,rfl,rfl⟩
      ·cases h
    ·exact K3 I O hg h
   ·exact K3 I O hg h
  ·exact K3 I O hg h
 ·cases h
def fW(ge:GE X W0 c m e)(hp:plain e=true)(hv:m.aq=none)(hi:m.dZ=false)(ht:tame e=true):Sd X c m e:=
 ⟨ge,Mu ge hp ht,hp,fun k z=>(by rw[hv]at z;cases z),hi⟩
def hu1(O:ir C X c):X.A.units+1<cLine:=by have:=O.hu;omega
def RZ{g:Nat}(h:fnAt C x=some (g,fl)):C.fns[g]? =some (x,fl):=by
 unfold fnAt at h
 simp only[QJq,QJz]at h
 obtain⟨g',h1,⟨y,fl'⟩,h2,h3⟩:=h
 cases h3
 have:=iJ h1
 rw[QFz,h2]at this
 simp at this
 rw[h2,this]
def mZ{name:Str}(h:isCall o=false):attributeBase o name env (eval o env)=eval o env:=by
 cases o<;>first|rfl|simp[isCall]at h
def V8(I:Ih c n)(O:ir C X c)(h:dj (n+1) C e=some m):Sd X c m e:=by
 have no:∀{P:Prop},none=some m->P:=fun z=>nomatch z
 unfold dj at h
 split at h
 ·simp only[QJz]at h
  obtain⟨d,h1,rfl⟩:=h
  exact fW (YD (Nt h1)) rfl rfl rfl rfl
 ·exact Eh O h
 ·simp only[QJz]at h
  obtain⟨m1,h1,rfl⟩:=h
  exact fW (Yq (I.es C X _ m1 O h1).ga) rfl rfl rfl rfl
 ·simp only[QJz]at h
  obtain⟨m1,h1,rfl⟩:=h
  exact fW (Yw (I.es C X _ m1 O h1).ga) rfl rfl rfl rfl
 ·simp only[QJq,QJz]at h
  obtain⟨o,h0,m1,h1,m2,h2,rfl⟩:=h
  rw[Xm h0]
  exact fW (acL (I.e C X _ m1 O h1).ge (I.e C X _ m2 O h2).ge) rfl rfl rfl rfl
 ·split at h
  ·simp only[QJz]at h
   obtain⟨m1,h1,rfl⟩:=h
   exact fW (Yv (I.e C X _ m1 O h1).ge) rfl rfl rfl rfl
  ·simp only[QJz]at h
   obtain⟨m1,h1,rfl⟩:=h
   have s:=I.e C X _ m1 O h1
   exact⟨Yu s.ge,Yg s.gt,rfl,fun k z=>(by cases z),rfl⟩
  ·exact no h
 ·simp only[QJq]at h
  obtain⟨m1,h1,h2⟩:=h
  split at h2
  ·exact no h2
  ·rename_i hn
   cases (I.es C X _ m1 O h1)with
   |nil=>exact absurd rfl hn
   |cons s t=>
    split at h2
    ·cases h2
     exact⟨(Al.cons s t).and.1,(Al.cons s t).and.2.t,rfl,fun k z=>(by cases z),rfl⟩
    ·cases h2
     exact⟨(Al.cons s t).or.1,(Al.cons s t).or.2.t,rfl,fun k z=>(by cases z),rfl⟩
 ·split at h
  ·simp only[QJq,QJz]at h
   obtain⟨o,h0,m1,h1,m2,h2,rfl⟩:=h
   rw[Di h0]
   have s1:=I.e C X _ m1 O h1
   have s2:=I.e C X _ m2 O h2
   exact⟨YF (nM O.hu o) s1.ge s2.ge s2.va (qU s2.pl _),Yi (nM O.hu o) s1.ge s2.ge s2.va (qU s2.pl _),rfl,fun k z=>(by cases z),rfl⟩
  ·simp only[QJq,QJz]at h
   obtain⟨o,h0,o2,h02,m1,h1,m2,h2,m3,h3,rfl⟩:=h
   rw[Di h0,Di h02]
   have s1:=I.e C X _ m1 O h1
   have s2:=I.e C X _ m2 O h2
   have s3:=I.e C X _ m3 O h3
   have hm:∀b,lastMarks [eG o,eG o2] [b,_]=false:=fun b=>qU s3.pl _
   exact⟨MT (nM O.hu o) (nM O.hu o2) s1.ge s2.ge s3.ge (hm _),Mv (nM O.hu o) (nM O.hu o2) s1.ge s2.ge s3.ge (hm _),rfl,fun k z=>(by cases z),rfl⟩
  ·exact no h
 ·simp only[QJq,QJz]at h
  obtain⟨m1,h1,m2,h2,m3,h3,rfl⟩:=h
  have s1:=I.e C X _ m1 O h1
  have s2:=I.e C X _ m2 O h2
  have s3:=I.e C X _ m3 O h3
  exact⟨Yx s1.gt s2.ge s3.ge,Yh s1.gt s2.gt s3.gt,rfl,fun k z=>(by cases z),rfl⟩
 ·split at h
  ·split at h
   ·simp only[QJq,QJz]at h
    obtain⟨m1,h1,m2,h2,m3,h3,rfl⟩:=h
    exact fW (Yr (I.e C X _ m1 O h1).ge (I.o C X _ m2 O h2) (I.o C X _ m3 O h3)) rfl rfl rfl rfl
   ·exact no h
  ·simp only[QJq,QJz]at h
   obtain⟨m1,h1,m2,h2,rfl⟩:=h
   have s1:=I.e C X _ m1 O h1
   have s2:=I.e C X _ m2 O h2
   exact fW (Yz (by have:=O.hu;omega) s1.ge s2.ge s1.va (BK s2.pl)) rfl rfl rfl rfl
 ·split at h
  ·split at h
   ·split at h
    ·rename_i hx
     rw[QUq]at hx
     split at h
     ·rename_i g fl hf
      simp only[QJq]at h
      obtain⟨m1,h1,h2⟩:=h
      split at h2
      ·exact no h2
      ·rename_i hn
       cases h2
       obtain⟨k,f,fd,ps,F,hr,hm,hk,hb,hl⟩:=O.fn g _ fl (RZ hf)
       cases (I.a C X _ _ m1 O h1)with
       |nil=>exact absurd rfl hn
       |cons ge pl t=>
        exact fW (RT F hr (kO O hx.2) hm hk hb (Ex hx.1).1 (Ar.cons ge pl t).ga (bB pl _ _) t.plain hl) rfl rfl rfl rfl
     ·obtain⟨ge,h1,h2⟩:=I.b C X _ _ m _ _ O hx.2 h
      exact fW ge rfl h1 h2 rfl
    ·exact no h
   ·split at h
    ·rename_i hl
     split at h
     ·split at h
      ·rename_i hx
       subst hx
       simp only[QJq,QJz]at h
       obtain⟨m1,h1,u,h0,m2,h2,rfl⟩:=h
       split at h0
       ·rename_i hp
        rw[QUq]at hp
        have s2:=I.e C X _ m2 O h2
        exact fW (MP ⟨mZ (by simpa using hp.2),hl,bB s2.pl _ _⟩ (I.e C X _ m1 O h1).ge s2.ge) rfl rfl rfl rfl
       ·cases h0
      ·split at h
       ·rename_i hx
        subst hx
        split at h
        ·simp only[QJq]at h
         obtain⟨v,h1,h2⟩:=h
         split at h2
         ·simp only[QJz]at h2
          obtain⟨m2,h3,rfl⟩:=h2
          have s2:=I.e C X _ m2 O h3
          exact fW (MN ⟨rfl,hl,bB s2.pl _ _⟩ (zb O h1) s2.ge) rfl rfl rfl rfl
         ·exact no h2
        ·exact no h
       ·exact no h
     ·split at h
      ·rename_i hx
       subst hx
       simp only[QJq,QJz]at h
       obtain⟨m1,h1,u,h0,m2,h2,m3,h3,rfl⟩:=h
       split at h0
       ·rename_i hp
        rw[QUq]at hp
        have s1:=I.e C X _ m1 O h1
        have s2:=I.e C X _ m2 O h2
        have s3:=I.e C X _ m3 O h3
        exact fW (RN (hu1 O) ⟨mZ (by simpa using hp.2),by rw[bB s2.pl,bB s3.pl];rfl,hl,by rw[bB s2.pl,bB s3.pl];rfl⟩ s1.va s1.ge s2.ge s3.ge) rfl rfl rfl rfl
       ·cases h0
      ·exact no h
     ·exact no h
    ·exact no h
   ·exact no h
  ·exact no h
 ·split at h
  ·rename_i hx
   simp only[QUq,List.isEmpty_iff]at hx
   obtain⟨rfl,rfl⟩:=hx
   cases h
   exact fW YB rfl rfl rfl rfl
  ·split at h
   ·rename_i hx
    simp only[QUq,QUz]at hx
    simp only[QJz]at h
    obtain⟨m1,h1,rfl⟩:=h
    obtain⟨m8,K,a⟩:=I.d C X _ _ m1 O h1
    exact fW (YC (by have:=O.hu;omega) K a hx.1.1 (fun z=>by rw[z]at hx;simp at hx) hx.1.2) rfl rfl rfl rfl
   ·exact no h
 ·split at h
  ·rename_i elt sc pos g
   obtain⟨η,tg,it,cond,m',rfl,B,gi,gp,ha⟩:=I.k C X _ _ _ m O h
   obtain⟨ta,ti,tf,tn⟩:=g
   subst ha
   exact fW (RQ B gi O.calm (fun x=>wY gp _ _)) rfl rfl rfl rfl
  ·exact no h
 ·exact no h
end
theorem ih c:∀n,Ih c n
 |0=>ih0 c
 |n+1=>let I:=ih c n
  ⟨fun C X e m O h=>V8 I O h,fun C X es m O h=>Qe I O h,fun C X fl es m O h=>Wb I O h,fun C X o m O h=>V4 I O h,fun C X x args m p pos O hg h=>Wa I O hg h,fun C X tg e m O h=>V6 I O h,fun C X elt g sc m O h=>V5 I O h,fun C X ks vs m O h=>V9 I O h⟩
def NE{α:Type}(r:Out α):Prop:=∀k σ,r≠ .exc k σ
section
theorem NE.ok(a:α)σ:NE (.ok a σ):=fun _ _ z=>nomatch z
theorem NE.bad:NE (.bad:Out α):=fun _ _ z=>nomatch z
theorem NE.lift σ(o:Option α):NE (lift σ o):=by cases o<;>(intro _ _ z;cases z)
theorem NE.bind{f:α->Ev->Out β}(h:NE r)(g:∀a σ,NE (f a σ)):NE (r.bind f):=by
 cases r with
 |ok a σ=>exact g a σ
 |exc k σ=>exact absurd rfl (h k σ)
 |bad=>exact NE.bad
theorem NE.ak{f:D->Ev->Out β}(h:NE r)(g:∀a σ,NE (f a σ)):NE (r.ak f):=by
 cases r with
 |ok a σ=>cases a<;>first|exact g _ _|exact NE.bad
 |exc k σ=>exact absurd rfl (h k σ)
 |bad=>exact NE.bad
theorem NE.cC{r:Out Rv}{f:Bool->Ev->Out β}(h:NE r)(g:∀a σ,NE (f a σ)):NE (r.cC tr f):=
 NE.ak h fun d σ=>by
  cases tr d with
  |none=>exact NE.bad
  |some b=>exact g b σ
def NE.ite{p:Prop}[Decidable p]{a b:Out α}(h:NE a)(g:NE b):NE (if p then a else b):=by split<;>assumption
end
def Rj c f as σ:NE (sE c f as σ):=by
 unfold sE
 split
 ·exact NE.bad
 ·split
  ·split
   ·exact NE.ok _ _
   ·exact NE.bad
  ·exact NE.bad
def Xo k y σ:NE (qK k y σ):=by
 unfold qK
 split
 ·refine NE.ite NE.bad ?_
  split
  ·split
   ·exact NE.ok _ _
   ·exact NE.bad
  ·exact NE.bad
 ·exact NE.bad
def Ri k σ:NE (qH k σ):=by
 unfold qH
 split<;>first|exact NE.ok _ _|exact NE.bad
def wD(c:Cf):∀(m:E)(σ:Ev),NE (ev c m σ)/\NE (evs c m σ)/\NE (gD c m σ)/\NE (mV c m σ):=by
 have k3:∀{m:E},(∀σ,NE (ev c m σ))->(∀σ,evs c m σ=.bad)->(∀σ,gD c m σ=.bad)->(∀σ,mV c m σ=.bad)->∀σ,NE (ev c m σ)/\NE (evs c m σ)/\NE (gD c m σ)/\NE (mV c m σ):=fun h a b d σ=>by
  rw[a,b,d]
  exact⟨h σ,NE.bad,NE.bad,NE.bad⟩
 intro m
 induction m with
 |var i=>exact k3 (fun σ=>Ri i σ) (fun _=>rfl) (fun _=>rfl) fun _=>rfl
 |con d=>exact k3 (fun σ=>NE.ok _ _) (fun _=>rfl) (fun _=>rfl) fun _=>rfl
 |glob k=>exact k3 (fun σ=>by rw[v_2];split<;>first|exact NE.ok _ _|exact NE.bad) (fun _=>rfl) (fun _=>rfl) fun _=>rfl
 |nil=>exact fun σ=>⟨NE.bad,NE.ok _ _,NE.bad,NE.bad⟩
 |cons h t ih jh=>
  intro σ
  refine⟨NE.bad,NE.bind (ih σ).1 fun x σ=>NE.bind (jh σ).2.1 fun _ _=>NE.ok _ _,?_,?_⟩
  ·cases t with
   |nil=>exact(ih σ).1
   |_=>exact NE.ak (ih σ).1 fun x σ=>(by split<;>first|exact(jh σ).2.2.1|exact NE.ok _ _|exact NE.bad)
  ·cases t with
   |nil=>exact(ih σ).1
   |_=>exact NE.ak (ih σ).1 fun x σ=>(by split<;>first|exact(jh σ).2.2.2|exact NE.ok _ _|exact NE.bad)
 |tup es ih=>exact k3 (fun σ=>NE.bind (ih σ).2.1 fun _ _=>NE.lift _ _) (fun _=>rfl) (fun _=>rfl) fun _=>rfl
 |lis es ih=>exact k3 (fun σ=>NE.bind (ih σ).2.1 fun _ _=>NE.lift _ _) (fun _=>rfl) (fun _=>rfl) fun _=>rfl
 |op o a b ih jh=>exact k3 (fun σ=>NE.ak (ih σ).1 fun _ σ=>NE.ak (jh σ).1 fun _ _=>NE.lift _ _) (fun _=>rfl) (fun _=>rfl) fun _=>rfl
 |neg a ih=>exact k3 (fun σ=>NE.ak (ih σ).1 fun _ σ=>NE.lift _ _) (fun _=>rfl) (fun _=>rfl) fun _=>rfl
 |cmp o a b ih jh=>exact k3 (fun σ=>NE.ak (ih σ).1 fun _ σ=>by split<;>first|exact NE.lift _ _|exact NE.ak (jh σ).1 fun _ _=>NE.lift _ _) (fun _=>rfl) (fun _=>rfl) fun _=>rfl
 |chain o p a b d ih jh kh=>exact k3 (fun σ=>NE.ak (ih σ).1 fun _ σ=>NE.ak (jh σ).1 fun _ σ=>NE.bind (NE.lift _ _) fun _ σ=>NE.ite (NE.ak (kh σ).1 fun _ _=>NE.lift _ _) (NE.ok _ _)) (fun _=>rfl) (fun _=>rfl) fun _=>rfl
 |and es ih=>exact k3 (fun σ=>(ih σ).2.2.1) (fun _=>rfl) (fun _=>rfl) fun _=>rfl
 |or es ih=>exact k3 (fun σ=>(ih σ).2.2.2) (fun _=>rfl) (fun _=>rfl) fun _=>rfl
 |not a ih=>exact k3 (fun σ=>NE.cC (ih σ).1 fun _ _=>NE.ok _ _) (fun _=>rfl) (fun _=>rfl) fun _=>rfl
 |ite t a b ih jh kh=>exact k3 (fun σ=>NE.cC (ih σ).1 fun _ σ=>NE.ite (jh σ).1 (kh σ).1) (fun _=>rfl) (fun _=>rfl) fun _=>rfl
 |idx a i ih jh=>exact k3 (fun σ=>by rw[Jq];split<;>first|exact NE.ite NE.bad (NE.ak (jh σ).1 fun _ _=>NE.lift _ _)|exact NE.ak (ih σ).1 fun _ σ=>NE.ak (jh σ).1 fun _ _=>NE.lift _ _) (fun _=>rfl) (fun _=>rfl) fun _=>rfl
 |slc a lo hi ih jh kh=>exact k3 (fun σ=>NE.ak (ih σ).1 fun _ σ=>NE.ak (jh σ).1 fun _ σ=>by split<;>first|exact NE.bad|exact NE.ak (kh σ).1 fun _ _=>NE.lift _ _) (fun _=>rfl) (fun _=>rfl) fun _=>rfl
 |noneE=>exact k3 (fun σ=>NE.ok _ _) (fun _=>rfl) (fun _=>rfl) fun _=>rfl
 |call f as ih=>exact k3 (fun σ=>NE.bind (ih σ).2.1 fun _ _=>Rj _ _ _ _) (fun _=>rfl) (fun _=>rfl) fun _=>rfl
 |ref i=>exact k3 (fun σ=>by rw[PL];split<;>first|exact NE.ok _ _|exact NE.bad) (fun _=>rfl) (fun _=>rfl) fun _=>rfl
 |rd e ih=>exact k3 (fun σ=>(ih σ).1) (fun _=>rfl) (fun _=>rfl) fun _=>rfl
 |isi a t ih=>exact k3 (fun σ=>NE.ak (ih σ).1 fun _ _=>NE.ok _ _) (fun _=>rfl) (fun _=>rfl) fun _=>rfl
 |bi b a ih=>exact k3 (fun σ=>by rw[o9];split<;>first|exact NE.lift _ _|exact NE.ak (ih σ).1 fun _ _=>NE.lift _ _) (fun _=>rfl) (fun _=>rfl) fun _=>rfl
 |range1 a ih=>exact k3 (fun σ=>NE.ak (ih σ).1 fun _ _=>NE.lift _ _) (fun _=>rfl) (fun _=>rfl) fun _=>rfl
 |zip a b ih jh=>exact k3 (fun σ=>NE.ak (ih σ).1 fun _ σ=>NE.ak (jh σ).1 fun _ _=>NE.lift _ _) (fun _=>rfl) (fun _=>rfl) fun _=>rfl
 |count a b ih jh=>exact k3 (fun σ=>NE.ak (ih σ).1 fun _ σ=>NE.ite NE.bad (NE.ak (jh σ).1 fun _ _=>NE.lift _ _)) (fun _=>rfl) (fun _=>rfl) fun _=>rfl
 |popAt i a ih=>exact k3 (fun σ=>NE.ite NE.bad (NE.ak (ih σ).1 fun _ _=>Xo _ _ _)) (fun _=>rfl) (fun _=>rfl) fun _=>rfl
 |index a b ih jh=>exact k3 (fun σ=>NE.ak (ih σ).1 fun _ σ=>NE.ite NE.bad (NE.ak (jh σ).1 fun _ _=>NE.lift _ _)) (fun _=>rfl) (fun _=>rfl) fun _=>rfl
 |get2 a b d ih jh kh=>
  refine k3 (fun σ=>?_) (fun _=>rfl) (fun _=>rfl) fun _=>rfl
  rw[Vz]
  split
  ·exact NE.ite NE.bad (NE.ak (jh σ).1 fun _ σ=>NE.ak (kh σ).1 fun _ _=>NE.lift _ _)
  ·exact NE.bad
 |dsp es ih=>exact k3 (fun σ=>NE.bind (ih σ).2.1 fun _ _=>NE.lift _ _) (fun _=>rfl) (fun _=>rfl) fun _=>rfl
 |emp=>exact k3 (fun σ=>NE.ok _ _) (fun _=>rfl) (fun _=>rfl) fun _=>rfl
 |enum a ih=>exact k3 (fun σ=>NE.ak (ih σ).1 fun _ _=>NE.lift _ _) (fun _=>rfl) (fun _=>rfl) fun _=>rfl
 |comp nl tg it cond elt ih _ _=>
  refine k3 (fun σ=>?_) (fun _=>rfl) (fun _=>rfl) fun _=>rfl
  rw[lX]
  refine NE.ak (ih σ).1 fun _ σ=>?_
  split
  ·split
   ·exact NE.ok _ _
   ·exact NE.bad
  ·exact NE.bad
section
def GE.w(h:GE X W0 c m e):GE X W c m e:=fun env=>PE.imp (h env) fun σ H Q⟨S,q⟩=>by
 refine⟨S,?_⟩
 cases r:ev c m env with
 |exc k ζ=>exact absurd r ((wD c m env).1 k ζ)
 |_=>rw[r]at q;exact q
def GA.w(h:GA X W0 c m es):GA X W c m es:=fun env p γ s σ H R I q=>h env p γ s σ H R I (by
 obtain⟨S,q⟩:=q
 refine⟨S,?_⟩
 cases r:evs c m env with
 |exc k ζ=>exact absurd r ((wD c m env).2.1 k ζ)
 |_=>rw[r]at q;exact q)
def GT.w(h:GT X W0 c m e):GT X W c m e:=PT.imp h fun σ H Q⟨env,S,q⟩=>by
 refine⟨env,S,?_⟩
 cases r:ev c m env with
 |exc k ζ=>exact absurd r ((wD c m env).1 k ζ)
 |_=>rw[r]at q;exact q
def GI.w(h:GI X W0 c m tg e):GI X W c m tg e:=fun env γ s σ H R I q=>h env γ s σ H R I (by
 obtain⟨S,q⟩:=q
 refine⟨S,?_⟩
 cases r:ev c m env with
 |exc k ζ=>exact absurd r ((wD c m env).1 k ζ)
 |_=>rw[r]at q;exact q)
end
structure Top(C:Ct)(X:Cx)(W:Wi)(c:Cf):Prop where
 fn:∀x,X.fn x=true
 po:PassesOwn (model X.prog X.w) X.A X.env X.xe
 ra:∀e f p n m,Tt (n+1) C (.Raise e f p)=some m->GS X W c m (.Raise e f p)
 cx:∀f args kw cp p n m,Ih c n->rzB C f=true->trX n C f args kw=some m->GS X W c m (.Expr (.Call f args kw cp) p)
section
theorem R6(O:ir C X c):∀{n:Nat}{elt:Expr}{gens:List Comprehension}{sc:Scope}{pos:Pos},dj n C (.ListComp elt gens sc pos)=some m->∃g,gens=[g]/\DQ X c m elt g sc
 |0,_,_,_,_,h=>by rw[dj]at h;cases h
 |n+1,elt,gens,sc,pos,h=>by
  unfold dj at h
  simp only at h
  split at h
  ·exact⟨_,rfl,(ih c n).k C X _ _ _ m O h⟩
  ·cases h
def qW(O:ir C X c)(h:HH C.sc x=true):Loc X.env.scope x:=by
 unfold HH at h
 rw[O.sc]
 rw[Bool.or_eq_true]at h
 rcases h with h|h
 ·exact .inl (by simpa using h)
 ·exact .inr (by simpa using h)
def lZ{t:Option Expr}{env:Env}(hp:plain e=true)(hc:oh e=false):swapsWith e t l env=pure false:=by
 cases e<;>first|rfl|exact absurd (hp) Qjz|exact absurd (hc) (fun h=>Qjz h.symm)
def Ba{es:List Expr}{q:Pos}(h:isTup e=false):swappedStores [.Tuple es k q] e env=pure none:=by
 cases e<;>first|rfl|exact absurd (h) (fun h=>Qjz h.symm)
def yq{q:Pos}:swappedStores [.Subscript o i q] e env=pure none:=by
 cases e<;>rfl
def Ef{l:Nat}:swapsWithSole [t] e l env=swapsWith e (some t) l env:=rfl
def Sw{tp:Pos}{v:Value}(h:isSlice i=false):assign (.Subscript o i tp) env v=(do
   let ov<-holding [v] (eval o env)
   let iv<-holding [v,ov] (eval i env)
   standAt tp
   holding [v,ov,iv] (setItem ov iv v)
   release [v,ov,iv] []):=by
 cases i<;>first|rfl|(simp[isSlice]at h;done)
theorem ql(O:ir C X c)(T:Top C X W c):∀{es:List Expr}{is:List Nat},slotsOf C es=some is->sZ X is es/\(assignEach es X.env).length=is.length/\(assignEach es X.env).findIdx? (·.1)=none
 |[],is,h=>by cases h;exact⟨.nil,rfl,rfl⟩
 |e::es,is,h=>by
  cases e<;>simp only[slotsOf]at h<;>try (cases h;done)
  rename_i x q
  split at h
  ·rename_i hl
   simp only[QJq,QJz]at h
   obtain⟨i,h1,js,h2,rfl⟩:=h
   obtain⟨a1,a2,a3⟩:=ql O T h2
   refine⟨.cons (by rw[O.N];exact iJ h1) (qW O hl) (.inl (T.fn x)) a1,?_,?_⟩
   ·show(_::assignEach es X.env).length=_
    simp[a2]
   ·show(List.findIdx? (·.1) ((false,_)::assignEach es X.env))=none
    rw[List.findIdx?_cons]
    simp[a3]
  ·cases h
def uH(O:ir C X c):X.N.Nodup:=by rw[O.N];exact O.nd
def Jw(O:ir C X c)(T:Top C X W c){e:Expr}(h:Jx C e=some tg):GG X tg e:=by
 cases e<;>simp only[Jx]at h<;>try (cases h;done)
 ·rename_i x q
  split at h
  ·rename_i hl
   simp only[QJz]at h
   obtain⟨i,h1,rfl⟩:=h
   exact wV (uH O) (by rw[O.N];exact iJ h1) (qW O hl) (.inl (T.fn x))
  ·cases h
 ·simp only[QJz]at h
  obtain⟨is,h1,rfl⟩:=h
  obtain⟨a1,a2,a3⟩:=ql O T h1
  exact Cv (uH O) O.calm a1 a2 a3
def acQ{x:Str}(O:ir C X c)(h:(decide (x="enumerate")&&xW C.sc x&&(fnAt C x).isNone)=true):x="enumerate"/\Gl X "enumerate":=by
 simp only[QUq,QUz]at h
 obtain⟨⟨rfl,h2⟩,_⟩:=h
 exact⟨rfl,kO O h2⟩
def V7(J:Ih c n)(O:ir C X c)(h:trF n C tg e=some m):GI X W0 c m tg e/\plain e=true:=by
 unfold trF at h
 split at h
 ·rename_i m' e1
  cases h
  unfold trN at e1
  split at e1
  ·rename_i ht
   split at e1
   ·split at e1
    ·split at e1
     ·rename_i hx
      obtain⟨rfl,hg⟩:=acQ O hx
      simp only[QJz]at e1
      obtain⟨m1,h1,rfl⟩:=e1
      have s1:=J.e C X _ m1 O h1
      cases tg with
      |Tuple elts x1 tp=>exact⟨RL s1.ge hg (O.bi _ (by decide)) (bB s1.pl _ _),rfl⟩
      |_=>cases ht
     ·cases e1
    ·cases e1
   ·cases e1
  ·cases e1
 ·exact J.i C X _ _ m O h
theorem Ig(O:ir C X c)(T:Top C X W c){scope:Scope}{tg:Tg}{it cond elt:E}{ifs:List Expr}{i:Nat}(B:Ah X c scope η tg cond elt Φ Θ ifs)(hi:GI X W c it Φ ο)(gp:plain ο=true)
  (ge:GE X W c (.comp η.length tg it cond elt) (.ListComp Θ [⟨Φ,ο,ifs,0⟩] scope cp))(hN:X.N[i]? =some x)(hl:HH C.sc x=true):
  GS X W c (.set i (.comp η.length tg it cond elt)) (.Assign [.Name x np] (.ListComp Θ [⟨Φ,ο,ifs,0⟩] scope cp) sp):=by
 have key:∃b:Bool,swapsWith (.ListComp Θ [⟨Φ,ο,ifs,0⟩] scope cp) (some (.Name x np)) sp.line X.env=pure b:=⟨_,rfl⟩
 obtain⟨b,hb⟩:=key
 cases b with
 |false=>exact Mz ge (uH O) hN (qW O hl) (.inl (T.fn x)) hb
 |true=>exact Cr B hi O.calm (fun x=>wY gp _ _) (uH O) hN (qW O hl) (.inl (T.fn x)) hb
structure IhS(c:Cf)(n:Nat):Prop where
 s:∀C X W st m,ir C X c->Top C X W c->Tt n C st=some m->GS X W c m st
 ss:∀C X W st m,ir C X c->Top C X W c->p6 n C st=some m->Pq X W c m st
def agc c:IhS c 0:=by
 constructor
 all_goals (intros;rename_i h;first|(rw[Tt]at h;cases h)|(rw[p6]at h;cases h))
def Qd(I:IhS c n)(O:ir C X c)(T:Top C X W c){m:S}(h:p6 (n+1) C st=some m):Pq X W c m st:=by
 cases st with
 |nil=>rw[p6]at h;cases h;exact RC
 |cons s st=>
  rw[p6]at h
  simp only[QJq,QJz]at h
  obtain⟨m1,h1,m2,h2,rfl⟩:=h
  exact Mw (I.s C X W s m1 O T h1) (I.ss C X W st m2 O T h2)
def V3(I:IhS c n)(O:ir C X c)(T:Top C X W c){st:Stmt}{m:S}(h0:Tt (n+1) C st=some m):GS X W c m st:=by
 have J:=ih c n
 have no:∀{P:Prop},(none:Option S)=some m->P:=fun z=>nomatch z
 have h:=h0
 unfold Tt at h
 split at h
 ·split at h
  ·cases h;exact RG
  ·simp only[QJz]at h
   obtain⟨m1,h1,rfl⟩:=h
   have s:=J.e C X _ m1 O h1
   exact Yk s.ge.w s.va
 ·split at h
  ·split at h
   ·rename_i e _ _ _ x _
    split at h
    ·rename_i hl
     simp only[QJq,QJz]at h
     obtain⟨i,h1,m1,h2,rfl⟩:=h
     have s:=J.e C X _ m1 O h2
     have hN:X.N[i]? =some x:=by rw[O.N];exact iJ h1
     cases hc:oh e with
     |false=>exact Mz s.ge.w (uH O) hN (qW O hl) (.inl (T.fn x)) (lZ s.pl hc)
     |true=>
      cases e<;>simp[oh]at hc
      rename_i elt gens sc cp
      obtain⟨g,rfl,η,tg,it,cond,m',rfl,B,gi,gp,ha⟩:=R6 O h2
      obtain⟨ta,ti,tf,tn⟩:=g
      simp only at ha
      subst ha
      exact Ig O T B gi.w gp s.ge.w hN hl
    ·exact no h
   ·split at h
    ·exact no h
    ·rename_i hx
     rw[Bool.not_eq_true,Bool.or_eq_false_iff]at hx
     simp only[QJq,QJz]at h
     obtain⟨is,h1,m1,h2,rfl⟩:=h
     have s:=J.e C X _ m1 O h2
     obtain⟨a1,a2,a3⟩:=ql O T h1
     exact RD s.ge.w (Cv (uH O) O.calm a1 a2 a3) (by rw[Ef];exact lZ s.pl hx.2) (Ba hx.1) rfl
   ·split at h
    ·split at h
     ·exact no h
     ·rename_i hx
      rw[Bool.not_eq_true,Bool.or_eq_false_iff]at hx
      simp only[QJq]at h
      obtain⟨v,h1,h⟩:=h
      split at h
      ·simp only[QJq,QJz]at h
       obtain⟨i,h2,m1,h3,rfl⟩:=h
       have s1:=J.e C X _ i O h2
       have s:=J.e C X _ m1 O h3
       exact My (zb O h1) s.ge.w s1.ge.w (fun v=>Sw hx.2) (by rw[Ef];exact lZ s.pl hx.1) yq (by have:=O.hu;omega) rfl
      ·exact no h
    ·exact no h
   ·exact no h
  ·exact no h
 ·--an expression alone
  split at h
  ·have dflt:∀(e:Expr)(q:Pos),oh e=false->(dj n C e).map S.expr=some m->GS X W c m (.Expr e q):=fun e q hc z=>by
    simp only[QJz]at z
    obtain⟨m1,h1,rfl⟩:=z
    have s:=J.e C X _ m1 O h1
    exact RJ s.ge.w (lZ s.pl hc)
   split at h
   ·split at h
    ·split at h
     ·rename_i hx
      simp only[QUq,QUz]at hx
      obtain⟨hl,rfl⟩:=hx
      simp only[QJq]at h
      obtain⟨v,h1,h⟩:=h
      split at h
      ·simp only[QJz]at h
       obtain⟨m1,h2,rfl⟩:=h
       have s:=J.e C X _ m1 O h2
       exact Ij ⟨rfl,hl,bB s.pl _ _⟩ (zb O h1) s.ge.w
      ·exact no h
     ·split at h
      ·rename_i hx
       simp only[QUq,QUz]at hx
       obtain⟨hl,rfl⟩:=hx
       simp only[QJq]at h
       obtain⟨v,h1,h⟩:=h
       split at h
       ·simp only[QJz]at h
        obtain⟨m1,h2,rfl⟩:=h
        have s:=J.e C X _ m1 O h2
        exact Ii ⟨rfl,hl,bB s.pl _ _⟩ (zb O h1) s.ge.w
       ·exact no h
      ·exact dflt _ _ rfl h
    ·exact no h
   ·split at h
    ·rename_i hz
     exact T.cx _ _ _ _ _ _ _ J hz h
    ·exact dflt _ _ rfl h
  ·exact no h
 ·simp only[QJq,QJz]at h
  obtain⟨t,h1,a,h2,b,h3,rfl⟩:=h
  exact acH (J.e C X _ t O h1).gt.w (I.ss C X W _ a O T h2) (I.ss C X W _ b O T h3)
 ·split at h
  ·simp only[QJq,QJz]at h
   obtain⟨tg,h1,it,h2,b,h3,rfl⟩:=h
   obtain⟨gi,gp⟩:=V7 J O h2
   exact Yl T.po O.calm gi.w (Jw O T h1) (I.ss C X W _ b O T h3) (fun x=>wY gp _ _)
  ·exact no h
 ·split at h
  ·simp only[QJq,QJz]at h
   obtain⟨t,h1,b,h3,rfl⟩:=h
   exact Mx T.po (J.e C X _ t O h1).gt.w (I.ss C X W _ b O T h3)
  ·exact no h
 ·exact T.ra _ _ _ _ _ h0
 ·exact no h
end
def QC{e f:Option Expr}{n:Nat}(h:Tt (n+1) C (.Raise e f p)=some m):m=.raise (J4 C e f):=by
 unfold Tt at h
 cases h
 rfl
def abj(hz:C.rz=[])f:rzB C f=false:=by
 cases f<;>first|rfl|(unfold rzB;rw[hz];rfl)
def Top.plain{X:Cx}(hf:∀x,X.fn x=true)(hp:PassesOwn (model X.prog X.w) X.A X.env X.xe)(hz:C.rz=[]):Top C X W0 c:=
 ⟨hf,hp,fun e f p n m h=>by rw[QC h];exact MF,fun f _ _ _ _ _ _ _ z=>by rw[abj hz f]at z;cases z⟩
theorem ihS c:∀n,IhS c n
 |0=>agc c
 |n+1=>let I:=ihS c n
  ⟨fun C X W st m O T h=>V3 I O T h,fun C X W st m O T h=>Qd I O T h⟩
structure Df where
 x:Str
 st:Stmt
 N:List Str
 ps:List Str
 fl:List Bool
 exs:List Str:=[]
 rz:List Str:=[]
def aey(ds:List Df):List (Str×List Bool):=ds.map fun d=>(d.x,d.fl)
noncomputable def acS(ds:List Df)(m9:List Str)(d:Df):Ct:={N:=d.N,sc:=bj d.st,fns:=aey ds,m9:=m9,exs:=d.exs}
noncomputable def fnOf(ds:List Df)(m9:List Str)(d:Df):Option Fn:=(p6 60 (acS ds m9 d) (eE d.st)).map fun b=>{pars:=d.ps.length,names:=d.N.length,body:=b}
structure vN(K:QQq)(mg:QZz)(d:Df)(f:Addr)(fd:FuncData):Prop where
 fu:Zh K d.x d.x d.st f fd
 bi:Binds K fd d.ps []
 at_:mg d.x=some (.ref f)
section
variable{P:Program}{w:World}{base:Heap}{p:Pg}{fa:Nat->Addr}{fd:Nat->FuncData}
theorem Er(hfn:∀i d,ds[i]? =some d->vN K mg d (fa i) (fd i))(hsc:∀d∈ds,km d.N d.ps (bj d.st))(htr:∀(i:Nat)d,ds[i]? =some d->∃g,p.fns[i]? =some g/\fnOf ds m9 d=some g)
  (hbi:∀x∈mY,mg x=none)(hgl:∀(k:Nat)x,m9[k]? =some x->∃d v u,p.gl k=some d/\mg x=some u/\RelV v u/\∀H,bD K H d v):
  ∀(n i:Nat)d,ds[i]? =some d->oO P w K mg base O9 n (fa i) (fd i) d.ps (v4 K d.ps.length (p.fn n i))
 |0,i,d,e=>by
  have no:∀vs H Q E,¬v4 K d.ps.length (p.fn 0 i) vs H Q E:=fun vs H Q E h=>by
   obtain⟨_,_,_,_,z⟩:=h
   exact z
  exact⟨fun vs H Q E h=>absurd h (no vs H Q E),fun A outer s H args us vs Q E _ _ _ _ h=>absurd h (no vs H Q E)⟩
 |n+1,i,d,e=>by
  have IH:=Er hfn hsc htr hbi hgl n
  have D:=hfn i d e
  obtain⟨g,hg,ht⟩:=htr i d e
  unfold fnOf at ht
  simp only[QJz]at ht
  obtain⟨b,hb,rfl⟩:=ht
  have S:=hsc d (QBz e)
  have hp:p.fn (n+1) i=gW (p.cf n) {pars:=d.ps.length,names:=d.N.length,body:=b}:=by
   funext sl
   show(match p.fns[i]? with|some g=>gW (p.cf n) g sl|none=>p.pf (p.cf n) i sl)=_
   rw[hg]
  rw[hp]
  refine RX D.fu S rfl rfl fun cdv A outer s H E hr=>?_
  refine(ihS (p.cf n) 60).ss (acS ds m9 d) _ W0 _ b ⟨rfl,rfl,S.nd,rfl,?_,hbi,fun k x hk=>?_,fun g x fl hk=>?_⟩ (.plain (fun _=>rfl) PassesOwn.never rfl) hb
  ·have:=hr.un
   show(A.deeper _).units+60<cLine
   omega
  ·obtain⟨dd,v,u,h1,h2,h3,h4⟩:=hgl k x hk
   exact⟨dd,h1,v,u,h2,h3,h4⟩
  ·have hk':(ds.map fun d=>(d.x,d.fl))[g]? =some (x,fl):=hk
   rw[QFz]at hk'
   cases q:ds[g]? with
   |none=>rw[q]at hk';cases hk'
   |some d2=>
    rw[q]at hk'
    simp at hk'
    obtain⟨rfl,rfl⟩:=hk'
    have D2:=hfn g d2 q
    refine⟨n,fa g,fd g,d2.ps,IH g d2 q,hr,D2.at_,D2.fu.kp,D2.bi,fun sl=>?_⟩
    show p.fn n g sl=.bad\/_
    cases n with
    |zero=>exact .inl rfl
    |succ n=>
     obtain⟨g2,hg2,ht2⟩:=htr g d2 q
     unfold fnOf at ht2
     simp only[QJz]at ht2
     obtain⟨b2,hb2,rfl⟩:=ht2
     have:p.fn (n+1) g sl=gW (p.cf n) {pars:=d2.ps.length,names:=d2.N.length,body:=b2} sl:=by
      show(match p.fns[g]? with|some g=>gW (p.cf n) g sl|none=>p.pf (p.cf n) g sl)=_
      rw[hg2]
     rw[this]
     exact Hc (p.cf n) _ sl
end
theorem We{K:QQq}{H:Hp}{ns:List Int}(hO:Only H)(hS:jm K H a (ns.map V.int))(hf:∃qs,f [.val (.lst (ns.map D.int))]=.ok (.val (.bl true)) qs)E:
  v4 K 1 f [.ref a] H (fun v _=>v=.bl true) E:=by
 have den:bD K H (.lst (ns.map D.int)) (.ref a):=by
  have fr:GD K H a (ns.map V.int):=by
   rcases hS with (h|⟨o,h⟩)|h
   ·rcases hO a with z|⟨o,xs,z⟩
    ·rw[z]at h;cases h
    ·rw[z]at h;cases h
   ·exact .inl ⟨o,h⟩
   ·exact .inr h
  have l:∀(ns:List Int),ao K H (ns.map D.int) (ns.map V.int):=fun ns=>by
   induction ns with
   |nil=>exact ao.fZ
   |cons i r ih=>exact ao.cW rfl ih
  exact⟨a,_,rfl,fr,l ns⟩
 obtain⟨qs,hf⟩:=hf
 refine⟨[.val (.lst (ns.map D.int))],rfl,⟨rfl,fun i s e=>?_,fun i j b h1=>?_⟩,fun i o e=>?_,?_⟩
 ·cases i with
  |zero=>simp at e;subst e;exact⟨.ref a,rfl,den⟩
  |succ i=>simp at e
 ·obtain⟨⟨s,o,e1,e2⟩,_⟩:=h1
  cases i with
  |zero=>simp at e1;subst e1;cases e2
  |succ i=>simp at e1
 ·cases i with
  |zero=>simp at e
  |succ i=>simp at e
 ·rw[hf]
  exact fun v H' _ z=>z
def W9(a:Arguments):List Str:=a.args.map (·.arg)
noncomputable def namesOf(st:Stmt):List Str:=W9 (eF st)++(((bj st).names.filter fun p=>(p.2== .local||p.2== .cell)&& !(W9 (eF st)).contains p.1).map (·.1))
noncomputable def bN(x:Str)(st:Stmt)(fl:List Bool):Df:={x:=x,st:=st,N:=namesOf st,ps:=W9 (eF st),fl:=fl}
noncomputable def JR(d:Df):Bool:=
 decide ((bj d.st).kind=.function)&& !(bj d.st).isCoroutine&& !(bj d.st).isGenerator&&decide d.N.Nodup&&decide (d.N.take d.ps.length=d.ps)
 &&(d.ps.all fun x=>(bj d.st).names.lookup x==some .local||(bj d.st).names.lookup x==some .cell)&&((bj d.st).names.all fun y=>y.2 != .free)
def Ql(h:JR d=true):km d.N d.ps (bj d.st):=by
 unfold JR at h
 simp only[QUq,QUz,Bool.not_eq_true',List.all_eq_true,Bool.or_eq_true,beq_iff_eq,bne_iff_ne,ne_eq]at h
 obtain⟨⟨⟨⟨⟨⟨h1,h2⟩,h3⟩,h4⟩,h5⟩,h6⟩,h7⟩:=h
 exact⟨h1,h2,h3,h4,h5,h6,h7⟩
noncomputable def vIs:Value->D->Bool
 |.none,.non=>true
 |.bool a,.bl b=>a==b
 |.int i _,.int j=>i==j
 |.str x _,.str y=>decide (x=y)
 |_,_=>false
noncomputable def GK:List Value->List D->Bool
 |[],[]=>true
 |u::us,d::ds=>vIs u d&&GK us ds
 |_,_=>false
noncomputable def Jt(o:Obj)(ds:List D):Bool:=o.cls== .type "tuple"&&o.dict.isNone&&match o.data with
 |.seq its _=>GK its.toList ds&&decide (its.size<=1000)
 |_=>false
def SX(K:QQq)(mg:QZz)(x:Str)(d:D):Prop:=∃v u,mg x=some u/\RelV v u/\∀H,bD K H d v
def Jr{u:Value}(h:vIs u d=true):∃v,RelV v u/\∀H,bD K H d v:=by
 cases u<;>cases d<;>simp[vIs]at h
 ·exact⟨.non,rfl,fun H=>rfl⟩
 ·subst h;exact⟨.bl _,rfl,fun H=>rfl⟩
 ·subst h;exact⟨.int _,⟨_,rfl⟩,fun H=>rfl⟩
 ·subst h;exact⟨.str _,⟨_,rfl⟩,fun H=>rfl⟩
theorem DW:∀{us:List Value}{ds:List D},GK us ds=true->∃vs,Vals vs us/\∀H,ao K H ds vs
 |[],[]=>fun _=>⟨[],.nil,fun H=>ao.fZ⟩
 |u::us,d::ds=>fun h=>by
  unfold GK at h
  rw[QUq]at h
  obtain⟨v,r,e⟩:=Jr h.1
  obtain⟨vs,rs,es⟩:=DW h.2
  exact⟨v::vs,.cons r rs,fun H=>ao.cW (e H) (es H)⟩
 |[],_::_=>fun h=>by simp[GK]at h
 |_::_,[]=>fun h=>by simp[GK]at h
section
def Ym(X:K.In h)(G:h.Ns mainGlobals mg)(e:PySem.W.nsIn K mainGlobals x=some (some u))(hv:vIs u d=true):SX K mg x d:=by
 obtain⟨v,r,q⟩:=Jr hv
 exact⟨v,u,PySem.W.mg_of X G e,r,q⟩
def Yn(X:K.In h)(G:h.Ns mainGlobals mg)(e:PySem.W.nsIn K mainGlobals x=some (some (.ref a)))(l:K.lookup a=some o)(hv:Jt o ds=true):SX K mg x (.tup ds):=by
 unfold Jt at hv
 simp only[QUq,beq_iff_eq,Option.isNone_iff_eq_none]at hv
 obtain⟨⟨hc,hd⟩,hv⟩:=hv
 split at hv
 ·rename_i its n hs
  rw[QUq,QUz]at hv
  obtain⟨vs,r,q⟩:=DW hv.1
  exact⟨.ref a,_,PySem.W.mg_of X G e,rfl,fun H=>dB (.inr ⟨o,its,n,l,hc,hd,hs,Nat.le_of_lt (G8 hv.2),r⟩) (q H)⟩
 ·cases hv
end
noncomputable def Aj(K:QQq)(mg:QZz):List Df->List (Addr×FuncData)->Prop
 |[],[]=>True
 |d::ds,(f,fd)::r=>vN K mg d f fd/\Aj K mg ds r
 |_,_=>False
theorem Aj.at{K:QQq}{mg:QZz}:∀{ds:List Df}{fs:List (Addr×FuncData)},Aj K mg ds fs->∀(i:Nat)d,ds[i]? =some d->∃q,fs[i]? =some q/\vN K mg d q.1 q.2
 |[],_,_,i=>fun d e=>by simp at e
 |_::_,[],h,_=>fun _ _=>h.elim
 |d::ds,(f,fd)::r,h,0=>fun d' e=>by cases e;exact⟨(f,fd),rfl,h.1⟩
 |d::ds,_::r,h,i+1=>fun d' e=>h.2.at i d' e
noncomputable def Ai(K:QQq)(mg:QZz):List Str->List D->Prop
 |[],[]=>True
 |x::xs,d::ds=>SX K mg x d/\Ai K mg xs ds
 |_,_=>False
theorem Ai.at{K:QQq}{mg:QZz}:∀{xs:List Str}{ds:List D},Ai K mg xs ds->∀(k:Nat)x,xs[k]? =some x->∃d,ds[k]? =some d/\SX K mg x d
 |[],_,_,k=>fun x e=>by simp at e
 |_::_,[],h,_=>fun _ _=>h.elim
 |x::xs,d::ds,h,0=>fun x' e=>by cases e;exact⟨d,rfl,h.1⟩
 |x::xs,d::ds,h,k+1=>fun x' e=>h.2.at k x' e
noncomputable def Ky(ds:List Df)(m9:List Str)(vals:List D)(turns:Nat):Pg:=
 {fns:=ds.map fun d=>(fnOf ds m9 d).getD {pars:=0,names:=0,body:=.nil},gl:=fun k=>vals[k]?,turns:=turns}
def P0{w:World}{mg:QZz}{ds:List Df}{vals:List D}{fs:List (Addr×FuncData)}(hD:Aj K mg ds fs)(hG:Ai K mg m9 vals)
  (hS:ds.all JR=true)(hT:ds.all (fun d=>(fnOf ds m9 d).isSome)=true)(hB:∀x∈mY,mg x=none)n i d f fd(hd:ds[i]? =some d)(hf:fs[i]? =some (f,fd)):
  oO P w K mg base O9 n f fd d.ps (v4 K d.ps.length ((Ky ds m9 vals turns).fn n i)):=by
 have z1:∀(i:Nat)d,ds[i]? =some d->vN K mg d (((fs[i]?).map (·.1)).getD 0) (((fs[i]?).map (·.2)).getD fd):=fun i d e=>by
  obtain⟨q,e1,e2⟩:=hD.at i d e
  simp only[e1,Option.map_some,Option.getD_some]
  exact e2
 have z2:∀i d,ds[i]? =some d->∃g,(Ky ds m9 vals turns).fns[i]? =some g/\fnOf ds m9 d=some g:=fun i d e=>by
  have hs:=List.all_eq_true.mp hT d (QBz e)
  obtain⟨g,hg⟩:=Option.isSome_iff_exists.mp hs
  refine⟨g,?_,hg⟩
  show(ds.map fun d=>(fnOf ds m9 d).getD {pars:=0,names:=0,body:=.nil})[i]? =some g
  rw[QFz,e]
  simp[hg]
 have z3:∀k x,m9[k]? =some x->∃d v u,(Ky ds m9 vals turns).gl k=some d/\mg x=some u/\RelV v u/\∀H,bD K H d v:=fun k x e=>by
  obtain⟨dd,e1,v,u,z1,z2,z3⟩:=hG.at k x e
  exact⟨dd,v,u,e1,z1,z2,z3⟩
 have Z:=Er (P:=P) (w:=w) (base:=base)
  z1 (fun d hd=>Ql (List.all_eq_true.mp hS d hd)) z2 hB z3 n i d hd
 simp only[hf,Option.map_some,Option.getD_some]at Z
 exact Z
def O3(K:QQq)(x:Str)(st:Stmt):Prop:=∃(f:Addr)(od an:Option Addr)(sl:Array (Option Value))(oc kV dc pm cd ct:Value),
 PySem.W.nsIn K mainGlobals x=some (some (.ref f))/\K.lookup f=some ⟨oc,od,.func (PySem.W.fnOf x x (eF st) (eE st) (bj st) .none kV dc pm an cd ct),sl⟩/\PySem.W.codeIn K cd x=true/\PySem.W.keepIn K (.ref f)=true
def dIn{x:Str}{f:Addr}{od an:Option Addr}{oc kV dc pm cd ct:Value}(a:PySem.W.nsIn K mainGlobals x=some (some (.ref f)))
  (l:K.lookup f=some ⟨oc,od,.func (PySem.W.fnOf x x (eF st) (eE st) (bj st) .none kV dc pm an cd ct),sl⟩)(c:PySem.W.codeIn K cd x=true)(p:PySem.W.keepIn K (.ref f)=true):O3 K x st:=⟨f,od,an,sl,oc,kV,dc,pm,cd,ct,a,l,c,p⟩
def AllIn(K:QQq):List (Str×Stmt)->Prop
 |[]=>True
 |(x,s)::r=>O3 K x s/\AllIn K r
def Bd(d:Df):Prop:=∀(kV dc pm:Value)(an:Option Addr)(cd ct:Value)(us:List Value),us.length=d.ps.length->bindArgs (PySem.W.fnOf d.x d.x (eF d.st) (eE d.st) (bj d.st) .none kV dc pm an cd ct) ⟨us,[]⟩=pure (d.ps.zip us)
def qX{us:List Value}(h:us.length=1):∃a,us=[a]:=List.length_eq_one_iff.mp h
def Rr{us:List Value}(h:us.length=n+1):∃a r,us=a::r/\r.length=n:=by
 cases us with
 |nil=>simp at h
 |cons a r=>exact⟨a,r,rfl,by simpa using h⟩
def gm{us:List Value}(h:us.length=2):∃a b,us=[a,b]:=by
 obtain⟨a,r,rfl,h2⟩:=Rr h;obtain⟨b,rfl⟩:=qX h2;exact⟨a,b,rfl⟩
def jx{us:List Value}(h:us.length=3):∃a b c,us=[a,b,c]:=by
 obtain⟨a,r,rfl,h2⟩:=Rr h;obtain⟨b,c,rfl⟩:=gm h2;exact⟨a,b,c,rfl⟩
def zy{us:List Value}(h:us.length=4):∃a b c d,us=[a,b,c,d]:=by
 obtain⟨a,r,rfl,h2⟩:=Rr h;obtain⟨b,c,d,rfl⟩:=jx h2;exact⟨a,b,c,d,rfl⟩
def ace{us:List Value}(h:us.length=5):∃a b c d e,us=[a,b,c,d,e]:=by
 obtain⟨a,r,rfl,h2⟩:=Rr h;obtain⟨b,c,d,e,rfl⟩:=zy h2;exact⟨a,b,c,d,e,rfl⟩
def GF:List Df->Prop
 |[]=>True
 |d::r=>Bd d/\GF r
inductive Zg(K:QQq)(x:Str):D->Prop
 |v {u:Value} {d:D}:PySem.W.nsIn K mainGlobals x=some (some u)->vIs u d=true->Zg K x d
 |t {a:Addr} {o:Obj} {ds:List D}:PySem.W.nsIn K mainGlobals x=some (some (.ref a))->K.lookup a=some o->Jt o ds=true->Zg K x (.tup ds)
noncomputable def xU(K:QQq):List Str->List D->Prop
 |[],[]=>True
 |x::xs,d::ds=>Zg K x d/\xU K xs ds
 |_,_=>False
noncomputable def Pa(K:QQq):List Str->Prop
 |[]=>True
 |x::r=>PySem.W.nsIn K mainGlobals x=some none/\Pa K r
section
theorem Oo(X:K.In h)(G:h.Ns mainGlobals mg):∀(ds:List Df),GF ds->AllIn K (ds.map fun d=>(d.x,d.st))->
  ∃fs,Aj K mg ds fs/\∀(i:Nat)d,ds[i]? =some d->∃q,fs[i]? =some q/\vN K mg d q.1 q.2/\∀(s:Shared)(us:List Value),us.length=d.ps.length->BindsTo s q.2 ⟨us,[]⟩ (d.ps.zip us)
 |[],_,_=>⟨[],trivial,fun i d e=>by simp at e⟩
 |d::ds,⟨b,bs⟩,⟨⟨f,od,an,sl,oc,kV,dc,pm,cd,ct,a,l,c,p⟩,is⟩=>by
  obtain⟨fs,A,B⟩:=Oo X G ds bs is
  have F:=YH l c p
  have D:vN K mg d f _:=⟨F,F.binds b,PySem.W.mg_of X G a⟩
  refine⟨(f,_)::fs,⟨D,A⟩,fun i e he=>?_⟩
  cases i with
  |zero=>cases he;exact⟨_,rfl,D,fun s us hl=>.of_eq (b kV dc pm an cd ct us hl)⟩
  |succ i=>exact B i e he
theorem Ol(X:K.In h)(G:h.Ns mainGlobals mg):∀(xs:List Str)(ds:List D),xU K xs ds->Ai K mg xs ds
 |[],[],_=>trivial
 |_::xs,_::ds,⟨g,r⟩=>⟨by cases g with
  |v e hv=>exact Ym X G e hv
  |t e l hv=>exact Yn X G e l hv,Ol X G xs ds r⟩
 |[],_::_,h=>h.elim
 |_::_,[],h=>h.elim
theorem Oj(X:K.In h)(G:h.Ns mainGlobals mg):∀(xs:List Str),Pa K xs->∀x∈xs,mg x=none
 |[],_=>fun x hx=>by cases hx
 |_::r,⟨e,es⟩=>fun x hx=>by
  rcases QCq.mp hx with rfl|hx
  ·exact PySem.W.mg_none_of X G e
  ·exact Oj X G r es x hx
def Sy{l:PySem.W.OpenLaw}{fa:Addr}{ds:List Df}{vals:List D}{dL:Df}(X:K.In h)(G:h.Ns mainGlobals mg)(hfa:mg "law"=some (.ref fa))(hx:dL.x="law")(hy:dL.ps=[y])(hL:ds[L]? =some dL)(b:GF ds)
  (scp:ds.all JR=true)(m8:ds.all (fun d=>(fnOf ds m9 d).isSome)=true)(A:AllIn K (ds.map fun d=>(d.x,d.st)))(B:xU K m9 vals)(Z:Pa K mY):
  ∃fd:FuncData,(∀(s:Shared)(v:Value),BindsTo s fd ⟨[v],[]⟩ [(y,v)])/\∀base:Heap,K.In base->base.Ns mainGlobals mg->oO l.prog w K mg base O9 n fa fd [y] (v4 K 1 ((Ky ds m9 vals 1000).fn n L)):=by
 obtain⟨fs,A,C⟩:=Oo X G ds b A
 obtain⟨q,e1,e2,e3⟩:=C L dL hL
 have e:=hfa.symm.trans (hx▸e2.at_)
 cases e
 refine⟨q.2,fun s v=>?_,fun base _ _=>?_⟩
 ·have:=e3 s [v] (by rw[hy];rfl)
  rw[hy]at this
  exact this
 ·have:=P0 (P:=l.prog) (w:=w) (base:=base) (turns:=1000) A (Ol X G m9 vals B) scp m8 (Oj X G _ Z) n L dL q.1 q.2 hL e1
  rw[hy]at this
  exact this
end
def Jo{l:PySem.W.OpenLaw}{loose:List Str}{YP:World->Heap->Prop}{K:Params->QQq}{p:Pg}{L:Nat}(hn:l.most=some 63)(hdf:d.params.defaults=[])
  (hY:∀(w:World)(h:Heap),YP w h->(K w.params).In h)(math:∀ns:List Int,ns.length<=63->∃qs,p.fn 60 L [.val (.lst (ns.map D.int))]=.ok (.val (.bl true)) qs)
  (F:∀(w:World)(mg:QZz)(fa:Addr)(h:Heap),(K w.params).In h->h.Ns mainGlobals mg->mg d.name=some (.ref fa)->
   ∃fd:FuncData,(∀(s:Shared)(u:Value),BindsTo s fd ⟨[u],[]⟩ [(y,u)])/\∀base:Heap,(K w.params).In base->base.Ns mainGlobals mg->oO l.prog w (K w.params) mg base O9 60 fa fd [y] (v4 (K w.params) 1 (p.fn 60 L))):
  PySem.W.WalkO q loose XP YP l.row.toRowW d [] (fun f vs=>PySem.call f vs):=
 L2.Pr hn (by decide) hdf ⟨rfl,by decide,by decide⟩ hY F (fun _ _ a ns hl hO hS=>We hO hS (math ns hl) _) fun _ _ _ _ _ z=>z
section
@[simp]theorem ad1{f:α->Ev->Out β}:(Out.ok a σ).bind f=f a σ:=rfl
@[simp]theorem ac1{f:α->Ev->Out β}:(Out.exc k σ).bind f=.exc k σ:=rfl
@[simp]theorem ac2{f:α->Ev->Out β}:(Out.bad:Out α).bind f=.bad:=rfl
@[simp]theorem bU{f:D->Ev->Out β}:(Out.ok (.val d) σ).ak f=f d σ:=rfl
@[simp]theorem j9{f:D->Ev->Out β}:(Out.ok (.new o) σ).ak f=f o.d σ:=rfl
@[simp]theorem Z6{f:D->Ev->Out β}:(Out.exc k σ).ak f=.exc k σ:=rfl
@[simp]theorem Z7{f:D->Ev->Out β}:(Out.bad).ak f=.bad:=rfl
@[simp]theorem dC{f:Bool->Ev->Out β}:(Out.ok (.val (.bl b)) σ).cC gF f=f b σ:=rfl
@[simp]theorem Z3{f:Bool->Ev->Out β}:(Out.ok (.val (.int i)) σ).cC gF f=f (i !=0) σ:=rfl
@[simp]theorem Z1{f:Bool->Ev->Out β}:(Out.ok (.val (.tup xs)) σ).cC gF f=f (!xs.isEmpty) σ:=rfl
@[simp]theorem Z2{f:Bool->Ev->Out β}:(Out.ok (.val (.lst xs)) σ).cC gF f=f (!xs.isEmpty) σ:=rfl
@[simp]theorem Z4{f:Bool->Ev->Out β}:(Out.exc k σ).cC gF f=.exc k σ:=rfl
@[simp]theorem Z5{f:Bool->Ev->Out β}:(Out.bad).cC gF f=.bad:=rfl
@[simp]theorem vm{a:α}:(Out.ok a σ).fl f=f a σ:=rfl
@[simp]theorem ago:(Out.exc k σ:Out α).fl f=.exc k σ:=rfl
@[simp]theorem agp:(Out.bad:Out α).fl f=.bad:=rfl
@[simp]theorem adP:(Out.ok (.val d) σ).lR f=f d σ:=rfl
@[simp]theorem adQ:(Out.ok (.new o) σ).lR f=f o.d σ:=rfl
@[simp]theorem adR:(Out.exc k σ).lR f=.exc k σ:=rfl
@[simp]theorem adS:(Out.bad).lR f=.bad:=rfl
@[simp]theorem agq:(Out.ok (.val (.bl b)) σ).Am f=f b σ:=rfl
@[simp]theorem adN:(Out.exc k σ).Am f=.exc k σ:=rfl
@[simp]theorem adO:(Out.bad).Am f=.bad:=rfl
@[simp]theorem uM{a:α}:Mini.lift σ (some a)=.ok a σ:=rfl
@[simp]theorem ZP:Mini.lift σ (none:Option α)=.bad:=rfl
@[simp]theorem abe:(Fl.next σ).seq f=f σ:=rfl
@[simp]theorem adz{f:Ev->Fl}:(Fl.ret r σ).seq f=.ret r σ:=rfl
@[simp]theorem adA:(Fl.exc k σ).seq f=.exc k σ:=rfl
@[simp]theorem adB:(Fl.brk σ).seq f=.brk σ:=rfl
@[simp]theorem abf:(Fl.cont σ).seq f=.cont σ:=rfl
@[simp]theorem adC:(Fl.bad).seq f=.bad:=rfl
@[simp]theorem nC:(Fl.next σ).turn f=f σ:=rfl
@[simp]theorem Zy:(Fl.cont σ).turn f=f σ:=rfl
@[simp]theorem aaH:(Fl.brk σ).turn f=.next σ:=rfl
@[simp]theorem aaF{f:Ev->Fl}:(Fl.ret r σ).turn f=.ret r σ:=rfl
@[simp]theorem aaG:(Fl.exc k σ).turn f=.exc k σ:=rfl
@[simp]theorem aaI:(Fl.bad).turn f=.bad:=rfl
@[simp]theorem abn:tL (.val d) σ=.ret (.val d) σ:=rfl
@[simp]theorem abo:tL (.new o) σ=.ret (.new o) σ:=rfl
@[simp]theorem ab3:yW (some τ)=.next τ:=rfl
@[simp]theorem ab4:yW none=.bad:=rfl
@[simp]theorem ada:argv (.val d)=.val d:=rfl
@[simp]theorem adc:argv (.new o)=.val o.d:=rfl
@[simp]theorem adb:argv (.ref k)=.ref k:=rfl
@[simp]theorem aa6:Rv.Be (.val d)=some (.val d):=rfl
@[simp]theorem aa7:Rv.Be (.new o)=some (.own o):=rfl
@[simp]theorem adY:Rv.jl (.val d)=some d:=rfl
@[simp]theorem adZ:Rv.jl (.new o)=some o.d:=rfl
@[simp]theorem Vd:Ob.d (.lst xs)=.lst xs:=rfl
@[simp]theorem ahL:Ob.d (.dct xs ys)=.dU xs ys:=rfl
@[simp]theorem adG:HQ (.tup xs)=some xs.length:=rfl
@[simp]theorem adH:HQ (.lst xs)=some xs.length:=rfl
@[simp]theorem ad4:b1 .len (.tup xs)=some (.val (.int xs.length)):=rfl
@[simp]theorem ad6:b1 .len (.lst xs)=some (.val (.int xs.length)):=rfl
@[simp]theorem ad7:b1 .int (.int i)=some (.val (.int i)):=rfl
@[simp]theorem ad8:b1 .int (.bl b)=some (.val (.int (b2i b))):=rfl
@[simp]theorem ac3:b1 .tuple d=(bK d).bind fun xs=>some (.val (.tup xs)):=rfl
@[simp]theorem ad3:b1 .list d=(JP d).bind fun xs=>some (.new (.lst xs)):=rfl
@[simp]theorem aeA xs:JP (.tup xs)=some xs:=rfl
@[simp]theorem aeC xs:JP (.lst xs)=some xs:=rfl
@[simp]theorem aeB ks vs:JP (.gH ks vs)=some ks:=rfl
@[simp]theorem Og:b1 .all d=(bK d).bind fun xs=>(bools xs).map fun bs=>.val (.bl (bs.all id)):=rfl
@[simp]theorem agK:b1 .any d=(bK d).bind fun xs=>(bools xs).map fun bs=>.val (.bl (bs.any id)):=rfl
@[simp]theorem ad9:b1 .dict d=(bK d).bind fun xs=>((dictOf [] [] xs).map fun p=>Rv.new (.dct p.1 p.2)).or ((jB [] [] xs).map fun p=>.new (.sdt p.1 p.2)):=rfl
@[simp]theorem Z9:b1 .sorted d=(gf d).bind fun xs=>(oV xs).map fun ys=>.new (.lst ys):=rfl
@[simp]theorem ZF:bK (.tup xs)=some xs:=rfl
@[simp]theorem ux:bK (.lst xs)=some xs:=rfl
@[simp]theorem ZM:gf (.lst xs)=some xs:=rfl
@[simp]theorem adL:getD (.tup xs) (.int i)=at? xs i:=rfl
@[simp]theorem adM:getD (.lst xs) (.int i)=at? xs i:=rfl
@[simp]theorem add_int:binop .add (.int i) (.int j)=some (.val (.int (i+j))):=rfl
@[simp]theorem sub_int:binop .sub (.int i) (.int j)=some (.val (.int (i-j))):=rfl
@[simp]theorem mul_int:binop .mul (.int i) (.int j)=if small i||small j then some (.val (.int (i*j)))else none:=rfl
@[simp]theorem mod_int:binop .mod (.int i) (.int j)=if 0<j then some (.val (.int (i%j)))else none:=rfl
@[simp]theorem lt_int:aG .lt (.int i) (.int j)=some (decide (i<j)):=rfl
@[simp]theorem gt_int:aG .gt (.int i) (.int j)=some (decide (j<i)):=rfl
@[simp]theorem le_int:aG .le (.int i) (.int j)=some (decide (i<=j)):=rfl
@[simp]theorem ahe:aG .dZ d .non=some (aR d):=rfl
@[simp]theorem afA:aG .notN d .non=some (!aR d):=rfl
@[simp]theorem ZR:aR (.tup xs)=false:=rfl
@[simp]theorem ZS:aR .non=true:=rfl
@[simp]theorem eq_int:aG .eq (.int i) (.int j)=some (i==j):=rfl
@[simp]theorem ne_int:aG .ne (.int i) (.int j)=some (!(i==j)):=rfl
@[simp]theorem ahK:aG .eq (.bl b) (.bl c)=some (b==c):=rfl
@[simp]theorem ahc:aG .ne (.bl b) (.bl c)=some (!(b==c)):=rfl
@[simp]theorem eq_str:aG .eq (.str x) (.str y)=some (decide (x=y)):=rfl
@[simp]theorem ne_str:aG .ne (.str x) (.str y)=some (!decide (x=y)):=rfl
@[simp]theorem aab:E.aq (.var k)=some k:=rfl
@[simp]theorem aak d:E.aq (.con d)=none:=rfl
@[simp]theorem Za k:E.aq (.glob k)=none:=rfl
@[simp]theorem aac a:E.aq (.tup a)=none:=rfl
@[simp]theorem aag a:E.aq (.lis a)=none:=rfl
@[simp]theorem ac8 o a b:E.aq (.op o a b)=none:=rfl
@[simp]theorem aaf a:E.aq (.neg a)=none:=rfl
@[simp]theorem aal o a b:E.aq (.cmp o a b)=none:=rfl
@[simp]theorem Vh o p a b c:E.aq (.chain o p a b c)=none:=rfl
@[simp]theorem aam a:E.aq (.and a)=none:=rfl
@[simp]theorem ac7 a:E.aq (.or a)=none:=rfl
@[simp]theorem aae a:E.aq (.not a)=none:=rfl
@[simp]theorem aah a b c:E.aq (.ite a b c)=none:=rfl
@[simp]theorem aaj a b:E.aq (.idx a b)=none:=rfl
@[simp]theorem aad a b c:E.aq (.slc a b c)=none:=rfl
@[simp]theorem Zb f a:E.aq (.call f a)=none:=rfl
@[simp]theorem ac9 b a:E.aq (.bi b a)=none:=rfl
@[simp]theorem aai a t:E.aq (.isi a t)=none:=rfl
@[simp]theorem aaa a b:E.aq (.zip a b)=none:=rfl
@[simp]theorem Sx a:E.aq (.range1 a)=none:=rfl
@[simp]theorem Vg a b:E.aq (.count a b)=none:=rfl
@[simp]theorem Vf i a:E.aq (.popAt i a)=none:=rfl
@[simp]theorem sV n tg a b c:E.aq (.comp n tg a b c)=none:=rfl
@[simp]theorem ac6 a:E.aq (.rd a)=none:=rfl
def lM xs(j:Nat)(h:j<xs.length):at? xs (j:Int)=xs[j]? :=by
 unfold at? ix?
 rw[if_neg (by omega:¬(j:Int)<0),if_pos ⟨by omega,by omega⟩]
 simp
@[simp]theorem at0:at? (a::xs) 0=some a:=(lM _ 0 (by simp)).trans rfl
@[simp]theorem at1{a b:D}:at? (a::b::xs) 1=some b:=(lM _ 1 (by simp)).trans rfl
@[simp]theorem at2{a b c:D}:at? (a::b::c::xs) 2=some c:=(lM _ 2 (by simp)).trans rfl
@[simp]theorem at3{a b c e:D}:at? (a::b::c::e::xs) 3=some e:=(lM _ 3 (by simp)).trans rfl
end
@[simp]theorem ad5{ks vs:List D}:b1 .len (.gH ks vs)=some (.val (.int ks.length)):=rfl
def aO(bs:List Bool):D:=.tup (bs.map .bl)
noncomputable def dO:Nat->List (List Bool)
 |0=>[[]]
 |k+1=>(dO k).map (· ++[false])++(dO k).map (· ++[true])
noncomputable def masks:Nat->List (List Bool)
 |0=>[[]]
 |k+1=>(masks k).map (false:: ·)++(masks k).map (true:: ·)
theorem uL:∀(bs:List Bool),bs∈masks bs.length
 |[]=>by simp[masks]
 |b::bs=>by
  have:=uL bs
  cases b<;>simp[masks,this]
noncomputable def mJ{α:Type}:List Bool->List α->List α
 |b::bs,x::xs=>if b then x::mJ bs xs else mJ bs xs
 |_,_=>[]
def zF:List (List Bool)->Bool
 |a::b::r=>kE a b&&zF (b::r)
 |_=>true
noncomputable def qi(k:Nat)(bs:List Bool):Bool:=match oV (mJ bs ((dO k).map aO))with
 |some ws=>if ws.isEmpty then true else match jd ws with
  |some rs=>(rs.all fun r=>r.length==k)&&zF rs
  |none=>false
 |none=>false
def aa5:(masks 2).all (qi 1)=true:=by decide+kernel
def aa4:(masks 4).all (qi 2)=true:=by decide+kernel
def aa3:(masks 8).all (qi 3)=true:=by decide+kernel
theorem vG:∀{ys:List D}{bs:List Bool},bools ys=some bs->ys=bs.map .bl
 |[],bs,e=>by cases e;rfl
 |y::ys,bs,e=>by
  cases y with
  |bl b=>
   simp only[bools]at e
   cases q:bools ys with
   |none=>rw[q]at e;cases e
   |some r=>rw[q]at e;cases e;rw[vG q];rfl
  |_=>cases e
theorem uA:∀{xs:List D}{rs:List (List Bool)},jd xs=some rs->xs=rs.map aO
 |[],rs,e=>by cases e;rfl
 |y::ys,rs,e=>by
  cases y with
  |tup zs=>
   simp only[jd]at e
   cases q:bools zs with
   |none=>rw[q]at e;cases e
   |some bs=>
    cases bs with
    |nil=>rw[q]at e;cases e
    |cons b bs=>
     rw[q]at e
     cases q2:jd ys with
     |none=>rw[q2]at e;cases e
     |some rs'=>
      rw[q2]at e
      cases e
      rw[uA q2,vG q]
      rfl
  |_=>cases e
theorem nJ:∀k,(dO k).length=2 ^k
 |0=>rfl
 |k+1=>by simp[dO,nJ k];omega
def G6 k(h1:1<=k)(h3:k<=3)bs(hl:bs.length=2 ^k):∃rs,oV (mJ bs ((dO k).map aO))=some (rs.map aO)/\(∀r∈rs,r.length=k)/\zF rs=true:=by
 have ok:qi k bs=true:=by
  have hm:=uL bs
  rw[hl]at hm
  rcases (by omega:k=1\/k=2\/k=3)with rfl|rfl|rfl
  ·exact List.all_eq_true.mp aa5 bs hm
  ·exact List.all_eq_true.mp aa4 bs hm
  ·exact List.all_eq_true.mp aa3 bs hm
 unfold qi at ok
 cases q:oV _ with
 |none=>rw[q]at ok;cases ok
 |some ws=>
  rw[q]at ok
  simp only at ok
  split at ok
  ·rename_i he
   have:ws=[]:=by simpa using he
   subst this
   exact⟨[],rfl,fun r h=>(by cases h),rfl⟩
  ·cases q2:jd ws with
   |none=>rw[q2]at ok;cases ok
   |some rs=>
    rw[q2]at ok
    simp only[QUq,List.all_eq_true,beq_iff_eq]at ok
    exact⟨rs,by rw[uA q2],ok.1,ok.2⟩
theorem filter_tt{α:Type}:∀(xs:List α),xs.filter (fun _=>true)=xs
 |[]=>rfl
 |x::xs=>by rw[List.filter_cons_of_pos rfl,filter_tt xs]
def bI(s:Sl):Prop:=s=.un\/∃d,s=.val d
def ut(h:bI s)d(r:Ev):bz (.name 0) d (s::r)=some (.val d::r):=by
 rcases h with rfl|⟨e,rfl⟩<;>rfl
def uw(h:bI s)(h':bI t)a b(r:Ev):bz (.tup [0,1]) (.tup [a,b]) (s::t::r)=some (.val a:: .val b::r):=by
 rcases h with rfl|⟨e,rfl⟩<;>rcases h' with rfl|⟨e',rfl⟩<;>rfl
def De c d σ:ev c (.con d) σ=.ok (.val d) σ:=rfl
section
variable{cond elt:Ev->Out Rv}
theorem go1{f:D->D}{p:D->Bool}:∀(xs acc:List D)(s:Sl),bI s->(∀x∈xs,cond (.val x::τ)=.ok (.val (.bl (p x))) (.val x::τ))->(∀x∈xs,p x=true->elt (.val x::τ)=.ok (.val (f x)) (.val x::τ))->
  ∃s',bI s'/\aP (.name 0) cond elt xs acc (s::τ)=.ok (acc++(xs.filter p).map f) (s'::τ)
 |[]=>fun acc s hs _ _=>⟨s,hs,by simp[aP]⟩
 |x::xs=>fun acc s hs hc he=>by
  rw[aP,ut hs]
  simp only
  rw[hc x QYz,dC]
  cases q:p x with
  |true=>
   obtain⟨s',a1,a2⟩:=go1 xs _ _ (.inr ⟨x,rfl⟩) (fun y hy=>hc y (QYq _ hy)) (fun y hy=>he y (QYq _ hy))
   refine⟨s',a1,?_⟩
   rw[if_pos rfl,he x QYz q,bU,a2]
   simp[q]
  |false=>
   obtain⟨s',a1,a2⟩:=go1 xs acc _ (.inr ⟨x,rfl⟩) (fun y hy=>hc y (QYq _ hy)) (fun y hy=>he y (QYq _ hy))
   refine⟨s',a1,?_⟩
   rw[if_neg (by simp),a2]
   simp[q]
def pairD(p:D×D):D:=.tup [p.1,p.2]
theorem go2{f:D×D->D}{p:D×D->Bool}:∀(xs:List (D×D))(acc:List D)(s t:Sl),bI s->bI t->(∀x∈xs,cond (.val x.1:: .val x.2::τ)=.ok (.val (.bl (p x))) (.val x.1:: .val x.2::τ))->
  (∀x∈xs,p x=true->elt (.val x.1:: .val x.2::τ)=.ok (.val (f x)) (.val x.1:: .val x.2::τ))->
  ∃s' t',aP (.tup [0,1]) cond elt (xs.map pairD) acc (s::t::τ)=.ok (acc++(xs.filter p).map f) (s'::t'::τ)
 |[]=>fun acc s t hs ht _ _=>⟨s,t,by simp[aP]⟩
 |x::xs=>fun acc s t hs ht hc he=>by
  rw[Qyz,aP,show pairD x=.tup [x.1,x.2]from rfl,uw hs ht]
  simp only
  rw[hc x QYz,dC]
  cases q:p x with
  |true=>
   obtain⟨s',t',a2⟩:=go2 xs _ _ _ (.inr ⟨_,rfl⟩) (.inr ⟨_,rfl⟩) (fun y hy=>hc y (QYq _ hy)) (fun y hy=>he y (QYq _ hy))
   refine⟨s',t',?_⟩
   rw[if_pos rfl,he x QYz q,bU,a2]
   simp[q]
  |false=>
   obtain⟨s',t',a2⟩:=go2 xs acc _ _ (.inr ⟨_,rfl⟩) (.inr ⟨_,rfl⟩) (fun y hy=>hc y (QYq _ hy)) (fun y hy=>he y (QYq _ hy))
   refine⟨s',t',?_⟩
   rw[if_neg (by simp),a2]
   simp[q]
end
section
def Dg f p(hi:ev c it σ=.ok r τ)(hr:r.jl=some d)(hd:items d=some xs)(hc:∀x∈xs,ev c co (.val x::τ)=.ok (.val (.bl (p x))) (.val x::τ))(he:∀x∈xs,p x=true->ev c el (.val x::τ)=.ok (.val (f x)) (.val x::τ)):
  ev c (.comp 1 (.name 0) it co el) σ=.ok (.new (.lst ((xs.filter p).map f))) τ:=by
 obtain⟨s',_,a⟩:=go1 xs [] .un (.inl rfl) hc he
 rw[lX,hi]
 have b:∀{β:Type}(g:D->Ev->Out β),(Out.ok r τ).ak g=g d τ:=fun g=>by cases r<;>simp[Rv.jl]at hr<;>subst hr<;>rfl
 rw[b]
 simp only[hd]
 rw[show List.replicate 1 Sl.un++τ=.un::τ from rfl,a]
 simp
def kW f(hi:ev c it σ=.ok r τ)(hr:r.jl=some d)(hd:items d=some xs)(he:∀x∈xs,ev c el (.val x::τ)=.ok (.val (f x)) (.val x::τ)):
  ev c (.comp 1 (.name 0) it AAL el) σ=.ok (.new (.lst (xs.map f))) τ:=by
 have:=Dg f (fun _=>true) hi hr hd (fun x _=>De c _ _) (fun x hx _=>he x hx)
 rw[filter_tt]at this
 exact this
def Y5{ps:List (D×D)}f p(hi:ev c it σ=.ok r τ)(hr:r.jl=some d)(hd:items d=some (ps.map pairD))(hc:∀x∈ps,ev c co (.val x.1:: .val x.2::τ)=.ok (.val (.bl (p x))) (.val x.1:: .val x.2::τ))
  (he:∀x∈ps,p x=true->ev c el (.val x.1:: .val x.2::τ)=.ok (.val (f x)) (.val x.1:: .val x.2::τ)):
  ev c (.comp 2 (.tup [0,1]) it co el) σ=.ok (.new (.lst ((ps.filter p).map f))) τ:=by
 obtain⟨s',t',a⟩:=go2 ps [] .un .un (.inl rfl) (.inl rfl) hc he
 rw[lX,hi]
 have b:∀{β:Type}(g:D->Ev->Out β),(Out.ok r τ).ak g=g d τ:=fun g=>by cases r<;>simp[Rv.jl]at hr<;>subst hr<;>rfl
 rw[b]
 simp only[hd]
 rw[show List.replicate 2 Sl.un++τ=.un:: .un::τ from rfl,a]
 simp
def zZ{ps:List (D×D)}f(hi:ev c it σ=.ok r τ)(hr:r.jl=some d)(hd:items d=some (ps.map pairD))(he:∀x∈ps,ev c el (.val x.1:: .val x.2::τ)=.ok (.val (f x)) (.val x.1:: .val x.2::τ)):
  ev c (.comp 2 (.tup [0,1]) it AAL el) σ=.ok (.new (.lst (ps.map f))) τ:=by
 have:=Y5 f (fun _=>true) hi hr hd (fun x _=>De c _ _) (fun x hx _=>he x hx)
 rw[filter_tt]at this
 exact this
end
section
theorem Y4{ps:List (D×D)}f p(hi:ev c it σ=.ok r τ0)(hr:r.jl=some d)(hd:items d=some ((x0::ps).map pairD))(hc0:ev c co (.val x0.1:: .val x0.2::τ0)=.ok (.val (.bl (p x0))) (.val x0.1:: .val x0.2::τ))
  (hc:∀x∈ps,ev c co (.val x.1:: .val x.2::τ)=.ok (.val (.bl (p x))) (.val x.1:: .val x.2::τ))
  (he:∀x∈x0::ps,p x=true->ev c el (.val x.1:: .val x.2::τ)=.ok (.val (f x)) (.val x.1:: .val x.2::τ)):ev c (.comp 2 (.tup [0,1]) it co el) σ=.ok (.new (.lst (((x0::ps).filter p).map f))) τ:=by
 rw[lX,hi]
 have b:∀{β:Type}(g:D->Ev->Out β),(Out.ok r τ0).ak g=g d τ0:=fun g=>by cases r<;>simp[Rv.jl]at hr<;>subst hr<;>rfl
 rw[b]
 simp only[hd]
 rw[show List.replicate 2 Sl.un++τ0=.un:: .un::τ0 from rfl,Qyz,aP,show pairD x0=.tup [x0.1,x0.2]from rfl,uw (.inl rfl) (.inl rfl)]
 simp only
 rw[hc0,dC]
 cases q:p x0 with
 |true=>
  obtain⟨s',t',a⟩:=go2 ps _ _ _ (.inr ⟨_,rfl⟩) (.inr ⟨_,rfl⟩) hc (fun x hx=>he x (QYq _ hx))
  rw[if_pos rfl,he x0 QYz q,bU,a]
  simp[q]
 |false=>
  obtain⟨s',t',a⟩:=go2 ps [] _ _ (.inr ⟨_,rfl⟩) (.inr ⟨_,rfl⟩) hc (fun x hx=>he x (QYq _ hx))
  rw[if_neg (by simp),a]
  simp[q]
end
theorem jC:∀(bs:List Bool),bools (bs.map D.bl)=some bs
 |[]=>rfl
 |b::bs=>by simp[bools,jC bs]
theorem sH:∀{α:Type}(xs:List α),bools (xs.map fun _=>D.bl true)=some (xs.map fun _=>true)
 |_,[]=>rfl
 |_,x::xs=>by simp[bools,sH xs]
theorem DK:∀{α:Type}(xs:List α),(xs.map fun _=>true).all id=true
 |_,[]=>rfl
 |_,x::xs=>by simpa using DK xs
section
def all1(hi:ev c it σ=.ok r τ)(hr:r.jl=some d)(hd:items d=some xs)(he:∀x∈xs,ev c el (.val x::τ)=.ok (.val (.bl true)) (.val x::τ)):
  ev c (.bi .all (.comp 1 (.name 0) it AAL el)) σ=.ok (.val (.bl true)) τ:=by
 rw[o9]
 simp only[sV]
 rw[kW _ hi hr hd he,j9]
 simp only[Vd,Og,ux,QHq]
 rw[sH]
 simp only[Option.map_some,uM,DK]
def all2{ps:List (D×D)}(hi:ev c it σ=.ok r τ)(hr:r.jl=some d)(hd:items d=some (ps.map pairD))(he:∀x∈ps,ev c el (.val x.1:: .val x.2::τ)=.ok (.val (.bl true)) (.val x.1:: .val x.2::τ)):
  ev c (.bi .all (.comp 2 (.tup [0,1]) it AAL el)) σ=.ok (.val (.bl true)) τ:=by
 rw[o9]
 simp only[sV]
 rw[zZ _ hi hr hd he,j9]
 simp only[Vd,Og,ux,QHq]
 rw[sH]
 simp only[Option.map_some,uM,DK]
end
theorem bY:∀(xs ys:List D),aC xs ys=(xs.zip ys).map pairD
 |[],_=>by simp[aC]
 |_::_,[]=>by simp[aC]
 |x::xs,y::ys=>by simp[aC,bY xs ys,pairD]
end Mini
end
section
namespace Mini
open PySem
@[simp]def fin(k:Nat):Fl->Res
 |.next σ=>.ok (.val .non) (σ.take k)
 |.ret r σ=>.ok r (σ.take k)
 |.exc c σ=>.exc c (σ.take k)
 |_=>.bad
def Qo c f ps(h:ps.length=f.pars):gW c f ps=fin f.pars (ex c f.body (ps++List.replicate (f.names-f.pars) .un)):=by
 unfold gW
 rw[if_pos h]
 cases ex c f.body _<;>rfl
def vL{α:Type}(b:Bool)(r:Out α):Out α:=if b then .bad else r
def Y8(b:Bool)(r:Fl):Fl:=if b then .bad else r
def BW{α:Type}(b:Bool)(r:Option α):Option α:=if b then none else r
@[simp]theorem ad2(r:Out α):vL false r=r:=rfl
@[simp]theorem agJ r:Y8 false r=r:=rfl
@[simp]theorem ab7(r:Option α):BW false r=r:=rfl
@[simp]theorem ab6(r:Option α):BW true r=none:=rfl
@[simp]def abp(i:Nat)(σ:Ev):Option Sl->Out Rv
 |some (.val d)=>.ok (.val d) σ
 |some (.own o)=>.ok (.val o.d) (σ.set i (.val o.d))
 |_=>.bad
@[simp]theorem J0 i σ:qH i σ=abp i σ σ[i]? :=rfl
@[simp]def acd:Option Sl->Option D
 |some (.val d)=>some d
 |some (.own o)=>some o.d
 |some (.bor o)=>some o.d
 |_=>none
@[simp]theorem acb i σ:bw i σ=acd σ[i]? :=rfl
noncomputable def yz(i:Nat)(σ:Ev)(s:Sl):Option Sl->Option Ev
 |some (.bor _)=>none
 |some _=>some (σ.set i s)
 |none=>none
@[simp]theorem aa9 i s σ:cj i s σ=yz i σ s σ[i]? :=rfl
@[simp]theorem aba(i σ s d):yz i σ s (some (.val d))=some (σ.set i s):=rfl
@[simp]theorem abb(i σ s o):yz i σ s (some (.own o))=some (σ.set i s):=rfl
@[simp]theorem ady(i σ s):yz i σ s (some .un)=some (σ.set i s):=rfl
@[simp]theorem abd(i σ s o):yz i σ s (some (.bor o))=none:=rfl
@[simp]def BJ(i:Nat)(σ:Ev)(q:Ob):Ev:=σ.set i (.own q)
@[simp]def WM(i:Nat)(σ:Ev)(q:Ob):Ev:=σ.set i (.bor q)
@[simp]def aaK(i:Nat)(f:Ob->Option Ob)(σ:Ev):Option Sl->Option Ev
 |some (.own o)=>(f o).map (BJ i σ)
 |some (.bor o)=>(f o).map (WM i σ)
 |_=>none
@[simp]theorem aaJ i f σ:cV i f σ=aaK i f σ σ[i]? :=rfl
@[simp]def okB(r:Rv):Option Ev->Out Rv
 |some σ=>.ok r σ
 |none=>.bad
@[simp]def acY(as:List Rv)(σ:Ev):Res->Out Rv
 |.ok r qs=>okB r (giveBack as qs σ)
 |_=>.bad
@[simp]def acZ(c:Cf)(f:Nat)(as:List Rv)(σ:Ev):Option (List Sl)->Out Rv
 |none=>.bad
 |some ps=>acY as σ (c.fn f ps)
@[simp]theorem ac0 c f as σ:sE c f as σ=acZ c f as σ (enter as σ):=rfl
@[simp]theorem adX(σ):enter [] σ=some []:=rfl
@[simp]theorem adW(d as σ):enter (.val d::as) σ=(enter as σ).map (.val d:: ·):=rfl
@[simp]def agD(r:Option (List Sl)):Option Sl->Option (List Sl)
 |some (.own o)=>r.map (.bor o:: ·)
 |some (.bor o)=>r.map (.bor o:: ·)
 |_=>none
@[simp]theorem adV(i as σ):enter (.ref i::as) σ=BW (as.any (j0 i)) (agD (enter as σ) σ[i]?):=rfl
@[simp]theorem agA c(i σ):ev c (.var i) σ=qH i σ:=rfl
@[simp]theorem ajb c(d σ):ev c (.con d) σ=.ok (.val d) σ:=rfl
@[simp]theorem aja c(k σ):ev c (.glob k) σ=match c.gl k with|some d=>.ok (.val d) σ|none=>.bad:=rfl
@[simp]def aen(ds:List D):Option Rv:=if fits ds.length then some (.val (.tup ds))else none
@[simp]def afG(ds:List D):Option Rv:=if fits ds.length then some (.new (.lst ds))else none
@[simp]def afK(rs:List Rv)(σ:Ev):Out Rv:=lift σ ((aJ rs).bind aen)
@[simp]def afQ(rs:List Rv)(σ:Ev):Out Rv:=lift σ ((aJ rs).bind afG)
@[simp]theorem ai9 c(es σ):ev c (.tup es) σ=(evs c es σ).bind afK:=rfl
@[simp]theorem ai8 c(es σ):ev c (.lis es) σ=(evs c es σ).bind afQ:=rfl
@[simp]def afO(o:Ze)(x y:D)(σ:Ev):Out Rv:=lift σ (binop o x y)
@[simp]def kOp(c:Cf)(o:Ze)(b:E)(x:D)(σ:Ev):Out Rv:=(ev c b σ).ak (afO o x)
@[simp]theorem ai7 c(o a b σ):ev c (.op o a b) σ=(ev c a σ).ak (kOp c o b):=rfl
@[simp]theorem ai6 c(a σ):ev c (.neg a) σ=(ev c a σ).ak fun x σ=>lift σ (match x with|.int i=>some (.val (.int (-i)))|_=>none):=rfl
@[simp]def qV(q:Bool):Rv:=.val (.bl q)
@[simp]def agG(o:Cm)(x d:D):Option Rv:=(aG o x d).map qV
@[simp]def Lz(o:Cm)(x y:D)(σ:Ev):Out Rv:=lift σ ((aG o x y).map qV)
@[simp]def af1(c:Cf)(o:Cm)(b:E)(x:D)(σ:Ev):Option Nat->Out Rv
 |some k=>lift σ ((bw k σ).bind (agG o x))
 |none=>(ev c b σ).ak (Lz o x)
@[simp]def acy(c:Cf)(o:Cm)(b:E)(x:D)(σ:Ev):Out Rv:=af1 c o b x σ b.aq
@[simp]theorem ai5 c(o a b σ):ev c (.cmp o a b) σ=(ev c a σ).ak (acy c o b):=rfl
noncomputable def XQ(c:Cf)(o:Cm)(d:E)(y:D)(q:Bool)(σ:Ev):Out Rv:=if q then(ev c d σ).ak (Lz o y)else .ok (.val (.bl false)) σ
@[simp]theorem af2(c o d y σ):XQ c o d y true σ=(ev c d σ).ak (Lz o y):=rfl
@[simp]theorem af3(c o d y σ):XQ c o d y false σ=.ok (.val (.bl false)) σ:=rfl
@[simp]def af4(c:Cf)(o p:Cm)(d:E)(x y:D)(σ:Ev):Out Rv:=(lift σ (aG o x y)).bind (XQ c p d y)
@[simp]def kCh(c:Cf)(o p:Cm)(b d:E)(x:D)(σ:Ev):Out Rv:=(ev c b σ).ak (af4 c o p d x)
@[simp]theorem ai4 c(π υ a b d σ):ev c (.chain π υ a b d) σ=(ev c a σ).ak (kCh c π υ b d):=rfl
@[simp]theorem ai3 c(es σ):ev c (.and es) σ=gD c es σ:=rfl
@[simp]theorem ahJ c(es σ):ev c (.or es) σ=mV c es σ:=rfl
@[simp]def afP(b:Bool)(σ:Ev):Out Rv:=.ok (.val (.bl (!b))) σ
@[simp]theorem ahI c(a σ):ev c (.not a) σ=(ev c a σ).cC gF afP:=rfl
def Ly(c:Cf)(a b:E)(q:Bool)(σ:Ev):Out Rv:=if q then ev c a σ else ev c b σ
@[simp]theorem adI(c a b σ):Ly c a b true σ=ev c a σ:=rfl
@[simp]theorem adJ(c a b σ):Ly c a b false σ=ev c b σ:=rfl
@[simp]theorem ahH c(t a b σ):ev c (.ite t a b) σ=(ev c t σ).cC gF (Ly c a b):=rfl
@[simp]def agk(y d:D):Option Rv:=(getD d y).map Rv.val
@[simp]def afV(k:Nat)(y:D)(σ:Ev):Out Rv:=lift σ ((bw k σ).bind (agk y))
@[simp]def acp(x y:D)(σ:Ev):Out Rv:=lift σ ((getD x y).map Rv.val)
@[simp]def acq(c:Cf)(i:E)(x:D)(σ:Ev):Out Rv:=(ev c i σ).ak (acp x)
@[simp]def agd(c:Cf)(a i:E)(σ:Ev):Option Nat->Out Rv
 |some k=>vL (bw k σ).isNone ((ev c i σ).ak (afV k))
 |none=>(ev c a σ).ak (acq c i)
@[simp]theorem ahG c(a i σ):ev c (.idx a i) σ=agd c a i σ a.aq:=rfl
@[simp]def afL(hi:E)(x:D)(l:Option Int)(h:D)(σ:Ev):Out Rv:=lift σ ((bQ hi.dZ h).bind (cJ x l))
@[simp]def slM(c:Cf)(hi:E)(x:D)(σ:Ev):Option (Option Int)->Out Rv
 |none=>.bad
 |some l=>(ev c hi σ).ak (afL hi x l)
@[simp]def afM(c:Cf)(lo hi:E)(x l:D)(σ:Ev):Out Rv:=slM c hi x σ (bQ lo.dZ l)
@[simp]def kSl(c:Cf)(lo hi:E)(x:D)(σ:Ev):Out Rv:=(ev c lo σ).ak (afM c lo hi x)
@[simp]theorem ahF c(a lo hi σ):ev c (.slc a lo hi) σ=(ev c a σ).ak (kSl c lo hi):=rfl
@[simp]theorem ahE c(σ):ev c .noneE σ=.ok (.val .non) σ:=rfl
@[simp]theorem ahD c(f as σ):ev c (.call f as) σ=(evs c as σ).bind (sE c f):=rfl
@[simp]def afu(i:Nat)(σ:Ev):Option Sl->Out Rv
 |some (.own _)=>.ok (.ref i) σ
 |some (.bor _)=>.ok (.ref i) σ
 |_=>.bad
@[simp]theorem ahC c(i σ):ev c (.ref i) σ=afu i σ σ[i]? :=rfl
@[simp]theorem ahB c(e σ):ev c (.rd e) σ=ev c e σ:=rfl
@[simp]def afU(t:Ty)(x:D)(σ:Ev):Out Rv:=.ok (.val (.bl (tX t x))) σ
@[simp]theorem ahA c(a t σ):ev c (.isi a t) σ=(ev c a σ).ak (afU t):=rfl
@[simp]def kBi(b:Bi)(x:D)(σ:Ev):Out Rv:=lift σ (b1 b x)
@[simp]def biM(c:Cf)(b:Bi)(a:E)(σ:Ev):Option Nat->Out Rv
 |some k=>lift σ ((bw k σ).bind (b1 b))
 |none=>(ev c a σ).ak (kBi b)
@[simp]theorem ahz c(b a σ):ev c (.bi b a) σ=biM c b a σ a.aq:=rfl
noncomputable def acj(x:D)(σ:Ev):Out Rv:=lift σ (match x with|.int n=>if fits n.toNat&&Jf n then some (.val (.lst (b7 0 n.toNat)))else none|_=>none)
@[simp]theorem aci n(σ):acj (.int n) σ=lift σ (if fits n.toNat&&Jf n then some (.val (.lst (b7 0 n.toNat)))else none):=rfl
@[simp]theorem ahy c(a σ):ev c (.range1 a) σ=(ev c a σ).ak acj:=rfl
@[simp]def aee(xs ys:List D):Rv:=.val (.lst (aC xs ys))
@[simp]def aef(y:D)(xs:List D):Option Rv:=(bK y).map (aee xs)
@[simp]def acg(x y:D)(σ:Ev):Out Rv:=lift σ ((bK x).bind (aef y))
@[simp]def afJ(c:Cf)(b:E)(x:D)(σ:Ev):Out Rv:=(ev c b σ).ak (acg x)
@[simp]theorem ahx c(a b σ):ev c (.zip a b) σ=(ev c a σ).ak (afJ c b):=rfl
@[simp]def acx(x y:D)(σ:Ev):Out Rv:=lift σ (z6 x y)
@[simp]def af0(c:Cf)(b:E)(x:D)(σ:Ev):Out Rv:=vL (bK x).isNone ((ev c b σ).ak (acx x))
@[simp]theorem ahw c(a b σ):ev c (.count a b) σ=(ev c a σ).ak (af0 c b):=rfl
@[simp]theorem adK(ks vs):rE (some (.dU ks vs))=true:=rfl
@[simp]theorem ahv c(k a σ):ev c (.popAt k a) σ=vL (!di (bw k σ)) ((ev c a σ).ak (qK k)):=rfl
@[simp]def acw(c:Cf)(nl:Nat)(tg:Tg)(cond elt:E)(x:D)(σ:Ev):Out Rv:=match items x with
  |some xs=>match aP tg (ev c cond) (ev c elt) xs [] (List.replicate nl .un++σ)with
   |.ok ys τ=>.ok (.new (.lst ys)) (τ.drop nl)
   |_=>.bad
  |none=>.bad
@[simp]theorem ahu c(nl tg it cond elt σ):ev c (.comp nl tg it cond elt) σ=(ev c it σ).ak (acw c nl tg cond elt):=rfl
@[simp]def acs(x:Rv)(xs:List Rv)(σ:Ev):Out (List Rv):=.ok (argv x::xs) σ
@[simp]def afY(c:Cf)(t:E)(x:Rv)(σ:Ev):Out (List Rv):=(evs c t σ).bind (acs x)
@[simp]theorem aho c(σ):evs c .nil σ=.ok [] σ:=rfl
@[simp]theorem ahn c(h t σ):evs c (.cons h t) σ=(ev c h σ).bind (afY c t):=rfl
@[simp]theorem ai2 c(σ):ex c .nil σ=.next σ:=rfl
@[simp]theorem ai1 c(h t σ):ex c (.cons h t) σ=(ex c h σ).seq (ex c t):=rfl
@[simp]theorem ai0 c(σ):ex c .brk σ=.brk σ:=rfl
@[simp]theorem aiZ c(σ):ex c .cont σ=.cont σ:=rfl
@[simp]def Wj(i:Nat)(σ:Ev)(s:Sl):Option Ev:=cj i s σ
@[simp]def afN(i:Nat)(x:Rv)(σ:Ev):Fl:=yW (x.Be.bind (Wj i σ))
@[simp]theorem aiY c(i e σ):ex c (.set i e) σ=(ev c e σ).fl (afN i):=rfl
@[simp]def ach(is:List Nat)(x:D)(σ:Ev):Fl:=yW (bz (.tup is) x σ)
@[simp]theorem aiX c(is e σ):ex c (.setT is e) σ=(ev c e σ).lR (ach is):=rfl
@[simp]def afR(k:Nat)(x y:D)(σ:Ev):Fl:=yW (cV k (nT y x) σ)
@[simp]def kIx(c:Cf)(k:Nat)(ix:E)(x:D)(σ:Ev):Fl:=Y8 (bw k σ).isNone ((ev c ix σ).lR (afR k x))
@[simp]theorem aiW c(k ix e σ):ex c (.setIx k ix e) σ=(ev c e σ).lR (kIx c k ix):=rfl
@[simp]def ack(_:D)(σ:Ev):Fl:=.next σ
@[simp]theorem aiV c(e σ):ex c (.expr e) σ=(ev c e σ).lR ack:=rfl
@[simp]def agL(x:D)(xs:List D):Option (List D):=if fits (xs.length+1)then some (xs++[x])else none
@[simp]def af5(k:Nat)(x:D)(σ:Ev):Fl:=yW (cV k (wA (agL x)) σ)
@[simp]theorem aiU c(k e σ):ex c (.append k e) σ=Y8 (!di (bw k σ)) ((ev c e σ).lR (af5 k)):=rfl
@[simp]theorem ahm(c:Cf)(k e σ):ex c (.extend k e) σ=if !di (bw k σ)then .bad else(ev c e σ).lR fun x σ=>yW ((gf x).bind fun ys=>cV k (wA fun xs=>if fits (xs.length+ys.length)then some (xs++ys)else none) σ):=rfl
@[simp]def afs(c:Cf)(e:E)(i:Nat)(σ:Ev):Option Sl->Fl
 |some (.own o)=>.ret (.new o) (σ.set i .un)
 |_=>(ev c e σ).fl tL
@[simp]def aft(c:Cf)(e:E)(σ:Ev):Option Nat->Fl
 |some i=>afs c e i σ σ[i]?
 |none=>(ev c e σ).fl tL
@[simp]theorem ahl c(e σ):ex c (.ret e) σ=aft c e σ e.aq:=rfl
def XN(c:Cf)(a b:S)(q:Bool)(σ:Ev):Fl:=if q then ex c a σ else ex c b σ
@[simp]theorem afS(c a b σ):XN c a b true σ=ex c a σ:=rfl
@[simp]theorem afT(c a b σ):XN c a b false σ=ex c b σ:=rfl
@[simp]theorem ahk c(t a b σ):ex c (.ite t a b) σ=(ev c t σ).Am (XN c a b):=rfl
@[simp]def kFor(c:Cf)(tg:Tg)(b:S)(σ:Ev):Option (List D)->Fl
 |some xs=>aZ tg (ex c b) xs σ
 |none=>.bad
@[simp]def acr(c:Cf)(tg:Tg)(b:S)(x:D)(σ:Ev):Fl:=kFor c tg b σ (items x)
@[simp]theorem ahj c(tg it b σ):ex c (.for_ tg it b) σ=(ev c it σ).lR (acr c tg b):=rfl
@[simp]theorem ahi c(t b σ):ex c (.while_ t b) σ=cG (ev c t) (ex c b) c.turns σ:=rfl
@[simp]theorem ahh c(k σ):ex c (.raise k) σ=.exc k σ:=rfl
@[simp]def af6(c:Cf)(e:E)(x:D)(σ:Ev):Out Rv:=match x with|.bl true=>gD c e σ|.bl false=>.ok (.val (.bl false)) σ|_=>.bad
@[simp]def kOr(c:Cf)(e:E)(x:D)(σ:Ev):Out Rv:=match x with|.bl true=>.ok (.val (.bl true)) σ|.bl false=>mV c e σ|_=>.bad
@[simp]theorem adU c(h σ):gD c (.cons h .nil) σ=ev c h σ:=rfl
@[simp]theorem adT c(h a b σ):gD c (.cons h (.cons a b)) σ=(ev c h σ).ak (af6 c (.cons a b)):=rfl
@[simp]theorem agC c(h σ):mV c (.cons h .nil) σ=ev c h σ:=rfl
@[simp]theorem agB c(h a b σ):mV c (.cons h (.cons a b)) σ=(ev c h σ).ak (kOr c (.cons a b)):=rfl
@[simp high]theorem aj6 x0:at? [x0] 0=some x0:=rfl
@[simp high]theorem aj5 x0 x1:at? [x0,x1] 0=some x0:=rfl
@[simp high]theorem aj4 x0 x1:at? [x0,x1] 1=some x1:=rfl
@[simp high]theorem aj3 x0 x1 x2:at? [x0,x1,x2] 0=some x0:=rfl
@[simp high]theorem aj2 x0 x1 x2:at? [x0,x1,x2] 1=some x1:=rfl
@[simp high]theorem aj1 x0 x1 x2:at? [x0,x1,x2] 2=some x2:=rfl
@[simp high]theorem aj0 x0 x1 x2 x3:at? [x0,x1,x2,x3] 0=some x0:=rfl
@[simp high]theorem ajZ x0 x1 x2 x3:at? [x0,x1,x2,x3] 1=some x1:=rfl
@[simp high]theorem ajY x0 x1 x2 x3:at? [x0,x1,x2,x3] 2=some x2:=rfl
@[simp high]theorem ajX x0 x1 x2 x3:at? [x0,x1,x2,x3] 3=some x3:=rfl
@[simp]theorem aiT(σ):giveBack [] [] σ=some σ:=rfl
@[simp]theorem aiS(i as o ps σ):giveBack (.ref i::as) (.bor o::ps) σ=(cV i (fun _=>some o) σ).bind (giveBack as ps):=rfl
@[simp]theorem aiR(d as p ps σ):giveBack (.val d::as) (p::ps) σ=giveBack as ps σ:=rfl
@[simp]theorem aip(i j):j0 i (.ref j)=(i==j):=rfl
@[simp]theorem aio(i d):j0 i (.val d)=false:=rfl
@[simp]theorem ain(i o):j0 i (.new o)=false:=rfl
@[simp]theorem ah4(xs):tX .tup (.tup xs)=true:=rfl
@[simp]theorem ah3(xs):tX .lst (.lst xs)=true:=rfl
@[simp]theorem ah2(x):tX .str (.str x)=true:=rfl
@[simp]theorem ah1(b):tX .bool (.bl b)=true:=rfl
def aem(i):tX .bool (.int i)=false:=rfl
@[simp]theorem ah0(i):tX .int (.int i)=true:=rfl
@[simp]theorem agz:fits 0=true:=rfl
@[simp]theorem agy:fits 1=true:=rfl
@[simp]theorem agx:fits 2=true:=rfl
@[simp]theorem agw:fits 3=true:=rfl
@[simp]theorem agv:fits 4=true:=rfl
@[simp]theorem agu:fits 5=true:=rfl
@[simp]theorem agt:fits 6=true:=rfl
@[simp]theorem ags:fits 7=true:=rfl
@[simp]theorem agr:fits 8=true:=rfl
@[simp↓]theorem ite_tt{α:Type}(a b:α):(if true=true then a else b)=a:=rfl
@[simp↓]theorem ite_ff{α:Type}(a b:α):(if false=true then a else b)=b:=rfl
@[simp]theorem aea xs ys:binop .add (.tup xs) (.tup ys)=if fits (xs.length+ys.length)then some (.val (.tup (xs++ys)))else none:=rfl
@[simp]theorem aeb xs ys:binop .add (.lst xs) (.lst ys)=if fits (xs.length+ys.length)then some (.new (.lst (xs++ys)))else none:=rfl
@[simp]def acn(x y:D)(σ:Ev):Out Rv:=lift σ (acA x y)
@[simp]def aco(c:Cf)(b:E)(x:D)(σ:Ev):Out Rv:=vL (gf x).isNone ((ev c b σ).ak (acn x))
@[simp]theorem aht(c:Cf)(a b σ):ev c (.index a b) σ=(ev c a σ).ak (aco c b):=rfl
@[simp]def gtK(k x y:D):Option Rv:=(rJ y k x).map Rv.val
@[simp]def afW(i:Nat)(k x:D)(σ:Ev):Out Rv:=lift σ ((bw i σ).bind (gtK k x))
@[simp]def afX(c:Cf)(i:Nat)(x:E)(k:D)(σ:Ev):Out Rv:=(ev c x σ).ak (afW i k)
@[simp]def agj(c:Cf)(d k x:E)(σ:Ev):Option Nat->Out Rv
 |some i=>vL (!rE (bw i σ)) ((ev c k σ).ak (afX c i x))
 |none=>.bad
@[simp]theorem ahs c(d k x σ):ev c (.get2 d k x) σ=agj c d k x σ d.aq:=rfl
@[simp]def afZ(rs:List Rv)(σ:Ev):Out Rv:=lift σ ((aJ rs).bind zV)
@[simp]theorem ahr c(es σ):ev c (.dsp es) σ=(evs c es σ).bind afZ:=rfl
@[simp]theorem ahp c(σ):ev c .emp σ=.ok (.new (.dct [] [])) σ:=rfl
@[simp]def acP(xs:List D):Rv:=.val (.lst (aC (b7 0 xs.length) xs))
@[simp]def acu(x:D)(σ:Ev):Out Rv:=lift σ ((gf x).map acP)
@[simp]theorem ahq c(a σ):ev c (.enum a) σ=(ev c a σ).ak acu:=rfl
@[simp high]theorem aiQ a0(r:Ev):(a0::r)[0]? =some a0:=rfl
@[simp high]theorem aik a0 v(r:Ev):List.set (a0::r) 0 v=v::r:=rfl
@[simp high]theorem aiP a0 a1(r:Ev):(a0::a1::r)[1]? =some a1:=rfl
@[simp high]theorem aij a0 a1 v(r:Ev):List.set (a0::a1::r) 1 v=a0::v::r:=rfl
@[simp high]theorem aiO a0 a1 a2(r:Ev):(a0::a1::a2::r)[2]? =some a2:=rfl
@[simp high]theorem aii a0 a1 a2 v(r:Ev):List.set (a0::a1::a2::r) 2 v=a0::a1::v::r:=rfl
@[simp high]theorem aiN a0 a1 a2 a3(r:Ev):(a0::a1::a2::a3::r)[3]? =some a3:=rfl
@[simp high]theorem aih a0 a1 a2 a3 v(r:Ev):List.set (a0::a1::a2::a3::r) 3 v=a0::a1::a2::v::r:=rfl
@[simp high]theorem aiM a0 a1 a2 a3 a4(r:Ev):(a0::a1::a2::a3::a4::r)[4]? =some a4:=rfl
@[simp high]theorem aig a0 a1 a2 a3 a4 v(r:Ev):List.set (a0::a1::a2::a3::a4::r) 4 v=a0::a1::a2::a3::v::r:=rfl
@[simp high]theorem aiL a0 a1 a2 a3 a4 a5(r:Ev):(a0::a1::a2::a3::a4::a5::r)[5]? =some a5:=rfl
@[simp high]theorem aif a0 a1 a2 a3 a4 a5 v(r:Ev):List.set (a0::a1::a2::a3::a4::a5::r) 5 v=a0::a1::a2::a3::a4::v::r:=rfl
@[simp high]theorem aiK a0 a1 a2 a3 a4 a5 a6(r:Ev):(a0::a1::a2::a3::a4::a5::a6::r)[6]? =some a6:=rfl
@[simp high]theorem aie a0 a1 a2 a3 a4 a5 a6 v(r:Ev):List.set (a0::a1::a2::a3::a4::a5::a6::r) 6 v=a0::a1::a2::a3::a4::a5::v::r:=rfl
@[simp high]theorem aiJ a0 a1 a2 a3 a4 a5 a6 a7(r:Ev):(a0::a1::a2::a3::a4::a5::a6::a7::r)[7]? =some a7:=rfl
@[simp high]theorem aid a0 a1 a2 a3 a4 a5 a6 a7 v(r:Ev):List.set (a0::a1::a2::a3::a4::a5::a6::a7::r) 7 v=a0::a1::a2::a3::a4::a5::a6::v::r:=rfl
@[simp high]theorem aiI a0 a1 a2 a3 a4 a5 a6 a7 a8(r:Ev):(a0::a1::a2::a3::a4::a5::a6::a7::a8::r)[8]? =some a8:=rfl
@[simp high]theorem aic a0 a1 a2 a3 a4 a5 a6 a7 a8 v(r:Ev):List.set (a0::a1::a2::a3::a4::a5::a6::a7::a8::r) 8 v=a0::a1::a2::a3::a4::a5::a6::a7::v::r:=rfl
@[simp high]theorem aiH a0 a1 a2 a3 a4 a5 a6 a7 a8 a9(r:Ev):(a0::a1::a2::a3::a4::a5::a6::a7::a8::a9::r)[9]? =some a9:=rfl
@[simp high]theorem aib a0 a1 a2 a3 a4 a5 a6 a7 a8 a9 v(r:Ev):List.set (a0::a1::a2::a3::a4::a5::a6::a7::a8::a9::r) 9 v=a0::a1::a2::a3::a4::a5::a6::a7::a8::v::r:=rfl
end Mini
end
section
namespace Tx
open PySem L2 Mini
abbrev d0:Df:=bN "checked" s0 [false]
abbrev d1:Df:=bN "is_net" s1 [false]
abbrev d2:Df:=bN "has_parts" s2 [false]
abbrev d3:Df:=bN "is_tuple" s3 [false,false,false]
abbrev d4:Df:=bN "is_number" s4 [false,false,false]
abbrev d5:Df:=bN "is_name" s5 [false]
abbrev d6:Df:=bN "are_unlike" s6 [false]
abbrev d7:Df:=bN "is_row" s7 [false,false]
abbrev d8:Df:=bN "is_wire" s8 [false,false]
abbrev d9:Df:=bN "are_wires" s9 [false,false,false,false]
abbrev d10:Df:=bN "are_rows" yC [false,false]
abbrev d11:Df:=bN "is_kind" s11 [false,false,false]
abbrev d12:Df:=bN "is_held" s12 [false,false,false]
abbrev d13:Df:=bN "wire_names" s13 [false]
abbrev d14:Df:=bN "waiting_gates" s14 [false,false]
abbrev d15:Df:=bN "told" s15 [false,false,false]
abbrev d16:Df:=bN "told_held" s16 [false,false,false]
abbrev d17:Df:=bN "checked_talk" s17 [false,false]
abbrev d18:Df:=bN "is_talk" s18 [false,false]
abbrev d19:Df:=bN "is_state" s19 [false,false,false]
abbrev d20:Df:=bN "stands" s20 [false,false]
abbrev d21:Df:=bN "first_stand" s21 [false]
abbrev d22:Df:=bN "steps_at" s22 [false,false,false]
abbrev d23:Df:=bN "is_unasked" s23 [false,false,false]
abbrev d24:Df:=bN "led_to" s24 [false,false,false,false]
abbrev d25:Df:=bN "changed" s25 [false,false,false]
abbrev d26:Df:=bN "newly_met" s26 [false,false,false,true]
abbrev d27:Df:=bN "fault" s27 [false,false]
abbrev d28:Df:=bN "fault_at" s28 [false,false,false,false]
abbrev d29:Df:=bN "has_out" s29 [false,false]
abbrev d30:Df:=bN "fault_of_step" s30 [false,false,false,false,false]
abbrev d31:Df:=bN "held" s31 [false,false]
abbrev d32:Df:=bN "mended" s32 [false,false]
abbrev d33:Df:=bN "mended_by_two" s33 [false,false,false]
abbrev d34:Df:=bN "has_part" s34 [false,false]
abbrev d35:Df:=bN "points_of" s35 [false]
abbrev d36:Df:=bN "is_point" s36 [false,false]
abbrev d37:Df:=bN "with_point" s37 [false,false]
abbrev d38:Df:=bN "held_kind" s38 [false,false]
abbrev d39:Df:=bN "_law_cell_at" s39 [false,false]
abbrev d40:Df:=bN "_law_mixed" s40 [false,false,false]
abbrev d41:Df:=bN "_law_next" s41 [false,true,false]
abbrev d42:Df:=bN "_law_some" s42 [false,true,false,false,false]
abbrev d43:Df:=bN "_law_table" s43 [false,true,false]
abbrev d44:Df:=bN "_law_kind" s44 [false,true,false,false]
abbrev d45:Df:=bN "_law_net" s45 [false,true,false,false]
abbrev d46:Df:=bN "_law_talk" s46 [false,true,false,false]
abbrev d47:Df:=bN "_law_ring" s47 [false,true]
abbrev d48:Df:=bN "_law_chain" s48 [false,true]
abbrev d49:Df:=bN "_law_meeting" s49 [false,true]
abbrev d50:Df:=bN "_law_spoilt_kind" s50 [false,true,false]
abbrev d51:Df:=bN "_law_case" s51 [false,false]
abbrev d52:Df:=bN "_law_names" s52 [false]
abbrev d53:Df:=bN "_law_kind_renamed" s53 [false,false]
abbrev d54:Df:=bN "_law_renamed" s54 [false,false,false]
abbrev d55:Df:=bN "law" s55 [false]
noncomputable def ds:List Df:=[d0,d1,d2,d3,d4,d5,d6,d7,d8,d9,d10,d11,d12,d13,d14,d15,d16,d17,d18,d19,d20,d21,d22,d23,d24,d25,d26,d27,d28,d29,d30,d31,d32,d33,d34,d35,d36,d37,d38,d39,d40,d41,d42,d43,d44,d45,d46,d47,d48,d49,d50,d51,d52,d53,d54,d55]
noncomputable def m9:List Str:=["LETTERS","LONGEST_NAME","WORDS","MOST_INPUTS","MOST_GATES","MOST_WIRES","MOST_TABLE_WIRES","DEEPEST_HELD","MOST_STATES","MOST_MENDED_GATES"]
noncomputable def vals:List D:=[.str "abcdefghijklmnopqrstuvwxyz",.int 6,.tup [.str "input",.str "gate",.str "start",.str "out",.str "state",.str "same",.str "not",.str "and",.str "or",.str "both",.str "held",.str "table",.str "on",.str "off"],.int 3,.int 5,.int 4,.int 8,.int 3,.int 12,.int 4]
def pg:Pg:=Ky ds m9 vals 1000
def scp:ds.all JR=true:=by decide+kernel
def m8:ds.all (fun d=>(fnOf ds m9 d).isSome)=true:=by decide+kernel
def bd:GF ds:=⟨fun _ _ _ _ _ _ us hl=>by obtain⟨_,rfl⟩:=qX hl;rfl,fun _ _ _ _ _ _ us hl=>by obtain⟨_,rfl⟩:=qX hl;rfl,fun _ _ _ _ _ _ us hl=>by obtain⟨_,rfl⟩:=qX hl;rfl,fun _ _ _ _ _ _ us hl=>by obtain⟨_,_,_,rfl⟩:=jx hl;rfl,fun _ _ _ _ _ _ us hl=>by obtain⟨_,_,_,rfl⟩:=jx hl;rfl,fun _ _ _ _ _ _ us hl=>by obtain⟨_,rfl⟩:=qX hl;rfl,fun _ _ _ _ _ _ us hl=>by obtain⟨_,rfl⟩:=qX hl;rfl,fun _ _ _ _ _ _ us hl=>by obtain⟨_,_,rfl⟩:=gm hl;rfl,fun _ _ _ _ _ _ us hl=>by obtain⟨_,_,rfl⟩:=gm hl;rfl,fun _ _ _ _ _ _ us hl=>by obtain⟨_,_,_,_,rfl⟩:=zy hl;rfl,fun _ _ _ _ _ _ us hl=>by obtain⟨_,_,rfl⟩:=gm hl;rfl,fun _ _ _ _ _ _ us hl=>by obtain⟨_,_,_,rfl⟩:=jx hl;rfl,fun _ _ _ _ _ _ us hl=>by obtain⟨_,_,_,rfl⟩:=jx hl;rfl,fun _ _ _ _ _ _ us hl=>by obtain⟨_,rfl⟩:=qX hl;rfl,fun _ _ _ _ _ _ us hl=>by obtain⟨_,_,rfl⟩:=gm hl;rfl,fun _ _ _ _ _ _ us hl=>by obtain⟨_,_,_,rfl⟩:=jx hl;rfl,fun _ _ _ _ _ _ us hl=>by obtain⟨_,_,_,rfl⟩:=jx hl;rfl,fun _ _ _ _ _ _ us hl=>by obtain⟨_,_,rfl⟩:=gm hl;rfl,fun _ _ _ _ _ _ us hl=>by obtain⟨_,_,rfl⟩:=gm hl;rfl,fun _ _ _ _ _ _ us hl=>by obtain⟨_,_,_,rfl⟩:=jx hl;rfl,fun _ _ _ _ _ _ us hl=>by obtain⟨_,_,rfl⟩:=gm hl;rfl,fun _ _ _ _ _ _ us hl=>by obtain⟨_,rfl⟩:=qX hl;rfl,fun _ _ _ _ _ _ us hl=>by obtain⟨_,_,_,rfl⟩:=jx hl;rfl,fun _ _ _ _ _ _ us hl=>by obtain⟨_,_,_,rfl⟩:=jx hl;rfl,fun _ _ _ _ _ _ us hl=>by obtain⟨_,_,_,_,rfl⟩:=zy hl;rfl,fun _ _ _ _ _ _ us hl=>by obtain⟨_,_,_,rfl⟩:=jx hl;rfl,fun _ _ _ _ _ _ us hl=>by obtain⟨_,_,_,_,rfl⟩:=zy hl;rfl,fun _ _ _ _ _ _ us hl=>by obtain⟨_,_,rfl⟩:=gm hl;rfl,fun _ _ _ _ _ _ us hl=>by obtain⟨_,_,_,_,rfl⟩:=zy hl;rfl,fun _ _ _ _ _ _ us hl=>by obtain⟨_,_,rfl⟩:=gm hl;rfl,fun _ _ _ _ _ _ us hl=>by obtain⟨_,_,_,_,_,rfl⟩:=ace hl;rfl,fun _ _ _ _ _ _ us hl=>by obtain⟨_,_,rfl⟩:=gm hl;rfl,fun _ _ _ _ _ _ us hl=>by obtain⟨_,_,rfl⟩:=gm hl;rfl,fun _ _ _ _ _ _ us hl=>by obtain⟨_,_,_,rfl⟩:=jx hl;rfl,fun _ _ _ _ _ _ us hl=>by obtain⟨_,_,rfl⟩:=gm hl;rfl,fun _ _ _ _ _ _ us hl=>by obtain⟨_,rfl⟩:=qX hl;rfl,fun _ _ _ _ _ _ us hl=>by obtain⟨_,_,rfl⟩:=gm hl;rfl,fun _ _ _ _ _ _ us hl=>by obtain⟨_,_,rfl⟩:=gm hl;rfl,fun _ _ _ _ _ _ us hl=>by obtain⟨_,_,rfl⟩:=gm hl;rfl,fun _ _ _ _ _ _ us hl=>by obtain⟨_,_,rfl⟩:=gm hl;rfl,fun _ _ _ _ _ _ us hl=>by obtain⟨_,_,_,rfl⟩:=jx hl;rfl,fun _ _ _ _ _ _ us hl=>by obtain⟨_,_,_,rfl⟩:=jx hl;rfl,fun _ _ _ _ _ _ us hl=>by obtain⟨_,_,_,_,_,rfl⟩:=ace hl;rfl,fun _ _ _ _ _ _ us hl=>by obtain⟨_,_,_,rfl⟩:=jx hl;rfl,fun _ _ _ _ _ _ us hl=>by obtain⟨_,_,_,_,rfl⟩:=zy hl;rfl,fun _ _ _ _ _ _ us hl=>by obtain⟨_,_,_,_,rfl⟩:=zy hl;rfl,fun _ _ _ _ _ _ us hl=>by obtain⟨_,_,_,_,rfl⟩:=zy hl;rfl,fun _ _ _ _ _ _ us hl=>by obtain⟨_,_,rfl⟩:=gm hl;rfl,fun _ _ _ _ _ _ us hl=>by obtain⟨_,_,rfl⟩:=gm hl;rfl,fun _ _ _ _ _ _ us hl=>by obtain⟨_,_,rfl⟩:=gm hl;rfl,fun _ _ _ _ _ _ us hl=>by obtain⟨_,_,_,rfl⟩:=jx hl;rfl,fun _ _ _ _ _ _ us hl=>by obtain⟨_,_,rfl⟩:=gm hl;rfl,fun _ _ _ _ _ _ us hl=>by obtain⟨_,rfl⟩:=qX hl;rfl,fun _ _ _ _ _ _ us hl=>by obtain⟨_,_,rfl⟩:=gm hl;rfl,fun _ _ _ _ _ _ us hl=>by obtain⟨_,_,_,rfl⟩:=jx hl;rfl,fun _ _ _ _ _ _ us hl=>by obtain⟨_,rfl⟩:=qX hl;rfl,trivial⟩
noncomputable def nms:List (Str×Stmt):=("checked",s0)::("is_net",s1)::("has_parts",s2)::("is_tuple",s3)::("is_number",s4)::("is_name",s5)::("are_unlike",s6)::("is_row",s7)::("is_wire",s8)::("are_wires",s9)::("are_rows",yC)::("is_kind",s11)::("is_held",s12)::("wire_names",s13)::("waiting_gates",s14)::("told",s15)::("told_held",s16)::("checked_talk",s17)::("is_talk",s18)::("is_state",s19)::("stands",s20)::("first_stand",s21)::("steps_at",s22)::("is_unasked",s23)::("led_to",s24)::("changed",s25)::("newly_met",s26)::("fault",s27)::("fault_at",s28)::("has_out",s29)::("fault_of_step",s30)::("held",s31)::("mended",s32)::("mended_by_two",s33)::("has_part",s34)::("points_of",s35)::("is_point",s36)::("with_point",s37)::("held_kind",s38)::("_law_cell_at",s39)::("_law_mixed",s40)::("_law_next",s41)::("_law_some",s42)::("_law_table",s43)::("_law_kind",s44)::("_law_net",s45)::("_law_talk",s46)::("_law_ring",s47)::("_law_chain",s48)::("_law_meeting",s49)::("_law_spoilt_kind",s50)::("_law_case",s51)::("_law_names",s52)::("_law_kind_renamed",s53)::("_law_renamed",s54)::("law",s55)::[]
end Tx
end
section
open PySem
section
open Mini
namespace Tx
def aW{n i:Nat}{g:Fn}{ps us:List Sl}(h:pg.fns[i]? =some g:=by kernel_rfl)(e:us=ps++List.replicate (g.names-g.pars) .un:=by rfl)(l:ps.length=g.pars:=by rfl):pg.fn (n+1) i ps=fin g.pars (ex (pg.cf n) g.body us):=by
 subst e
 refine Eq.trans ?_ (Qo _ _ _ l)
 show(match pg.fns[i]? with|some g=>gW (pg.cf n) g ps|none=>pg.pf (pg.cf n) i ps)=_
 rw[h]
noncomputable def oK:Fn:=⟨1,1,(.cons (.ite (.not (.call 1 AAS)) ABJ .nil) (.cons (.ret (.var 0)) .nil))⟩
def Hm(n:Nat)(p0:Sl):pg.fn (n+1) 0 [p0]=fin 1 (ex (pg.cf n) oK.body [p0]):=aW (g:=oK)
noncomputable def sU:Fn:=⟨1,2,(.cons (.ite ABZ AAQ .nil) (.cons (.set 1 ABf) (.cons (.ite (.or (.cons (.not (.bi .all ACt)) ADf)) AAQ .nil) (.cons (.ret (.and (.cons (.bi .all ABl) ADT))) .nil))))⟩
def J9(n:Nat)(p0:Sl):pg.fn (n+1) 1 [p0]=fin 1 (ex (pg.cf n) sU.body [p0,.un]):=aW (g:=sU)
noncomputable def jN:Fn:=⟨1,1,(.cons (.ite AAw AAQ .nil) (.cons (.ret (.bi .all (.comp 1 (.name 0) AAb AAL AAt))) .nil))⟩
def yP(n:Nat)(p0:Sl):pg.fn (n+1) 2 [p0]=fin 1 (ex (pg.cf n) jN.body [p0]):=aW (g:=jN)
noncomputable def lF:Fn:=⟨3,3,(.cons (.ret (.and (.cons (.isi (.var 0) .tup) (.cons (.chain .le .le (.var 1) ACV (.var 2)) .nil)))) .nil)⟩
def Bs(n:Nat)(p0 p1 p2:Sl):pg.fn (n+1) 3 [p0,p1,p2]=fin 3 (ex (pg.cf n) lF.body [p0,p1,p2]):=aW (g:=lF)
noncomputable def jL:Fn:=⟨3,3,(.cons (.ret (.and (.cons (.isi (.var 0) .int) (.cons (.not (.isi (.var 0) .bool)) (.cons (.chain .le .le (.var 1) (.var 0) (.var 2)) .nil))))) .nil)⟩
def yN(n:Nat)(p0 p1 p2:Sl):pg.fn (n+1) 4 [p0,p1,p2]=fin 3 (ex (pg.cf n) jL.body [p0,p1,p2]):=aW (g:=jL)
noncomputable def vM:Fn:=⟨1,1,(.cons (.ite (.or (.cons (.not (.isi (.var 0) .str)) (.cons (.not (.chain .le .le AAG ACV (.glob 1))) .nil))) AAQ .nil) (.cons (.ret (.and (.cons (.bi .all (.comp 1 (.name 0) (.var 0) AAL (.cmp .isin (.var 0) (.glob 0)))) (.cons (.cmp .notin (.var 0) (.glob 2)) .nil)))) .nil))⟩
def Hj(n:Nat)(p0:Sl):pg.fn (n+1) 5 [p0]=fin 1 (ex (pg.cf n) vM.body [p0]):=aW (g:=vM)
noncomputable def jb:Fn:=⟨1,1,(.cons (.ret (.bi .all ACO)) .nil)⟩
def wg(n:Nat)(p0:Sl):pg.fn (n+1) 6 [p0]=fin 1 (ex (pg.cf n) jb.body [p0]):=aW (g:=jb)
noncomputable def sS:Fn:=⟨2,2,(.cons (.ret (.and (.cons (.call 3 (.cons (.var 0) (.cons (.var 1) AAT))) (.cons (.bi .all ACj) .nil)))) .nil)⟩
def J8(n:Nat)(p0 p1:Sl):pg.fn (n+1) 7 [p0,p1]=fin 2 (ex (pg.cf n) sS.body [p0,p1]):=aW (g:=sS)
noncomputable def kj:Fn:=⟨2,2,(.cons (.ret (.and (.cons (.isi (.var 0) .str) (.cons (.cmp .isin (.var 0) (.var 1)) .nil)))) .nil)⟩
def uD(n:Nat)(p0 p1:Sl):pg.fn (n+1) 8 [p0,p1]=fin 2 (ex (pg.cf n) kj.body [p0,p1]):=aW (g:=kj)
noncomputable def jO:Fn:=⟨4,4,(.cons (.ite (.not (.call 3 (.cons (.var 0) ABT))) AAQ .nil) (.cons (.ret (.and (.cons (.bi .all ACZ) (.cons (.call 6 AAS) .nil)))) .nil))⟩
def yQ(n:Nat)(p0 p1 p2 p3:Sl):pg.fn (n+1) 9 [p0,p1,p2,p3]=fin 4 (ex (pg.cf n) jO.body [p0,p1,p2,p3]):=aW (g:=jO)
noncomputable def lL:Fn:=⟨2,2,(.cons (.ite (.or (.cons (.not (.isi (.var 0) .tup)) (.cons (.not (.bi .all ACa)) .nil))) AAQ .nil) (.cons (.ret (.bi .all ABh)) .nil))⟩
def Bx(n:Nat)(p0 p1:Sl):pg.fn (n+1) 10 [p0,p1]=fin 2 (ex (pg.cf n) lL.body [p0,p1]):=aW (g:=lL)
noncomputable def cZ:Fn:=⟨3,5,(.cons (.ite (.or (.cons (.not (.call 3 (.cons (.var 0) (.cons AAP ABd)))) (.cons (.not (.isi AAc .str)) .nil))) AAQ .nil) (.cons (.set 3 AAc) (.cons (.set 4 ACV) (.cons (.ite (.cmp .isin (.var 3) (.tup AAa)) (.cons (.ret (.and (.cons ADH (.cons (.call 8 (.cons AAb AAT)) .nil)))) .nil) .nil) (.cons (.ite (.cmp .isin (.var 3) (.tup (.cons ACU (.cons ACY .nil)))) (.cons (.ret (.and (.cons ADH (.cons (.call 9 (.cons AAb (.cons (.var 1) (.cons AAG (.cons (.glob 5) .nil))))) .nil)))) .nil) .nil) (.cons (.ite (.cmp .eq (.var 3) ABp) (.cons (.ret (.and (.cons ADH (.cons (.call 9 (.cons AAb (.cons (.var 1) (.cons AAP (.cons (.glob 5) .nil))))) .nil)))) .nil) .nil) (.cons (.ite ACG (.cons (.ret (.and (.cons (.cmp .eq (.var 4) AAZ) (.cons (.call 9 (.cons AAb (.cons (.var 1) (.cons AAG (.cons (.glob 6) .nil))))) (.cons (.call 10 (.cons AAp (.cons (.bi .len AAb) .nil))) .nil))))) .nil) .nil) (.cons (.ite ADJ (.cons (.ret (.and (.cons (.cmp .eq (.var 4) (.con (.int 4))) (.cons (.cmp .lt (.var 2) (.glob 7)) (.cons (.call 12 (.cons (.var 0) (.cons (.var 1) ADY))) .nil))))) .nil) .nil) AAQ))))))))⟩
def eO(n:Nat)(p0 p1 p2:Sl):pg.fn (n+1) 11 [p0,p1,p2]=fin 3 (ex (pg.cf n) cZ.body [p0,p1,p2,.un,.un]):=aW (g:=cZ)
noncomputable def oH:Fn:=⟨3,3,(.cons (.ret (.and (.cons (.call 11 (.cons AAb AAR)) (.cons (.call 8 (.cons AAp AAT)) (.cons (.isi (.idx (.var 0) AAZ) .bool) .nil))))) .nil)⟩
def Hk(n:Nat)(p0 p1 p2:Sl):pg.fn (n+1) 12 [p0,p1,p2]=fin 3 (ex (pg.cf n) oH.body [p0,p1,p2]):=aW (g:=oH)
noncomputable def iY:Fn:=⟨1,1,ACo⟩
def mz(n:Nat)(p0:Sl):pg.fn (n+1) 13 [p0]=fin 1 (ex (pg.cf n) iY.body [p0]):=aW (g:=iY)
noncomputable def fc:Fn:=⟨2,3,(.cons (.set 2 (.bi .dict ACl)) (.cons (.ret (.comp 2 (.tup [0,1]) AAb AAj (.var 0))) .nil))⟩
def ph(n:Nat)(p0 p1:Sl):pg.fn (n+1) 14 [p0,p1]=fin 2 (ex (pg.cf n) fc.body [p0,p1,.un]):=aW (g:=fc)
noncomputable def Dw:Fn:=⟨3,5,(.cons (.set 3 AAc) (.cons (.ite (.cmp .eq (.var 3) ACi) (.cons (.ret ACm) .nil) .nil) (.cons (.ite ADS (.cons (.ret (.not ACm)) .nil) .nil) (.cons (.ite ADJ ADd .nil) (.cons (.set 4 (.bi .tuple (.comp 1 (.name 0) AAb AAL ABs))) (.cons (.ite (.cmp .eq (.var 3) ACU) ADR .nil) (.cons (.ite (.cmp .eq (.var 3) ACY) ADQ .nil) (.cons (.ite ACG ACv .nil) ABR))))))))⟩
def kZ(n:Nat)(p0 p1 p2:Sl):pg.fn (n+1) 15 [p0,p1,p2]=fin 3 (ex (pg.cf n) Dw.body [p0,p1,p2,.un,.un]):=aW (g:=Dw)
noncomputable def jE:Fn:=⟨3,5,(.cons (.set 3 (.call 15 (.cons AAb AAR))) (.cons (.set 4 (.cmp .eq (.idx (.var 2) AAp) (.var 3))) (.cons (.ret (.ite (.cmp .eq (.var 4) (.idx (.var 0) AAZ)) (.var 3) (.var 1))) .nil)))⟩
def yG(n:Nat)(p0 p1 p2:Sl):pg.fn (n+1) 16 [p0,p1,p2]=fin 3 (ex (pg.cf n) jE.body [p0,p1,p2,.un,.un]):=aW (g:=jE)
noncomputable def gj:Fn:=⟨2,2,(.cons (.ite (.not (.call 18 (.cons (.call 0 AAS) AAT))) ABJ .nil) (.cons (.ret (.var 1)) .nil))⟩
def qI(n:Nat)(p0 p1:Sl):pg.fn (n+1) 17 [p0,p1]=fin 2 (ex (pg.cf n) gj.body [p0,p1]):=aW (g:=gj)
noncomputable def oG:Fn:=⟨2,4,(.cons (.ite ACb AAQ .nil) (.cons (.set 2 ABt) (.cons (.ite AAo AAQ .nil) (.cons (.set 3 (.op .add AAc ABH)) (.cons (.ret (.bi .all ABg)) .nil)))))⟩
def Hi(n:Nat)(p0 p1:Sl):pg.fn (n+1) 18 [p0,p1]=fin 2 (ex (pg.cf n) oG.body [p0,p1,.un,.un]):=aW (g:=oG)
noncomputable def lG:Fn:=⟨3,3,(.cons (.ite (.or (.cons (.not (.call 3 (.cons (.var 0) (.cons AAH ABn)))) (.cons (.not (.bi .all ADZ)) .nil))) AAQ .nil) (.cons (.ite (.not (.call 9 (.cons (.bi .tuple (.comp 1 (.name 0) (.var 0) AAL AAc)) (.cons (.var 1) (.cons AAH ABn))))) AAQ .nil) (.cons (.ret (.bi .all ABe)) .nil)))⟩
def Bt(n:Nat)(p0 p1 p2:Sl):pg.fn (n+1) 19 [p0,p1,p2]=fin 3 (ex (pg.cf n) lG.body [p0,p1,p2]):=aW (g:=lG)
noncomputable def sJ:Fn:=⟨2,4,(.cons ABX (.cons ACg (.cons (.set 3 ABq) (.cons (.while_ (.var 3) AAe) (.cons (.ret ABq) .nil)))))⟩
def J5(n:Nat)(p0 p1:Sl):pg.fn (n+1) 20 [p0,p1]=fin 2 (ex (pg.cf n) sJ.body [p0,p1,.un,.un]):=aW (g:=sJ)
noncomputable def lA:Fn:=⟨3,4,(.cons (.set 3 ACp) (.cons (.ret (.op .add (.comp 1 (.name 0) AAc (.cmp .isin (.var 0) (.var 4)) (.var 0)) ABv)) .nil))⟩
def Bm(n:Nat)(p0 p1 p2:Sl):pg.fn (n+1) 22 [p0,p1,p2]=fin 3 (ex (pg.cf n) lA.body [p0,p1,p2,.un]):=aW (g:=lA)
noncomputable def iZ:Fn:=⟨3,3,(.cons (.ret (.and (.cons (.cmp .isin (.var 2) AAc) (.cons (.cmp .notin (.var 2) (.bi .dict (.idx AAb AAh))) .nil)))) .nil)⟩
def v9(n:Nat)(p0 p1 p2:Sl):pg.fn (n+1) 23 [p0,p1,p2]=fin 3 (ex (pg.cf n) iZ.body [p0,p1,p2]):=aW (g:=iZ)
noncomputable def m5:Fn:=⟨4,5,(.cons (.ite (.call 23 ADV) ABx .nil) (.cons (.set 4 ACp) (.cons (.ret (.tup (.cons (.call 25 (.cons (.var 0) (.cons ABN AAV))) (.cons (.get2 (.var 4) (.var 3) AAq) .nil)))) .nil)))⟩
def J7(n:Nat)(p0 p1 p2 p3:Sl):pg.fn (n+1) 24 [p0,p1,p2,p3]=fin 4 (ex (pg.cf n) m5.body [p0,p1,p2,p3,.un]):=aW (g:=m5)
noncomputable def oM:Fn:=⟨3,3,(.cons (.ret (.bi .tuple (.comp 2 (.tup [0,1]) ACl AAL (.ite ACk (.not (.var 1)) (.var 1))))) .nil)⟩
def Hn(n:Nat)(p0 p1 p2:Sl):pg.fn (n+1) 25 [p0,p1,p2]=fin 3 (ex (pg.cf n) oM.body [p0,p1,p2]):=aW (g:=oM)
noncomputable def jG:Fn:=⟨4,7,(.cons ADN (.cons (.for_ (.name 5) (.call 22 ABo) (.cons ADM (.cons (.ite (.and (.cons (.cmp .notN (.var 6) ABO) ACw)) ABQ .nil) .nil))) ABc))⟩
def yI(n:Nat)(p0 p1 p2 p3:Sl):pg.fn (n+1) 26 [p0,p1,p2,p3]=fin 4 (ex (pg.cf n) jG.body [p0,p1,p2,p3,.un,.un,.un]):=aW (g:=jG)
noncomputable def xP:Fn:=⟨2,5,(.cons ABX (.cons ACg (.cons (.set 3 ABq) (.cons (.while_ (.var 3) (.cons ABP (.cons (.ite (.cmp .notN (.var 4) ABO) ABc .nil) AAe))) ABx))))⟩
def QD(n:Nat)(p0 p1:Sl):pg.fn (n+1) 27 [p0,p1]=fin 2 (ex (pg.cf n) xP.body [p0,p1,.un,.un,.un]):=aW (g:=xP)
noncomputable def lK:Fn:=⟨4,7,(.cons (.set 4 (.call 22 ABo)) (.cons (.ite (.and (.cons (.not (.var 4)) (.cons (.call 29 AAR) .nil))) (.cons (.ret (.tup (.cons (.con (.str "stuck")) AAV))) .nil) .nil) (.cons (.for_ (.name 5) (.var 4) (.cons AAz (.cons (.ite (.cmp .notN (.var 6) ABO) (.cons (.ret (.var 6)) .nil) .nil) .nil))) ABx)))⟩
def Bw(n:Nat)(p0 p1 p2 p3:Sl):pg.fn (n+1) 28 [p0,p1,p2,p3]=fin 4 (ex (pg.cf n) lK.body [p0,p1,p2,p3,.un,.un,.un]):=aW (g:=lK)
noncomputable def oJ:Fn:=⟨2,2,(.cons (.ret (.bi .any (.comp 1 (.name 0) (.idx AAb AAh) AAL (.cmp .isin AAc ABH)))) .nil)⟩
def Hl(n:Nat)(p0 p1:Sl):pg.fn (n+1) 29 [p0,p1]=fin 2 (ex (pg.cf n) oJ.body [p0,p1]):=aW (g:=oJ)
noncomputable def fB:Fn:=⟨5,7,(.cons (.ite (.call 23 ADV) (.cons (.ret (.tup (.cons (.con (.str "unasked")) ADP))) .nil) .nil) (.cons (.set 5 (.call 14 (.cons (.var 0) (.cons (.idx (.call 24 (.cons (.var 0) ADV)) AAH) .nil)))) (.cons (.for_ (.name 6) ABv (.cons (.ite ABr ACJ .nil) .nil)) ABx)))⟩
def pA(n:Nat)(p0 p1 p2 p3 p4:Sl):pg.fn (n+1) 30 [p0,p1,p2,p3,p4]=fin 5 (ex (pg.cf n) fB.body [p0,p1,p2,p3,p4,.un,.un]):=aW (g:=fB)
noncomputable def Dz:Fn:=⟨2,4,(.cons (.set 2 (.call 0 AAS)) (.cons (.ite (.not (.isi (.var 1) .tup)) ABJ .nil) (.cons (.for_ (.name 3) (.var 1) (.cons (.ite (.not (.call 36 ABT)) ABJ .nil) ADX)) (.cons (.ret (.var 2)) .nil))))⟩
def Kc(n:Nat)(p0 p1:Sl):pg.fn (n+1) 31 [p0,p1]=fin 2 (ex (pg.cf n) Dz.body [p0,p1,.un,.un]):=aW (g:=Dz)
noncomputable def sO:Fn:=⟨2,4,(.cons ABX (.cons (.ite ADb ABJ .nil) (.cons (.ite (.cmp .dZ (.call 27 ADW) ABO) (.cons (.ret (.tup .nil)) .nil) .nil) (.cons (.set 2 .emp) (.cons (.for_ (.name 3) (.call 35 AAS) (.cons ABj (.cons (.ite (.cmp .dZ (.idx (.var 2) (.var 3)) ABO) (.cons (.ret (.tup AAV)) .nil) .nil) .nil))) ADc)))))⟩
def J6(n:Nat)(p0 p1:Sl):pg.fn (n+1) 32 [p0,p1]=fin 2 (ex (pg.cf n) sO.body [p0,p1,.un,.un]):=aW (g:=sO)
noncomputable def fj:Fn:=⟨3,7,(.cons (.set 3 ABq) (.cons (.for_ (.tup [4,5]) (.enum (.var 3)) (.cons (.for_ (.name 6) ACs (.cons (.ite AAi (.cons (.ite (.cmp .dZ ABm ABO) ACr .nil) .nil) .nil) .nil)) .nil)) ABx))⟩
def pq(n:Nat)(p0 p1 p2:Sl):pg.fn (n+1) 33 [p0,p1,p2]=fin 3 (ex (pg.cf n) fj.body [p0,p1,p2,.un,.un,.un,.un]):=aW (g:=fj)
noncomputable def lJ:Fn:=⟨2,2,(.cons (.ret (.or (.cons (.cmp .isin (.var 0) AAh) (.cons (.cmp .isin (.var 0) (.slc (.var 1) AAP .noneE)) .nil)))) .nil)⟩
def Bv(n:Nat)(p0 p1:Sl):pg.fn (n+1) 34 [p0,p1]=fin 2 (ex (pg.cf n) lJ.body [p0,p1]):=aW (g:=lJ)
noncomputable def jF:Fn:=⟨1,6,(.cons (.set 1 ABf) (.cons (.set 3 ABt) (.cons ADN (.cons (.for_ (.name 2) (.var 3) (.cons (.for_ (.name 5) (.var 1) (.cons (.extend 4 (.comp 1 (.name 0) (.tup ABy) (.call 36 ACI) (.tup AAr))) .nil)) .nil)) ABc))))⟩
def yH(n:Nat)(p0:Sl):pg.fn (n+1) 35 [p0]=fin 1 (ex (pg.cf n) jF.body [p0,.un,.un,.un,.un,.un]):=aW (g:=jF)
noncomputable def lH:Fn:=⟨2,3,(.cons (.set 2 (.bi .dict AAb)) (.cons (.ite (.or (.cons (.not (.call 3 (.cons (.var 1) (.cons AAZ ACS)))) (.cons (.not (.call 8 (.cons ABH ABY))) .nil))) AAQ .nil) (.cons (.ret (.call 11 (.cons (.call 38 (.cons (.idx (.var 2) ABH) AAT)) (.cons ABf ADK)))) .nil)))⟩
def Bu(n:Nat)(p0 p1:Sl):pg.fn (n+1) 36 [p0,p1]=fin 2 (ex (pg.cf n) lH.body [p0,p1,.un]):=aW (g:=lH)
noncomputable def iW:Fn:=⟨2,3,(.cons (.set 2 AAv) ABu)⟩
def v8(n:Nat)(p0 p1:Sl):pg.fn (n+1) 37 [p0,p1]=fin 2 (ex (pg.cf n) iW.body [p0,p1,.un]):=aW (g:=iW)
noncomputable def jM:Fn:=⟨2,2,(.cons (.ret (.tup (.cons AAu (.cons (.var 0) (.cons AAh (.cons (.idx (.var 1) AAP) .nil)))))) .nil)⟩
def yO(n:Nat)(p0 p1:Sl):pg.fn (n+1) 38 [p0,p1]=fin 2 (ex (pg.cf n) jM.body [p0,p1]):=aW (g:=jM)
noncomputable def dD:Fn:=⟨2,2,(.cons (.ite (.cmp .lt (.var 1) ACV) (.cons (.ret (.idx (.var 0) (.var 1))) .nil) .nil) (.cons (.ite (.cmp .eq (.var 0) ABw) (.cons (.ret AAH) .nil) .nil) (.cons (.ret (.op .add (.op .mul (.idx (.var 0) (.op .mod (.var 1) ACV)) (.con (.int 31))) (.var 1))) .nil)))⟩
def gK(n:Nat)(p0 p1:Sl):pg.fn (n+1) 39 [p0,p1]=fin 2 (ex (pg.cf n) dD.body [p0,p1]):=aW (g:=dD)
noncomputable def jJ:Fn:=⟨3,4,(.cons (.set 3 (.op .mod (.op .mul (.op .add (.op .add (.call 39 ADW) (.op .mul (.con (.int 7919)) (.var 1))) AAG) (.con (.int 48271))) (.con (.int 2147483647)))) (.cons (.ret (.op .mod (.op .mod (.op .add (.op .add (.op .mul (.var 3) (.var 3)) (.op .mul (.con (.int 7)) (.var 3))) (.var 1)) (.con (.int 2147483629))) (.var 2))) .nil))⟩
def yL(n:Nat)(p0 p1 p2:Sl):pg.fn (n+1) 40 [p0,p1,p2]=fin 3 (ex (pg.cf n) jJ.body [p0,p1,p2,.un]):=aW (g:=jJ)
noncomputable def lE:Fn:=⟨3,3,(.cons (.setIx 1 AAH (.op .add ABH AAG)) (.cons (.ret (.call 40 (.cons (.var 0) (.cons ABH ABY)))) .nil))⟩
def Br(n:Nat)(p0 p1 p2:Sl):pg.fn (n+1) 41 [p0,p1,p2]=fin 3 (ex (pg.cf n) lE.body [p0,p1,p2]):=aW (g:=lE)
noncomputable def lC:Fn:=⟨5,6,(.cons (.set 5 ABq) (.cons (.while_ AAx ABa) (.cons (.ret ACe) .nil)))⟩
def Bp(n:Nat)(p0 p1 p2 p3 p4:Sl):pg.fn (n+1) 42 [p0,p1,p2,p3,p4]=fin 5 (ex (pg.cf n) lC.body [p0,p1,p2,p3,p4,.un]):=aW (g:=lC)
noncomputable def jH:Fn:=⟨3,6,(.cons (.set 3 (.call 42 (.cons (.var 0) (.cons (.ref 1) (.cons (.var 2) (.cons AAG ACS)))))) (.cons (.set 4 (.lis (.cons (.tup .nil) .nil))) (.cons (.for_ (.name 5) (.var 3) (.cons (.set 4 (.op .add (.comp 1 (.name 0) (.var 4) AAL (.op .add (.var 0) (.tup (.cons (.con (.bl false)) .nil)))) (.comp 1 (.name 0) (.var 4) AAL (.op .add (.var 0) (.tup (.cons AAL .nil)))))) .nil)) (.cons (.ret (.tup (.cons (.con (.str "table")) (.cons (.var 3) (.cons (.bi .tuple (.bi .sorted (.comp 1 (.name 0) (.var 4) AAg (.var 0)))) .nil))))) .nil))))⟩
def yJ(n:Nat)(p0 p1 p2:Sl):pg.fn (n+1) 43 [p0,p1,p2]=fin 3 (ex (pg.cf n) jH.body [p0,p1,p2,.un,.un,.un]):=aW (g:=jH)
noncomputable def cX:Fn:=⟨4,6,(.cons (.set 4 (.call 41 (.cons (.var 0) (.cons (.ref 1) (.cons (.con (.int 9)) .nil))))) (.cons (.ite (.or (.cons (.cmp .lt (.var 4) (.con (.int 4))) (.cons (.cmp .lt (.bi .len (.var 2)) AAP) .nil))) (.cons (.ret (.tup (.cons (.idx (.lis AAa) (.op .mod (.var 4) AAP)) (.cons ABk .nil)))) .nil) .nil) (.cons (.ite (.cmp .lt (.var 4) (.con (.int 7))) (.cons (.ret (.tup (.cons (.idx (.lis (.cons ACU (.cons ACY (.cons ABp .nil)))) (.op .sub (.var 4) (.con (.int 4)))) (.cons (.call 42 (.cons (.var 0) (.cons (.ref 1) (.cons (.var 2) (.cons AAP ACS))))) .nil)))) .nil) .nil) (.cons (.ite (.or (.cons (.cmp .eq (.var 4) (.con (.int 7))) (.cons (.cmp .eq (.var 3) AAH) .nil))) (.cons (.ret (.call 43 (.cons (.var 0) (.cons (.ref 1) ABY)))) .nil) .nil) (.cons (.set 5 (.call 44 (.cons (.var 0) (.cons (.ref 1) (.cons (.var 2) (.cons (.op .sub (.var 3) AAG) .nil)))))) (.cons (.ret (.tup (.cons AAu (.cons (.var 5) (.cons ABk (.cons ACq .nil)))))) .nil))))))⟩
def iB(n:Nat)(p0 p1 p2 p3:Sl):pg.fn (n+1) 44 [p0,p1,p2,p3]=fin 4 (ex (pg.cf n) cX.body [p0,p1,p2,p3,.un,.un]):=aW (g:=cX)
noncomputable def oF:Fn:=⟨4,8,(.cons (.set 4 (.slc (.tup (.cons ABW (.cons ACQ (.cons (.con (.str "come")) .nil)))) .noneE (.call 41 (.cons (.var 0) (.cons (.ref 1) ADY))))) (.cons (.set 5 (.slc (.tup ABK) .noneE ACX)) (.cons ADU (.cons (.set 7 (.bi .tuple (.comp 1 (.name 0) (.var 5) AAL (.tup ABb)))) (.cons (.ret (.tup (.cons (.var 4) (.cons (.var 7) (.cons (.bi .tuple (.comp 1 (.name 0) (.var 6) AAL AAg)) .nil))))) .nil)))))⟩
def Hh(n:Nat)(p0 p1 p2 p3:Sl):pg.fn (n+1) 45 [p0,p1,p2,p3]=fin 4 (ex (pg.cf n) oF.body [p0,p1,p2,p3,.un,.un,.un,.un]):=aW (g:=oF)
noncomputable def lB:Fn:=⟨4,9,(.cons (.set 4 (.bi .tuple (.comp 1 (.name 0) AAq ABG AAc))) (.cons (.set 5 ACX) (.cons (.set 6 ABw) (.cons (.for_ (.name 7) (.range1 (.var 5)) (.cons (.set 8 (.comp 1 (.name 0) ACz AAg (.var 0))) (.cons (.append 6 (.bi .tuple (.comp 1 (.name 0) (.var 8) AAL (.tup ACH)))) .nil))) (.cons (.ret (.tup (.cons (.var 4) (.cons (.bi .tuple (.var 6)) .nil)))) .nil)))))⟩
def Bo(n:Nat)(p0 p1 p2 p3:Sl):pg.fn (n+1) 46 [p0,p1,p2,p3]=fin 4 (ex (pg.cf n) lB.body [p0,p1,p2,p3,.un,.un,.un,.un,.un]):=aW (g:=lB)
noncomputable def lD:Fn:=⟨2,5,(.cons (.set 2 (.slc (.lis ABK) .noneE (.op .add AAZ (.call 41 (.cons (.var 0) (.cons (.ref 1) ACS)))))) (.cons (.set 3 ABw) (.cons (.for_ (.name 4) (.range1 (.bi .len (.var 2))) AAf) (.cons (.ret (.tup (.cons (.tup .nil) (.cons (.bi .tuple (.var 3)) (.cons (.bi .tuple (.comp 1 (.name 0) (.var 2) AAL AAg)) .nil))))) .nil))))⟩
def Bq(n:Nat)(p0 p1:Sl):pg.fn (n+1) 47 [p0,p1]=fin 2 (ex (pg.cf n) lD.body [p0,p1,.un,.un,.un]):=aW (g:=lD)
noncomputable def jK:Fn:=⟨2,8,(.cons (.set 2 (.slc (.lis (.cons ACd (.cons ACc (.cons (.con (.str "rr")) (.cons (.con (.str "go")) .nil))))) .noneE (.op .add AAG (.call 41 (.cons (.var 0) (.cons (.ref 1) ABd)))))) (.cons (.set 3 ABW) (.cons (.set 4 (.lis (.cons ACq .nil))) (.cons (.set 5 ABw) (.cons (.for_ (.name 6) (.var 2) (.cons (.set 7 AAd) AAl)) (.cons (.ret (.tup (.cons (.tup (.cons (.tup (.cons ABW .nil)) (.cons ACe ACW))) (.cons (.tup (.cons (.tup (.cons (.idx (.var 2) (.neg AAG)) .nil)) (.cons (.tup (.cons (.tup (.cons (.tup (.cons ABW ADL)) .nil)) (.cons (.tup (.cons (.tup (.cons (.idx (.var 2) (.neg AAG)) ADK)) .nil)) .nil))) .nil))) .nil)))) .nil))))))⟩
def yM(n:Nat)(p0 p1:Sl):pg.fn (n+1) 48 [p0,p1]=fin 2 (ex (pg.cf n) jK.body [p0,p1,.un,.un,.un,.un,.un,.un]):=aW (g:=jK)
noncomputable def aH:Fn:=⟨2,8,(.cons (.set 2 (.call 41 (.cons (.var 0) (.cons (.ref 1) (.cons (.con (.int 6)) .nil))))) (.cons (.set 3 (.tup (.cons (.idx (.lis (.cons ABp (.cons ABp (.cons ACU (.cons ACY (.cons ABp (.cons ABp .nil))))))) (.var 2)) (.cons (.tup (.cons ABW (.cons ACQ .nil))) .nil)))) (.cons (.ite (.cmp .gt (.var 2) AAZ) (.cons (.set 3 (.tup (.cons AAu (.cons (.tup (.cons ACi (.cons ABW .nil))) (.cons ACQ (.cons AAL .nil)))))) .nil) .nil) (.cons (.set 4 (.tup (.cons (.tup (.cons (.tup (.cons ABW ADL)) (.cons (.tup (.cons ACQ (.cons AAP .nil))) .nil))) (.cons (.tup (.cons (.tup (.cons ACQ ACS)) .nil)) (.cons (.tup (.cons (.tup (.cons ABW ACS)) .nil)) (.cons (.tup (.cons (.tup (.cons ACd ADK)) .nil)) .nil)))))) (.cons (.set 5 (.lis (.cons (.tup (.cons ACd AAV)) .nil))) (.cons (.ite ACq (.cons (.append 5 (.tup (.cons ACc (.cons (.tup (.cons (.idx (.lis AAa) AAd) (.cons ACd .nil))) .nil)))) .nil) .nil) (.cons (.set 6 ACq) (.cons (.set 7 (.lis (.cons (.var 6) (.cons (.var 6) ABI)))) (.cons (.ite (.cmp .gt (.bi .len (.var 5)) AAG) (.cons (.append 7 (.cmp .eq (.var 6) (.cmp .eq (.idx (.idx (.idx (.var 5) AAG) AAG) AAH) ACi))) .nil) .nil) (.cons (.ret (.tup (.cons (.tup (.cons (.tup (.cons ABW (.cons ACQ .nil))) (.cons ACe (.cons (.bi .tuple (.var 7)) .nil)))) (.cons (.tup (.cons (.tup (.cons ACd .nil)) ADP)) .nil)))) .nil))))))))))⟩
def gJ(n:Nat)(p0 p1:Sl):pg.fn (n+1) 49 [p0,p1]=fin 2 (ex (pg.cf n) aH.body [p0,p1,.un,.un,.un,.un,.un,.un]):=aW (g:=aH)
noncomputable def cT:Fn:=⟨3,6,(.cons (.set 3 (.op .add ABN (.bi .tuple (.comp 1 (.name 0) AAq AAL AAc)))) (.cons (.set 4 (.call 41 (.cons (.var 0) (.cons (.ref 1) (.cons (.bi .len AAq) .nil))))) (.cons (.set 5 (.bi .list AAq)) (.cons (.setIx 5 (.var 4) (.tup (.cons (.idx (.idx (.var 5) (.var 4)) AAH) (.cons (.call 44 (.cons (.var 0) (.cons (.ref 1) (.cons (.var 3) ADL)))) .nil)))) (.cons (.ret (.tup (.cons ABN (.cons ACe (.cons (.idx (.var 2) AAP) .nil))))) .nil)))))⟩
def mC(n:Nat)(p0 p1 p2:Sl):pg.fn (n+1) 50 [p0,p1,p2]=fin 3 (ex (pg.cf n) cT.body [p0,p1,p2,.un,.un,.un]):=aW (g:=cT)
noncomputable def bM:Fn:=⟨2,6,(.cons (.set 2 (.lis AAT)) (.cons (.set 3 (.call 41 (.cons (.var 0) (.cons (.ref 2) (.cons (.con (.int 8)) .nil))))) (.cons (.ite (.cmp .lt (.var 3) AAP) (.cons (.set 4 (.call 45 (.cons (.var 0) (.cons (.ref 2) (.cons AAP ABd))))) (.cons (.ret (.tup (.cons (.var 4) (.cons (.call 46 (.cons (.var 0) (.cons (.ref 2) (.cons (.var 4) ABd)))) .nil)))) .nil)) .nil) (.cons (.ite (.cmp .eq (.var 3) AAP) (.cons (.ret (.tup (.cons (.call 45 (.cons (.var 0) (.cons (.ref 2) (.cons AAH ABd)))) (.cons (.tup (.cons (.tup .nil) (.cons (.tup (.cons (.tup .nil) .nil)) .nil))) .nil)))) .nil) .nil) (.cons (.ite (.cmp .eq (.var 3) AAZ) (.cons (.set 4 (.call 47 ACP)) (.cons (.ite ACM (.cons (.ret (.tup (.cons (.var 4) (.cons (.tup (.cons (.tup .nil) (.cons (.tup (.cons (.tup .nil) .nil)) .nil))) .nil)))) .nil) .nil) (.cons (.ret (.tup (.cons (.var 4) (.cons (.tup (.cons (.tup (.cons ACc .nil)) (.cons (.tup (.cons (.tup (.cons (.tup (.cons ACc ADL)) .nil)) (.cons (.tup (.cons (.tup (.cons ACc ADK)) .nil)) .nil))) .nil))) .nil)))) .nil))) .nil) (.cons (.ite (.cmp .lt (.var 3) (.con (.int 6))) (.cons (.setT [4,5] (.call 48 ACP)) .nil) (.cons (.setT [4,5] (.call 49 ACP)) .nil)) (.cons (.ite (.and (.cons (.cmp .eq (.op .mod (.var 3) AAP) AAG) (.cons ACM .nil))) (.cons (.set 4 (.call 50 (.cons (.var 0) (.cons (.ref 2) ADP)))) .nil) .nil) (.cons (.ret (.tup (.cons (.var 4) (.cons (.var 5) .nil)))) .nil))))))))⟩
def dH(n:Nat)(p0 p1:Sl):pg.fn (n+1) 51 [p0,p1]=fin 2 (ex (pg.cf n) bM.body [p0,p1,.un,.un,.un,.un]):=aW (g:=bM)
noncomputable def o8:Fn:=⟨1,1,ACo⟩
def yK(n:Nat)(p0:Sl):pg.fn (n+1) 52 [p0]=fin 1 (ex (pg.cf n) o8.body [p0]):=aW (g:=o8)
noncomputable def dN:Fn:=⟨2,2,(.cons (.ite (.cmp .eq AAc AAu) ABL .nil) (.cons (.ite ABi ACR .nil) (.cons (.ret (.op .add (.tup (.cons AAc (.cons (.bi .tuple (.comp 1 (.name 0) AAb AAL (.idx (.var 2) (.var 0)))) .nil))) (.slc (.var 0) AAP .noneE))) .nil)))⟩
def bF(n:Nat)(p0 p1:Sl):pg.fn (n+1) 53 [p0,p1]=fin 2 (ex (pg.cf n) dN.body [p0,p1]):=aW (g:=dN)
noncomputable def gQ:Fn:=⟨3,7,(.cons (.set 3 (.bi .tuple ABM)) (.cons ADN (.cons (.for_ (.name 5) AAh (.cons (.append 4 (.bi .tuple ABz)) .nil)) (.cons (.set 6 (.bi .tuple (.comp 1 (.name 0) ABH AAL ABs))) (.cons (.ret (.tup (.cons (.tup (.cons (.bi .tuple (.comp 1 (.name 0) AAc AAL ABs)) ADe)) (.cons (.tup (.cons (.var 6) ACW)) .nil)))) .nil)))))⟩
def tO(n:Nat)(p0 p1 p2:Sl):pg.fn (n+1) 54 [p0,p1,p2]=fin 3 (ex (pg.cf n) gQ.body [p0,p1,p2,.un,.un,.un,.un]):=aW (g:=gQ)
noncomputable def Oe:Fn:=⟨1,12,(.cons ABV (.cons (.set 3 AAk) (.cons AAy (.cons (.set 5 ABU) (.cons ACf (.cons (.ite ACL AAQ .nil) (.cons ACy (.cons ACx (.cons (.ite (.cmp .dZ (.var 8) ABO) (.cons (.ret (.cmp .dZ (.var 9) ABO)) .nil) .nil) (.cons (.set 10 (.op .add (.tup (.cons (.idx (.var 8) AAH) (.cons ACT .nil))) (.bi .tuple ACN))) (.cons (.ite ACh AAQ .nil) (.cons (.ite AAn ADG .nil) (.cons ACu (.cons (.ite (.cmp .dZ (.var 11) ABO) (.cons (.ret (.cmp .dZ ADa ABO)) .nil) .nil) (.cons (.ret (.cmp .eq ADa (.bi .tuple ACn))) .nil)))))))))))))))⟩
def abx(n:Nat)(p0:Sl):pg.fn (n+1) 55 [p0]=fin 1 (ex (pg.cf n) Oe.body [p0,.un,.un,.un,.un,.un,.un,.un,.un,.un,.un,.un]):=aW (g:=Oe)
end Tx
end
end
section
open PySem Mini
namespace Tx
abbrev sc(ns:List Int):D:=.lst (ns.map .int)
def Oi(ns:List Int)(i:Int)(h0:0<=i)(h:i<ns.length):∃r:Int,at? (ns.map D.int) i=some (.int r):=by
 unfold at? ix?
 rw[QAq,if_neg (by omega:¬i<0)]
 rw[if_pos ⟨h0,h⟩]
 have:i.toNat<ns.length:=by omega
 exact⟨ns[i.toNat],by simp[this]⟩
def Ld(ns:List Int):il (ns.map D.int)=true:=by
 induction ns with
 |nil=>rfl
 |cons i r ih=>simp[il,nd,ih]
def Iu(ns:List Int):dM (ns.map D.int)=0:=by
 induction ns with
 |nil=>rfl
 |cons i r ih=>simp[dM,dep,ih]
def M7(ns:List Int):aG .eq (.lst (ns.map .int)) (.lst [])=some ns.isEmpty:=by
 cases ns with
 |nil=>rfl
 |cons i ns=>simp[aG,rR,flat,nd,il,dep,dM,cM,pG,Ld,Iu]
def Dn n ns k(hk:0<=k):∃r:Int,pg.fn (n+1) 39 [.val (sc ns),.val (.int k)]=.ok (.val (.int r)) [.val (sc ns),.val (.int k)]:=by
 by_cases h:k<ns.length
 ·obtain⟨r,e⟩:=Oi ns k hk h
  exact⟨r,by rw[gK];simp[dD,h,e]⟩
 ·by_cases hn:ns=[]
  ·subst hn
   have h0:¬k<0:=by omega
   exact⟨0,by rw[gK];simp[dD,h0,aJ,fits,M7 []]⟩
  ·have hl':=List.length_pos_iff.mpr hn
   have hl:(0:Int)<ns.length:=by omega
   obtain⟨r,e⟩:=Oi ns (k%ns.length) (Int.emod_nonneg _ (by omega)) (Int.emod_lt_of_pos _ hl)
   have he:ns.isEmpty=false:=by simpa using hn
   exact⟨r*31+k,by rw[gK];simp[dD,h,e,aJ,fits,M7,he,hl,hl',small]⟩
@[simp]theorem ahO(n:Nat):(pg.cf n).fn=pg.fn n:=rfl
@[simp]theorem ahN(n:Nat):(pg.cf n).gl=pg.gl:=rfl
@[simp]theorem acV(n:Nat):(pg.cf n).turns=1000:=rfl
def zf n ns k many(hk:0<=k)(hm:0<many):∃r:Int,0<=r/\r<many/\
  pg.fn (n+2) 40 [.val (sc ns),.val (.int k),.val (.int many)]=.ok (.val (.int r)) [.val (sc ns),.val (.int k),.val (.int many)]:=by
 obtain⟨c,e⟩:=Dn n ns k hk
 have b:∀x:Int,small (x%2147483647)=true:=fun x=>by
  simp[small]
  omega
 have s1:small 7919=true:=by decide
 have s2:small 48271=true:=by decide
 refine⟨_,?_,?_,by rw[yL];simp[jJ,e,s1,s2,s3,b,hm];rfl⟩
 ·exact Int.emod_nonneg _ (by omega)
 ·exact Int.emod_lt_of_pos _ hm
def Pk{k:Int}(h:0<=k):0<=k+1:=Int.le_trans h (Int.le_add_one (Int.le_refl k))
def bC n ns k many(hk:0<=k)(hm:0<many):∃r:Int,0<=r/\r<many/\
  pg.fn (n+3) 41 [.val (sc ns),.bor (.lst [.int k]),.val (.int many)]=.ok (.val (.int r)) [.val (sc ns),.bor (.lst [.int (k+1)]),.val (.int many)]:=by
 obtain⟨r,h1,h2,e⟩:=zf n ns _ many (Pk hk) hm
 refine⟨r,h1,h2,?_⟩
 rw[Br]
 simp[lE,at?,ix?,nT,e]
end Tx
end
section
open PySem Mini
namespace Tx
def qj:E:=AAx
def yw:S:=ABa
abbrev someσ(ns:List Int)(k:Int)(xs:List D)(least most:Int)(row:List D):Ev:=[.val (sc ns),.bor (.lst [.int k]),.val (.tup xs),.val (.int least),.val (.int most),.own (.lst row)]
def JL n ns k(hk:0<=k)xs row least most(h0:0<row.length)(hf:row.length<=1000):
  ∃j:Nat,j<row.length/\ex (pg.cf (n+3)) yw (someσ ns k xs least most row)=.next (someσ ns (k+1) xs least most (row.eraseIdx j)):=by
 obtain⟨r,h1,h2,e⟩:=bC n ns k row.length hk (by omega)
 refine⟨r.toNat,by omega,?_⟩
 have f:fits row.length=true:=by simp[fits];omega
 have hx:ix? row.length r=some r.toNat:=by
  unfold ix?
  rw[if_neg (by omega:¬r<0),if_pos ⟨h1,h2⟩]
 have hr:row[r.toNat]? =some _:=QXq (by omega)
 simp[yw,e,di,qK,f,hx,hr,wA]
theorem G7(n:Nat)(ns:List Int)(xs:List D)(least most:Int)(hx:xs.length<=1000)(hl:0<=least)(hlm:least<=most):∀(L:Nat)(row:List D)(k:Int)(fuel:Nat),row.length=L->L<fuel->0<=k->row.Sublist xs->least<=row.length->
  ∃ys k',ys.Sublist xs/\least<=ys.length/\ys.length<=most/\0<=k'/\cG (ev (pg.cf (n+3)) qj) (ex (pg.cf (n+3)) yw) fuel (someσ ns k xs least most row)=.next (someσ ns k' xs least most ys):=by
 intro L
 induction L with
 |zero=>
  intro row k fuel hL hf hk hs hr
  obtain⟨fuel,rfl⟩:∃f,fuel=f+1:=⟨fuel-1,by omega⟩
  have:¬least<row.length:=by omega
  exact⟨row,k,hs,hr,by omega,hk,by simp[cG,qj,this]⟩
 |succ L ih=>
  intro row k fuel hL hf hk hs hr
  obtain⟨fuel,rfl⟩:∃f,fuel=f+1:=⟨fuel-1,by omega⟩
  have hrl:=hs.length_le
  by_cases h1:least<row.length
  ·--the row is longer than the least
   have cont:∀k1:Int,0<=k1->∃ys k',ys.Sublist xs/\least<=ys.length/\ys.length<=most/\0<=k'/\
     (ex _ yw _).turn _=.next (someσ ns k' xs least most ys):=fun k1 hk1=>by
    obtain⟨j,hj,e⟩:=JL n ns k1 hk1 xs row least most (by omega) (by omega)
    have el:(row.eraseIdx j).length=L:=by rw[List.length_eraseIdx_of_lt hj];omega
    obtain⟨ys,k',a1,a2,a3,a4,a5⟩:=ih _ (k1+1) fuel el (by omega) (by omega) ((List.eraseIdx_sublist row j).trans hs) (by omega)
    exact⟨ys,k',a1,a2,a3,a4,by rw[e];exact a5⟩
   by_cases h2:most<row.length
   ·obtain⟨ys,k',a1,a2,a3,a4,a5⟩:=cont k hk
    refine⟨ys,k',a1,a2,a3,a4,?_⟩
    rw[<-a5]
    simp[cG,qj,h1,h2]
   ·obtain⟨r,b1,b2,e⟩:=bC n ns k 2 hk (by omega)
    by_cases h3:r=1
    ·subst h3
     obtain⟨ys,k',a1,a2,a3,a4,a5⟩:=cont (k+1) (by omega)
     refine⟨ys,k',a1,a2,a3,a4,?_⟩
     rw[<-a5]
     simp[cG,qj,h1,h2,e]
    ·exact⟨row,k+1,hs,by omega,by omega,by omega,by simp[cG,qj,h1,h2,e,h3]⟩
  ·exact⟨row,k,hs,by omega,by omega,hk,by simp[cG,qj,h1]⟩
def Ed n ns k(hk:0<=k)xs least most(hx:xs.length<=900)(hl:0<=least)(hlm:least<=most)(hxl:least<=xs.length):
  ∃ys k',ys.Sublist xs/\least<=ys.length/\ys.length<=most/\0<=k'/\
   pg.fn (n+4) 42 [.val (sc ns),.bor (.lst [.int k]),.val (.tup xs),.val (.int least),.val (.int most)]=.ok (.val (.tup ys)) [.val (sc ns),.bor (.lst [.int k']),.val (.tup xs),.val (.int least),.val (.int most)]:=by
 obtain⟨ys,k',a1,a2,a3,a4,a5⟩:=G7 n ns xs least most (by omega) hl hlm xs.length xs k 1000 rfl (by omega) hk (List.Sublist.refl _) hxl
 refine⟨ys,k',a1,a2,a3,a4,?_⟩
 rw[Bp]
 have hb:lC.body=.cons _ (.cons (.while_ qj yw) _):=rfl
 rw[hb]
 simp[a5]
end Tx
end
section
open PySem Mini
namespace Tx
def tB(s:Sl):Prop:=s=.un\/∃d,s=.val d
def ju(h:tB s)d(r:Ev):bz (.name 0) d (s::r)=some (.val d::r):=by
 rcases h with rfl|⟨e,rfl⟩<;>simp[bz]
def o7:E:=AAg
def xH n ns k(hk:0<=k)d(rest:Ev):∃b:Bool,ev (pg.cf (n+3)) o7 (.val d:: .val (sc ns):: .bor (.lst [.int k])::rest)=.ok (.val (.bl b)) (.val d:: .val (sc ns):: .bor (.lst [.int (k+1)])::rest):=by
 obtain⟨r,h1,h2,e⟩:=bC n ns k 2 hk (by omega)
 exact⟨r==1,by simp[o7,e]⟩
theorem Ny(n:Nat)(ns:List Int)(rest:Ev):∀(xs acc:List D)(k:Int)(s:Sl),0<=k->tB s->∃bs k' s',bs.length=xs.length/\0<=k'/\tB s'/\
  aP (.name 0) (ev (pg.cf (n+3)) o7) (ev (pg.cf (n+3)) (.var 0)) xs acc (s:: .val (sc ns):: .bor (.lst [.int k])::rest)=.ok (acc++mJ bs xs) (s':: .val (sc ns):: .bor (.lst [.int k'])::rest)
 |[]=>fun acc k s hk hs=>⟨[],k,s,rfl,hk,hs,by simp[aP,mJ]⟩
 |x::xs=>fun acc k s hk hs=>by
  obtain⟨b,e⟩:=xH n ns k hk x rest
  cases b with
  |true=>
   obtain⟨bs,k',s',a1,a2,a3,a4⟩:=Ny n ns rest xs _ (k+1) _ (by omega) (.inr ⟨x,rfl⟩)
   refine⟨true::bs,k',s',by simp[a1],a2,a3,?_⟩
   rw[aP,ju hs]
   simp only[e,dC,if_true]
   have e0:ev (pg.cf (n+3)) (.var 0) (.val x:: .val (sc ns):: .bor (.lst [.int (k+1)])::rest)=.ok (.val x) (.val x:: .val (sc ns):: .bor (.lst [.int (k+1)])::rest):=by simp
   rw[e0,bU,a4]
   simp[mJ]
  |false=>
   obtain⟨bs,k',s',a1,a2,a3,a4⟩:=Ny n ns rest xs acc (k+1) _ (by omega) (.inr ⟨x,rfl⟩)
   refine⟨false::bs,k',s',by simp[a1],a2,a3,?_⟩
   rw[aP,ju hs]
   simp only[e,dC,Qxq,if_false]
   rw[a4]
   simp[mJ]
noncomputable def SM(b:Bool):E:=(.comp 1 (.name 0) (.var 4) AAL (.op .add (.var 0) (.tup (.cons (.con (.bl b)) .nil))))
def v7:S:=(.cons (.set 4 (.op .add (SM false) (SM true))) .nil)
theorem Ov(c:Cf)(b:Bool)(rest:Ev):∀(rs:List (List Bool))(acc:List D)(s:Sl),tB s->(∀r∈rs,r.length<=1000)->∃s',tB s'/\
  aP (.name 0) (ev c AAL) (ev c (.op .add (.var 0) (.tup (.cons (.con (.bl b)) .nil)))) (rs.map aO) acc (s::rest)=.ok (acc++(rs.map (· ++[b])).map aO) (s'::rest)
 |[]=>fun acc s hs _=>⟨s,hs,by simp[aP]⟩
 |r::rs=>fun acc s hs hl=>by
  obtain⟨s',a1,a2⟩:=Ov c b rest rs _ _ (.inr ⟨_,rfl⟩) fun q hq=>hl q (QYq _ hq)
  have h1:=hl r QYz
  refine⟨s',a1,?_⟩
  rw[Qyz,aP,ju hs]
  have e0:ev c (.op .add (.var 0) (.tup (.cons (.con (.bl b)) .nil))) (.val (aO r)::rest)=.ok (.val (aO (r++[b]))) (.val (aO r)::rest):=by
   have f:fits (r.length+1)=true:=by simp[fits];omega
   simp[aJ,aO,f]
  have e1:ev c AAL (.val (aO r)::rest)=.ok (.val (.bl true)) (.val (aO r)::rest):=by simp
  simp only[e1,dC,if_true]
  rw[e0,bU,a2]
  simp
def Ow c b(rs:List (List Bool))(hl:∀r∈rs,r.length<=1000)(hs:s=.own (.lst (rs.map aO))\/s=.val (.lst (rs.map aO)))s0 s1 s2 s3 s5:ev c (SM b) [s0,s1,s2,s3,s,s5]=.ok (.new (.lst ((rs.map (· ++[b])).map aO))) [s0,s1,s2,s3,.val (.lst (rs.map aO)),s5]:=by
 obtain⟨s',_,a⟩:=Ov c b [s0,s1,s2,s3,.val _,s5] rs [] .un (.inl rfl) hl
 have h:ev c (.var 4) [s0,s1,s2,s3,s,s5]=.ok (.val (.lst (rs.map aO))) [s0,s1,s2,s3,.val (.lst (rs.map aO)),s5]:=by
  rcases hs with rfl|rfl<;>simp
 unfold SM
 rw[lX,h,bU]
 simp only[items]
 rw[show List.replicate 1 Sl.un++[s0,s1,s2,s3,.val _,s5]=Sl.un::[s0,s1,s2,s3,.val _,s5]from rfl,a]
 simp
def Hf c(rs:List (List Bool))(hl:∀r∈rs,r.length<=1000)(hn:rs.length<=1000)(hs:s=.own (.lst (rs.map aO)))s0 s1 s2 s3 s5:
  ex c v7 [s0,s1,s2,s3,s,s5]=.next [s0,s1,s2,s3,.own (.lst ((rs.map (· ++[false])++rs.map (· ++[true])).map aO)),s5]:=by
 have f:fits (rs.length+rs.length)=true:=by simp[fits];omega
 unfold v7
 simp only[x_0,x_1,x_5,v_5]
 rw[Ow c false rs hl (.inl hs),j9]
 rw[Ow c true rs hl (.inr rfl),j9]
 simp[f]
theorem uz(c:Cf)(s0 s1 s2 s3:Sl):∀(ys:List D)(k:Nat)(s5:Sl),tB s5->k+ys.length<=9->∃s5',tB s5'/\aZ (.name 5) (ex c v7) ys [s0,s1,s2,s3,.own (.lst ((dO k).map aO)),s5]=.next [s0,s1,s2,s3,.own (.lst ((dO (k+ys.length)).map aO)),s5']
 |[]=>fun k s5 h5 _=>⟨s5,h5,by simp[aZ]⟩
 |y::ys=>fun k s5 h5 hk=>by
  simp only[QBq]at hk
  obtain⟨s5',a1,a2⟩:=uz c s0 s1 s2 s3 ys (k+1) _ (.inr ⟨y,rfl⟩) (by omega)
  refine⟨s5',a1,?_⟩
  have st:bz (.name 5) y [s0,s1,s2,s3,.own (.lst ((dO k).map aO)),s5]=some [s0,s1,s2,s3,.own (.lst ((dO k).map aO)),.val y]:=by
   rcases h5 with rfl|⟨e,rfl⟩<;>simp[bz]
  have lens:∀k,∀r∈dO k,r.length=k:=by
   intro k
   induction k with
   |zero=>intro r hr;simp[dO]at hr;subst hr;rfl
   |succ k ih=>
    intro r hr
    simp only[dO,QXz,QDq]at hr
    rcases hr with ⟨q,hq,rfl⟩|⟨q,hq,rfl⟩<;>simp[ih q hq]
  have hn:(dO k).length<=1000:=by
   rw[nJ]
   have:2 ^k<=2 ^9:=Nat.pow_le_pow_right (by omega) (by omega)
   omega
  rw[aZ,st]
  simp only
  rw[Hf c _ (fun r hr=>by rw[lens k r hr];omega) hn rfl,nC]
  rw[show(dO k).map _++(dO k).map _=dO (k+1)from rfl,a2]
  rw[show k+1+ys.length=k+(y::ys).length by simp;omega]
def pP:E:=.comp 1 (.name 0) (.var 4) o7 (.var 0)
def Dh n ns k(hk:0<=k)zs s2 s3 s5:∃bs k',bs.length=zs.length/\0<=k'/\
  ev (pg.cf (n+3)) pP [.val (sc ns),.bor (.lst [.int k]),s2,s3,.own (.lst zs),s5]=.ok (.new (.lst (mJ bs zs))) [.val (sc ns),.bor (.lst [.int k']),s2,s3,.val (.lst zs),s5]:=by
 obtain⟨bs,k',s',c1,c2,c3,c4⟩:=Ny n ns [s2,s3,.val _,s5] zs [] k .un hk (.inl rfl)
 refine⟨bs,k',c1,c2,?_⟩
 have h:ev (pg.cf (n+3)) (.var 4) [.val (sc ns),.bor (.lst [.int k]),s2,s3,.own (.lst zs),s5]=.ok (.val (.lst zs)) [.val (sc ns),.bor (.lst [.int k]),s2,s3,.val (.lst zs),s5]:=by simp
 unfold pP
 rw[lX,h,bU]
 simp only[items]
 rw[show List.replicate 1 Sl.un++[.val _,.bor _,s2,s3,.val _,s5]=Sl.un:: .val _:: .bor _::[s2,s3,.val _,s5]from rfl,c4]
 simp
def Jz n ns k(hk:0<=k)xs(hx:xs.length<=900)(h1:1<=xs.length):
  ∃ys rs k',ys.Sublist xs/\1<=ys.length/\ys.length<=3/\(∀r∈rs,r.length=ys.length)/\zF rs=true/\0<=k'/\
   pg.fn (n+5) 43 [.val (sc ns),.bor (.lst [.int k]),.val (.tup xs)]=.ok (.val (.tup [.str "table",.tup ys,.tup (rs.map aO)])) [.val (sc ns),.bor (.lst [.int k']),.val (.tup xs)]:=by
 obtain⟨ys,k1,a1,a2,a3,a4,a5⟩:=Ed n ns k hk xs 1 3 hx (by omega) (by omega) (by omega)
 obtain⟨s5,b1,b2⟩:=uz (pg.cf (n+4)) (.val (sc ns)) (.bor (.lst [.int k1])) (.val (.tup xs)) (.val (.tup ys)) ys 0 .un (.inl rfl) (by omega)
 obtain⟨bs,k2,c1,c2,c4⟩:=Dh (n+1) ns k1 a4 ((dO ys.length).map aO) (.val (.tup xs)) (.val (.tup ys)) s5
 rw[QAq,nJ]at c1
 obtain⟨rs,d1,d2,d3⟩:=G6 ys.length (by omega) (by omega) bs c1
 refine⟨ys,rs,k2,a1,by omega,by omega,d2,d3,c2,?_⟩
 rw[yJ]
 have hb:jH=⟨3,6,.cons _ (.cons _ (.cons (.for_ _ _ v7)
  (.cons (.ret (.tup (.cons _ (.cons _ (.cons (.bi .tuple (.bi .sorted pP)) .nil))))) .nil)))⟩:=rfl
 rw[hb]
 have e1:([D.tup []])=(dO 0).map aO:=rfl
 have e2:(dO 0).length=1:=rfl
 have q:pP.aq=none:=rfl
 simp[a5,aJ,items,e1,e2,b2,c4,d1,q]
end Tx
end
section
open PySem Mini
namespace Tx
inductive bu(xs:List D):Nat->D->Prop
 |same {n:Nat} {x:D}:x∈xs->bu xs n (.tup [.str "same",x])
 |not {n:Nat} {x:D}:x∈xs->bu xs n (.tup [.str "not",x])
 |and {n:Nat} {ys:List D}:ys.Sublist xs->2<=ys.length->ys.length<=3->bu xs n (.tup [.str "and",.tup ys])
 |or {n:Nat} {ys:List D}:ys.Sublist xs->2<=ys.length->ys.length<=3->bu xs n (.tup [.str "or",.tup ys])
 |both {n:Nat} {ys:List D}:ys.Sublist xs->2<=ys.length->ys.length<=3->bu xs n (.tup [.str "both",.tup ys])
 |table {n:Nat} {ys:List D} {rs:List (List Bool)}:ys.Sublist xs->1<=ys.length->ys.length<=3->(∀r∈rs,r.length=ys.length)->zF rs=true->bu xs n (.tup [.str "table",.tup ys,.tup (rs.map aO)])
 |held {n:Nat} {k x:D} {b:Bool}:bu xs n k->x∈xs->bu xs (n+1) (.tup [.str "held",k,x,.bl b])
def bu.up{xs:List D}{k:Nat}{d:D}(h:bu xs k d):∀{m:Nat},k<=m->bu xs m d:=by
 induction h with
 |same h=>intro m _;exact .same h
 |not h=>intro m _;exact .not h
 |and a b c=>intro m _;exact .and a b c
 |or a b c=>intro m _;exact .or a b c
 |both a b c=>intro m _;exact .both a b c
 |table a b c d e=>intro m _;exact .table a b c d e
 |held _ hx ih=>
  intro m hm
  obtain⟨m,rfl⟩:∃q,m=q+1:=⟨m-1,by omega⟩
  exact .held (ih (by omega)) hx
def Oh xs r(h1:0<=r)(h2:r<xs.length):∃d,at? xs r=some d/\d∈xs:=by
 unfold at? ix?
 rw[if_neg (Int.not_lt.mpr h1),if_pos ⟨h1,h2⟩]
 have:=(Int.toNat_lt h1).mpr h2
 exact⟨xs[r.toNat],by simp[this],List.getElem_mem this⟩
def Rp(r:Int):r%2=0\/r%2=1:=by omega
def M4{r:Int}(h1:¬r<4)(h2:r<7):r-4=0\/r-4=1\/r-4=2:=by omega
def eight{r:Int}(h1:¬r<7)(h2:r<9)(h3:¬r=7):r=8:=by omega
def YW(n:Nat):¬((n:Int)+1=0):=by omega
def uQ m ns xs(hx:xs.length<=900)(h1:1<=xs.length)deep
  (rec:∀dp,deep=dp+1->∀k:Int,0<=k->∃d k',bu xs dp d/\0<=k'/\pg.fn (m+5) 44 [.val (sc ns),.bor (.lst [.int k]),.val (.tup xs),.val (.int dp)]=.ok (.val d) [.val (sc ns),.bor (.lst [.int k']),.val (.tup xs),.val (.int dp)])
  k(hk:0<=k):∃d k',bu xs deep d/\0<=k'/\
  pg.fn (m+6) 44 [.val (sc ns),.bor (.lst [.int k]),.val (.tup xs),.val (.int deep)]=.ok (.val d) [.val (sc ns),.bor (.lst [.int k']),.val (.tup xs),.val (.int deep)]:=by
 obtain⟨r,r1,r2,er⟩:=bC (m+2) ns k 9 hk (by decide)
 have hk1:=Pk hk
 by_cases c1:r<4\/xs.length<2
 ·obtain⟨q,q1,q2,eq⟩:=bC (m+2) ns _ xs.length hk1 (Int.ofNat_lt.mpr h1)
  obtain⟨x,ex,mx⟩:=Oh xs q q1 q2
  obtain⟨w,ew,kw⟩:∃w,at? [.str "same",.str "not"] (r%2)=some _/\bu xs deep (.tup [.str w,x]):=by
   rcases Rp r with h|h<;>rw[h]
   ·exact⟨_,rfl,.same mx⟩
   ·exact⟨_,rfl,.not mx⟩
  refine⟨_,k+1+1,kw,Pk hk1,?_⟩
  rw[iB]
  by_cases c4:r<4
  ·simp[cX,er,c4,eq,ex,aJ,ew]
  ·have c6:=c1.resolve_left c4
   have c5:(xs.length:Int)<2:=Int.ofNat_lt.mpr c6
   simp[cX,er,c4,c5,c6,eq,ex,aJ,ew]
 ·have c2:¬r<4:=fun h=>c1 (.inl h)
  have c3':=fun h=>c1 (.inr h)
  have c3:¬(xs.length:Int)<2:=fun h=>c3' (Int.ofNat_lt.mp h)
  by_cases c7:r<7
  ·obtain⟨ys,k',a1,a2,a3,a4,a5⟩:=Ed (m+1) ns _ hk1 xs 2 3 hx (by decide) (by decide) (Int.not_lt.mp c3)
   have a2:=Int.ofNat_le.mp a2
   have a3:=Int.ofNat_le.mp a3
   obtain⟨w,ew,kw⟩:∃w,at? [.str "and",.str "or",.str "both"] (r-4)=some _/\bu xs deep (.tup [.str w,.tup ys]):=by
    rcases M4 c2 c7 with h|h|h<;>rw[h]
    ·exact⟨_,rfl,.and a1 a2 a3⟩
    ·exact⟨_,rfl,.or a1 a2 a3⟩
    ·exact⟨_,rfl,.both a1 a2 a3⟩
   exact⟨_,k',kw,a4,by rw[iB];simp[cX,er,c2,c3,c3',c7,a5,aJ,ew]⟩
  ·by_cases c8:r=7\/deep=0
   ·obtain⟨ys,rs,k',a1,a2,a3,a4,a5,a6,a7⟩:=Jz m ns _ hk1 xs hx h1
    refine⟨_,k',.table a1 a2 a3 a4 a5,a6,?_⟩
    rw[iB]
    by_cases c9:r=7
    ·subst c9
     simp[cX,er,c3,c3',a7]
    ·have c10:=c8.resolve_left c9
     subst c10
     simp[cX,er,c2,c3,c3',c7,c9,beq_false_of_ne c9,a7]
   ·obtain⟨dp,rfl⟩:=Nat.exists_eq_succ_of_ne_zero (fun h=>c8 (.inr h))
    have c9:=eight c7 r2 fun h=>c8 (.inl h)
    subst c9
    obtain⟨d,k1,b1,b2,b3⟩:=rec dp rfl _ hk1
    obtain⟨q,q1,q2,eq⟩:=bC (m+2) ns k1 xs.length b2 (Int.ofNat_lt.mpr h1)
    obtain⟨x,ex,mx⟩:=Oh xs q q1 q2
    obtain⟨z,z1,z2,ez⟩:=bC (m+2) ns _ 2 (Pk b2) (by decide)
    refine⟨_,k1+1+1,.held (b:=z==1) b1 mx,Pk (Pk b2),?_⟩
    rw[iB]
    have e1:=YW dp
    simp[cX,er,c3,c3',beq_false_of_ne e1,e1,(Int.add_sub_cancel _ _),b3,eq,ex,ez,aJ]
def agb m deep:m+deep+1+5=m+6+deep:=by omega
def aga m deep:m+6+(deep+1)=m+deep+1+6:=by omega
theorem wL ns xs(hx:xs.length<=900)(h1:1<=xs.length):∀(deep m:Nat)(k:Int),0<=k->∃d k',bu xs deep d/\0<=k'/\
  pg.fn (m+6+deep) 44 [.val (sc ns),.bor (.lst [.int k]),.val (.tup xs),.val (.int deep)]=.ok (.val d) [.val (sc ns),.bor (.lst [.int k']),.val (.tup xs),.val (.int deep)]
 |0=>fun m k hk=>uQ m ns xs hx h1 0 (fun dp h=>nomatch h) k hk
 |deep+1=>fun m k hk=>by
  have:=uQ _ ns xs hx h1 (deep+1) (fun dp h k hk=>by
   cases h
   rw[agb m deep]
   exact(wL ns xs hx h1 deep m k hk)) k hk
  rw[aga m deep]
  exact this
end Tx
end
section
open PySem Mini
namespace Tx
def FN:E:=(.tup ABb)
def Lx n ns k(hk:0<=k)xs(hx:xs.length<=900)(h1:1<=xs.length)x s3 s4 s5 s6 s8:∃d k',bu xs 1 d/\0<=k'/\
  ev (pg.cf (n+7)) FN [.val x,.val (sc ns),.bor (.lst [.int k]),s3,s4,s5,s6,.val (.tup xs),s8]=.ok (.val (.tup [x,d])) [.val x,.val (sc ns),.bor (.lst [.int k']),s3,s4,s5,s6,.val (.tup xs),s8]:=by
 obtain⟨d,k',a1,a2,a3⟩:=wL ns xs hx h1 1 n k hk
 refine⟨d,k',a1,a2,?_⟩
 simp only[Int.natCast_one,show n+6+1=n+7 from rfl]at a3
 simp[FN,a3,aJ]
theorem zz(n:Nat)(ns:List Int)(xs:List D)(hx:xs.length<=900)(h1:1<=xs.length)(s3 s4 s5 s6 s8:Sl):∀(row acc:List D)(k:Int)(s:Sl),0<=k->tB s->∃ks k' s',ks.length=row.length/\(∀d∈ks,bu xs 1 d)/\0<=k'/\tB s'/\
  aP (.name 0) (ev (pg.cf (n+7)) AAL) (ev (pg.cf (n+7)) FN) row acc [s,.val (sc ns),.bor (.lst [.int k]),s3,s4,s5,s6,.val (.tup xs),s8]
   =.ok (acc++aC row ks) [s',.val (sc ns),.bor (.lst [.int k']),s3,s4,s5,s6,.val (.tup xs),s8]
 |[]=>fun acc k s hk hs=>⟨[],k,s,rfl,fun d h=>(by cases h),hk,hs,by simp[aP,aC]⟩
 |x::row=>fun acc k s hk hs=>by
  obtain⟨d,k1,a1,a2,a3⟩:=Lx n ns k hk xs hx h1 x s3 s4 s5 s6 s8
  obtain⟨ks,k',s',b1,b2,b3,b4,b5⟩:=zz n ns xs hx h1 s3 s4 s5 s6 s8 row _ k1 _ a2 (.inr ⟨x,rfl⟩)
  refine⟨d::ks,k',s',by simp[b1],fun e h=>?_,b3,b4,?_⟩
  ·rcases QCq.mp h with rfl|h
   ·exact a1
   ·exact b2 e h
  ·rw[aP,ju hs]
   have e1:∀σ,ev (pg.cf (n+7)) AAL σ=.ok (.val (.bl true)) σ:=fun σ=>by simp
   simp only[e1,dC,if_true]
   rw[a3,bU,b5]
   simp[aC]
theorem rM(n:Nat)(ns:List Int)(rest:Ev):∀(xs acc:List D)(k:Int)(s:Sl),0<=k->tB s->∃(bs:List Bool)(k':Int)(s':Sl),bs.length=xs.length/\0<=k'/\tB s'/\
  aP (.name 0) (ev (pg.cf (n+3)) AAL) (ev (pg.cf (n+3)) o7) xs acc (s:: .val (sc ns):: .bor (.lst [.int k])::rest)=.ok (acc++bs.map .bl) (s':: .val (sc ns):: .bor (.lst [.int k'])::rest)
 |[]=>fun acc k s hk hs=>⟨[],k,s,rfl,hk,hs,by simp[aP]⟩
 |x::xs=>fun acc k s hk hs=>by
  obtain⟨b,e⟩:=xH n ns k hk x rest
  obtain⟨bs,k',s',a1,a2,a3,a4⟩:=rM n ns rest xs _ _ _ (Pk hk) (.inr ⟨x,rfl⟩)
  refine⟨b::bs,k',s',by simp[a1],a2,a3,?_⟩
  rw[aP,ju hs]
  have e1:∀σ,ev (pg.cf (n+3)) AAL σ=.ok (.val (.bl true)) σ:=fun σ=>by simp
  simp only[e1,dC,if_true]
  rw[e,bU,a4]
  simp
def Fd:E:=(.comp 1 (.name 0) (.var 5) AAL FN)
def Fz:E:=(.comp 1 (.name 0) (.var 6) AAL o7)
noncomputable def wC:S:=(.cons ADU (.cons (.set 7 (.bi .tuple Fd)) (.cons (.ret (.tup (.cons (.var 4) (.cons (.var 7) (.cons (.bi .tuple Fz) .nil))))) .nil)))
def K8 n ns k(hk:0<=k)ν row(hx:ν.length+row.length<=900)(h1:1<=row.length)s2 s3:∃(ks:List D)(ls:List Bool)(k':Int),ks.length=row.length/\(∀d∈ks,bu (ν++row) 1 d)/\ls.length=(ν++row).length/\0<=k'/\
  ex (pg.cf (n+7)) wC [.val (sc ns),.bor (.lst [.int k]),s2,s3,.val (.tup ν),.val (.tup row),.un,.un]
   =.ret (.val (.tup [.tup ν,.tup (aC row ks),.tup (ls.map .bl)])) [.val (sc ns),.bor (.lst [.int k']),s2,s3,.val (.tup ν),.val (.tup row),.val (.tup (ν++row)),.val (.tup (aC row ks))]:=by
 obtain⟨ks,k1,s',a1,a2,a3,a4,a5⟩:=zz n ns (ν++row) (by simpa using hx) (by simp;omega) s2 s3 _ _ .un row [] k .un hk (.inl rfl)
 obtain⟨ls,k',s'',b1,b2,b3,b4⟩:=rM _ ns [s2,s3,.val _,.val _,.val _,.val _] _ [] k1 .un a3 (.inl rfl)
 refine⟨ks,ls,k',a1,a2,b1,b2,?_⟩
 have f:fits (ν.length+row.length)=true:=by simp[fits];omega
 have em:ev (pg.cf (n+7)) Fd [.val (sc ns),.bor (.lst [.int k]),s2,s3,.val (.tup ν),.val (.tup row),.val (.tup (ν++row)),.un]=.ok (.new (.lst (aC row ks))) [.val (sc ns),.bor (.lst [.int k1]),s2,s3,.val (.tup ν),.val (.tup row),.val (.tup (ν++row)),.un]:=by
  have h:ev (pg.cf (n+7)) (.var 5) [.val (sc ns),.bor (.lst [.int k]),s2,s3,.val (.tup ν),.val (.tup row),.val (.tup (ν++row)),.un]=.ok (.val (.tup row)) [.val (sc ns),.bor (.lst [.int k]),s2,s3,.val (.tup ν),.val (.tup row),.val (.tup (ν++row)),.un]:=by simp
  unfold Fd
  rw[lX,h,bU]
  simp only[items]
  rw[show List.replicate 1 Sl.un++[.val _,.bor _,s2,s3,.val _,.val _,.val _,.un]=[.un,.val _,.bor _,s2,s3,.val _,.val _,.val _,.un]from rfl,a5]
  simp
 have el:ev (pg.cf (n+7)) Fz [.val (sc ns),.bor (.lst [.int k1]),s2,s3,.val (.tup ν),.val (.tup row),.val (.tup (ν++row)),.val (.tup (aC row ks))]=.ok (.new (.lst (ls.map .bl))) [.val (sc ns),.bor (.lst [.int k']),s2,s3,.val (.tup ν),.val (.tup row),.val (.tup (ν++row)),.val (.tup (aC row ks))]:=by
  have h:ev (pg.cf (n+7)) (.var 6) [.val (sc ns),.bor (.lst [.int k1]),s2,s3,.val (.tup ν),.val (.tup row),.val (.tup (ν++row)),.val (.tup (aC row ks))]=.ok (.val (.tup (ν++row))) [.val (sc ns),.bor (.lst [.int k1]),s2,s3,.val (.tup ν),.val (.tup row),.val (.tup (ν++row)),.val (.tup (aC row ks))]:=by simp
  unfold Fz
  rw[lX,h,bU]
  simp only[items]
  rw[show List.replicate 1 Sl.un++[.val _,.bor _,s2,s3,.val _,.val _,.val _,.val _]=.un:: .val _:: .bor _::[s2,s3,.val _,.val _,.val _,.val _]from rfl,b4]
  simp
 have q1:Fd.aq=none:=rfl
 have q2:Fz.aq=none:=rfl
 simp[wC,f,em,el,q1,q2,aJ]
def hd(h:Nat):List D:=([.str "a",.str "b",.str "come"]:List D).take h
def bh(g:Nat):List D:=([.str "p",.str "q",.str "rr",.str "go",.str "abcdef"]:List D).take g
def eZ(h2:h<=2):(hd h).length=h:=List.length_take_of_le (Nat.le_succ_of_le h2)
def cA(g4:g<=5):(bh g).length=g:=List.length_take_of_le g4
noncomputable def aY(h g:Nat)(ks:List D)(ls:List Bool):D:=.tup [.tup (hd h),.tup (aC (bh g) ks),.tup (ls.map .bl)]
structure m7(h g:Nat)(ks:List D)(ls:List Bool):Prop where
 h2:h<=2
 g1:1<=g
 g5:g<=5
 kl:ks.length=g
 kk:∀d∈ks,bu (hd h++bh g) 1 d
 ll:ls.length=h+g
def Xz{h:Nat}(i2:ni<=2)(r2:(h:Int)<ni+1):h<=2:=by omega
def K9 n ns k(hk:0<=k)ni(i0:0<=ni)(i2:ni<=2):∃h g ks ls k',m7 h g ks ls/\0<=k'/\
  pg.fn (n+8) 45 [.val (sc ns),.bor (.lst [.int k]),.val (.int ni),.val (.int 4)]=.ok (.val (aY h g ks ls)) [.val (sc ns),.bor (.lst [.int k']),.val (.int ni),.val (.int 4)]:=by
 obtain⟨r,r1,r2,er⟩:=bC (n+4) ns k _ hk (Int.lt_add_one_of_le i0)
 obtain⟨q,q1,q2,eq⟩:=bC (n+4) ns _ 4 (Pk hk) (by decide)
 obtain⟨h,rfl⟩:=Int.eq_ofNat_of_zero_le r1
 obtain⟨g,rfl⟩:=Int.eq_ofNat_of_zero_le q1
 have h2:=Xz i2 r2
 have g3:=Int.ofNat_lt.mp q2
 have g1:=Nat.le_add_right 1 g
 have g5:=Nat.add_le_add_left (Nat.le_of_lt g3) 1
 have lh:=eZ h2
 have lg:=cA g5
 obtain⟨ks,ls,k',a1,a2,a3,a4,a5⟩:=K8 n ns _ (Pk (Pk hk)) (hd h) (bh _) (by rw[lh,lg];exact Nat.le_trans (Nat.add_le_add h2 g5) (by decide)) (by rw[lg];exact g1) (.val (.int ni)) (.val (.int 4))
 refine⟨h,1+g,ks,ls,k',⟨h2,g1,g5,a1.trans lg,a2,by rw[a3,QTq,lh,lg]⟩,a4,?_⟩
 rw[Hh]
 have hb:oF=⟨4,8,(.cons _ (.cons _ wC))⟩:=rfl
 rw[hb]
 have c1:cJ (.tup [.str "a",.str "b",.str "come"]) none (some h)=some (.val (.tup (hd h))):=by
  rcases h with _|_|_|h
  ·rfl
  ·rfl
  ·rfl
  ·exact absurd h2 (by simp)
 have c2:cJ (.tup [.str "p",.str "q",.str "rr",.str "go",.str "abcdef"]) none (some (1+g))=some (.val (.tup (bh (1+g)))):=by
  rcases g with _|_|_|_|g
  ·rfl
  ·rfl
  ·rfl
  ·rfl
  ·exact absurd g3 (by simp)
 simp[er,eq,aJ,bQ,E.dZ,c1,c2,a5,aY]
end Tx
end
section
open PySem Mini
namespace Tx
def aV n xs a b(h1:a<=xs.length)(h2:xs.length<=b):pg.fn (n+1) 3 [.val (.tup xs),.val (.int a),.val (.int b)]=.ok (.val (.bl true)) [.val (.tup xs),.val (.int a),.val (.int b)]:=by
 rw[Bs]
 simp[lF,h1,h2]
def Ve:E:=.bi .all ACj
def uV n bs m(h:m=bs.length):pg.fn (n+2) 7 [.val (aO bs),.val (.int m)]=.ok (.val (.bl true)) [.val (aO bs),.val (.int m)]:=by
 subst h
 have e:ev (pg.cf (n+1)) Ve [.val (aO bs),.val (.int bs.length)]=.ok (.val (.bl true)) [.val (aO bs),.val (.int bs.length)]:=by
  refine all1 (r:=.val (aO bs)) (by simp) rfl rfl fun x hx=>?_
  obtain⟨b,_,rfl⟩:=QDq.mp hx
  simp
 have t:pg.fn _ 3 [.val (aO bs),.val _,.val _]=.ok _ [.val _,.val _,.val _]:=aV n _ bs.length bs.length (by simp) (by simp)
 rw[J8]
 have hb:sS=⟨2,2,(.cons (.ret (.and (.cons _ (.cons Ve .nil)))) .nil)⟩:=rfl
 rw[hb]
 simp[t,e]
def cQ(xs:List D):Prop:=∀x∈xs,∃s,x=.str s
def j5(h:cQ xs):xs.all flat=true:=by
 rw[List.all_eq_true]
 intro x hx
 obtain⟨s,rfl⟩:=h x hx
 rfl
def j4{x:D}(hx:x∈xs)(h:cQ xs):aN x xs=true:=by
 induction xs with
 |nil=>cases hx
 |cons y ys ih=>
  unfold aN
  rcases QCq.mp hx with rfl|hx
  ·obtain⟨s,rfl⟩:=h x QYz
   simp[cM]
  ·simp[ih hx fun z hz=>h z (QYq _ hz)]
def Dc(h:cQ xs)(nd:xs.Nodup)(hx:x∈xs):gh x xs=1:=by
 induction xs with
 |nil=>cases hx
 |cons y ys ih=>
  have hys:=fun z hz=>h z (QYq _ hz)
  obtain⟨s,rfl⟩:=h y QYz
  rw[List.nodup_cons]at nd
  have zero:∀{zs:List D},cQ zs->D.str s∉zs->gh (.str s) zs=0:=by
   intro zs
   induction zs with
   |nil=>intro _ _;rfl
   |cons z zs ihz=>
    intro hz hn
    obtain⟨q,rfl⟩:=hz z QYz
    have ne:q≠s:=fun e=>hn (by rw[e];exact QYz)
    simp[gh,cM,ne,ihz (fun w hw=>hz w (QYq _ hw)) fun hw=>hn (QYq _ hw)]
  rcases QCq.mp hx with rfl|hx
  ·simp[gh,cM,zero hys nd.1]
  ·obtain⟨q,rfl⟩:=hys x hx
   have ne:s≠q:=fun e=>nd.1 (by rw[e];exact hx)
   simp[gh,cM,ne,ih hys nd.2 hx]
def iK n{d:D}(dd:d=.tup xs\/d=.lst xs)(h:cQ xs)(hx:x∈xs):pg.fn (n+1) 8 [.val x,.val d]=.ok (.val (.bl true)) [.val x,.val d]:=by
 obtain⟨s,rfl⟩:=h x hx
 rw[uD]
 have o:gP (.str s) xs=true:=by
  unfold gP
  rw[j5 h]
  rfl
 have e:aG .isin (.str s) d=some true:=by
  rcases dd with rfl|rfl<;>(show(if gP _ xs then some _ else none)=_;rw[o,j4 hx h];rfl)
 simp[kj,e]
def vP:E:=.bi .all ACO
def kY n{d:D}(hd:d=.tup xs\/d=.lst xs)(h:cQ xs)(nd:xs.Nodup):pg.fn (n+1) 6 [.val d]=.ok (.val (.bl true)) [.val d]:=by
 have e:ev (pg.cf n) vP [.val d]=.ok (.val (.bl true)) [.val d]:=by
  refine all1 (r:=.val d) (by simp) rfl (by rcases hd with rfl|rfl<;>rfl) fun x hx=>?_
  obtain⟨s,rfl⟩:=h x hx
  have e1:z6 (.tup xs) (.str s)=some (.val (.int 1)):=by
   simp only[z6]
   rw[j5 h,Dc h nd hx]
   rfl
  have e2:z6 (.lst xs) _=some _:=e1
  rcases hd with rfl|rfl<;>simp[e1,e2]
 have hb:jb=⟨1,1,(.cons (.ret vP) .nil)⟩:=rfl
 rw[wg,hb]
 have q:vP.aq=none:=rfl
 simp[e,q]
def tY:D->D
 |.tup (a::_)=>a
 |_=>.non
theorem vO:∀(gs ks:List D),ks.length=gs.length->(aC gs ks).map tY=gs
 |[],ks=>fun _=>by simp[aC]
 |g::gs,[]=>fun h=>by simp at h
 |g::gs,k::ks=>fun h=>by simp[aC,tY,vO gs ks (by simpa using h)]
def vf(it:E):E:=.comp 1 (.name 0) it AAL AAc
def mU{σ:Ev}gs ks(hl:ks.length=gs.length)(hi:ev c it σ=.ok (.val (.tup (aC gs ks))) σ):ev c (vf it) σ=.ok (.new (.lst gs)) σ:=by
 have:=kW (el:=.idx (.var 0) AAH) tY hi rfl rfl fun y hy=>by
  rw[bY]at hy
  obtain⟨p,_,rfl⟩:=QDq.mp hy
  simp[pairD,tY]
 rw[vO gs ks hl]at this
 exact this
def eV n hs gs ks x(hl:ks.length=gs.length)(hf:hs.length+gs.length<=1000):
  pg.fn (n+1) 13 [.val (.tup [.tup hs,.tup (aC gs ks),x])]=.ok (.new (.lst (hs++gs))) [.val (.tup [.tup hs,.tup (aC gs ks),x])]:=by
 have f:fits (hs.length+gs.length)=true:=by simp[fits];omega
 have hb:iY=⟨1,1,.cons (.ret (.op .add _ (vf _))) .nil⟩:=rfl
 rw[mz,hb]
 simp[mU (c:=pg.cf n) (it:=.idx (.var 0) AAG) (σ:=[.val (.tup [.tup hs,.tup (aC gs ks),x])]) gs ks hl (by simp),f]
end Tx
end
section
open PySem Mini
namespace Tx
@[simp↓]theorem S9:decide (Str.ofString "same"=Str.ofString "same")=true:=rfl
@[simp↓]theorem Zq:decide (Str.ofString "not"=Str.ofString "not")=true:=rfl
@[simp↓]theorem Zw:decide (Str.ofString "and"=Str.ofString "and")=true:=rfl
@[simp↓]theorem adu:decide (Str.ofString "or"=Str.ofString "or")=true:=rfl
@[simp↓]theorem Tq:decide (Str.ofString "both"=Str.ofString "both")=true:=rfl
@[simp↓]theorem Pb:decide (Str.ofString "table"=Str.ofString "table")=true:=rfl
@[simp↓]theorem Th:decide (Str.ofString "held"=Str.ofString "held")=true:=rfl
@[simp]theorem Vk:decide (Str.ofString "same"=Str.ofString "not")=false:=rfl
@[simp]theorem Vl:decide (Str.ofString "same"=Str.ofString "and")=false:=rfl
@[simp]theorem Zk:decide (Str.ofString "same"=Str.ofString "or")=false:=rfl
@[simp]theorem Td:decide (Str.ofString "same"=Str.ofString "both")=false:=rfl
@[simp]theorem Pz:decide (Str.ofString "same"=Str.ofString "table")=false:=rfl
@[simp]theorem Tc:decide (Str.ofString "same"=Str.ofString "held")=false:=rfl
@[simp]theorem Vn:decide (Str.ofString "not"=Str.ofString "same")=false:=rfl
@[simp]theorem Zr:decide (Str.ofString "not"=Str.ofString "and")=false:=rfl
@[simp]theorem aau:decide (Str.ofString "not"=Str.ofString "or")=false:=rfl
@[simp]theorem Vp:decide (Str.ofString "not"=Str.ofString "both")=false:=rfl
@[simp]theorem Te:decide (Str.ofString "not"=Str.ofString "table")=false:=rfl
@[simp]theorem Vo:decide (Str.ofString "not"=Str.ofString "held")=false:=rfl
@[simp]theorem Vu:decide (Str.ofString "and"=Str.ofString "same")=false:=rfl
@[simp]theorem Zv:decide (Str.ofString "and"=Str.ofString "not")=false:=rfl
@[simp]theorem aav:decide (Str.ofString "and"=Str.ofString "or")=false:=rfl
@[simp]theorem Vw:decide (Str.ofString "and"=Str.ofString "both")=false:=rfl
@[simp]theorem Tr:decide (Str.ofString "and"=Str.ofString "table")=false:=rfl
@[simp]theorem Vv:decide (Str.ofString "and"=Str.ofString "held")=false:=rfl
@[simp]theorem Zm:decide (Str.ofString "or"=Str.ofString "same")=false:=rfl
@[simp]theorem aas:decide (Str.ofString "or"=Str.ofString "not")=false:=rfl
@[simp]theorem aat:decide (Str.ofString "or"=Str.ofString "and")=false:=rfl
@[simp]theorem Zo:decide (Str.ofString "or"=Str.ofString "both")=false:=rfl
@[simp]theorem Vm:decide (Str.ofString "or"=Str.ofString "table")=false:=rfl
@[simp]theorem Zn:decide (Str.ofString "or"=Str.ofString "held")=false:=rfl
@[simp]theorem Tj:decide (Str.ofString "both"=Str.ofString "same")=false:=rfl
@[simp]theorem Vs:decide (Str.ofString "both"=Str.ofString "not")=false:=rfl
@[simp]theorem Vt:decide (Str.ofString "both"=Str.ofString "and")=false:=rfl
@[simp]theorem Zu:decide (Str.ofString "both"=Str.ofString "or")=false:=rfl
@[simp]theorem PJ:decide (Str.ofString "both"=Str.ofString "table")=false:=rfl
@[simp]theorem Tp:decide (Str.ofString "both"=Str.ofString "held")=false:=rfl
@[simp]theorem Pu:decide (Str.ofString "table"=Str.ofString "same")=false:=rfl
@[simp]theorem S7:decide (Str.ofString "table"=Str.ofString "not")=false:=rfl
@[simp]theorem S8:decide (Str.ofString "table"=Str.ofString "and")=false:=rfl
@[simp]theorem Vj:decide (Str.ofString "table"=Str.ofString "or")=false:=rfl
@[simp]theorem Py:decide (Str.ofString "table"=Str.ofString "both")=false:=rfl
@[simp]theorem Px:decide (Str.ofString "table"=Str.ofString "held")=false:=rfl
@[simp]theorem Tf:decide (Str.ofString "held"=Str.ofString "same")=false:=rfl
@[simp]theorem Vq:decide (Str.ofString "held"=Str.ofString "not")=false:=rfl
@[simp]theorem Vr:decide (Str.ofString "held"=Str.ofString "and")=false:=rfl
@[simp]theorem Zt:decide (Str.ofString "held"=Str.ofString "or")=false:=rfl
@[simp]theorem Ti:decide (Str.ofString "held"=Str.ofString "both")=false:=rfl
@[simp]theorem PB:decide (Str.ofString "held"=Str.ofString "table")=false:=rfl
@[simp]theorem UL:aG .isin (.str "same") (.tup [.str "same",.str "not"])=some true:=rfl
@[simp]theorem X6:aG .isin (.str "not") (.tup [.str "same",.str "not"])=some true:=rfl
@[simp]theorem Yb:aG .isin (.str "and") (.tup [.str "same",.str "not"])=some false:=rfl
@[simp]theorem ZV:aG .isin (.str "or") (.tup [.str "same",.str "not"])=some false:=rfl
@[simp]theorem UV:aG .isin (.str "both") (.tup [.str "same",.str "not"])=some false:=rfl
@[simp]theorem Ry:aG .isin (.str "table") (.tup [.str "same",.str "not"])=some false:=rfl
@[simp]theorem UT:aG .isin (.str "held") (.tup [.str "same",.str "not"])=some false:=rfl
@[simp]theorem X5:aG .isin (.str "same") (.tup [.str "and",.str "or"])=some false:=rfl
@[simp]theorem ZW:aG .isin (.str "not") (.tup [.str "and",.str "or"])=some false:=rfl
@[simp]theorem ZX:aG .isin (.str "and") (.tup [.str "and",.str "or"])=some true:=rfl
@[simp]theorem acB:aG .isin (.str "or") (.tup [.str "and",.str "or"])=some true:=rfl
@[simp]theorem X8:aG .isin (.str "both") (.tup [.str "and",.str "or"])=some false:=rfl
@[simp]theorem UJ:aG .isin (.str "table") (.tup [.str "and",.str "or"])=some false:=rfl
@[simp]theorem X7:aG .isin (.str "held") (.tup [.str "and",.str "or"])=some false:=rfl
def gl5:pg.gl 5=some (.int 4):=rfl
def gl6:pg.gl 6=some (.int 8):=rfl
def gl7:pg.gl 7=some (.int 3):=rfl
def Jm:E:=.bi .all ACZ
def dg n{d:D}(dd:d=.tup xs\/d=.lst xs)(h:cQ xs)(nd:xs.Nodup)(hs:ys.Sublist xs)a b(h1:a<=ys.length)(h2:ys.length<=b):
  pg.fn (n+2) 9 [.val (.tup ys),.val d,.val (.int a),.val (.int b)]=.ok (.val (.bl true)) [.val (.tup ys),.val d,.val (.int a),.val (.int b)]:=by
 have e:ev (pg.cf (n+1)) Jm [.val (.tup ys),.val d,.val (.int a),.val (.int b)]=.ok (.val (.bl true)) [.val (.tup ys),.val d,.val (.int a),.val (.int b)]:=by
  refine all1 (r:=.val (.tup ys)) (by simp) rfl rfl fun x hx=>?_
  simp[iK n dd h (hs.subset hx)]
 have hb:jO=⟨4,4,(.cons _ (.cons (.ret (.and (.cons Jm _))) .nil))⟩:=rfl
 rw[yQ,hb]
 simp[aV n ys a b h1 h2,e,kY n (.inl rfl) (fun z hz=>h z (hs.subset hz)) (hs.nodup nd)]
def agF xs:cut xs (some 1) none=xs.tail:=by
 cases xs with
 |nil=>rfl
 |cons x xs=>
  have:clip (xs.length+1) 1=1:=by simp[clip];omega
  simp[cut,this]
theorem uX:∀(rs:List (List Bool)),zF rs=true->∀p∈rs.zip rs.tail,kE p.1 p.2=true
 |[]=>fun _ p h=>by simp at h
 |[a]=>fun _ p h=>by simp at h
 |a::b::r=>fun hi p h=>by
  simp only[zF,QUq]at hi
  simp only[List.tail_cons,List.zip_cons_cons,QCq]at h
  rcases h with rfl|h
  ·exact hi.1
  ·exact uX _ hi.2 p (by simpa using h)
def T3:E:=.bi .all ACa
def upC:E:=.bi .all ABh
def Ac n rs(m:Nat)(h:∀r∈rs,r.length=m)(hi:zF rs=true):
  pg.fn (n+3) 10 [.val (.tup (rs.map aO)),.val (.int m)]=.ok (.val (.bl true)) [.val (.tup (rs.map aO)),.val (.int m)]:=by
 have e1:ev (pg.cf (n+2)) T3 [.val (.tup (rs.map aO)),.val (.int m)]=.ok (.val (.bl true)) [.val (.tup (rs.map aO)),.val (.int m)]:=by
  refine all1 (r:=.val (.tup (rs.map aO))) (by simp) rfl rfl fun x hx=>?_
  obtain⟨r,hr,rfl⟩:=QDq.mp hx
  simp[uV n r m (by rw[h r hr])]
 have e2:ev (pg.cf (n+2)) upC [.val (.tup (rs.map aO)),.val (.int m)]=.ok (.val (.bl true)) [.val (.tup (rs.map aO)),.val (.int m)]:=by
  have hz:aC (rs.map aO) (rs.map aO).tail=((rs.zip rs.tail).map fun p=>(aO p.1,aO p.2)).map pairD:=by
   rw[bY,<-List.map_tail,List.zip_map]
   rfl
  refine all2 (r:=.val (.lst (aC _ (rs.map aO).tail))) ?_ rfl (by show some _=some _;rw[hz]) fun x hx=>?_
  ·simp[bQ,E.dZ,cJ,agF]
  ·obtain⟨p,hp,rfl⟩:=QDq.mp hx
   have lt:aG .lt (aO p.1) (aO p.2)=some true:=by
    simp[aG,ltD,aO,jC,uX rs hi p hp]
   simp[lt]
 have hb:lL=⟨2,2,(.cons (.ite (.or (.cons _ (.cons (.not T3) .nil))) _ .nil) (.cons (.ret upC) .nil))⟩:=rfl
 have q:upC.aq=none:=rfl
 rw[Bx,hb]
 simp[e1,e2,q]
def HY n k:n+4+2*k=n+2+2*k+1+1:=by omega
def Ru n k:n+1+2*k+2=n+2+2*k+1:=by omega
def af9 n k:n+2*k+3=n+2+2*k+1:=by omega
def af8 n k:n+3+2*k+1=n+4+2*k:=by omega
def af7 n k:n+4+2*(k+1)=n+4+2*k+1+1:=by omega
def Fv{a:Nat}(h1:c<=a)(h2:d<=c):(d:Int)<=a:=Int.ofNat_le.mpr (Nat.le_trans h2 h1)
def Fw{a:Nat}(h1:a<=c)(h2:c<=d):(a:Int)<=d:=Int.ofNat_le.mpr (Nat.le_trans h1 h2)
theorem rB{xs:List D}(h:cQ xs)(nd:xs.Nodup):∀{k:Nat}{d:D},bu xs k d->∀(n:Nat)(dp:Int),dp+k<=3->
  pg.fn (n+4+2*k) 11 [.val d,.val (.lst xs),.val (.int dp)]=.ok (.val (.bl true)) [.val d,.val (.lst xs),.val (.int dp)]:=by
 intro k d hk
 induction hk with
 | @same k x hx=>
  intro n dp _
  rw[HY,eO]
  simp[cZ,aV (n+2+2*k) [.str "same",x] 2 4 (by simp) (by simp),iK (n+2+2*k) (.inr rfl) h hx,aJ]
 | @not k x hx=>
  intro n dp _
  rw[HY,eO]
  simp[cZ,aV (n+2+2*k) [.str "not",x] 2 4 (by simp) (by simp),iK (n+2+2*k) (.inr rfl) h hx,aJ]
 | @and k ys hs h1 h2=>
  intro n dp _
  have w:=dg (n+1+2*k) (.inr rfl) h nd hs 1 4 (Fv h1 (by decide)) (Fw h2 (by decide))
  rw[Ru]at w
  rw[HY,eO]
  simp[cZ,aV (n+2+2*k) [.str "and",.tup ys] 2 4 (by simp) (by simp),w,aJ,gl5]
 | @or k ys hs h1 h2=>
  intro n dp _
  have w:=dg (n+1+2*k) (.inr rfl) h nd hs 1 4 (Fv h1 (by decide)) (Fw h2 (by decide))
  rw[Ru]at w
  rw[HY,eO]
  simp[cZ,aV (n+2+2*k) [.str "or",.tup ys] 2 4 (by simp) (by simp),w,aJ,gl5]
 | @both k ys hs h1 h2=>
  intro n dp _
  have w:=dg (n+1+2*k) (.inr rfl) h nd hs 2 4 (Fv h1 (by decide)) (Fw h2 (by decide))
  rw[Ru]at w
  rw[HY,eO]
  simp[cZ,aV (n+2+2*k) [.str "both",.tup ys] 2 4 (by simp) (by simp),w,aJ,gl5]
 | @table k ys rs hs h1 h2 hr hi=>
  intro n dp _
  have w:=dg (n+1+2*k) (.inr rfl) h nd hs 1 8 (Fv h1 (by decide)) (Fw h2 (by decide))
  rw[Ru]at w
  have z:=Ac (n+2*k) rs ys.length hr hi
  rw[af9]at z
  rw[HY,eO]
  simp[cZ,aV (n+2+2*k) [.str "table",.tup ys,.tup (rs.map aO)] 2 4 (by simp) (by simp),w,z,aJ,gl6]
 | @held k d x b hk hx ih=>
  intro n dp hd
  have w:=iK (n+3+2*k) (.inr rfl) h hx
  rw[af8]at w
  have hl:pg.fn (n+4+2*k+1) 12 [.val (.tup [.str "held",d,x,.bl b]),.val (.lst xs),.val (.int (dp+1))]=.ok (.val (.bl true)) [.val (.tup [.str "held",d,x,.bl b]),.val (.lst xs),.val (.int (dp+1))]:=by
   rw[Hk]
   simp[oH,ih n (dp+1) (by omega),w]
  have lt:dp<3:=by omega
  rw[af7,eO]
  simp[cZ,aV (n+4+2*k) [.str "held",d,x,.bl b] 2 4 (by simp) (by simp),hl,aJ,gl7,lt]
end Tx
end
section
open PySem Mini
namespace Tx
noncomputable def nmS(h g:Nat):List Str:=(["a","b","come"]:List Str).take h++(["p","q","rr","go","abcdef"]:List Str).take g
def names(h g:Nat):List D:=hd h++bh g
def dX h g:names h g=(nmS h g).map .str:=by
 simp[names,nmS,hd,bh,List.map_take]
def tQ{ss:List Str}(h:ss.Nodup):(ss.map D.str).Nodup:=by
 induction ss with
 |nil=>simp
 |cons s ss ih=>
  rw[List.nodup_cons]at h
  rw[Qyz,List.nodup_cons]
  exact⟨fun z=>h.1 (by simpa using z),ih h.2⟩
def aL h g:cQ (names h g):=fun x hx=>by
 rw[dX]at hx
 obtain⟨s,_,rfl⟩:=QDq.mp hx
 exact⟨s,rfl⟩
def dR(h2:h<=2)(g4:g<=5):(names h g).length=h+g:=by
 rw[names,QTq,eZ h2,cA g4]
def EY n s(hs:s∈nmS 3 5):pg.fn (n+1) 5 [.val (.str s)]=.ok (.val (.bl true)) [.val (.str s)]:=by
 have:nmS 3 5=(["a","b","come","p","q","rr","go","abcdef"]:List Str):=by rfl
 rw[this]at hs
 simp only[QCq,QAz,or_false]at hs
 rcases hs with rfl|rfl|rfl|rfl|rfl|rfl|rfl|rfl<;>kernel_rfl
def gl3:pg.gl 3=some (.int 3):=rfl
def gl4:pg.gl 4=some (.int 5):=rfl
def BP:E:=.bi .all (.comp 1 (.name 0) AAb AAL AAt)
def pK(h:ys.length=xs.length):(aC xs ys).length=xs.length:=by
 rw[bY];simp[h]
def Um:E:=.bi .all ACt
def Uz:E:=.bi .all ABl
end Tx
end
section
open PySem Mini
namespace Tx
theorem goD(τ:Int->Ev){cond elt:Ev->Out Rv}(P:D->D->Prop)(all:Bool):∀(xs acc:List D)(k:Int)(s:Sl),0<=k->bI s->
  (∀x∈xs,∀k,0<=k->∃b k',0<=k'/\(all=true->b=true)/\cond (.val x::τ k)=.ok (.val (.bl b)) (.val x::τ k'))->
  (∀x∈xs,∀k,0<=k->∃y k',0<=k'/\P x y/\elt (.val x::τ k)=.ok (.val y) (.val x::τ k'))->
  ∃(zs:List (D×D))(k':Int)(s':Sl),(zs.map (·.1)).Sublist xs/\(all=true->zs.map (·.1)=xs)/\(∀p∈zs,P p.1 p.2)/\0<=k'/\aP (.name 0) cond elt xs acc (s::τ k)=.ok (acc++zs.map (·.2)) (s'::τ k')
 |[]=>fun acc k s hk _ _ _=>⟨[],k,s,List.Sublist.refl _,fun _=>rfl,fun p h=>(by cases h),hk,by simp[aP]⟩
 |x::xs=>fun acc k s hk hs hc he=>by
  obtain⟨b,k1,a1,a2,a3⟩:=hc x QYz k hk
  rw[aP,ut hs]
  simp only[a3,dC]
  cases b with
  |true=>
   obtain⟨y,k2,b1,b2,b3⟩:=he x QYz k1 a1
   obtain⟨zs,k',s',c1,c2,c3,c4,c5⟩:=goD τ P all xs _ k2 _ b1 (.inr ⟨_,rfl⟩) (fun z hz=>hc z (QYq _ hz)) fun z hz=>he z (QYq _ hz)
   refine⟨(x,y)::zs,k',s',c1.cons_cons x,fun h=>by simp[c2 h],fun p hp=>?_,c4,?_⟩
   ·rcases QCq.mp hp with rfl|hp
    ·exact b2
    ·exact c3 p hp
   ·rw[if_pos rfl,b3,bU,c5]
    simp
  |false=>
   obtain⟨zs,k',s',c1,c2,c3,c4,c5⟩:=goD τ P all xs acc k1 _ a1 (.inr ⟨_,rfl⟩) (fun z hz=>hc z (QYq _ hz)) fun z hz=>he z (QYq _ hz)
   exact⟨zs,k',s',c1.cons x,fun h=>by simpa using a2 h,c3,c4,by rw[if_neg (by simp),c5]⟩
def Nv{σ:Ev}{r:Rv}{xs:List D}(τ:Int->Ev)(P:D->D->Prop)(all:Bool)(hk:0<=k)(hi:ev c it σ=.ok r (τ k))(hr:r.jl=some d)(hd:items d=some xs)
  (hc:∀x∈xs,∀k,0<=k->∃b k',0<=k'/\(all=true->b=true)/\ev c co (.val x::τ k)=.ok (.val (.bl b)) (.val x::τ k'))
  (he:∀x∈xs,∀k,0<=k->∃y k',0<=k'/\P x y/\ev c el (.val x::τ k)=.ok (.val y) (.val x::τ k')):
  ∃(zs:List (D×D))(k':Int),(zs.map (·.1)).Sublist xs/\(all=true->zs.map (·.1)=xs)/\(∀p∈zs,P p.1 p.2)/\0<=k'/\ev c (.comp 1 (.name 0) it co el) σ=.ok (.new (.lst (zs.map (·.2)))) (τ k'):=by
 obtain⟨zs,k',s',a1,a2,a3,a4,a5⟩:=goD τ P all xs [] k .un hk (.inl rfl) hc he
 refine⟨zs,k',a1,a2,a3,a4,?_⟩
 rw[lX,hi]
 have b:∀{β:Type}(g:D->Ev->Out β),(Out.ok r (τ k)).ak g=g d (τ k):=fun g=>by cases r<;>simp[Rv.jl]at hr<;>subst hr<;>rfl
 rw[b]
 simp only[hd]
 rw[show List.replicate 1 Sl.un++τ k=.un::τ k from rfl,a5]
 simp
def uI(m:D×Nat):D:=.tup [m.1,.int m.2]
def cY(st:List (D×Nat)):D:=.tup (st.map uI)
def bf(os:List D)(sts:List (List (D×Nat))):D:=.tup [.tup os,.tup (sts.map cY)]
structure cF(h g:Nat)(os:List D)(sts:List (List (D×Nat))):Prop where
 ou:os.Sublist (bh g)
 s1:1<=sts.length
 s4:sts.length<=4
 mv:∀st∈sts,(st.map (·.1)).Sublist (hd h++os)/\∀m∈st,m.2<sts.length
def Q6:E:=.comp 1 (.name 0) AAq ABG AAc
def TX:E:=.comp 1 (.name 0) ACz o7 (.var 0)
def Xq:E:=(.tup ACH)
def Xr:E:=.comp 1 (.name 0) (.var 8) AAL Xq
def yf:S:=(.cons (.set 8 TX) (.cons (.append 6 (.bi .tuple Xr)) .nil))
def V2{zs:List (D×D)}(h:(zs.map (·.1)).Sublist xs)(e:∀p∈zs,p.2=p.1):(zs.map (·.2)).Sublist xs:=by
 rw[show zs.map (·.2)=zs.map (·.1)from List.map_congr_left e];exact h
section
variable(n:Nat)(ns:List Int)(hs os gs:List D)(x:D)(s3 s5 s6 s7 s8:Sl)
def JM(k:Int)(hk:0<=k)(hl:hs.length+os.length<=900):∃(ys:List D)(k':Int),ys.Sublist (hs++os)/\0<=k'/\
  ev (pg.cf (n+3)) TX [.val (sc ns),.bor (.lst [.int k]),.val (.tup [.tup hs,.tup gs,x]),s3,.val (.tup os),s5,s6,s7,s8]=.ok (.new (.lst ys)) [.val (sc ns),.bor (.lst [.int k']),.val (.tup [.tup hs,.tup gs,x]),s3,.val (.tup os),s5,s6,s7,s8]:=by
 have f:fits (hs.length+os.length)=true:=by simp[fits];omega
 obtain⟨zs,k',a1,a2,a3,a4,a5⟩:=Nv (it:=ACz) (el:=.var 0) (σ:=[.val (sc ns),.bor (.lst [.int k]),.val (.tup [.tup hs,.tup gs,x]),s3,.val (.tup os),s5,s6,s7,s8]) (fun k=>[.val (sc ns),.bor (.lst [.int k]),.val (.tup [.tup hs,.tup gs,x]),s3,.val (.tup os),s5,s6,s7,s8])
  (fun x y=>y=x) false hk (r:=.val (.tup (hs++os))) (by simp[f]) rfl rfl
  (fun x _ k hk=>by obtain⟨b,e⟩:=xH n ns k hk x [.val _,s3,.val _,s5,s6,s7,s8];exact⟨b,k+1,by omega,by simp,e⟩) fun x _ k hk=>⟨x,k,hk,rfl,by simp⟩
 exact⟨_,k',V2 a1 a3,a4,a5⟩
theorem Rm(k:Int)(hk:0<=k)(ys:List D)(many:Nat)(h1:1<=many)(net:D)(s4:Sl):∃(st:List (D×Nat))(k':Int),st.map (·.1)=ys/\(∀m∈st,m.2<many)/\0<=k'/\
  ev (pg.cf (n+3)) Xr [.val (sc ns),.bor (.lst [.int k]),.val net,s3,s4,.val (.int many),s6,s7,.own (.lst ys)]=.ok (.new (.lst (st.map uI))) [.val (sc ns),.bor (.lst [.int k']),.val net,s3,s4,.val (.int many),s6,s7,.val (.lst ys)]:=by
 obtain⟨zs,k',a1,a2,a3,a4,a5⟩:=Nv (c:=pg.cf (n+3)) (it:=.var 8) (co:=.con (.bl true)) (el:=Xq) (σ:=[.val (sc ns),.bor (.lst [.int k]),.val net,s3,s4,.val (.int many),s6,s7,.own (.lst ys)]) (fun k=>[.val (sc ns),.bor (.lst [.int k]),.val net,s3,s4,.val (.int many),s6,s7,.val (.lst ys)])
  (fun x y=>∃j:Nat,j<many/\y=uI (x,j)) true hk (r:=.val (.lst ys)) (by simp) rfl rfl
  (fun x _ k hk=>⟨true,k,hk,fun _=>rfl,by simp⟩) fun x _ k hk=>by
   obtain⟨q,q1,q2,e⟩:=bC n ns k many hk (by omega)
   obtain⟨j,rfl⟩:∃j:Nat,q=j:=⟨q.toNat,by omega⟩
   exact⟨_,k+1,by omega,⟨j,by omega,rfl⟩,by simp[Xq,e,aJ,uI]⟩
 have pick:∀(zs:List (D×D)),(∀p∈zs,∃j:Nat,j<many/\p.2=uI (p.1,j))->∃st:List _,st.map (·.1)=zs.map (·.1)/\(∀m∈st,m.2<many)/\st.map uI=zs.map (·.2):=by
  intro zs
  induction zs with
  |nil=>exact fun _=>⟨[],rfl,fun m h=>(by cases h),rfl⟩
  |cons z zs ih=>
   intro h
   obtain⟨j,j1,j2⟩:=h z QYz
   obtain⟨st,b1,b2,b3⟩:=ih fun p hp=>h p (QYq _ hp)
   refine⟨(z.1,j)::st,by simp[b1],fun m hm=>?_,by simp[b3,j2]⟩
   rcases QCq.mp hm with rfl|hm
   ·exact j1
   ·exact b2 m hm
 obtain⟨st,b1,b2,b3⟩:=pick zs a3
 exact⟨st,k',by rw[b1,a2 rfl],b2,a4,by rw[b3];exact a5⟩
def G3(k:Int)(hk:0<=k)(hl:hs.length+os.length<=900)(many:Nat)(h1:1<=many)(acc:List D)(ha:acc.length<=1000)(h8:bI s8):∃(st:List (D×Nat))(k':Int)(s':Sl),(st.map (·.1)).Sublist (hs++os)/\(∀m∈st,m.2<many)/\0<=k'/\bI s'/\
  ex (pg.cf (n+3)) yf [.val (sc ns),.bor (.lst [.int k]),.val (.tup [.tup hs,.tup gs,x]),s3,.val (.tup os),.val (.int many),.own (.lst acc),s7,s8]=.next [.val (sc ns),.bor (.lst [.int k']),.val (.tup [.tup hs,.tup gs,x]),s3,.val (.tup os),.val (.int many),.own (.lst (acc++[cY st])),s7,s']:=by
 obtain⟨ys,k1,a1,a2,a3⟩:=JM n ns hs os gs x s3 (.val (.int many)) (.own (.lst acc)) s7 s8 k hk hl
 obtain⟨st,k',b1,b2,b3,b4⟩:=Rm n ns s3 (.own (.lst acc)) s7 k1 a2 ys many h1 (.tup [.tup hs,.tup gs,x]) (.val (.tup os))
 have f:fits (acc.length+1)=true:=by simp[fits];omega
 have q:Xr.aq=none:=rfl
 refine⟨st,k',.val (.lst ys),by rw[b1];exact a1,b2,b3,.inr ⟨_,rfl⟩,?_⟩
 rcases h8 with rfl|⟨e,rfl⟩<;>simp[yf,a3,b4,di,wA,f,q,cY]
theorem um(hl:hs.length+os.length<=900)(many:Nat)(h1:1<=many):∀(xs:List D)(acc:List (List (D×Nat)))(k:Int)(s7 s8:Sl),0<=k->bI s7->bI s8->acc.length+xs.length<=1000->∃(sts:List (List (D×Nat)))(k':Int)(t7 t8:Sl),sts.length=xs.length/\(∀st∈sts,(st.map (·.1)).Sublist (hs++os)/\∀m∈st,m.2<many)/\0<=k'/\
  aZ (.name 7) (ex (pg.cf (n+3)) yf) xs [.val (sc ns),.bor (.lst [.int k]),.val (.tup [.tup hs,.tup gs,x]),s3,.val (.tup os),.val (.int many),.own (.lst (acc.map cY)),s7,s8]=.next [.val (sc ns),.bor (.lst [.int k']),.val (.tup [.tup hs,.tup gs,x]),s3,.val (.tup os),.val (.int many),.own (.lst ((acc++sts).map cY)),t7,t8]
 |[]=>fun acc k s7 s8 hk _ _ _=>⟨[],k,s7,s8,rfl,fun st h=>(by cases h),hk,by simp[aZ]⟩
 |y::xs=>fun acc k s7 s8 hk h7 h8 hx=>by
  simp only[QBq]at hx
  obtain⟨st,k1,s',a1,a2,a3,a4,a5⟩:=G3 n ns hs os gs x s3 _ s8 k hk hl many h1 (acc.map cY) (by simp;omega) h8
  obtain⟨sts,k',t7,t8,b1,b2,b3,b4⟩:=um hl many h1 xs (acc++[st]) k1 _ s' a3 (.inr ⟨_,rfl⟩) a4 (by simp;omega)
  refine⟨st::sts,k',t7,t8,by simp[b1],fun q hq=>?_,b3,?_⟩
  ·rcases QCq.mp hq with rfl|hq
   ·exact⟨a1,a2⟩
   ·exact b2 q hq
  ·rw[aZ]
   have st1:bz (.name 7) y [.val (sc ns),.bor (.lst [.int k]),.val (.tup [.tup hs,.tup gs,x]),s3,.val (.tup os),.val (.int many),.own (.lst (acc.map cY)),s7,s8]=some [.val (sc ns),.bor (.lst [.int k]),.val (.tup [.tup hs,.tup gs,x]),s3,.val (.tup os),.val (.int many),.own (.lst (acc.map cY)),.val y,s8]:=by
    rcases h7 with rfl|⟨e,rfl⟩<;>simp[bz]
   rw[st1]
   simp only
   rw[a5,nC]
   rw[show acc.map cY++[cY st]=(acc++[st]).map cY by simp,b4]
   simp
end
theorem nO:∀(m:Nat)(lo:Int),(b7 lo m).length=m
 |0=>fun _=>rfl
 |m+1=>fun lo=>by simp[b7,nO m]
def Q5(n:Nat)(ns:List Int)(k:Int)(hk:0<=k)(hs gs ks:List D)(x:D)(hl:ks.length=gs.length)(s3 s4 s5 s6 s7 s8:Sl):∃(os:List D)(k':Int),os.Sublist gs/\0<=k'/\
  ev (pg.cf (n+3)) Q6 [.val (sc ns),.bor (.lst [.int k]),.val (.tup [.tup hs,.tup (aC gs ks),x]),s3,s4,s5,s6,s7,s8]=.ok (.new (.lst os)) [.val (sc ns),.bor (.lst [.int k']),.val (.tup [.tup hs,.tup (aC gs ks),x]),s3,s4,s5,s6,s7,s8]:=by
 obtain⟨zs,k',a1,a2,a3,a4,a5⟩:=Nv (c:=pg.cf (n+3)) (it:=AAq) (co:=ABG) (el:=AAc) (σ:=[.val (sc ns),.bor (.lst [.int k]),.val (.tup [.tup hs,.tup (aC gs ks),x]),s3,s4,s5,s6,s7,s8]) (fun k=>[.val (sc ns),.bor (.lst [.int k]),.val (.tup [.tup hs,.tup (aC gs ks),x]),s3,s4,s5,s6,s7,s8])
  (fun x y=>y=tY x) false hk (r:=.val (.tup (aC gs ks))) (by simp) rfl rfl
  (fun x _ k hk=>by
   obtain⟨q,_,_,e⟩:=bC n ns k 3 hk (by omega)
   exact⟨decide (0<q),k+1,by omega,by simp,by simp[e]⟩) fun x hx k hk=>by
   rw[bY]at hx
   obtain⟨p,_,rfl⟩:=QDq.mp hx
   exact⟨_,k,hk,rfl,by simp[pairD,tY]⟩
 refine⟨_,k',?_,a4,a5⟩
 have:=a1.map tY
 rw[vO gs ks hl]at this
 rw[show zs.map (·.2)=(zs.map (·.1)).map tY by rw[List.map_map];exact List.map_congr_left a3]
 exact this
def Qa(n:Nat)(ns:List Int)(k:Int)(hk:0<=k){ks:List D}(O:m7 h g ks ls):∃os sts k',cF h g os sts/\0<=k'/\
  pg.fn (n+4) 46 [.val (sc ns),.bor (.lst [.int k]),.val (aY h g ks ls),.val (.int 4)]=.ok (.val (bf os sts)) [.val (sc ns),.bor (.lst [.int k']),.val (aY h g ks ls),.val (.int 4)]:=by
 have lg:=cA O.g5
 have lh:=eZ O.h2
 obtain⟨os,k1,a1,a2,a3⟩:=Q5 n ns k hk (hd h) (bh g) ks _ (by rw[O.kl,lg]) _ .un .un .un .un .un
 obtain⟨q,q1,q2,eq⟩:=bC n ns k1 4 a2 (by omega)
 obtain⟨m,rfl⟩:∃m:Nat,q=m:=⟨q.toNat,by omega⟩
 have lo:=a1.length_le
 have:=O.h2
 have:=O.g5
 obtain⟨sts,k',t7,t8,b1,b2,b3,b4⟩:=um n ns (hd h) os _ _ _ (by omega) (1+m) (by omega) (b7 0 (1+m)) [] (k1+1) .un .un (by omega) (.inl rfl) (.inl rfl) (by simp[nO];omega)
 rw[nO]at b1
 refine⟨os,sts,k',⟨a1,by omega,by omega,fun st hst=>?_⟩,b3,?_⟩
 ·rw[b1];exact b2 st hst
 ·have hb:lB=⟨4,9,.cons (.set 4 (.bi .tuple Q6)) (.cons _ (.cons _ (.cons (.for_ _ _ yf) _)))⟩:=rfl
  rw[Bo,hb]
  have q0:Q6.aq=none:=rfl
  have fm:fits (1+m)=true:=by simp[fits];omega
  have md:Jf (1+m)=true:=by simp[Jf];omega
  have tn:(1+(m:Int)).toNat=1+m:=by omega
  have b4':aZ (.name 7) (ex (pg.cf (n+3)) yf) (b7 0 (1+m)) [.val (sc ns),.bor (.lst [.int (k1+1)]),.val (aY h g ks ls),.val (.int 4),.val (.tup os),.val (.int (1+m)),.own (.lst []),.un,.un]=.next [.val (sc ns),.bor (.lst [.int k']),.val (aY h g ks ls),.val (.int 4),.val (.tup os),.val (.int (1+m)),.own (.lst (sts.map cY)),t7,t8]:=by simpa[aY]using b4
  have a3':ev _ Q6 [.val _,.bor _,.val (aY h g ks ls),.val (.int 4),.un,.un,.un,.un,.un]=.ok _ [.val _,.bor _,.val (aY h g ks ls),.val _,.un,.un,.un,.un,.un]:=a3
  simp[a3',q0,eq,aJ,fm,md,tn,b4',items,bf]
end Tx
end
section
open PySem Mini
namespace Tx
def Fy:E:=(.comp 1 (.name 0) (.var 2) AAL o7)
def Ls n ns k(hk:0<=k)xs s3 s4:∃(bs:List Bool)(k':Int),bs.length=xs.length/\0<=k'/\
  ev (pg.cf (n+3)) Fy [.val (sc ns),.bor (.lst [.int k]),.own (.lst xs),s3,s4]=.ok (.new (.lst (bs.map .bl))) [.val (sc ns),.bor (.lst [.int k']),.val (.lst xs),s3,s4]:=by
 obtain⟨bs,k',s',a1,a2,a3,a4⟩:=rM n ns [.val _,s3,s4] xs [] k .un hk (.inl rfl)
 refine⟨bs,k',a1,a2,?_⟩
 have h:ev (pg.cf (n+3)) (.var 2) [.val (sc ns),.bor (.lst [.int k]),.own (.lst xs),s3,s4]=.ok (.val (.lst xs)) [.val (sc ns),.bor (.lst [.int k]),.val (.lst xs),s3,s4]:=by simp
 unfold Fy
 rw[lX,h,bU]
 simp only[items]
 rw[show List.replicate 1 Sl.un++[.val _,.bor _,.val _,s3,s4]=.un:: .val _:: .bor _::[.val _,s3,s4]from rfl,a4]
 simp
def T4:S:=AAf
def rk(a b:String):D:=.tup [.str "held",.tup [.str "same",.str a],.str b,.bl false]
noncomputable def yD:Nat->List D
 |3=>[rk "rr" "q",rk "p" "rr",rk "q" "p"]
 |4=>[rk "go" "q",rk "p" "rr",rk "q" "go",rk "rr" "p"]
 |_=>[rk "abcdef" "q",rk "p" "rr",rk "q" "go",rk "rr" "abcdef",rk "go" "p"]
def Hg c s0 s1 g(hg:g=3\/g=4\/g=5):∃s4,aZ (.name 4) (ex c T4) (b7 0 g) [s0,s1,.own (.lst (bh g)),.own (.lst []),.un]=.next [s0,s1,.own (.lst (bh g)),.own (.lst (aC (bh g) (yD g))),s4]:=by
 refine⟨.val (.int (g-1)),?_⟩
 rcases hg with rfl|rfl|rfl
 all_goals
  try rfl
def Bj g(hg:g=3\/g=4\/g=5):∀d∈yD g,bu (hd 0++bh g) 1 d:=by
 intro d h
 rcases hg with rfl|rfl|rfl<;>simp only[yD,QCq,QAz,or_false]at h<;>rcases h with rfl|rfl|rfl|rfl|rfl<;>exact .held (.same (by simp[hd,bh])) (by simp[hd,bh])
def Qy n ns k(hk:0<=k):∃g ks ls k',m7 0 g ks ls/\3<=g/\0<=k'/\pg.fn (n+4) 47 [.val (sc ns),.bor (.lst [.int k])]=.ok (.val (aY 0 g ks ls)) [.val (sc ns),.bor (.lst [.int k'])]:=by
 obtain⟨r,r1,r2,er⟩:=bC n ns k 3 hk (by omega)
 obtain⟨g,hg,hr⟩:∃g:Nat,(g=3\/g=4\/g=5)/\3+r=g:=⟨(3+r).toNat,by omega,by omega⟩
 have lg:(bh g).length=g:=cA (by omega)
 obtain⟨s4,a⟩:=Hg (pg.cf (n+3)) (.val (sc ns)) (.bor (.lst [.int (k+1)])) g hg
 obtain⟨bs,k',b1,b2,b3⟩:=Ls n ns (k+1) (by omega) (bh g) (.own (.lst (aC (bh g) (yD g)))) s4
 refine⟨g,yD g,bs,k',⟨by omega,by omega,by omega,?_,Bj g hg,by omega⟩,by omega,b2,?_⟩
 ·rcases hg with rfl|rfl|rfl<;>rfl
 ·have hb:lD=⟨2,5,(.cons _ (.cons _ (.cons (.for_ _ _ T4) (.cons (.ret (.tup (.cons _ (.cons _ (.cons (.bi .tuple Fy) .nil))))) .nil))))⟩:=rfl
  rw[Bq,hb]
  have sl:cJ (.lst [.str "p",.str "q",.str "rr",.str "go",.str "abcdef"]) none (some g)=some (.new (.lst (bh g))):=by
   rcases hg with rfl|rfl|rfl<;>rfl
  have fg:fits g=true:=by simp[fits];omega
  have md:Jf g=true:=by simp[Jf];omega
  have q:Fy.aq=none:=rfl
  simp[er,hr,sl,aJ,bQ,E.dZ,lg,fg,md,items,a,b3,q,aY,hd]
def oE:S:=(.cons (.set 7 AAd) AAl)
def Sv xs b:at? (xs++[b]) (-1)=some b:=by
 unfold at? ix?
 have e:(-1+((xs.length:Int)+1)).toNat=xs.length:=by omega
 have e2:(0:Int)<= -1+(xs.length+1):=by omega
 have e3: -1+((xs.length:Int)+1)<xs.length+1:=by omega
 simp[e,e2,e3]
def Dm n ns k(hk:0<=k)s2 s7(h7:bI s7)a x ls l acc(hl:ls.length<=1000)(ha:acc.length<=1000):
  ∃(w:Str)(b:Bool)(t7:Sl),(w="same"\/w="not")/\bI t7/\ex (pg.cf (n+3)) oE [.val (sc ns),.bor (.lst [.int k]),s2,.val a,.own (.lst ((ls++[l]).map .bl)),.own (.lst acc),.val x,s7]
   =.next [.val (sc ns),.bor (.lst [.int (k+1)]),s2,.val x,.own (.lst ((ls++[l]++[b]).map .bl)),.own (.lst (acc++[.tup [x,.tup [.str w,a]]])),.val x,t7]:=by
 obtain⟨r,r1,r2,er⟩:=bC n ns k 2 hk (by omega)
 have fa:fits (acc.length+1)=true:=by simp[fits];omega
 have fb:fits (ls.length+1+1)=true:=by simp[fits];omega
 have al:at? (ls.map D.bl++[.bl l]) (-1)=some _:=Sv _ _
 rcases (by omega:r=0\/r=1)with rfl|rfl
 ·refine⟨"same",l==true,.val (.int 0),.inl rfl,.inr ⟨_,rfl⟩,?_⟩
  rcases h7 with rfl|⟨e,rfl⟩<;>simp[oE,er,aJ,fa,fb,di,wA,al]
 ·refine⟨"not",l==false,.val (.int 1),.inr rfl,.inr ⟨_,rfl⟩,?_⟩
  rcases h7 with rfl|⟨e,rfl⟩<;>simp[oE,er,aJ,fa,fb,di,wA,al]
theorem rZ(n:Nat)(ns:List Int)(s2:Sl):∀(xs acc:List D)(k:Int)(s6 s7:Sl)(a:D)(ls:List Bool)(l:Bool),0<=k->bI s6->bI s7->ls.length+xs.length<=1000->acc.length+xs.length<=1000->
  ∃(ks:List D)(bs:List Bool)(k':Int)(t3 t6 t7:Sl),ks.length=xs.length/\bs.length=xs.length/\0<=k'/\(∀d∈ks,∃y∈a::xs,d=.tup [.str "same",y]\/d=.tup [.str "not",y])/\
   aZ (.name 6) (ex (pg.cf (n+3)) oE) xs [.val (sc ns),.bor (.lst [.int k]),s2,.val a,.own (.lst ((ls++[l]).map .bl)),.own (.lst acc),s6,s7]=.next [.val (sc ns),.bor (.lst [.int k']),s2,t3,.own (.lst ((ls++[l]++bs).map .bl)),.own (.lst (acc++aC xs ks)),t6,t7]
 |[]=>fun acc k s6 s7 a ls l hk _ _ _ _=>⟨[],[],k,.val a,s6,s7,rfl,rfl,hk,fun d h=>(by cases h),by simp[aZ,aC]⟩
 |x::xs=>fun acc k s6 s7 a ls l hk h6 h7 hl ha=>by
  simp only[QBq]at hl ha
  obtain⟨w,b,t,a1,a2,a3⟩:=Dm n ns k hk s2 s7 h7 a x ls l acc (by omega) (by omega)
  obtain⟨ks,bs,k',t3,t6,t7,b1,b2,b3,b4,b5⟩:=rZ n ns s2 xs (acc++[.tup [x,.tup [.str w,a]]]) (k+1) (.val x) t x (ls++[l]) b (by omega) (.inr ⟨_,rfl⟩) a2 (by simp;omega) (by simp;omega)
  refine⟨.tup [.str w,a]::ks,b::bs,k',t3,t6,t7,by simp[b1],by simp[b2],b3,fun d hd=>?_,?_⟩
  ·rcases QCq.mp hd with rfl|hd
   ·exact⟨a,QYz,by rcases a1 with rfl|rfl<;>simp⟩
   ·obtain⟨y,hy,e⟩:=b4 d hd
    exact⟨y,QYq _ hy,e⟩
  ·have st:bz (.name 6) x [.val (sc ns),.bor (.lst [.int k]),s2,.val a,.own (.lst ((ls++[l]).map .bl)),.own (.lst acc),s6,s7]=some [.val (sc ns),.bor (.lst [.int k]),s2,.val a,.own (.lst ((ls++[l]).map .bl)),.own (.lst acc),.val x,s7]:=by
    rcases h6 with rfl|⟨e,rfl⟩<;>simp[bz]
   rw[aZ,st]
   simp only
   rw[a3,nC,b5]
   simp[aC]
def NP n ns k(hk:0<=k):∃h g ks ls os sts k',m7 h g ks ls/\cF h g os sts/\0<=k'/\pg.fn (n+4) 48 [.val (sc ns),.bor (.lst [.int k])]=.ok (.val (.tup [aY h g ks ls,bf os sts])) [.val (sc ns),.bor (.lst [.int k'])]:=by
 obtain⟨r,r1,r2,er⟩:=bC n ns k 4 hk (by omega)
 obtain⟨g,hg,hr⟩:∃g:Nat,(g=1\/g=2\/g=3\/g=4)/\1+r=g:=⟨(1+r).toNat,by omega,by omega⟩
 have lg:(bh g).length=g:=cA (by omega)
 obtain⟨q,q1,q2,eq⟩:=bC n ns (k+1) 2 (by omega) (by omega)
 obtain⟨ks,bs,k',t3,t6,t7,b1,b2,b3,b4,b5⟩:=rZ n ns _ (bh g) [] (k+1+1) .un .un _ [] _ (by omega) (.inl rfl) (.inl rfl) (by simp;omega) (by simp;omega)
 obtain⟨z,z1,z2⟩:∃z,at? (bh g) (-1)=some z/\z∈bh g:=by
  rcases hg with rfl|rfl|rfl|rfl
  ·exact⟨.str "p",rfl,by simp[bh]⟩
  ·exact⟨.str "q",rfl,by simp[bh]⟩
  ·exact⟨.str "rr",rfl,by simp[bh]⟩
  ·exact⟨.str "go",rfl,by simp[bh]⟩
 refine⟨1,g,ks,(q==1)::bs,[z],[[(.str "a",1)],[(z,0)]],k',⟨by omega,by omega,by omega,by omega,fun d dm=>?_,by simp[b2,lg];omega⟩,⟨by simpa using z2,by simp,by simp,fun st h=>?_⟩,b3,?_⟩
 ·obtain⟨y,hy,e⟩:=b4 d dm
  have hy':y∈hd 1++bh g:=by simpa[hd]using hy
  rcases e with rfl|rfl
  ·exact .same hy'
  ·exact .not hy'
 ·simp only[QCq,QAz,or_false]at h
  rcases h with rfl|rfl<;>simp[hd]
 ·have hb:jK=⟨2,8,(.cons _ (.cons _ (.cons _ (.cons _ (.cons (.for_ _ _ oE) _)))))⟩:=rfl
  rw[yM,hb]
  have sl:cJ (.lst [.str "p",.str "q",.str "rr",.str "go"]) none (some g)=some (.new (.lst (bh g))):=by
   rcases hg with rfl|rfl|rfl|rfl<;>rfl
  have b5':aZ (.name 6) (ex (pg.cf (n+3)) oE) (bh g) [.val (sc ns),.bor (.lst [.int (k+1+1)]),.val (.lst (bh g)),.val (.str "a"),.own (.lst [.bl (q==1)]),.own (.lst []),.un,.un]=.next [.val (sc ns),.bor (.lst [.int k']),.val (.lst (bh g)),t3,.own (.lst (.bl (q==1)::bs.map .bl)),.own (.lst (aC (bh g) ks)),t6,t7]:=by simpa using b5
  simp[er,hr,eq,sl,aJ,bQ,E.dZ,items,b5',z1,aY,bf,cY,uI,hd]
end Tx
end
section
open PySem Mini
namespace Tx
def nD:S->S
 |.cons _ t=>t
 |s=>s
def hdS:S->S
 |.cons t _=>t
 |s=>s
def zm:S:=nD (nD (nD aH.body))
def HF n ns k(hk:0<=k):∃(kd:D)(s2:Sl),(∀g,bu (hd 2++bh g) 1 kd)/\
  ex (pg.cf (n+3)) aH.body [.val (sc ns),.bor (.lst [.int k]),.un,.un,.un,.un,.un,.un]=ex (pg.cf (n+3)) zm [.val (sc ns),.bor (.lst [.int (k+1)]),s2,.val kd,.un,.un,.un,.un]:=by
 obtain⟨r,r1,r2,er⟩:=bC n ns k 6 hk (by omega)
 have hb:aH.body=.cons (hdS aH.body) (.cons (hdS (nD aH.body)) (.cons (hdS (nD (nD aH.body))) zm)):=rfl
 have sb:∀g,([.str "a",.str "b"]:List D).Sublist (hd 2++bh g):=fun g=>List.sublist_append_left _ _
 have at6:=lM
 have hh:∀g,bu (hd 2++bh g) 1 (.tup [.str "held",.tup [.str "same",.str "a"],.str "b",.bl true]):=fun g=>.held (.same (by simp[hd])) (by simp[hd])
 rcases (by omega:r=0\/r=1\/r=2\/r=3\/r=4\/r=5)with rfl|rfl|rfl|rfl|rfl|rfl
 ·refine⟨.tup [.str "both",.tup [.str "a",.str "b"]],.val (.int 0),fun g=>.both (sb g) (by simp) (by simp),?_⟩
  rw[hb];simp[aH,hdS,nD,er,aJ,at?,ix?]
 ·refine⟨.tup [.str "both",.tup [.str "a",.str "b"]],.val (.int 1),fun g=>.both (sb g) (by simp) (by simp),?_⟩
  rw[hb];simp[aH,hdS,nD,er,aJ,at?,ix?]
 ·refine⟨.tup [.str "and",.tup [.str "a",.str "b"]],.val (.int 2),fun g=>.and (sb g) (by simp) (by simp),?_⟩
  rw[hb];simp[aH,hdS,nD,er,aJ,at?,ix?]
 ·refine⟨.tup [.str "or",.tup [.str "a",.str "b"]],.val (.int 3),fun g=>.or (sb g) (by simp) (by simp),?_⟩
  rw[hb];simp[aH,hdS,nD,er,aJ,at?,ix?]
 ·refine⟨_,.val (.int 4),hh,?_⟩
  rw[hb];simp[aH,hdS,nD,er,aJ,at?,ix?]
 ·refine⟨_,.val (.int 5),hh,?_⟩
  rw[hb];simp[aH,hdS,nD,er,aJ,at?,ix?]
noncomputable def dY:List (List (D×Nat)):=[[(.str "a",1),(.str "b",2)],[(.str "b",3)],[(.str "a",3)],[(.str "p",0)]]
def nZ g(h1:1<=g):cF 2 g [.str "p"] dY:=by
 refine⟨?_,by simp[dY],by simp[dY],fun st h=>?_⟩
 ·obtain⟨j,rfl⟩:∃j,g=j+1:=⟨g-1,by omega⟩
  simp[bh]
 ·simp only[dY,QCq,QAz,or_false]at h
  rcases h with rfl|rfl|rfl|rfl<;>simp[hd,dY]
def Ca n ns k(hk:0<=k):∃h g ks ls os sts k',m7 h g ks ls/\cF h g os sts/\0<=k'/\pg.fn (n+4) 49 [.val (sc ns),.bor (.lst [.int k])]=.ok (.val (.tup [aY h g ks ls,bf os sts])) [.val (sc ns),.bor (.lst [.int k'])]:=by
 obtain⟨kd,s2,a1,a2⟩:=HF n ns k hk
 obtain⟨q,q1,q2,eq⟩:=bC n ns (k+1) 2 (by omega) (by omega)
 rcases (by omega:q=0\/q=1)with rfl|rfl
 ·obtain⟨z,z1,z2,ez⟩:=bC n ns (k+1+1) 2 (by omega) (by omega)
  refine⟨2,1,[kd],[z==1,z==1,z==1],[.str "p"],dY,k+1+1+1,⟨by omega,by omega,by omega,rfl,fun d h=>?_,rfl⟩,nZ 1 (by omega),by omega,?_⟩
  ·cases QDz.mp h;exact a1 1
  ·rw[gJ,a2]
   simp[zm,aH,nD,eq,ez,aJ,aY,hd,bh,aC,bf,cY,uI,dY]
 ·obtain⟨w,w1,w2,ew⟩:=bC n ns (k+1+1) 2 (by omega) (by omega)
  obtain⟨z,z1,z2,ez⟩:=bC n ns (k+1+1+1) 2 (by omega) (by omega)
  rcases (by omega:w=0\/w=1)with rfl|rfl
  ·refine⟨2,2,[kd,.tup [.str "same",.str "p"]],[z==1,z==1,z==1,z==1],[.str "p"],dY,k+1+1+1+1,⟨by omega,by omega,by omega,rfl,fun d h=>?_,rfl⟩,nZ 2 (by omega),by omega,?_⟩
   ·simp only[QCq,QAz,or_false]at h
    rcases h with rfl|rfl
    ·exact a1 2
    ·exact .same (by simp[hd,bh])
   ·rw[gJ,a2]
    simp[zm,aH,nD,eq,ew,ez,aJ,aY,hd,bh,aC,bf,cY,uI,dY,di,wA]
  ·refine⟨2,2,[kd,.tup [.str "not",.str "p"]],[z==1,z==1,z==1, !(z==1)],[.str "p"],dY,k+1+1+1+1,⟨by omega,by omega,by omega,rfl,fun d h=>?_,rfl⟩,nZ 2 (by omega),by omega,?_⟩
   ·simp only[QCq,QAz,or_false]at h
    rcases h with rfl|rfl
    ·exact a1 2
    ·exact .not (by simp[hd,bh])
   ·rw[gJ,a2]
    simp[zm,aH,nD,eq,ew,ez,aJ,aY,hd,bh,aC,bf,cY,uI,dY,di,wA]
end Tx
end
section
open PySem Mini
namespace Tx
theorem DR:∀(gs ks:List D)(i:Nat)(x d:D),gs[i]? =some x->ks.length=gs.length->(aC gs ks).set i (.tup [x,d])=aC gs (ks.set i d)
 |[],_,_=>fun _ _ h _=>by simp at h
 |g::gs,[],_=>fun _ _ _ h=>by simp at h
 |g::gs,k::ks,0=>fun x d h _=>by simp at h;subst h;simp[aC]
 |g::gs,k::ks,i+1=>fun x d h hl=>by simp[aC,DR gs ks i x d (by simpa using h) (by simpa using hl)]
theorem zip_get:∀(gs ks:List D)(i:Nat),i<gs.length->ks.length=gs.length->∃x d,(aC gs ks)[i]? =some (.tup [x,d])/\gs[i]? =some x
 |[],_,_=>fun h _=>by simp at h
 |g::gs,[],_=>fun _ h=>by simp at h
 |g::gs,k::ks,0=>fun _ _=>⟨g,k,by simp[aC],rfl⟩
 |g::gs,k::ks,i+1=>fun h hl=>by
  obtain⟨x,d,a,b⟩:=zip_get gs ks i (by simpa using h) (by simpa using hl)
  exact⟨x,d,by simp[aC,a],by simpa using b⟩
def G5 n ns k(hk:0<=k){ks:List D}(O:m7 h g ks ls):∃ks' k',m7 h g ks' ls/\0<=k'/\
  pg.fn (n+8) 50 [.val (sc ns),.bor (.lst [.int k]),.val (aY h g ks ls)]=.ok (.val (aY h g ks' ls)) [.val (sc ns),.bor (.lst [.int k']),.val (aY h g ks ls)]:=by
 have lg:=cA O.g5
 have lh:=eZ O.h2
 have h2:=O.h2
 have g1:=O.g1
 have g5:=O.g5
 have kl:=O.kl
 have lz:(aC (bh g) ks).length=g:=by rw[pK (by rw[lg,kl]),lg]
 obtain⟨q,q1,q2,eq⟩:=bC (n+4) ns k g hk (by omega)
 obtain⟨i,rfl⟩:∃i:Nat,q=i:=⟨q.toNat,by omega⟩
 obtain⟨d,k',a1,a2,a3⟩:=wL ns (hd h++bh g) (by simp;omega) (by simp;omega) 1 n (k+1) (by omega)
 simp only[Int.natCast_one,show n+6+1=n+7 from rfl]at a3
 obtain⟨x,y,b1,b2⟩:=zip_get (bh g) ks i (by omega) (by omega)
 refine⟨ks.set i d,k',⟨h2,g1,g5,by simp[kl],fun e he=>?_,O.ll⟩,a2,?_⟩
 ·rcases List.mem_or_eq_of_mem_set he with he|rfl
  ·exact O.kk e he
  ·exact a1
 ·have hb:cT=⟨3,6,.cons (.set 3 (.op .add _ (.bi .tuple (vf _)))) _⟩:=rfl
  have f:fits ((hd h).length+(bh g).length)=true:=by simp[fits];omega
  have i1:at? (aC (bh g) ks) i=some (.tup [x,y]):=by rw[lM _ _ (by omega),b1]
  have i2:ix? g i=some i:=by simp[ix?];omega
  have q0:∀it,(vf it).aq=none:=fun _=>rfl
  have n0:getD (aY h g ks ls) (.int 0)=some (.tup (hd h)):=by simp[aY]
  have n1:getD (aY h g ks ls) (.int 1)=some (.tup (aC (bh g) ks)):=by simp[aY]
  have n2:getD (aY h g ks ls) (.int 2)=some (.tup (ls.map .bl)):=by simp[aY]
  rw[mC,hb]
  simp[cT,nD,mU (c:=pg.cf (n+7)) (it:=.idx (.var 2) AAG) (σ:=[.val (sc ns),.bor (.lst [.int k]),.val (aY h g ks ls),.un,.un,.un]) (bh g) ks (by omega) (by simp[aY]),q0,f,n0,n1,n2,lz,eq,a3,i1,i2,nT,DR _ ks i x d b2 (by omega),aJ]
  simp[aY]
def uF h g:cF h g [] [[]]:=⟨by simp,by simp,by simp,fun st h=>by cases QDz.mp h;simp⟩
def WF g(h3:3<=g):cF 0 g [.str "q"] [[(.str "q",1)],[(.str "q",0)]]:=by
 refine⟨?_,by simp,by simp,fun st h=>?_⟩
 ·obtain⟨j,rfl⟩:∃j,g=j+2:=⟨g-2,by omega⟩
  simp[bh]
 ·simp only[QCq,QAz,or_false]at h
  rcases h with rfl|rfl<;>simp[hd]
def vA:S:=nD (nD (nD (nD (nD bM.body))))
def z8:S:=nD vA
def R8 n ns k(hk:0<=k):∃h g ks ls os sts,m7 h g ks ls/\cF h g os sts/\pg.fn (n+9) 51 [.val (sc ns),.val (.int k)]=.ok (.val (.tup [aY h g ks ls,bf os sts])) [.val (sc ns),.val (.int k)]:=by
 obtain⟨r,r1,r2,er⟩:=bC (n+5) ns k 8 hk (by omega)
 by_cases c2:r<2
 ·obtain⟨h,g,ks,ls,k1,O,a1,a2⟩:=K9 n ns (k+1) (by omega) 2 (by omega) (by omega)
  obtain⟨os,sts,k2,T,b1,b2⟩:=Qa (n+4) ns k1 a1 O
  exact⟨h,g,ks,ls,os,sts,O,T,by rw[dH];simp[bM,er,c2,a2,b2,aJ]⟩
 have c2b:=c2
 by_cases c3:r=2
 ·subst c3
  obtain⟨h,g,ks,ls,k1,O,a1,a2⟩:=K9 n ns (k+1) (by omega) 0 (by omega) (by omega)
  exact⟨h,g,ks,ls,[],[[]],O,uF h g,by rw[dH];simp[bM,er,a2,aJ,bf,cY]⟩
 by_cases c4:r=3
 ·subst c4
  obtain⟨g,ks,ls,k1,O,g3,a1,a2⟩:=Qy (n+4) ns (k+1) (by omega)
  obtain⟨q,q1,q2,eq⟩:=bC (n+5) ns k1 2 a1 (by omega)
  rcases (by omega:q=1\/q=0)with rfl|rfl
  ·exact⟨0,g,ks,ls,[],[[]],O,uF 0 g,by rw[dH];simp[bM,er,a2,eq,aJ,bf,cY]⟩
  ·exact⟨0,g,ks,ls,_,_,O,WF g g3,by rw[dH];simp[bM,er,a2,eq,aJ,bf,cY,uI]⟩
 have e2:(r==2)=false:=by simpa using c3
 have e3:(r==3)=false:=by simpa using c4
 have main:∃h g ks ls os sts k1,m7 h g ks ls/\cF h g os sts/\0<=k1/\ex (pg.cf (n+8)) bM.body [.val (sc ns),.val (.int k),.un,.un,.un,.un]=ex (pg.cf (n+8)) z8 [.val (sc ns),.val (.int k),.own (.lst [.int k1]),.val (.int r),.val (aY h g ks ls),.val (bf os sts)]:=by
  have hb:bM.body=.cons _ (.cons _ (.cons _ (.cons _ (.cons _ (.cons _ z8))))):=rfl
  by_cases c6:r<6
  ·obtain⟨h,g,ks,ls,os,sts,k1,O,T,a1,a2⟩:=NP (n+4) ns (k+1) (by omega)
   refine⟨h,g,ks,ls,os,sts,k1,O,T,a1,?_⟩
   rw[hb]
   simp[bM,hdS,nD,vA,er,c2,e2,e3,c3,c4,c6,a2,aJ,bz,gG,cj]
  ·obtain⟨h,g,ks,ls,os,sts,k1,O,T,a1,a2⟩:=Ca (n+4) ns (k+1) (by omega)
   refine⟨h,g,ks,ls,os,sts,k1,O,T,a1,?_⟩
   rw[hb]
   simp[bM,hdS,nD,vA,er,c2,e2,e3,c3,c4,c6,a2,aJ,bz,gG,cj]
 obtain⟨h,g,ks,ls,os,sts,k1,O,T,a1,a2⟩:=main
 by_cases c7:r%2=1
 ·obtain⟨q,q1,q2,eq⟩:=bC (n+5) ns k1 2 a1 (by omega)
  rcases (by omega:q=1\/q=0)with rfl|rfl
  ·obtain⟨ks',k2,O',b1,b2⟩:=G5 n ns (k1+1) (by omega) O
   refine⟨h,g,ks',ls,os,sts,O',T,?_⟩
   rw[dH,a2]
   simp[z8,vA,bM,nD,c7,eq,b2,aJ]
  ·refine⟨h,g,ks,ls,os,sts,O,T,?_⟩
   rw[dH,a2]
   simp[z8,vA,bM,nD,c7,eq,aJ]
 ·refine⟨h,g,ks,ls,os,sts,O,T,?_⟩
  have c8:r%2=0:=by omega
  rw[dH,a2]
  simp[z8,vA,bM,nD,c8,aJ]
end Tx
end
section
open PySem Mini
namespace Tx.V
def hd(h:List Str):List D:=h.map .str
def bh(g:List Str):List D:=g.map .str
def names(h g:List Str):List D:=hd h++bh g
noncomputable def aY(h g:List Str)(ks:List D)(ls:List Bool):D:=.tup [.tup (hd h),.tup (aC (bh g) ks),.tup (ls.map .bl)]
noncomputable def Ul:List Str:=["a","b","come","p","q","rr","go","abcdef","z","y","gates","w","v","inp","t","s"]
structure Nk(h g:List Str)(ks:List D)(ls:List Bool):Prop where
 h2:h.length<=2
 g1:1<=g.length
 g5:g.length<=5
 kl:ks.length=g.length
 kk:∀d∈ks,bu (hd h++bh g) 2 d
 ll:ls.length=h.length+g.length
 nn:(h++g).Nodup
 nv:∀s∈h++g,s∈Ul
structure cF(h g:List Str)(os:List D)(sts:List (List (D×Nat))):Prop where
 ou:os.Sublist (bh g)
 s1:1<=sts.length
 s4:sts.length<=4
 mv:∀st∈sts,(st.map (·.1)).Sublist (hd h++os)/\∀m∈st,m.2<sts.length
def dX(h g:List Str):names h g=(h++g).map .str:=by simp[names,hd,bh]
def aL(h g:List Str):cQ (names h g):=fun x hx=>by
 rw[dX]at hx
 obtain⟨s,_,rfl⟩:=QDq.mp hx
 exact⟨s,rfl⟩
def eZ{h:List Str}(h2:h.length<=2):(hd h).length=h.length:=QAq _
def cA{g:List Str}(g5:g.length<=5):(bh g).length=g.length:=QAq _
def dR{h g:List Str}(h2:h.length<=2)(g5:g.length<=5):(names h g).length=h.length+g.length:=by
 rw[names,QTq,eZ h2,cA g5]
def EY(n:Nat)(s:Str)(hs:s∈Ul):pg.fn (n+1) 5 [.val (.str s)]=.ok (.val (.bl true)) [.val (.str s)]:=by
 rw[Hj]
 simp only[Ul,QCq,QAz,or_false]at hs
 rcases hs with rfl|rfl|rfl|rfl|rfl|rfl|rfl|rfl|rfl|rfl|rfl|rfl|rfl|rfl|rfl|rfl<;>kernel_rfl
section
variable{h g:List Str}{ks:List D}{ls:List Bool}
def Nk.nd(O:Nk h g ks ls):(names h g).Nodup:=by rw[dX];exact tQ O.nn
def iG(h g:List Str)(ks:List D)(X:D):D:=.tup [.tup (hd h),.tup (aC (bh g) ks),X]
def zH(n:Nat)(O:Nk h g ks ls)(X:D):pg.fn (n+2) 2 [.val (iG h g ks X)]=.ok (.val (.bl true)) [.val (iG h g ks X)]:=by
 have lg:=cA O.g5
 have lh:=eZ O.h2
 have lz:(aC (bh g) ks).length=g.length:=by rw[pK (by rw[lg,O.kl]),lg]
 have e:ev (pg.cf (n+1)) BP [.val (iG h g ks X)]=.ok (.val (.bl true)) [.val (iG h g ks X)]:=by
  refine all1 (d:=.tup (aC (bh g) ks)) (xs:=aC (bh g) ks) (r:=.val (.tup (aC (bh g) ks))) (by simp[iG]) rfl rfl fun x hx=>?_
  rw[bY]at hx
  obtain⟨p,_,rfl⟩:=QDq.mp hx
  have t:=aV n [p.1,p.2] 2 2 (by simp) (by simp)
  simp[pairD,t]
 have t1:=aV n (hd h) 0 3 (by omega) (by have:=O.h2;omega)
 have t2:=aV n (aC (bh g) ks) 1 5 (by have:=O.g1;omega) (by have:=O.g5;omega)
 have hb:jN=⟨1,1,(.cons (.ite AAw AAQ .nil) (.cons (.ret BP) .nil))⟩:=rfl
 have q:BP.aq=none:=rfl
 rw[yP,hb]
 simp only[iG]at*
 simp[t1,t2,gl3,gl4,e,q]
def Mh(n:Nat)(O:Nk h g ks ls)(X:D)(b:Bool)(t5:pg.fn (n+8) 7 [.val X,.val (.int (names h g).length)]=.ok (.val (.bl b)) [.val X,.val (.int (names h g).length)]):pg.fn (n+9) 1 [.val (iG h g ks X)]=.ok (.val (.bl b)) [.val (iG h g ks X)]:=by
 have lg:=cA O.g5
 have lh:=eZ O.h2
 have T:=aL h g
 have Nd:=O.nd
 have L:=dR (g:=g) O.h2 O.g5
 have t1:=aV (n+7) [.tup (hd h),.tup (aC (bh g) ks),X] 3 3 (by simp) (by simp)
 have t2:=zH (n+6) O X
 have t3:=eV (n+7) (hd h) (bh g) ks X (by rw[O.kl,lg]) (by have:=O.h2;have:=O.g5;omega)
 have t4:=kY (n+7) (d:=.lst (names h g)) (.inr rfl) T Nd
 have e1:ev (pg.cf (n+8)) Um [.val (iG h g ks X),.own (.lst (names h g))]=.ok (.val (.bl true)) [.val (iG h g ks X),.val (.lst (names h g))]:=by
  refine all1 (d:=.lst (names h g)) (xs:=names h g) (r:=.val (.lst (names h g))) (by simp) rfl rfl fun x hx=>?_
  rw[dX]at hx
  obtain⟨s,hs,rfl⟩:=QDq.mp hx
  have w:=EY (n+7) s (O.nv s hs)
  simp[w]
 have e2:ev (pg.cf (n+8)) Uz [.val (iG h g ks X),.val (.lst (names h g))]=.ok (.val (.bl true)) [.val (iG h g ks X),.val (.lst (names h g))]:=by
  refine all2 (d:=.tup (aC (bh g) ks)) (ps:=(bh g).zip ks) (r:=.val (.tup (aC (bh g) ks))) (by simp[iG]) rfl (by show some _=some _;rw[bY]) fun x hx=>?_
  have hk:=O.kk x.2 (List.of_mem_zip hx).2
  have w:=rB T Nd hk n 0 (by decide)
  rw[show n+4+2*2=n+8 from rfl]at w
  simp[w]
 have hb:sU=⟨1,2,(.cons (.ite ABZ AAQ .nil) (.cons (.set 1 ABf) (.cons (.ite (.or (.cons (.not Um) ADf)) AAQ .nil) (.cons (.ret (.and (.cons Uz ADT))) .nil))))⟩:=rfl
 rw[J9,hb]
 have nn:hd h++bh g=names h g:=rfl
 rw[nn]at t3
 have g2:getD (iG h g ks X) (.int 2)=some X:=by simp[iG]
 have t1':pg.fn (n+8) 3 [.val (iG h g ks X),.val (.int 3),.val (.int 3)]=.ok (.val (.bl true)) [.val (iG h g ks X),.val (.int 3),.val (.int 3)]:=t1
 have t3':pg.fn (n+8) 13 [.val (iG h g ks X)]=.ok (.new (.lst (names h g))) [.val (iG h g ks X)]:=t3
 simp[t1',t2,t3',e1,t4,e2,g2,t5]
def H9(n:Nat)(O:Nk h g ks ls):pg.fn (n+9) 1 [.val (aY h g ks ls)]=.ok (.val (.bl true)) [.val (aY h g ks ls)]:=
 Mh n O (aO ls) true (uV (n+6) ls (names h g).length (by rw[dR O.h2 O.g5,O.ll]))
def lw(n:Nat)(O:Nk h g ks ls):pg.fn (n+10) 0 [.val (aY h g ks ls)]=.ok (.val (aY h g ks ls)) [.val (aY h g ks ls)]:=by
 have t:=H9 n O
 rw[Hm]
 simp[oK,t]
end
end Tx.V
end
section
open PySem Mini
namespace Tx
def Up:E:=.bi .all ADZ
def Lh:E:=.bi .all ABe
def YJ:E:=.comp 1 (.name 0) (.var 0) AAL AAc
def zE n(h:cQ xs)(nd:xs.Nodup)st(N:Nat)(hs:(st.map (·.1)).Sublist xs)(hn:∀m∈st,m.2<N):
  pg.fn (n+3) 19 [.val (cY st),.val (.tup xs),.val (.int N)]=.ok (.val (.bl true)) [.val (cY st),.val (.tup xs),.val (.int N)]:=by
 have ll:=hs.length_le
 have e1:ev (pg.cf (n+2)) Up [.val (cY st),.val (.tup xs),.val (.int N)]=.ok (.val (.bl true)) [.val (cY st),.val (.tup xs),.val (.int N)]:=by
  refine all1 (r:=.val (cY st)) (by simp) rfl rfl fun x hx=>?_
  obtain⟨m,_,rfl⟩:=QDq.mp hx
  simp[uI,aV (n+1) [m.1,.int m.2] 2 2 (by simp) (by simp)]
 have e2:ev (pg.cf (n+2)) Lh [.val (cY st),.val (.tup xs),.val (.int N)]=.ok (.val (.bl true)) [.val (cY st),.val (.tup xs),.val (.int N)]:=by
  refine all1 (r:=.val (cY st)) (by simp) rfl rfl fun x hx=>?_
  obtain⟨m,hm,rfl⟩:=QDq.mp hx
  have t:pg.fn (n+2) 4 [.val (.int m.2),.val (.int 0),.val (.int (N-1))]=.ok (.val (.bl true)) [.val (.int m.2),.val (.int 0),.val (.int (N-1))]:=by
   rw[yN]
   have:=Int.le_sub_one_of_lt (Int.ofNat_lt.mpr (hn m hm))
   simp[jL,aem,this]
  simp[uI,t]
 have e3:ev (pg.cf (n+2)) YJ [.val (cY st),.val (.tup xs),.val (.int N)]=.ok (.new (.lst (st.map (·.1)))) [.val (cY st),.val (.tup xs),.val (.int N)]:=by
  have:=kW (c:=pg.cf (n+2)) (it:=.var 0) (σ:=[.val (cY st),.val (.tup xs),.val (.int N)]) (el:=.idx (.var 0) AAH) tY (r:=.val (cY st)) (by simp;rfl) rfl rfl fun y hy=>by
   obtain⟨m,_,rfl⟩:=QDq.mp hy
   simp[uI,tY]
  rw[List.map_map]at this
  exact this
 have hb:lG=⟨3,3,(.cons (.ite (.or (.cons _ (.cons (.not Up) .nil))) _ .nil) (.cons (.ite (.not (.call 9 (.cons (.bi .tuple YJ) _))) _ .nil) (.cons (.ret Lh) .nil)))⟩:=rfl
 rw[Bt,hb]
 have q1:YJ.aq=none:=rfl
 have q2:Lh.aq=none:=rfl
 have t1':pg.fn _ 3 [.val (cY st),.val _,.val _]=.ok _ [.val _,.val _,.val _]:=aV (n+1) (st.map uI) 0 xs.length (by omega) (by simpa using ll)
 simp[t1',e1,e3,q1,dg n (.inl rfl) h nd hs 0 xs.length (by omega) (by simpa using ll),e2,q2]
def gl8:pg.gl 8=some (.int 12):=rfl
def vX:E:=.bi .all ABg
end Tx
namespace Tx.V
section
variable{h g:List Str}{ks:List D}{ls:List Bool}{os:List D}{sts:List (List (D×Nat))}
def cF.sub(T:cF h g os sts):(hd h++os).Sublist (names h g):=(List.Sublist.refl _).append T.ou
def v6:(bh g).Sublist (names h g):=List.sublist_append_right _ _
def Ci(n:Nat)(O:Nk h g ks ls)(T:cF h g os sts):pg.fn (n+4) 18 [.val (aY h g ks ls),.val (bf os sts)]=.ok (.val (.bl true)) [.val (aY h g ks ls),.val (bf os sts)]:=by
 have lg:=cA O.g5
 have lh:=eZ O.h2
 have h2:=O.h2
 have g5:=O.g5
 have s1:=T.s1
 have s4:=T.s4
 have lo:=T.ou.length_le
 have X:=aL h g
 have Nd:=O.nd
 have t1:pg.fn (n+3) 3 [.val (bf os sts),.val (.int 2),.val (.int 2)]=.ok (.val (.bl true)) [.val (bf os sts),.val (.int 2),.val (.int 2)]:=aV (n+2) [.tup os,.tup (sts.map cY)] 2 2 (by simp) (by simp)
 have gc:=mU (c:=pg.cf (n+3)) (it:=.idx (.var 0) AAG) (σ:=[.val (aY h g ks ls),.val (bf os sts),.un,.un]) (bh g) ks (by rw[O.kl,lg]) (by simp[aY])
 have t2:=dg (n+1) (d:=.lst (bh g)) (ys:=os) (.inr rfl) (fun x hx=>X x (v6.subset hx)) (v6.nodup Nd) T.ou 0 g.length (by omega) (by omega)
 have t3:=aV (n+2) (sts.map cY) 1 12 (by simp;omega) (by simp;omega)
 have hb:oG=⟨2,4,(.cons (.ite ACb AAQ .nil) (.cons (.set 2 (vf AAb)) (.cons (.ite AAo AAQ .nil) (.cons (.set 3 (.op .add AAc ABH)) (.cons (.ret vX) .nil)))))⟩:=rfl
 have q:vX.aq=none:=rfl
 have f:fits ((hd h).length+os.length)=true:=by simp[fits];omega
 have n0:getD (aY h g ks ls) (.int 0)=some (.tup (hd h)):=by simp[aY]
 have m0:getD (bf os sts) (.int 0)=some (.tup os):=by simp[bf]
 have m1:getD (bf os sts) (.int 1)=some (.tup (sts.map cY)):=by simp[bf]
 have e':ev (pg.cf (n+3)) vX [.val (aY h g ks ls),.val (bf os sts),.val (.lst (bh g)),.val (.tup (hd h++os))]=.ok (.val (.bl true)) [.val (aY h g ks ls),.val (bf os sts),.val (.lst (bh g)),.val (.tup (hd h++os))]:=by
  refine all1 (d:=.tup (sts.map cY)) (xs:=sts.map cY) (r:=.val (.tup (sts.map cY))) (by simp[bf]) rfl rfl fun x hx=>?_
  obtain⟨st,hst,rfl⟩:=QDq.mp hx
  have t:=zE n (xs:=hd h++os) (fun x hx=>X x (T.sub.subset hx)) (T.sub.nodup Nd) st sts.length (T.mv st hst).1 (T.mv st hst).2
  simp[bf,t]
 rw[Hi,hb]
 simp[t1,gc,m0,m1,n0,lg,t2,t3,gl8,f,e',q]
def pH(n:Nat)(O:Nk h g ks ls)(T:cF h g os sts):pg.fn (n+11) 17 [.val (aY h g ks ls),.val (bf os sts)]=.ok (.val (bf os sts)) [.val (aY h g ks ls),.val (bf os sts)]:=by
 have t:=Ci (n+6) O T
 have c:=lw n O
 rw[qI]
 simp[gj,c,t]
end
end Tx.V
end
section
open PySem Mini
namespace Tx
noncomputable def lk(x:D):List (D×Nat)->Option Nat
 |[]=>none
 |m::st=>if cM m.1 x then some m.2 else lk x st
abbrev gM(st:List (D×Nat)):List D:=st.map (·.1)
abbrev tH(st:List (D×Nat)):List D:=st.map fun m=>.int m.2
theorem Ff x:∀st,bH x (gM st) (tH st)=(lk x st).map fun j:Nat=>D.int j
 |[]=>rfl
 |m::st=>by
  simp only[Qyz,bH,lk]
  split
  ·rfl
  ·exact Ff x st
theorem Fg x:∀st,aN x (gM st)=(lk x st).isSome
 |[]=>rfl
 |m::st=>by
  simp only[Qyz,aN,lk,Fg x st]
  cases cM m.1 x<;>simp
theorem iR:∀(st:List (D×Nat))(ks vs:List D),cQ (ks++gM st)->(ks++gM st).Nodup->dictOf ks vs (st.map uI)=some (ks++gM st,vs++tH st)
 |[]=>fun ks vs _ _=>by simp[dictOf]
 |m::st=>fun ks vs h nd=>by
  obtain⟨s,e⟩:=h m.1 (by simp)
  have no:aN m.1 ks=false:=by
   rw[e]
   have hn:=fun hm=>by
    rw[show gM _=m.1::gM st from rfl,List.nodup_append]at nd
    exact nd.2.2 _ hm _ QYz rfl
   rw[e]at hn
   have hk:=fun x hx=>h x (QWz _ hx)
   clear nd h
   induction ks with
   |nil=>rfl
   |cons y ys ih=>
    obtain⟨q,rfl⟩:=hk y QYz
    have ne:¬q=s:=fun c=>hn (by rw[c];exact QYz)
    simp[aN,cM,ne,ih (fun c=>hn (QYq _ c)) fun x hx=>hk x (QYq _ hx)]
  have r:=iR st (ks++[m.1]) (vs++[.int m.2]) (by simpa using h) (by simpa using nd)
  rw[Qyz,show uI m=.tup [m.1,.int m.2]from rfl,dictOf,if_pos (by rw[e];rfl)]
  simp only[putD,no]
  rw[if_neg (by simp),r]
  simp
def bJ(sts:List (List (D×Nat)))(i:Nat):List (D×Nat):=sts.getD i []
end Tx
end
section
open PySem Mini
namespace Tx
def wN{xs:List D}(h:cQ xs)(hn:D.str s∉xs):aN (.str s) xs=false:=by
 induction xs with
 |nil=>rfl
 |cons x xs ih=>
  obtain⟨q,rfl⟩:=h x QYz
  have ne:q≠s:=fun e=>hn (by rw[e];exact QYz)
  simp[aN,cM,ne,ih (fun z hz=>h z (QYq _ hz)) fun hz=>hn (QYq _ hz)]
theorem Gi:∀(xs ys ks vs:List D),ys.length=xs.length->cQ xs->cQ ks->(ks++xs).Nodup->dictOf ks vs (aC xs ys)=some (ks++xs,vs++ys)
 |[],ys=>fun ks vs hl _ _ _=>by
  have:ys=[]:=by cases ys<;>simp_all
  subst this
  simp[aC,dictOf]
 |x::xs,[]=>fun ks vs hl _ _ _=>by simp at hl
 |x::xs,y::ys=>fun ks vs hl h hk nd=>by
  obtain⟨s,rfl⟩:=h x QYz
  have hn:=fun z=>by
   have:=List.nodup_append.mp nd
   exact this.2.2 _ z _ QYz rfl
  have ih:=Gi xs ys (ks++[.str s]) (vs++[y]) (by simpa using hl) (fun z hz=>h z (QYq _ hz)) (fun z hz=>by
   rcases QXz.mp hz with hz|hz
   ·exact hk z hz
   ·simp at hz;exact⟨s,hz⟩) (by simpa using nd)
  simp only[aC,dictOf,keyOk,if_true,putD,wN hk hn,Qxq,if_false]
  rw[ih]
  simp
def rW(hl:ys.length=xs.length)(h:cQ xs)(nd:xs.Nodup):dictOf [] [] (aC xs ys)=some (xs,ys):=by
 have:=Gi xs ys [] [] hl h (fun z hz=>by cases hz) (by simpa using nd)
 simpa using this
noncomputable def bA(xs:List D)(bs:List Bool)(x:D):Bool:=match bH x xs (bs.map .bl)with
 |some (.bl b)=>b
 |_=>false
theorem uP{x:D}:∀{xs:List D}{bs:List Bool},cQ xs->bs.length=xs.length->x∈xs->bH x xs (bs.map .bl)=some (.bl (bA xs bs x))
 |[],_=>fun _ _ hx=>by cases hx
 |y::ys,[]=>fun _ hl _=>by simp at hl
 |y::ys,b::bs=>fun h hl hx=>by
  obtain⟨q,rfl⟩:=h x hx
  obtain⟨s,rfl⟩:=h y QYz
  by_cases e:s=q
  ·subst e
   simp[bA,bH,cM]
  ·have hx':D.str q∈ys:=by
    rcases QCq.mp hx with z|z
    ·cases z;exact absurd rfl e
    ·exact z
   have l:bH (.str q) (.str s::ys) ((b::bs).map .bl)=bH (.str q) ys (bs.map .bl):=by simp[bH,cM,e]
   have v:bA (.str s::ys) (b::bs) (.str q)=bA ys bs (.str q):=by
    unfold bA
    rw[l]
   rw[l,v]
   exact uP (fun z hz=>h z (QYq _ hz)) (by simpa using hl) hx'
def jA{xs:List D}(h:cQ xs)(hl:bs.length=xs.length)(hx:x∈xs):getD (.dU xs (bs.map .bl)) x=some (.bl (bA xs bs x)):=by
 have e:=uP h hl hx
 obtain⟨q,rfl⟩:=h x hx
 exact e
def uG(bs:List Bool):il (bs.map D.bl)=true:=by
 induction bs with
 |nil=>rfl
 |cons b bs ih=>simp[il,nd,ih]
def CW(bs:List Bool):dM (bs.map D.bl)=0:=by
 induction bs with
 |nil=>rfl
 |cons b bs ih=>simp[dM,dep,ih]
def La(rs:List (List Bool)):il (rs.map aO)=true:=by
 induction rs with
 |nil=>rfl
 |cons r rs ih=>simp[il,nd,aO,uG,ih]
end Tx
end
section
open PySem Mini
namespace Tx
def wJ:E:=.comp 1 (.name 0) AAb AAL ABs
noncomputable def oU:Fn:=⟨3,5,(.cons (.set 3 AAc) (.cons (.ite (.cmp .eq (.var 3) ACi) (.cons (.ret ACm) .nil) .nil) (.cons (.ite ADS (.cons (.ret (.not ACm)) .nil) .nil) (.cons (.ite ADJ ADd .nil) (.cons (.set 4 (.bi .tuple wJ)) (.cons (.ite (.cmp .eq (.var 3) ACU) ADR .nil) (.cons (.ite (.cmp .eq (.var 3) ACY) ADQ .nil) (.cons (.ite ACG ACv .nil) ABR))))))))⟩
def iw:Dw=oU:=rfl
def H8(bs:List Bool)(rs:List (List Bool)):aG .isin (.tup (bs.map .bl)) (.tup (rs.map aO))=some (aN (.tup (bs.map .bl)) (rs.map aO)):=by
 have o:gP (.tup (bs.map .bl)) (rs.map aO)=true:=by
  simp[gP,nd,dep,uG,CW,La]
 show(if gP (.tup (bs.map .bl)) (rs.map aO)then some (aN (.tup (bs.map .bl)) (rs.map aO))else none)=_
 rw[o]
 rfl
section
variable{bs:List Bool}
def jY n(h:cQ xs)(hl:bs.length=xs.length)(hs:ys.Sublist xs)w r s1 s3 s4:
  ev (pg.cf n) wJ [.val (.tup (w:: .tup ys::r)),s1,.val (.dU xs (bs.map .bl)),s3,s4]=.ok (.new (.lst ((ys.map (bA xs bs)).map .bl))) [.val (.tup (w:: .tup ys::r)),s1,.val (.dU xs (bs.map .bl)),s3,s4]:=by
 have:=kW (c:=pg.cf n) (it:=.idx (.var 0) AAG) (el:=.idx (.var 3) (.var 0)) (σ:=[.val (.tup (w:: .tup ys::r)),s1,.val (.dU xs (bs.map .bl)),s3,s4]) (fun x=>.bl (bA xs bs x)) (r:=.val (.tup ys)) (τ:=[.val (.tup (w:: .tup ys::r)),s1,.val (.dU xs (bs.map .bl)),s3,s4]) (by simp) rfl rfl fun x hx=>by
  simp[jA h hl (hs.subset hx)]
 rw[wJ,this]
 simp
noncomputable def nF(xs:List D)(bs:List Bool):D->Bool->Bool
 |.tup [_,d,x,.bl bb],own=>if (bA xs bs x==nF xs bs d own)==bb then nF xs bs d own else own
 |.tup [_,.tup ys,.tup rs],_=>aN (.tup ((ys.map (bA xs bs)).map .bl)) rs
 |.tup [.str k,.tup ys],own=>if k="and" then(ys.map (bA xs bs)).all id else if k="or" then(ys.map (bA xs bs)).any id else(ys.map (bA xs bs)).all id||(own&&(ys.map (bA xs bs)).any id)
 |.tup [.str k,x],_=>if k="same" then bA xs bs x else !bA xs bs x
 |_,_=>false
def vU(a d x:D)(bb own:Bool):nF xs bs (.tup [a,d,x,.bl bb]) own=if (bA xs bs x==nF xs bs d own)==bb then nF xs bs d own else own:=by rw[nF]
def p7(a:D)(ys rs:List D)(own:Bool):nF xs bs (.tup [a,.tup ys,.tup rs]) own=aN (.tup ((ys.map (bA xs bs)).map .bl)) rs:=by rw[nF]
def Ay(ys:List D)(own:Bool):nF xs bs (.tup [.str "and",.tup ys]) own=(ys.map (bA xs bs)).all id:=by rw[nF];rfl
def Jv(ys:List D)(own:Bool):nF xs bs (.tup [.str "or",.tup ys]) own=(ys.map (bA xs bs)).any id:=by rw[nF];rfl
def vV(ys:List D)(own:Bool):nF xs bs (.tup [.str "both",.tup ys]) own=((ys.map (bA xs bs)).all id||(own&&(ys.map (bA xs bs)).any id)):=by rw[nF];rfl
def vR(s:Str)(own:Bool):nF xs bs (.tup [.str "same",.str s]) own=bA xs bs (.str s):=by rw[nF];rfl;simp
def Ax(s:Str)(own:Bool):nF xs bs (.tup [.str "not",.str s]) own= !bA xs bs (.str s):=by rw[nF];rfl;simp
def Agree(xs:List D)(bs:List Bool)(i:Nat)(d:D)(own b:Bool):Prop:=
 pg.fn i 15 [.val d,.val (.bl own),.val (.dU xs (bs.map .bl))]=.ok (.val (.bl b)) [.val d,.val (.bl own),.val (.dU xs (bs.map .bl))]
def HS n k:n+1+2*k=n+2*k+1:=Nat.add_right_comm n 1 _
def afH n k:n+1+2*(k+1)=n+1+2*k+1+1:=rfl
def Jy(h:cQ xs)(hl:bs.length=xs.length):∀{k:Nat}{d:D},bu xs k d->∀(own:Bool)(n:Nat),Agree xs bs (n+1+2*k) d own (nF xs bs d own):=by
 intro k d hk
 have q1:wJ.aq=none:=rfl
 induction hk with
 | @same k x hx=>
  intro own n
  have e:=jA h hl hx
  obtain⟨s,rfl⟩:=h x hx
  rw[Agree,HS,kZ,iw,vR]
  simp[oU,e]
 | @not k x hx=>
  intro own n
  have e:=jA h hl hx
  obtain⟨s,rfl⟩:=h x hx
  rw[Agree,HS,kZ,iw,Ax]
  simp[oU,e]
 | @and k ys hs h1 h2=>
  intro own n
  have e1:=jY (n+2*k) h hl hs (.str "and") []
  have bb:=jC (ys.map (bA xs bs))
  rw[Agree,HS,kZ,iw,Ay]
  generalize ys.map (bA xs bs)=row at*
  simp[oU,e1,q1,bb]
 | @or k ys hs h1 h2=>
  intro own n
  have e1:=jY (n+2*k) h hl hs (.str "or") []
  have bb:=jC (ys.map (bA xs bs))
  rw[Agree,HS,kZ,iw,Jv]
  generalize ys.map (bA xs bs)=row at*
  simp[oU,e1,q1,bb]
 | @both k ys hs h1 h2=>
  intro own n
  have e1:=jY (n+2*k) h hl hs (.str "both") []
  have bb:=jC (ys.map (bA xs bs))
  rw[Agree,HS,kZ,iw,vV]
  generalize ys.map (bA xs bs)=row at*
  cases ha:row.all id<;>cases own<;>simp[oU,e1,q1,bb,ha]
 | @table k ys rs hs h1 h2 hr hi=>
  intro own n
  have e1:=jY (n+2*k) h hl hs (.str "table") [.tup (rs.map aO)]
  rw[Agree,HS,kZ,iw,p7]
  generalize ys.map (bA xs bs)=row at*
  have eb:=H8 row rs
  simp[oU,e1,q1,eb]
 | @held k d x bb hk hx ih=>
  intro own n
  have e:=jA h hl hx
  have hh:pg.fn (n+1+2*k+1) 16 [.val (.tup [.str "held",d,x,.bl bb]),.val (.bl own),.val (.dU xs (bs.map .bl))]=.ok (.val (.bl (nF xs bs (.tup [.str "held",d,x,.bl bb]) own))) [.val (.tup [.str "held",d,x,.bl bb]),.val (.bl own),.val (.dU xs (bs.map .bl))]:=by
   have i2:=ih own n
   unfold Agree at i2
   rw[yG,vU]
   generalize nF xs bs d own=b at*
   cases hc:((bA xs bs x==b)==bb)<;>simp[jE,i2,e,hc]
  rw[Agree,afH,kZ,iw]
  simp[oU,hh]
end
end Tx
end
section
open PySem Mini
namespace Tx.V
section
variable{h g:List Str}{ks:List D}{ls bs:List Bool}
def Jp:E:=.comp 2 (.tup [0,1]) AAb AAj (.var 0)
def wtP(xs:List D)(bs:List Bool)(x:D×D):Bool:= !(nF xs bs x.2 (bA xs bs x.1)==bA xs bs x.1)
noncomputable def wF(h g:List Str)(ks:List D)(bs:List Bool):List D:=(((bh g).zip ks).filter (wtP (names h g) bs)).map (·.1)
theorem vC(O:Nk h g ks ls)(hl:bs.length=(names h g).length):(wF h g ks bs).Sublist (bh g)/\∀n:Nat,
  pg.fn (n+6) 14 [.val (aY h g ks ls),.val (aO bs)]=.ok (.new (.lst (wF h g ks bs))) [.val (aY h g ks ls),.val (aO bs)]:=by
 have T:=aL h g
 have Nd:=O.nd
 have lg:=cA O.g5
 have lh:=eZ O.h2
 have hF:∀k own,bu (names h g) 2 k->∀n,Agree (names h g) bs (n+5) k own (nF (names h g) bs k own):=fun k own hk n=>Jy T hl hk own n
 let p:D×D->Bool:=wtP (names h g) bs
 have mem:∀x∈(bh g).zip ks,x.1∈names h g/\bu (names h g) 2 x.2:=fun x hx=>⟨QVq _ (List.of_mem_zip hx).1,O.kk x.2 (List.of_mem_zip hx).2⟩
 obtain⟨x0,ps,zeq⟩:∃x0 ps,(bh g).zip ks=x0::ps:=by
  cases q:(bh g).zip ks with
  |nil=>
   have:=congrArg List.length q
   rw[List.length_zip,lg,O.kl]at this
   have g1:=O.g1
   simp only[Nat.min_self,List.length_nil]at this
   omega
  |cons x ps=>exact⟨x,ps,rfl⟩
 have dz:dictOf [] [] (aC (names h g) (bs.map .bl))=some (names h g,bs.map .bl):=rW (by simpa using hl) T Nd
 show((((bh g).zip ks).filter p).map (·.1)).Sublist (bh g)/\∀n:Nat,pg.fn (n+6) 14 [.val (aY h g ks ls),.val (aO bs)]=.ok (.new (.lst ((((bh g).zip ks).filter p).map (·.1)))) [.val (aY h g ks ls),.val (aO bs)]
 refine⟨?_,fun n=>?_⟩
 ·have s1:((((bh g).zip ks).filter p).map (·.1)).Sublist (((bh g).zip ks).map (·.1)):=(List.filter_sublist).map _
  have s2:((bh g).zip ks).map (·.1)=bh g:=List.map_fst_zip (by rw[lg,O.kl];exact QVz _)
  rw[s2]at s1
  exact s1
 have w1:pg.fn (n+5) 13 [.val (aY h g ks ls)]=.ok (.new (.lst (names h g))) [.val (aY h g ks ls)]:=
  eV (n+4) (hd h) (bh g) ks (.tup (ls.map .bl)) (by rw[O.kl,lg]) (by have:=O.h2;have:=O.g5;omega)
 have e1:ev (pg.cf (n+5)) Jp [.val (aY h g ks ls),.val (aO bs),.own (.dct (names h g) (bs.map .bl))]=.ok (.new (.lst ((((bh g).zip ks).filter p).map (·.1)))) [.val (aY h g ks ls),.val (aO bs),.val (.dU (names h g) (bs.map .bl))]:=by
  rw[zeq]at mem⊢
  have c0:∀x,x∈x0::ps->∀s:Sl,(s=.own (.dct (names h g) (bs.map .bl))\/s=.val (.dU (names h g) (bs.map .bl)))->ev (pg.cf (n+5)) AAj [.val x.1,.val x.2,.val (aY h g ks ls),.val (aO bs),s]=.ok (.val (.bl (p x))) [.val x.1,.val x.2,.val (aY h g ks ls),.val (aO bs),.val (.dU (names h g) (bs.map .bl))]:=fun x hx s hs=>by
   obtain⟨m1,m2⟩:=mem x hx
   have gl:=jA T hl m1
   have a:=hF x.2 (bA (names h g) bs x.1) m2 n
   unfold Agree at a
   rcases hs with rfl|rfl<;>simp[gl,a,p,wtP]
  have it:items (.tup (aC (bh g) ks))=some ((x0::ps).map pairD):=by show some _=some _;rw[bY,zeq]
  exact Y4 (·.1) p (r:=.val (.tup (aC (bh g) ks))) (τ0:=[.val (aY h g ks ls),.val (aO bs),.own (.dct (names h g) (bs.map .bl))]) (by simp[aY]) rfl it (c0 x0 QYz _ (.inl rfl)) (fun x hx=>c0 x (QYq _ hx) _ (.inr rfl)) (fun x _ _=>by simp)
 have hb:fc=⟨2,3,(.cons (.set 2 (.bi .dict ACl)) (.cons (.ret Jp) .nil))⟩:=rfl
 have q:Jp.aq=none:=rfl
 have z:bK (aO bs)=some (bs.map .bl):=rfl
 rw[ph,hb]
 simp[w1,z,dz,e1,q]
end
end Tx.V
end
section
open PySem Mini
namespace Tx.V
structure Wt(h g:List Str)(ks:List D)(ls:List Bool)(W:List Bool->List D):Prop where
 sub:∀bs,bs.length=(names h g).length->(W bs).Sublist (bh g)
 pr:∀bs,bs.length=(names h g).length->∀n,pg.fn (n+6) 14 [.val (aY h g ks ls),.val (aO bs)]=.ok (.new (.lst (W bs))) [.val (aY h g ks ls),.val (aO bs)]
def Jk{h g:List Str}{ks:List D}{ls:List Bool}(O:Nk h g ks ls):Wt h g ks ls (wF h g ks):=⟨fun bs hl=>(vC O hl).1,fun bs hl=>(vC O hl).2⟩
def X4{xs:List D}(h:cQ xs):aN (.str s) xs=true↔D.str s∈xs:=by
 constructor
 ·intro z
  by_cases c:D.str s∈xs
  ·exact c
  ·rw[wN h c]at z;cases z
 ·intro z;exact j4 z h
theorem uY x:∀xs ys:List D,aN x (xs++ys)=(aN x xs||aN x ys)
 |[]=>fun ys=>rfl
 |y::xs=>fun ys=>by simp[aN,uY x xs ys,Bool.or_assoc]
abbrev St:=List Bool×Nat
def aB(s:St):D:=.tup [aO s.1,.int s.2]
section
variable{h g:List Str}{ks:List D}{ls:List Bool}{os:List D}{sts:List (List (D×Nat))}{W:List Bool->List D}
structure Vi(h g:List Str)(sts:List (List (D×Nat)))(s:St):Prop where
 l:s.1.length=(names h g).length
 j:s.2<sts.length
noncomputable def qg(h:List Str)(sts:List (List (D×Nat)))(W:List Bool->List D)(s:St):List D:=(hd h).filter (fun x=>(lk x (bJ sts s.2)).isSome)++W s.1
def wR(h:List Str):cQ (hd h):=fun x hx=>aL h [] x (QWz _ hx)
def cN(g:List Str):cQ (bh g):=fun x hx=>aL [] g x (QVq _ hx)
def mq(hj:j<sts.length):bJ sts j∈sts:=by simp[bJ,hj]
def vY(hj:j<sts.length):at? (sts.map cY) (j:Int)=some (cY (bJ sts j)):=by
 rw[lM _ _ (by simpa using hj)]
 simp[bJ,hj]
def qe(Wk:Wt h g ks ls W)(S:Vi h g sts s):(qg h sts W s).Sublist (names h g):=(List.filter_sublist).append (Wk.sub s.1 S.l)
def mj(T:cF h g os sts)(O:Nk h g ks ls){j:Nat}(hj:j<sts.length):cQ (gM (bJ sts j))/\(gM (bJ sts j)).Nodup:=by
 have:=(T.mv _ (mq hj)).1
 exact⟨fun x hx=>aL h g x (T.sub.subset (this.subset hx)),this.nodup (T.sub.nodup (O.nd))⟩
def stC:E:=.comp 1 (.name 0) AAc (.cmp .isin (.var 0) (.var 4)) (.var 0)
def yu(n:Nat)(O:Nk h g ks ls)(T:cF h g os sts)(Wk:Wt h g ks ls W){s:St}(S:Vi h g sts s):
  pg.fn (n+7) 22 [.val (aY h g ks ls),.val (bf os sts),.val (aB s)]=.ok (.new (.lst (qg h sts W s))) [.val (aY h g ks ls),.val (bf os sts),.val (aB s)]:=by
 have K:=mj T O S.j
 have d:=iR (bJ sts s.2) [] [] (by simpa using K.1) (by simpa using K.2)
 have e:ev (pg.cf (n+6)) stC [.val (aY h g ks ls),.val (bf os sts),.val (aB s),.own (.dct (gM (bJ sts s.2)) (tH (bJ sts s.2)))]=.ok (.new (.lst ((hd h).filter fun x=>(lk x (bJ sts s.2)).isSome))) [.val (aY h g ks ls),.val (bf os sts),.val (aB s),.own (.dct (gM (bJ sts s.2)) (tH (bJ sts s.2)))]:=by
  have:=Dg (c:=pg.cf (n+6)) (it:=.idx (.var 0) AAH) (co:=.cmp .isin (.var 0) (.var 4)) (el:=.var 0) (σ:=[.val (aY h g ks ls),.val (bf os sts),.val (aB s),.own (.dct (gM (bJ sts s.2)) (tH (bJ sts s.2)))]) (τ:=[.val (aY h g ks ls),.val (bf os sts),.val (aB s),.own (.dct (gM (bJ sts s.2)) (tH (bJ sts s.2)))]) (d:=.tup (hd h)) (xs:=hd h) (r:=.val (.tup (hd h))) (fun x=>x) (fun x=>(lk x (bJ sts s.2)).isSome) (by simp[aY]) rfl rfl (fun x hx=>by
   obtain⟨q,rfl⟩:=wR h x hx
   have:aG .isin (.str q) (.dU (gM (bJ sts s.2)) (tH (bJ sts s.2)))=some (lk (.str q) (bJ sts s.2)).isSome:=by rw[<-Fg];rfl
   simp[this,Ob.d]) (fun x _ _=>by simp)
  rw[List.map_id']at this
  exact this
 have w:=Wk.pr s.1 S.l n
 have t1:getD (bf os sts) (.int 1)=some (.tup (sts.map cY)):=by simp[bf]
 have s0:getD (aB s) (.int 0)=some (aO s.1):=by simp[aB]
 have s1:getD (aB s) (.int 1)=some (.int s.2):=by simp[aB]
 have st:=vY S.j
 have sl:=(qe Wk S).length_le
 have nl:=dR (g:=g) O.h2 O.g5
 have h2:=O.h2
 have g5:=O.g5
 have f:fits (((hd h).filter fun x=>(lk x (bJ sts s.2)).isSome).length+(W s.1).length)=true:=by
  simp only[qg,QTq]at sl
  simp[fits]
  omega
 have hb:lA=⟨3,4,(.cons (.set 3 ACp) (.cons (.ret (.op .add stC ABv)) .nil))⟩:=rfl
 rw[Bm,hb]
 simp[t1,s0,s1,st,cY,d,e,w,f,qg]
end
end Tx.V
end
section
open PySem Mini
namespace Tx.V
section
variable{h g:List Str}{ks:List D}{ls:List Bool}{os:List D}{sts:List (List (D×Nat))}{W:List Bool->List D}
noncomputable def gC(xs:List D)(bs:List Bool)(x:D):List Bool:=(xs.zip bs).map fun p=>if cM p.1 x then !p.2 else p.2
def zM{bs:List Bool}(hl:bs.length=xs.length)x:(gC xs bs x).length=xs.length:=by simp[gC,hl]
def chF(x:D)(p:D×D):D:=match p.2 with
 |.bl b=>.bl (if cM p.1 x then !b else b)
 |d=>d
theorem Gw x:∀(xs:List D)(bs:List Bool),(xs.zip (bs.map D.bl)).map (chF x)=(gC xs bs x).map .bl
 |[],bs=>by simp[gC]
 |_::_,[]=>by simp[gC]
 |y::xs,b::bs=>by
  have:=Gw x xs bs
  simp only[gC]at this⊢
  simp[chF,this]
def chC:E:=.comp 2 (.tup [0,1]) ACl AAL (.ite ACk (.not (.var 1)) (.var 1))
def Dl(n:Nat)(O:Nk h g ks ls){bs:List Bool}(hl:bs.length=(names h g).length){x:D}(hx:∃s,x=.str s):
  pg.fn (n+2) 25 [.val (aY h g ks ls),.val (aO bs),.val x]=.ok (.val (aO (gC (names h g) bs x))) [.val (aY h g ks ls),.val (aO bs),.val x]:=by
 obtain⟨q,rfl⟩:=hx
 have w:pg.fn (n+1) 13 [.val (aY h g ks ls)]=.ok (.new (.lst (names h g))) [.val (aY h g ks ls)]:=
  eV n (hd h) (bh g) ks (.tup (ls.map .bl)) (by rw[O.kl,cA O.g5]) (by rw[eZ O.h2,cA O.g5];have:=O.h2;have:=O.g5;omega)
 have e:ev (pg.cf (n+1)) chC [.val (aY h g ks ls),.val (aO bs),.val (.str q)]=.ok (.new (.lst ((gC (names h g) bs (.str q)).map .bl))) [.val (aY h g ks ls),.val (aO bs),.val (.str q)]:=by
  have:=zZ (c:=pg.cf (n+1)) (it:=.zip ABf (.var 1)) (el:=.ite ACk (.not (.var 1)) (.var 1)) (σ:=[.val (aY h g ks ls),.val (aO bs),.val (.str q)]) (τ:=[.val (aY h g ks ls),.val (aO bs),.val (.str q)]) (d:=.lst (aC (names h g) (bs.map .bl))) (ps:=(names h g).zip (bs.map .bl)) (r:=.val (.lst (aC (names h g) (bs.map .bl)))) (chF (.str q)) (by
    have z:bK (aO bs)=some (bs.map .bl):=rfl
    simp[w,z]) rfl (by show some _=some _;rw[bY]) (fun p hp=>by
    obtain⟨u,eu⟩:=aL h g p.1 (List.of_mem_zip hp).1
    obtain⟨b,_,eb⟩:=QDq.mp (List.of_mem_zip hp).2
    rw[<-eb,eu]
    have e1:chF (.str q) p=.bl (if decide (u=q)then !b else b):=by
     unfold chF
     rw[<-eb,eu]
     rfl
    rw[e1]
    cases c:decide (u=q)<;>simp[c])
  rw[Gw]at this
  exact this
 have hb:oM=⟨3,3,(.cons (.ret (.bi .tuple chC)) .nil)⟩:=rfl
 have qv:chC.aq=none:=rfl
 rw[Hn,hb]
 simp[e,qv]
 rfl
end
end Tx.V
end
section
open PySem Mini
namespace Tx.V
section
variable{h g:List Str}{ks:List D}{ls:List Bool}{os:List D}{sts:List (List (D×Nat))}{W:List Bool->List D}
def mL{xs:List D}(t:cQ xs):aG .isin (.str q) (.lst xs)=some (aN (.str q) xs)/\aG .isin (.str q) (.tup xs)=some (aN (.str q) xs)/\aG .notin (.str q) (.tup xs)=some (!aN (.str q) xs):=by
 have o:gP (.str q) xs=true:=by unfold gP;rw[j5 t];rfl
 refine⟨?_,?_,?_⟩
 ·show(if gP _ xs then some _ else none)=_;rw[o];rfl
 ·show(if gP _ xs then some _ else none)=_;rw[o];rfl
 ·show(if gP _ xs then some _ else none)=_;rw[o];rfl
def Mt(O:Nk h g ks ls){x:D}(hx:x∈hd h):x∉bh g:=fun hs=>by
 have nd:=O.nd
 rw[names,List.nodup_append]at nd
 exact nd.2.2 _ hx _ hs rfl
theorem Xx{x:D}:∀{st:List (D×Nat)},cQ (gM st)->(∃s,x=.str s)->((lk x st).isSome=true↔x∈gM st)
 |[],_,_=>by simp[lk]
 |m::st,t,⟨s,hs⟩=>by
  subst hs
  rw[<-Fg,X4 t]
noncomputable def tV(h g:List Str)(os:List D)(sts:List (List (D×Nat)))(s:St)(x:D):Option St:=
 if aN x (hd h)||aN x os then(lk x (bJ sts s.2)).map fun j=>(gC (names h g) s.1 x,j)else some (gC (names h g) s.1 x,s.2)
def wy:Option St->D
 |none=>.non
 |some s=>aB s
def sdE a(j:Nat):D.tup [aO a,.int j]=aB (a,j):=rfl
def pM(T:cF h g os sts):cQ os:=fun x hx=>cN g x (T.ou.subset hx)
theorem Uw{x:D}{N:Nat}:∀{st:List (D×Nat)},(∀m∈st,m.2<N)->∀{j:Nat},lk x st=some j->j<N
 |[],_,_,e=>by cases e
 |m::st,hm,j,e=>by
  simp only[lk]at e
  split at e
  ·cases e;exact hm m QYz
  ·exact Uw (fun q hq=>hm q (QYq _ hq)) e
def Xy(T:cF h g os sts)(S:Vi h g sts s)(e:tV h g os sts s x=some s'):Vi h g sts s':=by
 unfold tV at e
 split at e
 ·obtain⟨j,hj,rfl⟩:=QJz.mp e
  exact⟨zM S.l x,Uw (T.mv _ (mq S.j)).2 hj⟩
 ·cases e
  exact⟨zM S.l x,S.j⟩
def pW(n:Nat)(O:Nk h g ks ls)(T:cF h g os sts){s:St}(S:Vi h g sts s)(q:Str):
  pg.fn (n+1) 23 [.val (bf os sts),.val (aB s),.val (.str q)]=.ok (.val (.bl (aN (.str q) os&& !(lk (.str q) (bJ sts s.2)).isSome))) [.val (bf os sts),.val (aB s),.val (.str q)]:=by
 have K:=mj T O S.j
 have d:=iR (bJ sts s.2) [] [] (by simpa using K.1) (by simpa using K.2)
 have t0:getD (bf os sts) (.int 0)=some (.tup os):=by simp[bf]
 have t1:getD (bf os sts) (.int 1)=some (.tup (sts.map cY)):=by simp[bf]
 have s1:getD (aB s) (.int 1)=some (.int s.2):=by simp[aB]
 have st:=vY S.j
 have i:=(mL (q:=q) (pM T)).2.1
 have i2:aG .notin (.str q) (.dU (gM (bJ sts s.2)) (tH (bJ sts s.2)))=some (!(lk (.str q) (bJ sts s.2)).isSome):=by rw[<-Fg];rfl
 rw[v9]
 cases c:aN (.str q) os<;>rw[c]at i<;>simp[iZ,t0,i,t1,s1,st,cY,d,Ob.d,i2]
def Ft(O:Nk h g ks ls)(T:cF h g os sts)(Wk:Wt h g ks ls W){s:St}(S:Vi h g sts s){q:Str}(hx:D.str q∈qg h sts W s):(aN (.str q) os&& !(lk (.str q) (bJ sts s.2)).isSome)=true/\tV h g os sts s (.str q)=none\/(aN (.str q) os&& !(lk (.str q) (bJ sts s.2)).isSome)=false/\tV h g os sts s (.str q)=some (gC (names h g) s.1 (.str q),(lk (.str q) (bJ sts s.2)).getD s.2):=by
 have K:=mj T O S.j
 unfold tV
 rcases QXz.mp hx with z|z
 ·obtain⟨z1,z2⟩:=List.mem_filter.mp z
  have no:aN (.str q) os=false:=wN (pM T) fun w=>Mt O z1 (T.ou.subset w)
  have yes:aN (.str q) (hd h)=true:=j4 z1 (wR h)
  rw[no,yes]
  obtain⟨j,hj⟩:=Option.isSome_iff_exists.mp z2
  rw[hj]
  exact .inr ⟨rfl,rfl⟩
 ·have zr:=(Wk.sub s.1 S.l).subset z
  have no:aN (.str q) (hd h)=false:=wN (wR h) fun w=>Mt O w zr
  rw[no]
  cases ho:aN (.str q) os with
  |true=>
   cases hj:lk (.str q) (bJ sts s.2)with
   |none=>exact .inl ⟨rfl,rfl⟩
   |some j=>exact .inr ⟨rfl,rfl⟩
  |false=>
   have hn:lk (.str q) (bJ sts s.2)=none:=by
    cases hj:lk (.str q) (bJ sts s.2)with
    |none=>rfl
    |some j=>
     have m:=(Xx K.1 ⟨q,rfl⟩).mp (by rw[hj];rfl)
     rcases QXz.mp ((T.mv _ (mq S.j)).1.subset m)with w|w
     ·exact absurd zr (Mt O w)
     ·rw[j4 w (pM T)]at ho;cases ho
   rw[hn]
   exact .inr ⟨rfl,rfl⟩
def HR(n:Nat)(O:Nk h g ks ls)(T:cF h g os sts)(Wk:Wt h g ks ls W){s:St}(S:Vi h g sts s){x:D}(hx:x∈qg h sts W s):
  pg.fn (n+3) 24 [.val (aY h g ks ls),.val (bf os sts),.val (aB s),.val x]=.ok (.val (wy (tV h g os sts s x))) [.val (aY h g ks ls),.val (bf os sts),.val (aB s),.val x]:=by
 have K:=mj T O S.j
 have d:=iR (bJ sts s.2) [] [] (by simpa using K.1) (by simpa using K.2)
 obtain⟨q,rfl⟩:=aL h g x ((qe Wk S).subset hx)
 have u:=pW (n+1) O T S q
 have c:=Dl n O S.l ⟨q,rfl⟩
 have t1:getD (bf os sts) (.int 1)=some (.tup (sts.map cY)):=by simp[bf]
 have s0:getD (aB s) (.int 0)=some (aO s.1):=by simp[aB]
 have s1:getD (aB s) (.int 1)=some (.int s.2):=by simp[aB]
 have st:=vY S.j
 have gt:rJ (.dU (gM (bJ sts s.2)) (tH (bJ sts s.2))) (.str q) (.int s.2)=some (.int ((lk (.str q) (bJ sts s.2)).getD s.2)):=by
  show(if keyOk (.str q)then some ((bH (.str q) (gM (bJ sts s.2)) (tH (bJ sts s.2))).getD (.int s.2))else none)=_
  rw[Ff]
  cases lk (.str q) (bJ sts s.2)<;>rfl
 have key:=Ft O T Wk S hx
 rw[J7]
 rcases key with ⟨k1,k2⟩|⟨k1,k2⟩
 ·rw[k1]at u
  rw[k2]
  simp[m5,u,wy]
 ·rw[k1]at u
  rw[k2]
  simp[m5,u,t1,s0,s1,st,cY,d,Ob.d,c,rE,gt,aJ,wy,sdE]
end
end Tx.V
end
section
open PySem Mini
namespace Tx.V
structure Cs where
 h:List Str
 g:List Str
 ks:List D
 ls:List Bool
 os:List D
 sts:List (List (D×Nat))
 W:List Bool->List D
namespace Cs
variable(C:Cs)
structure Ok:Prop where
 o:Nk C.h C.g C.ks C.ls
 t:cF C.h C.g C.os C.sts
 w:Wt C.h C.g C.ks C.ls C.W
def n:D:=aY C.h C.g C.ks C.ls
def t:D:=bf C.os C.sts
abbrev nm:List D:=names C.h C.g
abbrev S(s:St):Prop:=Vi C.h C.g C.sts s
def st(s:St):List D:=qg C.h C.sts C.W s
def led(s:St)(x:D):Option St:=tV C.h C.g C.os C.sts s x
end Cs
section
variable{C:Cs}{s:St}
namespace Cs.Ok
variable(K:C.Ok)
include K
def sub(S:C.S s):(C.st s).Sublist C.nm:=qe K.w S
def aaE(S:C.S s):cQ (C.st s):=fun x hx=>aL C.h C.g x ((K.sub S).subset hx)
def wtx(S:C.S s):cQ (C.W s.1):=fun x hx=>cN C.g x ((K.w.sub s.1 S.l).subset hx)
def Rt{t:St}(S:C.S s)(e:C.led s x=some t):C.S t:=Xy K.t S e
def eY m(S:C.S s):pg.fn (m+7) 22 [.val C.n,.val C.t,.val (aB s)]=.ok (.new (.lst (C.st s))) [.val C.n,.val C.t,.val (aB s)]:=yu m K.o K.t K.w S
def jy m(S:C.S s)(hx:x∈C.st s):pg.fn (m+3) 24 [.val C.n,.val C.t,.val (aB s),.val x]=.ok (.val (wy (C.led s x))) [.val C.n,.val C.t,.val (aB s),.val x]:=HR m K.o K.t K.w S hx
def checked m:pg.fn (m+11) 17 [.val C.n,.val C.t]=.ok (.val C.t) [.val C.n,.val C.t]:=pH m K.o K.t
def wpr m(S:C.S s):pg.fn (m+6) 14 [.val C.n,.val (aO s.1)]=.ok (.new (.lst (C.W s.1))) [.val C.n,.val (aO s.1)]:=K.w.pr s.1 S.l m
def unasked m(S:C.S s)(hx:D.str q∈C.st s):pg.fn (m+1) 23 [.val C.t,.val (aB s),.val (.str q)]=.ok (.val (.bl (C.led s (.str q)).isNone)) [.val C.t,.val (aB s),.val (.str q)]:=by
 have u:=pW m K.o K.t S q
 rcases Ft K.o K.t K.w S hx with ⟨a,b⟩|⟨a,b⟩<;>rw[a]at u<;>rw[Cs.led,b]<;>exact u
end Cs.Ok
def Lf:getD C.n (.int 2)=some (aO C.ls):=by simp[Cs.n,aY];rfl
def JB:getD C.t (.int 0)=some (.tup C.os):=by simp[Cs.t,bf]
def Tu:getD C.t (.int 1)=some (.tup (C.sts.map cY)):=by simp[Cs.t,bf]
def aa2 s:getD (aB s) (.int 0)=some (aO s.1):=by simp[aB]
def aex s:getD (aB s) (.int 1)=some (.int s.2):=by simp[aB]
end
abbrev Rs:=List (St×List D)
def kD(R:Rs):List D:=R.map fun p=>aB p.1
def vD(R:Rs):List D:=R.map fun p=>.lst p.2
def Cg R N:kD (R++N)=kD R++kD N:=List.map_append
def VH R N:vD (R++N)=vD R++vD N:=List.map_append
def rA R:(kD R).length=R.length:=QAq _
theorem Ek:∀a b:List Bool,pG (a.map .bl) (b.map .bl)=decide (a=b)
 |[],[]=>rfl
 |[],_::_=>rfl
 |_::_,[]=>rfl
 |x::a,y::b=>by
  simp only[Qyz,pG,cM,Ek a b,List.cons.injEq]
  by_cases e:x=y<;>by_cases e':a=b<;>simp[e,e']
def Ec a b:cM (aB a) (aB b)=decide (a=b):=by
 obtain⟨a,i⟩:=a
 obtain⟨b,j⟩:=b
 simp only[aB,aO,cM,pG,Ek,Bool.and_true,Prod.mk.injEq]
 by_cases e:a=b<;>by_cases e':i=j<;>simp[e,e']<;>omega
theorem Mm t:∀R:Rs,aN (aB t) (kD R)=decide (t∈R.map (·.1))
 |[]=>by simp[kD,aN]
 |p::R=>by
  have:=Mm t R
  simp only[kD]at this
  simp only[kD,Qyz,aN,Ec,this,QCq]
  by_cases e:p.1=t
  ·simp[e]
  ·have:¬t=p.1:=fun z=>e z.symm
   simp[e,this]
def Ln(s:St):Rs->Option (List D)
 |[]=>none
 |p::R=>if p.1=s then some p.2 else Ln s R
theorem Ux s:∀R:Rs,bH (aB s) (kD R) (vD R)=(Ln s R).map D.lst
 |[]=>rfl
 |p::R=>by
  have:=Ux s R
  simp only[kD,vD]at this
  simp only[kD,vD,Qyz,bH,Ec,this,Ln]
  by_cases e:p.1=s<;>simp[e]
theorem Fj{r:List D}N:∀{R:Rs},Ln s R=some r->Ln s (R++N)=some r
 |[]=>fun e=>by cases e
 |p::R=>fun e=>by
  simp only[QLz,Ln]at e⊢
  split
  ·rename_i z;rw[if_pos z]at e;exact e
  ·rename_i z;rw[if_neg z]at e;exact Fj N e
theorem Ce{s:St}{r:List D}:∀{R:Rs}{k:Nat},(R.map (·.1)).Nodup->R[k]? =some (s,r)->Ln s R=some r
 |[],_=>fun _ e=>by cases e
 |p::R,0=>fun _ e=>by cases e;simp[Ln]
 |p::R,k+1=>fun nd e=>by
  have e':R[k]? =some (s,r):=e
  rw[Qyz,List.nodup_cons]at nd
  rw[Ln,if_neg (fun z=>nd.1 (by rw[z];exact QTz (QBz e')))]
  exact Ce nd.2 e'
theorem LC:∀bs:List Bool,LK (bs.map .bl)=true
 |[]=>rfl
 |b::bs=>by simp[LK,kA,LC bs]
theorem Gj:∀bs:List Bool,dM (bs.map .bl)=0
 |[]=>rfl
 |b::bs=>by simp[dM,dep,Gj bs]
def jz(s:St):cP (aB s)=true:=by
 simp[aB,cP,aO,LK,kA,LC,dM,dep,Gj]
def Rh t R:aG .notin (aB t) (.gH (kD R) (vD R))=some (!decide (t∈R.map (·.1))):=by
 show(if cP _ then some _ else none)=_
 rw[jz,Mm]
 rfl
def U0{r:List D}(e:Ln s R=some r):getD (.gH (kD R) (vD R)) (aB s)=some (.lst r):=by
 show(if cP _ then bH _ (kD R) (vD R)else none)=_
 rw[jz,Ux,e]
 rfl
def abK{r:List D}(e:t∉R.map (·.1))(f:R.length+1<=1000):nT (aB t) (.lst r) (.sdt (kD R) (vD R))=some (.sdt (kD (R++[(t,r)])) (vD (R++[(t,r)]))):=by
 have f':fits ((kD R).length+1)=true:=by rw[rA];simp[fits];omega
 show(if cP _&&fits _ then some _ else none)=_
 have i:aN (aB t) (kD R)=false:=by rw[Mm];simpa using e
 have p:putD (aB t) (.lst r) (kD R) (vD R)=(kD R++[aB t],vD R++[.lst r]):=by unfold putD;rw[i];rfl
 rw[jz,f',p,Cg,VH]
 rfl
section
variable{C:Cs}
structure Cs.Ro(C:Cs)(R:Rs):Prop where
 nd:(R.map (·.1)).Nodup
 ok:∀p∈R,C.S p.1
 le:∀p∈R,p.2.length<=R.length
 wr:∀p∈R,∀x∈p.2,x∈C.nm
noncomputable def Cs.new(C:Cs)(s:St)(r:List D):List D->Rs->Rs
 |[],_=>[]
 |x::xs,R=>match C.led s x with
  |none=>C.new s r xs R
  |some t=>if t∈R.map (·.1)then C.new s r xs R else(t,r++[x])::C.new s r xs (R++[(t,r++[x])])
def K5(Y:C.Ro R)(S:C.S t)(hr:r.length<=R.length+1)(ht:t∉R.map (·.1))(hw:∀x∈r,x∈C.nm):C.Ro (R++[(t,r)]):=by
 refine⟨?_,fun p hp=>?_,fun p hp=>?_,fun p hp=>?_⟩
 ·rw[List.map_append,List.nodup_append]
  exact⟨Y.nd,by simp,fun a ha b hb e=>ht (by
   have:b=t:=by simpa using hb
   rw[<-this,<-e];exact ha)⟩
 ·rcases QXz.mp hp with z|z
  ·exact Y.ok p z
  ·rw[QDz.mp z];exact S
 ·rw[QTq]
  rcases QXz.mp hp with z|z
  ·exact Nat.le_succ_of_le (Y.le p z)
  ·rw[QDz.mp z];exact hr
 ·rcases QXz.mp hp with z|z
  ·exact Y.wr p z
  ·rw[QDz.mp z];exact hw
def nu{x:D}(hw:∀x∈r,x∈C.nm)(hx:x∈C.nm):∀y∈r++[x],y∈C.nm:=fun y hy=>by
 rcases QXz.mp hy with z|z
 ·exact hw y z
 ·rw[QDz.mp z];exact hx
theorem jw(K:C.Ok){s:St}(S:C.S s){r:List D}(hw:∀x∈r,x∈C.nm):∀(xs:List D){R:Rs},(∀x∈xs,x∈C.nm)->C.Ro R->r.length<=R.length->C.Ro (R++C.new s r xs R)
 |[],R,_,Y,_=>by simpa[Cs.new]using Y
 |x::xs,R,hx,Y,hr=>by
  have hx':=fun y hy=>hx y (QYq _ hy)
  rw[Cs.new]
  split
  ·exact jw K S hw xs hx' Y hr
  ·rename_i t e
   split
   ·exact jw K S hw xs hx' Y hr
   ·rename_i ht
    have:=jw K S hw xs hx' (K5 Y (K.Rt S e) (by simp;omega) ht (nu hw (hx x QYz))) (by simp;omega)
    rw[QLq]at this
    exact this
noncomputable def allB:Nat->List (List Bool)
 |0=>[[]]
 |n+1=>(allB n).map (true:: ·)++(allB n).map (false:: ·)
theorem Ad:∀n,(allB n).length=2 ^n
 |0=>rfl
 |n+1=>by rw[allB,QTq,QAq,QAq,Ad n,Nat.pow_succ];omega
theorem sX:∀bs:List Bool,bs∈allB bs.length
 |[]=>by simp[allB]
 |b::bs=>by
  rw[QBq,allB,QXz]
  cases b
  ·exact .inr (QTz (sX bs))
  ·exact .inl (QTz (sX bs))
noncomputable def Ou(n:Nat):List St:=(allB n).map (·,0)++((allB n).map (·,1)++((allB n).map (·,2)++(allB n).map (·,3)))
def Ot n:(Ou n).length=4*2 ^n:=by
 simp only[Ou,QTq,QAq,Ad]
 omega
def Oq(h:s.2<4):s∈Ou s.1.length:=by
 obtain⟨bs,j⟩:=s
 have m:=sX bs
 simp only[Ou,QXz,QDq]
 rcases j with _|_|_|_|j
 ·exact .inl ⟨bs,m,rfl⟩
 ·exact .inr (.inl ⟨bs,m,rfl⟩)
 ·exact .inr (.inr (.inl ⟨bs,m,rfl⟩))
 ·exact .inr (.inr (.inr ⟨bs,m,rfl⟩))
 ·simp at h;omega
theorem yX:∀(l L:List St),l.Nodup->(∀x∈l,x∈L)->l.length<=L.length
 |[]=>fun _ _ _=>QIq _
 |x::l=>fun L nd m=>by
  rw[List.nodup_cons]at nd
  have mx:=m x QYz
  have:=yX l (L.erase x) nd.2 fun y hy=>(List.mem_erase_of_ne fun e=>nd.1 (by rw[<-e];exact hy)).mpr (m y (QYq _ hy))
  rw[List.length_erase_of_mem mx]at this
  have:=List.length_pos_of_mem mx
  rw[QBq]
  omega
def Cs.Ro.qY(K:C.Ok){R:Rs}(X:C.Ro R):R.length<=512:=by
 have a:=yX (R.map (·.1)) (Ou (C.nm).length) X.nd fun s hs=>by
  obtain⟨p,hp,rfl⟩:=QDq.mp hs
  have S:=X.ok p hp
  rw[<-S.l]
  exact Oq (Qvq S.j K.t.s4)
 rw[QAq,Ot,dR K.o.h2 K.o.g5]at a
 have h2:=K.o.h2
 have g5:=K.o.g5
 have:2 ^(C.h.length+C.g.length)<=2 ^7:=Nat.pow_le_pow_right (by omega) (by omega)
 omega
noncomputable def Cs.jD(C:Cs):Nat->Nat->Rs->Rs
 |0,_,R=>R
 |f+1,k,R=>match R[k]? with
  |none=>R
  |some p=>C.jD f (k+1) (R++C.new p.1 p.2 (C.st p.1) R)
theorem N8(K:C.Ok):∀(f k:Nat){R:Rs},C.Ro R->C.Ro (C.jD f k R)
 |0,_,_,X=>X
 |f+1,k,R,X=>by
  rw[Cs.jD]
  split
  ·exact X
  ·rename_i p e
   have m:=QBz e
   exact N8 K f _ (jw K (X.ok p m) (X.wr p m) _ (fun x hx=>(K.sub (X.ok p m)).subset hx) X (X.le p m))
def sI(ls:List Bool):St:=(ls,0)
def abi(K:C.Ok):C.S (sI C.ls):=⟨by rw[dR K.o.h2 K.o.g5];exact K.o.ll,K.t.s1⟩
def R0(ls:List Bool):Rs:=[(sI ls,[])]
def Af(K:C.Ok):C.Ro (R0 C.ls):=⟨by simp[R0],fun p hp=>by rw[QDz.mp hp];exact abi K,fun p hp=>by rw[QDz.mp hp];simp,fun p hp=>by rw[QDz.mp hp];simp⟩
end
end Tx.V
end
section
open PySem Mini
namespace Tx.V
section
variable{C:Cs}
def uW(s:St):aR (aB s)=false:=rfl
def zO n:pg.fn (n+1) 21 [.val C.n]=.ok (.val (aB (sI C.ls))) [.val C.n]:=by
 rfl
def Uk:S:=(.cons ADM (.cons (.ite (.and (.cons (.cmp .notN (.var 6) ABS) ACw)) ABQ .nil) .nil))
theorem Ez(n:Nat)(K:C.Ok){s:St}(S:C.S s){r:List D}:∀(xs:List D)(R:Rs)(M:List D)(s5 s6:Sl),(∀x∈xs,x∈C.st s)->C.Ro R->Ln s R=some r->r.length<=R.length->(∀x∈r,x∈C.nm)->M.length<=R.length->bI s5->bI s6->∃s5' s6',
  aZ (.name 5) (ex (pg.cf (n+3)) Uk) xs [.val C.n,.val C.t,.val (aB s),.bor (.sdt (kD R) (vD R)),.own (.lst M),s5,s6]=.next [.val C.n,.val C.t,.val (aB s),.bor (.sdt (kD (R++C.new s r xs R)) (vD (R++C.new s r xs R))),.own (.lst (M++kD (C.new s r xs R))),s5',s6']
 |[]=>fun R M s5 s6 _ _ _ _ _ _ _ _=>⟨s5,s6,by simp[aZ,Cs.new,kD]⟩
 |x::xs=>fun R M s5 s6 hx X lr rl rw_' ml h5 h6=>by
  have lt:=K.jy n S (hx x QYz)
  have hx':=fun y hy=>hx y (QYq _ hy)
  have tt:bz (.name 5) x [.val C.n,.val C.t,.val (aB s),.bor (.sdt (kD R) (vD R)),.own (.lst M),s5,s6]=some [.val C.n,.val C.t,.val (aB s),.bor (.sdt (kD R) (vD R)),.own (.lst M),.val x,s6]:=by
   rcases h5 with rfl|⟨d,rfl⟩<;>simp[bz,cj]
  rw[aZ,tt]
  simp only[Cs.new]
  have c6:∀d,yz 6 [.val C.n,.val C.t,.val (aB s),.bor (.sdt (kD R) (vD R)),.own (.lst M),.val x,s6] (.val d) (some s6)=some [.val C.n,.val C.t,.val (aB s),.bor (.sdt (kD R) (vD R)),.own (.lst M),.val x,.val d]:=fun d=>by
   rcases h6 with rfl|⟨d,rfl⟩<;>simp
  cases e:C.led s x with
  |none=>
   rw[e]at lt
   have go:ex (pg.cf (n+3)) Uk [.val C.n,.val C.t,.val (aB s),.bor (.sdt (kD R) (vD R)),.own (.lst M),.val x,s6]=.next [.val C.n,.val C.t,.val (aB s),.bor (.sdt (kD R) (vD R)),.own (.lst M),.val x,.val .non]:=by
    simp[Uk,lt,c6,wy]
   simp only[go]
   exact Ez n K S xs R M _ _ hx' X lr rl rw_' ml (.inr ⟨_,rfl⟩) (.inr ⟨_,rfl⟩)
  |some t=>
   rw[e]at lt
   have ni:=Rh t R
   by_cases ht:t∈R.map (·.1)
   ·have go:ex (pg.cf (n+3)) Uk [.val C.n,.val C.t,.val (aB s),.bor (.sdt (kD R) (vD R)),.own (.lst M),.val x,s6]=.next [.val C.n,.val C.t,.val (aB s),.bor (.sdt (kD R) (vD R)),.own (.lst M),.val x,.val (aB t)]:=by
     rw[QFq ht]at ni
     simp[Uk,lt,c6,wy,uW,ni,Ob.d]
    simp only[go,if_pos ht]
    exact Ez n K S xs R M _ _ hx' X lr rl rw_' ml (.inr ⟨_,rfl⟩) (.inr ⟨_,rfl⟩)
   ·have rb:=X.qY K
    have f1:fits (r.length+1)=true:=by simp[fits];omega
    have f2:fits (M.length+1)=true:=by simp[fits];omega
    have go:ex (pg.cf (n+3)) Uk [.val C.n,.val C.t,.val (aB s),.bor (.sdt (kD R) (vD R)),.own (.lst M),.val x,s6]=.next [.val C.n,.val C.t,.val (aB s),.bor (.sdt (kD (R++[(t,r++[x])])) (vD (R++[(t,r++[x])]))),.own (.lst (M++[aB t])),.val x,.val (aB t)]:=by
     rw[QEz ht]at ni
     simp[Uk,lt,c6,wy,uW,ni,Ob.d,U0 lr,aJ,f1,abK (r:=r++[x]) ht (by omega),f2,wA,di]
    simp only[go,if_neg ht]
    obtain⟨a,b,z⟩:=Ez n K S xs _ (M++[aB t]) _ _ hx' (K5 X (K.Rt S e) (by simp;omega) ht (nu rw_' ((K.sub S).subset (hx x QYz)))) (Fj _ lr) (by simp;omega) rw_' (by simp;omega) (.inr ⟨_,rfl⟩) (.inr ⟨_,rfl⟩)
    refine⟨a,b,?_⟩
    rw[show(Fl.next [.val C.n,.val C.t,.val _,.bor _,.own _,.val x,.val _]).turn _=_ from z]
    simp only[QLq,QLz,List.nil_append]
    rfl
def zc n(K:C.Ok)(X:C.Ro R){k:Nat}{s:St}(e:R[k]? =some (s,r)):
  pg.fn (n+8) 26 [.val C.n,.val C.t,.val (aB s),.bor (.sdt (kD R) (vD R))]=.ok (.new (.lst (kD (C.new s r (C.st s) R)))) [.val C.n,.val C.t,.val (aB s),.bor (.sdt (kD (R++C.new s r (C.st s) R)) (vD (R++C.new s r (C.st s) R)))]:=by
 have m:=QBz e
 have S:=X.ok _ m
 obtain⟨a,b,z⟩:=Ez (n+4) K S _ R [] .un .un (fun x hx=>hx) X (Ce X.nd e) (X.le _ m) (X.wr _ m) (QIq _) (.inl rfl) (.inl rfl)
 have hb:jG=⟨4,7,(.cons _ (.cons (.for_ _ _ Uk) _))⟩:=rfl
 rw[yI,hb]
 simp[aJ,K.eY n S,items,z,Ob.d]
def Gp x xs:cut (x::xs) (some 1) none=xs:=by
 have a:clip (xs.length+1) 1=1:=by
  unfold clip
  simp
  intro z
  omega
 simp[cut,a]
def GC x xs:at? (x::xs) 0=some x:=by
 simp
end
end Tx.V
end
section
open PySem Mini
namespace Tx.V
section
variable{C:Cs}
def Ey(K:C.Ok){x:D}(h:x∈C.nm):∃s,x=.str s/\Ph s=true:=by
 have ok:∀s∈Ul,Ph s=true:=by decide+kernel
 rw[Cs.nm,dX]at h
 obtain⟨s,hs,rfl⟩:=QDq.mp h
 exact⟨s,rfl,ok s (K.o.nv s hs)⟩
def qR(K:C.Ok){xs:List D}(t:∀x∈xs,x∈C.nm):il xs=true/\dM xs=0:=by
 induction xs with
 |nil=>exact⟨rfl,rfl⟩
 |cons x xs ih=>
  obtain⟨s,rfl,o⟩:=Ey K (t x QYz)
  have i:=ih fun y hy=>t y (QYq _ hy)
  exact⟨by simp[il,nd,o,i.1],by simp[dM,dep,i.2]⟩
end
mutual
theorem xj:∀d:D,nd d=true->cM d d=true
 |.non=>fun _=>rfl
 |.bl b=>fun _=>by cases b<;>rfl
 |.int i=>fun _=>by simp[cM]
 |.str s=>fun _=>by simp[cM]
 |.tup xs=>fun h=>by simpa[cM]using rO xs h
 |.lst xs=>fun h=>by simpa[cM]using rO xs h
 |.dU _ _=>fun h=>by simp[nd]at h
 |.gH _ _=>fun h=>by simp[nd]at h
theorem rO:∀xs:List D,il xs=true->pG xs xs=true
 |[]=>fun _=>rfl
 |x::xs=>fun h=>by
  simp only[il,QUq]at h
  simp[pG,xj x h.1,rO xs h.2]
end
def M8(h:nd d=true/\dep d<=50):aG .eq d d=some true/\aG .ne d d=some false:=by
 have o:rR d d=true:=by simp[rR,h.1,h.2]
 constructor
 ·show(if rR d d then some _ else none)=_
  rw[xj _ h.1,o];rfl
 ·show(if rR d d then some _ else none)=_
  rw[xj _ h.1,o];rfl
def Wc s:nd (aB s)=true/\dep (aB s)<=2:=by
 have a:∀bs:List Bool,il (bs.map .bl)=true/\dM (bs.map .bl)=0:=fun bs=>by
  induction bs with
  |nil=>exact⟨rfl,rfl⟩
  |cons b bs ih=>exact⟨by simp[il,nd,ih.1],by simp[dM,dep,ih.2]⟩
 obtain⟨a,b⟩:=a s.1
 constructor
 ·simp[aB,aO,nd,il,a]
 ·simp[aB,aO,dep,dM,b]
theorem Lb:∀R:Rs,il (kD R)=true/\dM (kD R)<=2
 |[]=>⟨rfl,by simp[kD,dM]⟩
 |p::R=>by
  have:=Lb R
  simp only[kD]at this
  have q:=Wc p.1
  exact⟨by simp[kD,il,q.1,this.1],by simp[kD,dM];omega⟩
end Tx.V
end
section
open PySem Mini
namespace Tx.V
section
variable{C:Cs}
def Cs.gone(C:Cs)(s t:St)(x:D):List D:=(C.W s.1).filter fun y=> !aN y (C.W t.1++[x])
def PX(r:List D):List D->D
 |[]=>.non
 |y::_=>.tup [.str "taken",.lst r,y]
noncomputable def Cs.sf(C:Cs)(s:St)(r:List D)(x:D):D:=
 match C.led s x with
 |none=>.tup [.str "unasked",.lst r]
 |some t=>PX r (C.gone s t x)
def dJ(f:D->D):List D->D
 |[]=>.non
 |x::xs=>if aR (f x)then dJ f xs else f x
def qO(os:List D)(st:List (D×Nat)):Bool:=st.any fun m=>aN m.1 os
noncomputable def Cs.flt(C:Cs)(s:St)(r:List D):D:=
 if (C.st s).isEmpty then(if qO C.os (bJ C.sts s.2)then .tup [.str "stuck",.lst r]else .non)else dJ (fun x=>C.sf s (r++[x]) x) (C.st s)
def Hy{xs:List D}(t:cQ xs):aG .notin (.str q) (.lst xs)=some (!aN (.str q) xs):=by
 have o:gP (.str q) xs=true:=by unfold gP;rw[j5 t];rfl
 show(if gP _ xs then some _ else none)=_;rw[o];rfl
def U7:S:=(.cons (.ite ABr ACJ .nil) .nil)
def Rx u q ws:aN (.str u) (ws++[.str q])=(aN (.str u) ws||decide (u=q)):=by
 rw[uY]
 congr 1
 simp[aN,cM]
 by_cases e:u=q
 ·simp[e]
 ·simp[e]
  exact fun z=>e z.symm
theorem U6(c:Cf)(a b e:Sl)(q:Str)(r:List D){ws:List D}(tw:cQ ws):∀(xs:List D)(s6:Sl),cQ xs->bI s6->∃s6',
  aZ (.name 6) (ex c U7) xs [a,b,e,.val (.str q),.val (.lst r),.own (.lst ws),s6]=match xs.filter (fun y=> !aN y (ws++[.str q]))with
   |[]=>.next [a,b,e,.val (.str q),.val (.lst r),.own (.lst ws),s6']
   |y::ys=>.ret (.val (PX r (y::ys))) [a,b,e,.val (.str q),.val (.lst r),.own (.lst ws),s6']
 |[]=>fun s6 _ _=>⟨s6,rfl⟩
 |x::xs=>fun s6 t h6=>by
  obtain⟨u,rfl⟩:=t x QYz
  have tt:bz (.name 6) (.str u) [a,b,e,.val (.str q),.val (.lst r),.own (.lst ws),s6]=some [a,b,e,.val (.str q),.val (.lst r),.own (.lst ws),.val (.str u)]:=by
   rcases h6 with rfl|⟨d,rfl⟩<;>simp[bz,cj]
  obtain⟨s6',z⟩:=U6 c a b e q r tw xs _ (fun y hy=>t y (QYq _ hy)) (.inr ⟨_,rfl⟩)
  have ni:=Hy (q:=u) tw
  rw[aZ,tt,List.filter_cons,Rx]
  cases c1:aN _ ws with
  |true=>
   refine⟨s6',?_⟩
   rw[c1]at ni
   have go:ex c U7 [a,b,e,.val (.str q),.val (.lst r),.own (.lst ws),.val (.str u)]=.next [a,b,e,.val (.str q),.val (.lst r),.own (.lst ws),.val (.str u)]:=by
    by_cases cq:u=q<;>simp[U7,cq,ni,Ob.d]
   simp only[go]
   exact z
  |false=>
   rw[c1]at ni
   by_cases cq:u=q
   ·refine⟨s6',?_⟩
    have go:ex c U7 [a,b,e,.val (.str q),.val (.lst r),.own (.lst ws),.val (.str u)]=.next [a,b,e,.val (.str q),.val (.lst r),.own (.lst ws),.val (.str u)]:=by
     simp[U7,cq]
    simp only[go,QFq cq]
    exact z
   ·refine⟨.val (.str u),?_⟩
    have go:ex c U7 [a,b,e,.val (.str q),.val (.lst r),.own (.lst ws),.val (.str u)]=.ret (.val (.tup [.str "taken",.lst r,.str u])) [a,b,e,.val (.str q),.val (.lst r),.own (.lst ws),.val (.str u)]:=by
     simp[U7,cq,ni,Ob.d,aJ]
    simp only[go,QEz cq]
    rfl
theorem YK n(K:C.Ok)(S:C.S s)(hx:x∈C.st s)r:
  pg.fn (n+7) 30 [.val C.n,.val C.t,.val (aB s),.val x,.val (.lst r)]=.ok (.val (C.sf s r x)) [.val C.n,.val C.t,.val (aB s),.val x,.val (.lst r)]:=by
 have lt:=K.jy (n+3) S hx
 obtain⟨q,rfl⟩:=aL C.h C.g x ((K.sub S).subset hx)
 have u:=K.unasked (n+5) S hx
 have s0:=aa2 s
 have hb:fB=⟨5,7,(.cons _ (.cons _ (.cons (.for_ _ _ U7) _)))⟩:=rfl
 rw[pA,hb]
 unfold Cs.sf
 cases e:C.led s _ with
 |none=>
  rw[e]at u
  simp[u,aJ]
 |some t=>
  rw[e]at u lt
  have St:=K.Rt S e
  have w1:=K.wpr n St
  have w2:=K.wpr n S
  have t0:=aa2 t
  obtain⟨s6,z⟩:=U6 (pg.cf (n+6)) (.val C.n) (.val C.t) (.val (aB s)) q r (K.wtx St) _ .un (K.wtx S) (.inl rfl)
  show _=Res.ok (.val (PX r ((C.W s.1).filter fun y=> !aN y _))) _
  cases hf:(C.W s.1).filter _ with
  |nil=>
   rw[hf]at z
   simp[u,lt,wy,t0,w1,w2,s0,Ob.d,items,z,PX]
  |cons y ys=>
   rw[hf]at z
   simp[u,lt,wy,t0,w1,w2,s0,Ob.d,items,z]
def hoC:E:=.comp 1 (.name 0) (.idx AAb AAh) AAL (.cmp .isin AAc ABH)
theorem Cq n(K:C.Ok)(S:C.S s):
  pg.fn (n+1) 29 [.val C.t,.val (aB s)]=.ok (.val (.bl (qO C.os (bJ C.sts s.2)))) [.val C.t,.val (aB s)]:=by
 have st:=vY S.j
 have e:=kW (c:=pg.cf n) (it:=.idx AAb AAh) (el:=.cmp .isin AAc ABH) (σ:=[.val C.t,.val (aB s)]) (τ:=[.val C.t,.val (aB s)]) (r:=.val (cY (bJ C.sts s.2))) (fun d=>match d with|.tup (a::_)=>.bl (aN a C.os)|_=>.non) (by simp[Tu (C:=C),aex s,st]) rfl rfl (fun x hx=>by
  obtain⟨m,hm,rfl⟩:=QDq.mp hx
  obtain⟨q,eq⟩:=(mj K.t K.o S.j).1 m.1 (QTz hm)
  simp[uI,JB (C:=C),eq,(mL (q:=q) (pM K.t)).2.1])
 have e':ev (pg.cf n) hoC [.val C.t,.val (aB s)]=.ok (.new (.lst ((bJ C.sts s.2).map fun m=>.bl (aN m.1 C.os)))) [.val C.t,.val (aB s)]:=by
  rw[List.map_map]at e
  exact e
 have bs:∀st:List (D×Nat),bools (st.map fun m=>D.bl (aN m.1 C.os))=some (st.map fun m=>aN m.1 C.os):=fun st=>by
  induction st with
  |nil=>rfl
  |cons m st ih=>simp only[Qyz,bools,ih,Option.map_some]
 have ba:b1 .any (.lst ((bJ C.sts s.2).map fun m=>D.bl (aN m.1 C.os)))=some (.val (.bl (qO C.os (bJ C.sts s.2)))):=by
  show(bools _).map _=_
  rw[bs]
  simp[qO,List.any_map]
 have hb:oJ=⟨2,2,(.cons (.ret (.bi .any hoC)) .nil)⟩:=rfl
 have q:hoC.aq=none:=rfl
 rw[Hl,hb]
 simp[q,e',Ob.d,ba]
def Z0:S:=(.cons AAz (.cons (.ite (.cmp .notN (.var 6) ABS) (.cons (.ret (.var 6)) .nil) .nil) .nil))
theorem U9(n:Nat)(K:C.Ok){s:St}(S:C.S s){r:List D}(hr:r.length<=512)(a4:Sl):∀(xs:List D)(s5 s6:Sl),(∀x∈xs,x∈C.st s)->bI s5->bI s6->∃s5' s6',
  aZ (.name 5) (ex (pg.cf (n+7)) Z0) xs [.val C.n,.val C.t,.val (aB s),.val (.lst r),a4,s5,s6]=if aR (dJ (fun x=>C.sf s (r++[x]) x) xs)then .next [.val C.n,.val C.t,.val (aB s),.val (.lst r),a4,s5',s6']
   else .ret (.val (dJ (fun x=>C.sf s (r++[x]) x) xs)) [.val C.n,.val C.t,.val (aB s),.val (.lst r),a4,s5',s6']
 |[]=>fun s5 s6 _ _ _=>⟨s5,s6,rfl⟩
 |x::xs=>fun s5 s6 hx h5 h6=>by
  have fo:=YK n K S (hx x QYz) (r++[x])
  have f1:fits (r.length+1)=true:=by simp[fits];omega
  have tt:bz (.name 5) x [.val C.n,.val C.t,.val (aB s),.val (.lst r),a4,s5,s6]=some [.val C.n,.val C.t,.val (aB s),.val (.lst r),a4,.val x,s6]:=by
   rcases h5 with rfl|⟨d,rfl⟩<;>simp[bz,cj]
  have c6:∀d,yz 6 [.val C.n,.val C.t,.val (aB s),.val (.lst r),a4,.val x,s6] (.val d) (some s6)=some [.val C.n,.val C.t,.val (aB s),.val (.lst r),a4,.val x,.val d]:=fun d=>by
   rcases h6 with rfl|⟨d,rfl⟩<;>simp
  rw[aZ,tt]
  simp only[dJ]
  cases e:aR (C.sf s _ x)with
  |true=>
   have en:C.sf s (r++[x]) x=.non:=by
    cases he:C.sf s _ x<;>first|rfl|(rw[he]at e;cases e)
   rw[en]at fo
   have go:ex (pg.cf (n+7)) Z0 [.val C.n,.val C.t,.val (aB s),.val (.lst r),a4,.val x,s6]=.next [.val C.n,.val C.t,.val (aB s),.val (.lst r),a4,.val x,.val .non]:=by
    simp[Z0,aJ,Ob.d,f1,fo,c6]
   simp only[go,if_true]
   exact U9 n K S hr a4 xs _ _ (fun y hy=>hx y (QYq _ hy)) (.inr ⟨_,rfl⟩) (.inr ⟨_,rfl⟩)
  |false=>
   refine⟨.val x,.val (C.sf s (r++[x]) x),?_⟩
   have go:ex (pg.cf (n+7)) Z0 [.val C.n,.val C.t,.val (aB s),.val (.lst r),a4,.val x,s6]=.ret (.val (C.sf s (r++[x]) x)) [.val C.n,.val C.t,.val (aB s),.val (.lst r),a4,.val x,.val (C.sf s (r++[x]) x)]:=by
    simp[Z0,aJ,Ob.d,f1,fo,c6,e]
   simp only[go,Qxq,if_false,e]
   rfl
theorem zR n(K:C.Ok)(S:C.S s)(hr:r.length<=512):
  pg.fn (n+8) 28 [.val C.n,.val C.t,.val (aB s),.val (.lst r)]=.ok (.val (C.flt s r)) [.val C.n,.val C.t,.val (aB s),.val (.lst r)]:=by
 have st:=K.eY n S
 have ho:=Cq (n+6) K S
 obtain⟨a,b,z⟩:=U9 n K S hr (.val (.lst (C.st s))) _ .un .un (fun x hx=>hx) (.inl rfl) (.inl rfl)
 have hb:lK=⟨4,7,(.cons _ (.cons _ (.cons (.for_ _ _ Z0) _)))⟩:=rfl
 rw[Bw,hb]
 unfold Cs.flt
 cases c:(C.st s).isEmpty with
 |true=>
  cases co:qO C.os _ with
  |true=>
   rw[co]at ho
   simp[st,Ob.d,c,ho,aJ]
  |false=>
   rw[co]at ho
   simp[st,Ob.d,ho,List.isEmpty_iff.mp c,items,aZ]
 |false=>
  cases cn:aR (dJ _ _)with
  |true=>
   have en:dJ (fun x=>C.sf s (r++[x]) x) (C.st s)=.non:=by
    cases he:dJ _ _<;>first|rfl|(rw[he]at cn;cases cn)
   rw[cn,if_pos rfl]at z
   rw[en]
   simp[st,Ob.d,c,items,z]
  |false=>
   rw[cn,if_neg (by simp)]at z
   simp[st,Ob.d,c,items,z]
end
end Tx.V
end
section
open PySem Mini
namespace Tx.V
section
variable{C:Cs}
def BX(e:aR d=true):d=.non:=by
 cases d<;>first|rfl|cases e
theorem xO:∀(f k:Nat)(R:Rs),∃Z,C.jD f k R=R++Z
 |0=>fun _ R=>⟨[],by simp[Cs.jD]⟩
 |f+1=>fun k R=>by
  rw[Cs.jD]
  split
  ·exact⟨[],by simp⟩
  ·rename_i p e
   obtain⟨Z,z⟩:=xO f _ _
   exact⟨_,by rw[z,QLq]⟩
def Cs.ff(C:Cs):Rs->D
 |[]=>.non
 |p::R=>if aR (C.flt p.1 p.2)then C.ff R else C.flt p.1 p.2
def ZZ:S:=(.cons ABP (.cons (.ite (.cmp .notN (.var 4) ABS) ABc .nil) AAe))
theorem U5(n:Nat)(K:C.Ok):∀(f k:Nat)(R:Rs)(s4:Sl),C.Ro R->k<=R.length->512<f+k->bI s4->∃a b c,
  cG (ev (pg.cf (n+8)) (.var 3)) (ex (pg.cf (n+8)) ZZ) f [.val C.n,.val C.t,.own (.sdt (kD R) (vD R)),.own (.lst (kD (R.drop k))),s4]=
   if aR (C.ff ((C.jD f k R).drop k))then .next [.val C.n,.val C.t,a,b,c]else .ret (.val (C.ff ((C.jD f k R).drop k))) [.val C.n,.val C.t,a,b,c]
 |0=>fun k R _ X hk hf _=>by have:=X.qY K;omega
 |f+1=>fun k R s4 X hk hf h4=>by
  by_cases c:k<R.length
  ·obtain⟨p,e⟩:∃p,R[k]? =some p:=⟨_,QXq c⟩
   obtain⟨s,r⟩:=p
   have m:=QBz e
   have S:=X.ok _ m
   have fa:=zR n K S (Nat.le_trans (X.le _ m) (X.qY K))
   have ge:=U0 (Ce X.nd e)
   have dr:kD (R.drop k)=aB s::kD (R.drop (k+1)):=by
    rw[List.drop_eq_getElem_cons c]
    rw[QXq c]at e
    simp only[Option.some.injEq]at e
    simp[kD,e]
   have X':=jw K S (X.wr _ m) _ (fun x hx=>(K.sub S).subset hx) X (X.le _ m)
   have rb':=X'.qY K
   simp only[QTq]at rb'
   have fi:fits ((kD (R.drop (k+1))).length+(kD (C.new s r (C.st s) R)).length)=true:=by
    rw[rA,rA,List.length_drop];simp[fits];omega
   have az:=GC (aB s) (kD (R.drop (k+1)))
   have c4:∀d,yz 4 [.val C.n,.val C.t,.own (.sdt (kD R) (vD R)),.val (.lst (aB s::kD (R.drop (k+1)))),s4] (.val d) (some s4)=some [.val C.n,.val C.t,.own (.sdt (kD R) (vD R)),.val (.lst (aB s::kD (R.drop (k+1)))),.val d]:=fun d=>by
    rcases h4 with rfl|⟨d,rfl⟩<;>simp
   have bd:(C.jD (f+1) k R).drop k=(s,r)::(C.jD f (k+1) (R++C.new s r (C.st s) R)).drop (k+1):=by
    have b1:C.jD (f+1) k R=C.jD f (k+1) (R++C.new s r (C.st s) R):=by simp only[Cs.jD,e]
    obtain⟨Z,z⟩:=xO f _ _
    rw[b1,z,QLq,List.drop_eq_getElem_cons (by simp;omega),List.getElem_append_left c]
    rw[QXq c]at e
    simp only[Option.some.injEq]at e
    rw[e]
   rw[bd,dr,cG]
   simp only[Cs.ff,agA,J0]
   cases cn:aR (C.flt s r)with
   |true=>
    have dd:kD ((R++C.new s r (C.st s) R).drop (k+1))=kD (R.drop (k+1))++kD (C.new s r (C.st s) R):=by
     rw[List.drop_append_of_le_length (by omega),Cg]
    rw[BX cn]at fa
    have go:ex (pg.cf (n+8)) ZZ [.val C.n,.val C.t,.own (.sdt (kD R) (vD R)),.val (.lst (aB s::kD (R.drop (k+1)))),s4]=.next [.val C.n,.val C.t,.own (.sdt (kD (R++C.new s r (C.st s) R)) (vD (R++C.new s r (C.st s) R))),.own (.lst (kD ((R++C.new s r (C.st s) R).drop (k+1)))),.val .non]:=by
     rw[dd]
     simp[ZZ,bQ,E.dZ,cJ,Gp,az,zc n K X e,fi,Ob.d,ge,fa,c4]
    obtain⟨a,b,c',z⟩:=U5 n K f (k+1) _ _ X' (by simp;omega) (by omega) (.inr ⟨_,rfl⟩)
    refine⟨a,b,c',?_⟩
    simp only[if_true]
    rw[<-z]
    simp[Ob.d,go,Out.Am]
    rfl
   |false=>
    have go:ex (pg.cf (n+8)) ZZ [.val C.n,.val C.t,.own (.sdt (kD R) (vD R)),.val (.lst (aB s::kD (R.drop (k+1)))),s4]=.ret (.val (C.flt s r)) [.val C.n,.val C.t,.own (.sdt (kD R) (vD R)),.val (.lst (aB s::kD (R.drop (k+1)))),.val (C.flt s r)]:=by
     simp[ZZ,az,Ob.d,ge,fa,c4,cn]
    refine⟨.own (.sdt (kD R) (vD R)),.val (.lst (aB s::kD (R.drop (k+1)))),.val (C.flt s r),?_⟩
    simp[Ob.d,go,Out.Am,cn]
    rfl
  ·have dk:R.drop k=[]:=List.drop_eq_nil_of_le (by omega)
   refine⟨.own (.sdt (kD R) (vD R)),.val (.lst []),s4,?_⟩
   rw[cG,Cs.jD,(List.getElem?_eq_none (by omega))]
   simp[kD,Ob.d,Out.Am,dk,Cs.ff,aR]
   rfl
theorem M6 n(K:C.Ok):
  pg.fn (n+12) 27 [.val C.n,.val C.t]=.ok (.val (C.ff (C.jD 1000 0 (R0 C.ls)))) [.val C.n,.val C.t]:=by
 have c:=K.checked n
 have f:=zO (n+10) (C:=C)
 obtain⟨q1,q2,q3,z⟩:=U5 (n+3) K 1000 0 _ .un (Af K) (QIq _) (by omega) (.inl rfl)
 have k0:kD ((R0 C.ls).drop 0)=[aB _]:=rfl
 have k1:kD (R0 C.ls)=[aB _]:=rfl
 have v1:vD (R0 C.ls)=[.lst []]:=rfl
 rw[k0,k1,v1,List.drop_zero]at z
 have tn:(pg.cf (n+11)).turns=1000:=rfl
 have ds:zV [aB (sI C.ls),.lst []]=some (.new (.sdt [aB (sI C.ls)] [.lst []])):=by
  have:Io [aB (sI C.ls),.lst []]=some (.new (.sdt [aB (sI C.ls)] [.lst []])):=by
   show(if cP _ then _ else none)=_
   rw[jz];rfl
  unfold zV
  rw[this]
  rfl
 have hb:xP=⟨2,5,(.cons _ (.cons _ (.cons _ (.cons (.while_ _ ZZ) _))))⟩:=rfl
 have bl:∀ks vs:List D,b1 .list (.gH ks vs)=some _:=fun _ _=>rfl
 rw[QD,hb]
 generalize C.ff _=d at*
 cases cn:aR d with
 |true=>
  rw[cn,if_pos rfl]at z
  rw[BX cn]
  simp[c,f,aJ,ds,bl,Ob.d,tn,z]
 |false=>
  rw[cn,if_neg (by simp)]at z
  simp[c,f,aJ,ds,bl,Ob.d,tn,z]
end
end Tx.V
end
section
open PySem Mini
namespace Tx.V
section
variable{C:Cs}
noncomputable def Cs.run(C:Cs):List D->St->Option St
 |[],s=>some s
 |w::ws,s=>if aN w (C.st s)then(C.led s w).bind (C.run ws)else none
theorem qz:∀(a b:List D)(s:St),C.run (a++b) s=(C.run a s).bind (C.run b)
 |[]=>fun b s=>rfl
 |w::a=>fun b s=>by
  simp only[QLz,Cs.run]
  split
  ·cases C.led s w with
   |none=>rfl
   |some s'=>exact qz a b s'
  ·rfl
end
end Tx.V
end
section
open PySem Mini
namespace Tx.V
section
variable{C:Cs}
theorem mH{r:List D}:∀{xs:List D}{R:Rs},p∈C.new s r xs R->∃x∈xs,C.led s x=some p.1/\p.2=r++[x]
 |[],R,hp=>by cases hp
 |x::xs,R,hp=>by
  rw[Cs.new]at hp
  split at hp
  ·obtain⟨y,hy,z⟩:=mH hp
   exact⟨y,QYq _ hy,z⟩
  ·rename_i t e
   split at hp
   ·obtain⟨y,hy,z⟩:=mH hp
    exact⟨y,QYq _ hy,z⟩
   ·rcases QCq.mp hp with rfl|hp
    ·exact⟨x,QYz,e,rfl⟩
    ·obtain⟨y,hy,z⟩:=mH hp
     exact⟨y,QYq _ hy,z⟩
theorem pN{r:List D}(e:C.led s x=some t):∀{xs:List D}{R:Rs},x∈xs->t∈(R++C.new s r xs R).map (·.1)
 |[],R,hx=>by cases hx
 |y::xs,R,hx=>by
  rw[Cs.new]
  split
  ·rename_i ey
   rcases QCq.mp hx with rfl|hx
   ·rw[e]at ey;cases ey
   ·exact pN e hx
  ·rename_i u ey
   split
   ·rename_i hu
    rcases QCq.mp hx with rfl|hx
    ·rw[e]at ey;cases ey
     rw[List.map_append];exact QWz _ hu
    ·exact pN e hx
   ·rcases QCq.mp hx with rfl|hx
    ·rw[e]at ey;cases ey
     simp
    ·have:=pN (r:=r) (R:=R++[(u,r++[y])]) e hx
     rw[QLq]at this
     exact this
structure Cs.Bf(C:Cs)(k:Nat)(R:Rs):Prop where
 run:∀p∈R,C.run p.2 (sI C.ls)=some p.1
 srt:∀(i j:Nat)(p q:St×List D),i<=j->R[i]? =some p->R[j]? =some q->p.2.length<=q.2.length
 clo:∀(j:Nat)(p:St×List D),j<k->R[j]? =some p->∀x∈C.st p.1,∀t,C.led p.1 x=some t->t∈R.map (·.1)
 lvl:∀q,R[k]? =some q->∀p∈R,p.2.length<=q.2.length+1
def wW{R N:Rs}{i:Nat}(e:(R++N)[i]? =some p):R[i]? =some p\/R.length<=i/\p∈N:=by
 by_cases c:i<R.length
 ·rw[Qwz c]at e;exact .inl e
 ·rw[QIz (by omega)]at e
  exact .inr ⟨by omega,QBz e⟩
def Su(K:C.Ok){R:Rs}(X:C.Ro R)(B:C.Bf k R){s:St}(e:R[k]? =some (s,r)):
  C.Bf (k+1) (R++C.new s r (C.st s) R):=by
 have m:=QBz e
 have S:=X.ok _ m
 have nl:∀p∈C.new s r (C.st s) R,p.2.length=r.length+1:=fun p hp=>by
  obtain⟨x,_,_,z⟩:=mH hp
  rw[z];simp
 have al:∀p∈R++C.new s r _ R,p.2.length<=r.length+1:=fun p hp=>by
  rcases QXz.mp hp with z|z
  ·exact B.lvl _ e p z
  ·rw[nl p z];exact QVz _
 have up:∀i p,R[i]? =some p->(R++C.new s r (C.st s) R)[i]? =some p:=fun i p ei=>by
  rw[Qwz (QCz.mp ei).1];exact ei
 refine⟨fun p hp=>?_,fun i j p q hij ei ej=>?_,fun j p hj ej x hx t et=>?_,fun q eq p hp=>?_⟩
 ·rcases QXz.mp hp with z|z
  ·exact B.run p z
  ·obtain⟨x,hx,ex_,z⟩:=mH z
   rw[z,qz,B.run _ m]
   have i:aN x (C.st s)=true:=by
    obtain⟨q,rfl⟩:=K.aaE S x hx
    exact j4 hx (K.aaE S)
   simp[Cs.run,i,ex_]
 ·rcases wW ej with z|⟨z1,z2⟩
  ·rcases wW ei with y|⟨y1,y2⟩
   ·exact B.srt i j p q hij y z
   ·have:=(QCz.mp z).1
    omega
  ·rw[nl q z2]
   exact al p (QBz ei)
 ·by_cases c:j=k
  ·subst c
   rw[up _ _ e]at ej
   cases ej
   exact pN et hx
  ·rw[Qwz (by have:=(QCz.mp e).1;omega)]at ej
   rw[List.map_append]
   exact QWz _ (B.clo j p (by omega) ej x hx t et)
 ·have le:r.length<=q.2.length:=by
   rcases wW eq with z|⟨z1,z2⟩
   ·exact B.srt k _ (s,r) q (by omega) e z
   ·rw[nl q z2];omega
  have:=al p hp
  omega
theorem Gz(K:C.Ok):∀(f k:Nat)(R:Rs),C.Ro R->k<=R.length->512<f+k->C.Bf k R->∃m,(C.jD f k R).length<=m/\C.Bf m (C.jD f k R)
 |0=>fun k R X hk hf _=>by have:=X.qY K;omega
 |f+1=>fun k R X hk hf B=>by
  rw[Cs.jD]
  split
  ·rename_i e
   exact⟨k,List.getElem?_eq_none_iff.mp e,B⟩
  ·rename_i p e
   obtain⟨s,r⟩:=p
   have m:=QBz e
   have S:=X.ok _ m
   have kl:=(QCz.mp e).1
   exact Gz K f _ _ (jw K S (X.wr _ m) _ (fun x hx=>(K.sub S).subset hx) X (X.le _ m)) (by simp;omega) (by omega) (Su K X B e)
def Ss:C.Bf 0 (R0 C.ls):=by
 refine⟨fun p hp=>?_,fun i j p q _ ei ej=>?_,fun j p hj=>(by omega),fun q _ p hp=>?_⟩
 ·rw[QDz.mp hp];rfl
 ·have:=QDz.mp (QBz ei)
  rw[this];exact QIq _
 ·rw[QDz.mp hp];exact QIq _
structure Cs.Fi(C:Cs)(F:Rs):Prop where
 ok:C.Ro F
 fst:sI C.ls∈F.map (·.1)
 run:∀p∈F,C.run p.2 (sI C.ls)=some p.1
 srt:∀(i j:Nat)(p q:St×List D),i<=j->F[i]? =some p->F[j]? =some q->p.2.length<=q.2.length
 clo:∀s∈F.map (·.1),∀x∈C.st s,∀t,C.led s x=some t->t∈F.map (·.1)
def CJ(K:C.Ok):C.Fi (C.jD 1000 0 (R0 C.ls)):=by
 obtain⟨m,hm,B⟩:=Gz K 1000 0 _ (Af K) (QIq _) (by omega) (Ss)
 refine⟨N8 K 1000 0 (Af K),?_,B.run,B.srt,fun s hs x hx t et=>?_⟩
 ·obtain⟨Z,z⟩:=xO 1000 0 _
  rw[z]
  simp[R0]
 ·obtain⟨p,hp,rfl⟩:=QDq.mp hs
  obtain⟨j,ej⟩:=List.getElem?_of_mem hp
  exact B.clo j p (Qvq (QCz.mp ej).1 hm) ej x hx t et
theorem iM:∀{R:Rs},aR (C.ff R)=false->∃(k:Nat)(s:St)(r:List D),R[k]? =some (s,r)/\(∀(j:Nat)(p:St×List D),j<k->R[j]? =some p->aR (C.flt p.1 p.2)=true)/\aR (C.flt s r)=false/\C.ff R=C.flt s r
 |[]=>fun e=>by cases e
 |q::R=>fun e=>by
  rw[Cs.ff]at e⊢
  cases c:aR (C.flt q.1 q.2)with
  |false=>exact⟨0,q.1,q.2,rfl,fun j p hj=>(by omega),c,by simp⟩
  |true=>
   rw[c]at e
   obtain⟨k,s,r,a,b,d1,d2⟩:=iM (R:=R) (by simpa using e)
   refine⟨k+1,s,r,a,fun j p hj ej=>?_,d1,by simpa using d2⟩
   cases j with
   |zero=>cases ej;exact c
   |succ j=>exact b j p (by omega) ej
theorem zP{f:D->D}:∀{xs:List D},aR (dJ f xs)=false->∃x∈xs,dJ f xs=f x/\aR (f x)=false
 |[]=>fun e=>by cases e
 |x::xs=>fun e=>by
  rw[dJ]at e⊢
  cases c:aR (f x)with
  |false=>exact⟨x,QYz,by simp,c⟩
  |true=>
   rw[c]at e
   obtain⟨y,hy,a,b⟩:=zP (f:=f) (xs:=xs) (by simpa using e)
   exact⟨y,QYq _ hy,by simpa using a,b⟩
theorem vg(s:St)(r:List D)(e:aR (C.flt s r)=false):
  (C.st s=[]/\qO C.os (bJ C.sts s.2)=true/\C.flt s r=.tup [.str "stuck",.lst r])\/
  (∃x∈C.st s,C.led s x=none/\C.flt s r=.tup [.str "unasked",.lst (r++[x])])\/
  (∃x∈C.st s,∃t y,C.led s x=some t/\y∈C.W s.1/\aN y (C.W t.1++[x])=false/\C.flt s r=.tup [.str "taken",.lst (r++[x]),y]):=by
 unfold Cs.flt at e⊢
 cases c:(C.st s).isEmpty with
 |true=>
  rw[c]at e
  cases co:qO C.os (bJ C.sts s.2)with
  |true=>exact .inl ⟨List.isEmpty_iff.mp c,rfl,by simp⟩
  |false=>rw[co]at e;cases e
 |false=>
  rw[c]at e
  simp only[Qxq,if_false]at e⊢
  obtain⟨x,hx,a,b⟩:=zP e
  rw[a]
  unfold Cs.sf at b⊢
  cases el:C.led s x with
  |none=>exact .inr (.inl ⟨x,hx,el,rfl⟩)
  |some t=>
   rw[el]at b
   simp only at b⊢
   cases eg:C.gone s t x with
   |nil=>rw[eg]at b;cases b
   |cons y ys=>
    have hy:y∈C.gone s t x:=by rw[eg];exact QYz
    obtain⟨y1,y2⟩:=List.mem_filter.mp hy
    exact .inr (.inr ⟨x,hx,t,y,el,y1,by simpa using y2,rfl⟩)
end
end Tx.V
end
section
open PySem Mini
namespace Tx.V
section
variable{C:Cs}
def stB:S:=AAe
theorem TQ(n:Nat)(K:C.Ok):∀(f k:Nat)(R:Rs),C.Ro R->k<=R.length->512<f+k->
  cG (ev (pg.cf (n+8)) (.var 3)) (ex (pg.cf (n+8)) stB) f [.val C.n,.val C.t,.own (.sdt (kD R) (vD R)),.own (.lst (kD (R.drop k)))]=.next [.val C.n,.val C.t,.own (.sdt (kD (C.jD f k R)) (vD (C.jD f k R))),.val (.lst [])]
 |0=>fun k R X hk hf=>by have:=X.qY K;omega
 |f+1=>fun k R X hk hf=>by
  by_cases c:k<R.length
  ·obtain⟨p,e⟩:∃p,R[k]? =some p:=⟨_,QXq c⟩
   obtain⟨s,r⟩:=p
   have nw:=zc n K X e
   have dr:kD (R.drop k)=aB s::kD (R.drop (k+1)):=by
    rw[List.drop_eq_getElem_cons c]
    rw[QXq c]at e
    simp only[Option.some.injEq]at e
    simp[kD,e]
   have m:=QBz e
   have X':=jw K (X.ok _ m) (X.wr _ m) _ (fun x hx=>(K.sub (X.ok _ m)).subset hx) X (X.le _ m)
   have rb':=X'.qY K
   simp only[QTq]at rb'
   have fi:fits ((kD (R.drop (k+1))).length+(kD (C.new s r (C.st s) R)).length)=true:=by
    rw[rA,rA,List.length_drop];simp[fits];omega
   have go:ex (pg.cf (n+8)) stB [.val C.n,.val C.t,.own (.sdt (kD R) (vD R)),.val (.lst (aB s::kD (R.drop (k+1))))]=.next [.val C.n,.val C.t,.own (.sdt (kD (R++C.new s r (C.st s) R)) (vD (R++C.new s r (C.st s) R))),.own (.lst (kD ((R++C.new s r (C.st s) R).drop (k+1))))]:=by
    have dd:kD ((R++C.new s r (C.st s) R).drop (k+1))=kD (R.drop (k+1))++kD (C.new s r (C.st s) R):=by
     rw[List.drop_append_of_le_length (by omega),Cg]
    rw[dd]
    have az:=GC (aB s) (kD (R.drop (k+1)))
    simp[stB,bQ,E.dZ,cJ,Gp,az,nw,fi,Ob.d]
   rw[dr,cG]
   have tr:gF (.lst (aB s::kD (R.drop (k+1))))=some true:=rfl
   simp[tr,Ob.d,go,Out.Am]
   rw[TQ n K f _ _ X' (by simp;omega) (by omega)]
   simp only[Cs.jD,e]
  ·have dk:R.drop k=[]:=List.drop_eq_nil_of_le (by omega)
   have ge:R[k]? =none:=List.getElem?_eq_none (by omega)
   have tr:gF (.lst [])=some false:=rfl
   rw[dk,cG,Cs.jD,ge]
   simp[kD,Ob.d,tr,Out.Am]
def uq n(K:C.Ok):
  pg.fn (n+12) 20 [.val C.n,.val C.t]=.ok (.new (.lst (kD (C.jD 1000 0 (R0 C.ls))))) [.val C.n,.val C.t]:=by
 have c:=K.checked n
 have f:=zO (n+10) (C:=C)
 have z:=TQ (n+3) K 1000 0 (R0 C.ls) (Af K) (QIq _) (by omega)
 have k0:kD ((R0 C.ls).drop 0)=[aB (sI C.ls)]:=rfl
 have k1:kD (R0 C.ls)=[aB (sI C.ls)]:=rfl
 have v1:vD (R0 C.ls)=[.lst []]:=rfl
 rw[k0,k1,v1]at z
 have tn:(pg.cf (n+11)).turns=1000:=rfl
 have ds:zV [aB (sI C.ls),.lst []]=some (.new (.sdt [aB (sI C.ls)] [.lst []])):=by
  have:Io [aB (sI C.ls),.lst []]=some (.new (.sdt [aB (sI C.ls)] [.lst []])):=by
   show(if cP (aB (sI C.ls))then _ else none)=_
   rw[jz];rfl
  unfold zV
  rw[this]
  rfl
 have hb:sJ=⟨2,4,(.cons _ (.cons _ (.cons _ (.cons (.while_ (.var 3) stB) _))))⟩:=rfl
 have q:(E.bi .list (.var 2)).aq=none:=rfl
 have bl:∀ks vs:List D,b1 .list (.gH ks vs)=some _:=fun _ _=>rfl
 rw[J5,hb]
 simp[c,f,aJ,ds,bl,Ob.d,tn,z,q]
end
end Tx.V
end
section
open PySem Mini
namespace Tx.V
structure Pt where
 x:D
 y:D
 b:Bool
def aX(p:Pt):D:=.tup [p.x,p.y,.bl p.b]
def hk(p:Pt)(q:D×D):D:=if cM q.1 p.x then .tup [.str "held",q.2,p.y,.bl p.b]else q.2
def hks(g:List Str)(ks:List D)(p:Pt):List D:=((bh g).zip ks).map (hk p)
noncomputable def Cs.hl(C:Cs)(p:Pt):Cs:=⟨C.h,C.g,hks C.g C.ks p,C.ls,C.os,C.sts,wF C.h C.g (hks C.g C.ks p)⟩
structure Cs.P(C:Cs)(p:Pt):Prop where
 x:p.x∈bh C.g
 y:p.y∈C.nm
 v:∀x∈C.nm,∃s,x=.str s/\Ph s=true
def Cs.L1(C:Cs)(x:D):Prop:=∀d,(x,d)∈(bh C.g).zip C.ks->bu C.nm 1 d
theorem pR(f:D×D->D):∀as bs:List D,as.zip ((as.zip bs).map f)=(as.zip bs).map fun q=>(q.1,f q)
 |[],_=>by simp
 |_::_,[]=>by simp
 |a::as,b::bs=>by simp[pR f as bs]
theorem zp{x:D}:∀{xs ys:List D},ys.length=xs.length->cQ xs->x∈xs->∃d,bH x xs ys=some d/\(x,d)∈xs.zip ys
 |[],_=>fun _ _ h=>by cases h
 |_::_,[]=>fun h _ _=>by simp at h
 |a::xs,b::ys=>fun hl t h=>by
  obtain⟨s,rfl⟩:=t x h
  obtain⟨q,rfl⟩:=t a QYz
  by_cases e:q=s
  ·subst e
   exact⟨b,by simp[bH,cM],by simp⟩
  ·obtain⟨d,h1,h2⟩:=zp (x:=.str s) (ys:=ys) (by simpa using hl) (fun y hy=>t y (QYq _ hy)) (by
    rcases QCq.mp h with z|z
    ·cases z;exact absurd rfl e
    ·exact z)
   exact⟨d,by simp[bH,cM,e,h1],QYq _ h2⟩
def iQ{x y:D}(hx:∃s,x=.str s)(hy:∃s,y=.str s):cM x y=true↔x=y:=by
 obtain⟨s,rfl⟩:=hx
 obtain⟨t,rfl⟩:=hy
 simp[cM]
section
variable{C:Cs}{p q:Pt}
def Cs.Ok.lz(K:C.Ok):C.ks.length=(bh C.g).length:=by rw[K.o.kl,cA K.o.g5]
def Yc(K:C.Ok){x d:D}:(x,d)∈(bh (C.hl p).g).zip (C.hl p).ks↔ ∃d',(x,d')∈(bh C.g).zip C.ks/\d=hk p (x,d'):=by
 show(x,d)∈(bh C.g).zip (((bh C.g).zip C.ks).map (hk p))↔_
 rw[pR,QDq]
 constructor
 ·rintro ⟨⟨a,b⟩,h,e⟩
  cases e
  exact⟨b,h,rfl⟩
 ·rintro ⟨d',h,rfl⟩
  exact⟨_,h,rfl⟩
def UW(K:C.Ok)(P:C.P p)(l:C.L1 p.x):Nk C.h C.g (hks C.g C.ks p) C.ls:=
 ⟨K.o.h2,K.o.g1,K.o.g5,by simp[hks,K.lz,cA K.o.g5],fun d hd=>by
  obtain⟨⟨x,d'⟩,hq,rfl⟩:=QDq.mp hd
  simp only[hk]
  split
  ·rename_i e
   rw[iQ (cN C.g x (List.of_mem_zip hq).1) (cN C.g p.x P.x)]at e
   subst e
   exact .held (l d' hq) P.y
  ·exact K.o.kk d' (List.of_mem_zip hq).2,K.o.ll,K.o.nn,K.o.nv⟩
def Mp(K:C.Ok)(P:C.P p)(l:C.L1 p.x):(C.hl p).Ok:=⟨UW K P l,K.t,Jk (UW K P l)⟩
def acE(K:C.Ok)(P:C.P p){x:D}(hx:x∈bh C.g)(ne:x≠p.x)(l:C.L1 x):(C.hl p).L1 x:=fun d hd=>by
 obtain⟨d',h,rfl⟩:=(Yc K).mp hd
 have e:¬cM x p.x=true:=fun z=>ne ((iQ (cN C.g x hx) (cN C.g p.x P.x)).mp z)
 rw[hk,if_neg e]
 exact l d' h
def Yd(P:C.P q):(C.hl p).P q:=⟨P.x,P.y,P.v⟩
end
end Tx.V
end
section
open PySem Mini
namespace Tx.V
section
variable{C:Cs}{p:Pt}
def Cs.all(C:Cs):Rs:=C.jD 1000 0 (R0 C.ls)
def Cs.fl(C:Cs):D:=C.ff C.all
def gA(x:D):D->Bool
 |.tup (_:: .lst r::ys)=>aN x r||aN x ys
 |_=>false
end
end Tx.V
end
section
open PySem Mini
namespace Tx.V
section
variable{C:Cs}{p q:Pt}
def mQ(n:Nat)(k x y z:D):pg.fn (n+1) 38 [.val k,.val (.tup [x,y,z])]=.ok (.val (.tup [.str "held",k,y,z])) [.val k,.val (.tup [x,y,z])]:=by
 rw[yO]
 simp[jM,aJ]
def oY:getD C.n (.int 1)=some (.tup (aC (bh C.g) C.ks)):=by simp[Cs.n,aY]
def Le:getD C.n (.int 0)=some (.tup (hd C.h)):=by simp[Cs.n,aY]
def Jl(n:Nat)(K:C.Ok):pg.fn (n+1) 13 [.val C.n]=.ok (.new (.lst C.nm)) [.val C.n]:=
 eV n (hd C.h) (bh C.g) C.ks (.tup (C.ls.map .bl)) K.lz (by rw[eZ K.o.h2,cA K.o.g5];have:=K.o.h2;have:=K.o.g5;omega)
def yR(n:Nat)(K:C.Ok)(P:C.P p):pg.fn (n+11) 36 [.val C.n,.val (aX p)]=.ok (.val (.bl true)) [.val C.n,.val (aX p)]:=by
 have T:=aL C.h C.g
 have Nd:=K.o.nd
 have TR:=cN C.g
 have d:=rW K.lz TR (v6.nodup Nd)
 obtain⟨k,l,hm⟩:=zp K.lz TR P.x
 obtain⟨s,es⟩:=TR p.x P.x
 have t:=aV (n+9) [p.x,p.y,.bl p.b] 3 3 (by simp) (by simp)
 have i1:aN (.str s) (bh C.g)=true:=by rw[<-es];exact j4 P.x TR
 have w1:pg.fn (n+10) 8 [.val p.x,.val (.dU (bh C.g) C.ks)]=.ok (.val (.bl true)) [.val p.x,.val (.dU (bh C.g) C.ks)]:=by
  rw[uD,es]
  have e:aG .isin (.str s) (.dU (bh C.g) C.ks)=some true:=by
   show(if keyOk (.str s)then some (aN (.str s) (bh C.g))else if cP (.str s)&&(bh C.g).isEmpty then some false else none)=_
   rw[i1];rfl
  simp[kj,e]
 have h1:=mQ (n+9) k p.x p.y (.bl p.b)
 have nn:=Jl (n+9) K
 have i:=rB T Nd (.held (b:=p.b) (K.o.kk k (List.of_mem_zip hm).2) P.y) n 0 (by simp)
 have g2:getD (.dU (bh C.g) C.ks) p.x=some k:=by
  rw[es]at l⊢
  show(if keyOk (.str s)then bH (.str s) (bh C.g) C.ks else none)=_
  rw[l];rfl
 have n1:=oY (C:=C)
 have pe:aX p=.tup [p.x,p.y,.bl p.b]:=rfl
 rw[show n+4+2*(2+1)=n+10 from rfl]at i
 rw[Bu,pe]
 simp[lH,n1,d,t,w1,g2,h1,nn,i]
def wpC:E:=AAv
def age(K:C.Ok):(C.hl p).n=.tup [.tup (hd C.h),.tup (((bh C.g).zip C.ks).map fun q=>pairD (q.1,hk p q)),.tup (C.ls.map .bl)]:=by
 show D.tup [.tup (hd C.h),.tup (aC (bh C.g) (((bh C.g).zip C.ks).map (hk p))),.tup (C.ls.map .bl)]=_
 rw[bY,pR,List.map_map]
 rfl
def tE(n:Nat)(K:C.Ok)(P:C.P p):pg.fn (n+2) 37 [.val C.n,.val (aX p)]=.ok (.val (C.hl p).n) [.val C.n,.val (aX p)]:=by
 have e:ev (pg.cf (n+1)) wpC [.val C.n,.val (aX p),.un]=.ok (.new (.lst (((bh C.g).zip C.ks).map fun q=>pairD (q.1,hk p q)))) [.val C.n,.val (aX p),.un]:=by
  refine zZ (d:=.tup (aC (bh C.g) C.ks)) (ps:=(bh C.g).zip C.ks) (r:=.val (.tup (aC (bh C.g) C.ks))) (fun q=>pairD (q.1,hk p q)) (by simp[oY]) rfl (by show some _=some _;rw[bY]) fun q hq=>?_
  obtain⟨s,es⟩:=cN C.g q.1 (List.of_mem_zip hq).1
  obtain⟨t,et⟩:=cN C.g p.x P.x
  have h1:=mQ n q.2 p.x p.y (.bl p.b)
  have pd:getD (aX p) (.int 0)=some p.x:=by simp[aX]
  have pe:aX p=.tup [p.x,p.y,.bl p.b]:=rfl
  rw[<-pe]at h1
  cases c:decide (s=t)<;>simp[pd,et,es,c,h1,hk,pairD,aJ,cM]
 have hb:iW=⟨2,3,(.cons (.set 2 wpC) ABu)⟩:=rfl
 rw[v8,hb,age K]
 have n2:=Lf (C:=C)
 simp[e,Le,n2,aJ]
 rfl
def hvB:S:=(.cons (.ite (.not (.call 36 ABT)) ABJ .nil) ADX)
def wQ(n:Nat)(K:C.Ok)(P:C.P p)(a b s:Sl)(hs:bI s)(rest:List D):
  aZ (.name 3) (ex (pg.cf (n+11)) hvB) (aX p::rest) [a,b,.val C.n,s]=aZ (.name 3) (ex (pg.cf (n+11)) hvB) rest [a,b,.val (C.hl p).n,.val (aX p)]:=by
 have e:=yR n K P
 have w:=tE (n+9) K P
 have st:bz (.name 3) (aX p) [a,b,.val C.n,s]=some [a,b,.val C.n,.val (aX p)]:=by
  rcases hs with rfl|⟨d,rfl⟩<;>simp[bz,cj]
 have go:ex (pg.cf (n+11)) hvB [a,b,.val C.n,.val (aX p)]=.next [a,b,.val (C.hl p).n,.val (aX p)]:=by
  simp[hvB,e,w]
 rw[aZ,st]
 simp only[go]
 rfl
def held_eq:Dz=⟨2,4,(.cons (.set 2 (.call 0 AAS)) (.cons (.ite (.not (.isi (.var 1) .tup)) ABJ .nil) (.cons (.for_ (.name 3) (.var 1) hvB) (.cons (.ret (.var 2)) .nil))))⟩:=rfl
def Ms(n:Nat)(K:C.Ok)(P:C.P p):pg.fn (n+12) 31 [.val C.n,.val (.tup [aX p])]=.ok (.val (C.hl p).n) [.val C.n,.val (.tup [aX p])]:=by
 have c:pg.fn (n+11) 0 [.val C.n]=.ok (.val C.n) [.val C.n]:=lw (n+1) K.o
 have z:=wQ n K P (.val C.n) (.val (.tup [aX p])) .un (.inl rfl) []
 rw[aZ]at z
 rw[Kc,held_eq]
 simp[c,items,z]
def Mr(n:Nat)(K:C.Ok)(P:C.P p)(l:C.L1 p.x)(Q:C.P q):pg.fn (n+12) 31 [.val C.n,.val (.tup [aX p,aX q])]=.ok (.val ((C.hl p).hl q).n) [.val C.n,.val (.tup [aX p,aX q])]:=by
 have c:pg.fn (n+11) 0 [.val C.n]=.ok (.val C.n) [.val C.n]:=lw (n+1) K.o
 have z:=wQ n K P (.val C.n) (.val (.tup [aX p,aX q])) .un (.inl rfl) [aX q]
 have z':=wQ n (Mp K P l) (Yd (p:=p) Q) (.val C.n) (.val (.tup [aX p,aX q])) (.val (aX p)) (.inr ⟨_,rfl⟩) []
 rw[z',aZ]at z
 rw[Kc,held_eq]
 simp[c,items,z]
def vm(n:Nat)(K:C.Ok):pg.fn (n+12) 27 [.val C.n,.val C.t]=.ok (.val C.fl) [.val C.n,.val C.t]:=M6 n K
end
end Tx.V
end
section
open PySem Mini
namespace Tx.V
section
variable{C:Cs}
def two(x y:D):List Pt:=[⟨x,y,false⟩,⟨x,y,true⟩]
def Cs.lQ(C:Cs):List Pt:=(bh C.g).flatMap fun x=>C.nm.flatMap (two x)
def oX(K:C.Ok){p:Pt}(h:p∈C.lQ):C.P p:=by
 obtain⟨x,hx,h⟩:=List.mem_flatMap.mp h
 obtain⟨y,hy,h⟩:=List.mem_flatMap.mp h
 simp only[two,QCq,QAz,or_false]at h
 rcases h with rfl|rfl<;>exact⟨hx,hy,fun _=>Ey K⟩
def piC:E:=.comp 1 (.name 0) (.tup ABy) (.call 36 ACI) (.tup AAr)
def piB:S:=.cons (.extend 4 piC) .nil
theorem Ui(n:Nat)(K:C.Ok){x:D}(hx:x∈bh C.g)(s1 s2:Sl):∀(ys acc:List D)(s5:Sl),(∀y∈ys,y∈C.nm)->acc.length+2*ys.length<=900->bI s5->∃s5',bI s5'/\
  aZ (.name 5) (ex (pg.cf (n+11)) piB) ys [.val C.n,s1,.val x,s2,.own (.lst acc),s5]=.next [.val C.n,s1,.val x,s2,.own (.lst (acc++(ys.flatMap (two x)).map aX)),s5']
 |[]=>fun acc s5 _ _ h5=>⟨s5,h5,by simp[aZ]⟩
 |y::ys=>fun acc s5 hy ha h5=>by
  have tt:bz (.name 5) y [.val C.n,s1,.val x,s2,.own (.lst acc),s5]=some [.val C.n,s1,.val x,s2,.own (.lst acc),.val y]:=by
   rcases h5 with rfl|⟨d,rfl⟩<;>simp[bz,cj]
  have pk:∀b:Bool,pg.fn (n+11) 36 [.val C.n,.val (.tup [x,y,.bl b])]=.ok (.val (.bl true)) [.val C.n,.val (.tup [x,y,.bl b])]:=fun b=>yR n K (p:=⟨x,y,b⟩) ⟨hx,hy y QYz,fun _=>Ey K⟩
  have e:ev (pg.cf (n+11)) piC [.val C.n,s1,.val x,s2,.own (.lst acc),.val y]=.ok (.new (.lst [.tup [x,y,.bl false],.tup [x,y,.bl true]])) [.val C.n,s1,.val x,s2,.own (.lst acc),.val y]:=by
   have:=Dg (c:=pg.cf (n+11)) (it:=.tup ABy) (co:=.call 36 ACI) (el:=.tup AAr) (σ:=[.val C.n,s1,.val x,s2,.own (.lst acc),.val y]) (τ:=[.val C.n,s1,.val x,s2,.own (.lst acc),.val y]) (d:=.tup [.bl false,.bl true]) (xs:=[.bl false,.bl true]) (r:=.val (.tup [.bl false,.bl true])) (fun d=>.tup [x,y,d]) (fun _=>true) (by simp[aJ]) rfl rfl (fun d hd=>by
    obtain⟨b,rfl⟩:∃b,d=.bl b:=by
     simp only[QCq,QAz,or_false]at hd
     rcases hd with rfl|rfl<;>exact⟨_,rfl⟩
    simp[aJ,pk]) (fun d _ _=>by simp[aJ])
   exact this
  have f:fits (acc.length+2)=true:=by
   simp only[QBq]at ha
   simp[fits];omega
  have go:ex (pg.cf (n+11)) piB [.val C.n,s1,.val x,s2,.own (.lst acc),.val y]=.next [.val C.n,s1,.val x,s2,.own (.lst (acc++(two x y).map aX)),.val y]:=by
   simp[piB,e,f,two,aX,wA,di]
  obtain⟨s5',h5',z⟩:=Ui n K hx s1 s2 ys (acc++(two x y).map aX) (.val y) (fun z hz=>hy z (QYq _ hz)) (by simp[two]at ha⊢;omega) (.inr ⟨_,rfl⟩)
  refine⟨s5',h5',?_⟩
  rw[aZ,tt]
  simp only[go]
  rw[show(Fl.next [.val C.n,s1,.val x,s2,.own (.lst (acc++(two x y).map aX)),.val y]).turn (aZ (.name 5) (ex (pg.cf (n+11)) piB) ys)=_ from z]
  simp
def poB:S:=.cons (.for_ (.name 5) (.var 1) piB) .nil
theorem Uh(n:Nat)(K:C.Ok)(s2:Sl):∀(xs acc:List D)(s1 s4 s5:Sl),(∀x∈xs,x∈bh C.g)->acc.length+20*xs.length<=900->(s1=.own (.lst C.nm)\/s1=.val (.lst C.nm))->bI s4->bI s5->∃s1' s4' s5',
  aZ (.name 2) (ex (pg.cf (n+11)) poB) xs [.val C.n,s1,s4,s2,.own (.lst acc),s5]=.next [.val C.n,s1',s4',s2,.own (.lst (acc++(xs.flatMap fun x=>C.nm.flatMap (two x)).map aX)),s5']
 |[]=>fun acc s1 s4 s5 _ _ _ _ _=>⟨s1,s4,s5,by simp[aZ]⟩
 |x::xs=>fun acc s1 s4 s5 hx ha h1 h4 h5=>by
  have nl:C.nm.length=C.h.length+C.g.length:=dR K.o.h2 K.o.g5
  have h2:=K.o.h2
  have g5:=K.o.g5
  have tt:bz (.name 2) x [.val C.n,s1,s4,s2,.own (.lst acc),s5]=some [.val C.n,s1,.val x,s2,.own (.lst acc),s5]:=by
   rcases h4 with rfl|⟨d,rfl⟩<;>simp[bz,cj]
  simp only[QBq]at ha
  obtain⟨a5,k5,z⟩:=Ui n K (hx x QYz) (.val (.lst C.nm)) s2 C.nm acc s5 (fun _ h=>h) (by omega) h5
  have go:ex (pg.cf (n+11)) poB [.val C.n,s1,.val x,s2,.own (.lst acc),s5]=.next [.val C.n,.val (.lst C.nm),.val x,s2,.own (.lst (acc++(C.nm.flatMap (two x)).map aX)),a5]:=by
   rcases h1 with rfl|rfl<;>simp[poB,items,z,Ob.d]
  have len:∀ys:List D,((ys.flatMap (two x)).map aX).length=2*ys.length:=fun ys=>by
   induction ys with
   |nil=>rfl
   |cons y ys ih=>simp[two]at ih⊢;omega
  obtain⟨a1,a4,a5',z'⟩:=Uh n K s2 xs (acc++(C.nm.flatMap (two x)).map aX) (.val (.lst C.nm)) (.val x) a5 (fun z hz=>hx z (QYq _ hz)) (by rw[QTq,len];omega) (.inr rfl) (.inr ⟨_,rfl⟩) k5
  refine⟨a1,a4,a5',?_⟩
  rw[aZ,tt]
  simp only[go]
  rw[show(Fl.next [.val C.n,.val (.lst C.nm),.val x,s2,.own (.lst (acc++(C.nm.flatMap (two x)).map aX)),a5]).turn (aZ (.name 2) (ex (pg.cf (n+11)) poB) xs)=_ from z']
  simp
def Hr(n:Nat)(K:C.Ok):pg.fn (n+12) 35 [.val C.n]=.ok (.new (.lst (C.lQ.map aX))) [.val C.n]:=by
 have nl:=cA K.o.g5
 have g5:=K.o.g5
 have w:=Jl (n+10) K
 have gc:=mU (c:=pg.cf (n+11)) (it:=.idx (.var 0) AAG) (σ:=[.val C.n,.own (.lst C.nm),.un,.un,.un,.un]) (bh C.g) C.ks K.lz (by simp[oY])
 obtain⟨a1,a4,a5,z⟩:=Uh n K (.val (.lst (bh C.g))) (bh C.g) [] (.own (.lst C.nm)) .un .un (fun _ h=>h) (by simp;omega) (.inl rfl) (.inl rfl) (.inl rfl)
 have hb:jF=⟨1,6,(.cons (.set 1 ABf) (.cons (.set 3 (vf AAb)) (.cons ADN (.cons (.for_ (.name 2) (.var 3) poB) ABc))))⟩:=rfl
 rw[yH,hb]
 simp[w,gc,aJ,items,z,Ob.d,Cs.lQ]
end
end Tx.V
end
section
open PySem Mini
namespace Tx.V
section
variable{C:Cs}
def P_x{p:Pt}(P:C.P p):p.x∈C.nm:=QVq _ P.x
def FT{p:Pt}(P:C.P p):cP (aX p)=true:=by
 obtain⟨s,e,o⟩:=P.v _ (P_x P)
 obtain⟨t,e',o'⟩:=P.v _ P.y
 simp[aX,cP,e,e',LK,kA,o,o',dM,dep]
def Va{p q:Pt}(P:C.P p)(Q:C.P q):cM (aX p) (aX q)=true↔p=q:=by
 have a:=iQ (cN C.g p.x P.x) (cN C.g q.x Q.x)
 have b:=iQ (aL C.h C.g p.y P.y) (aL C.h C.g q.y Q.y)
 obtain⟨px,py,pb⟩:=p
 obtain⟨qx,qy,qb⟩:=q
 simp only[aX,cM,pG,Bool.and_true,QUq,a,b,Pt.mk.injEq,beq_iff_eq]
theorem UG{p:Pt}(P:C.P p):∀{l:List Pt},(∀q∈l,C.P q)->p∉l->aN (aX p) (l.map aX)=false
 |[]=>fun _ _=>rfl
 |q::l=>fun h hn=>by
  have e:cM (aX q) (aX p)=false:=by
   cases c:cM (aX q) (aX p)
   ·rfl
   ·exact absurd ((Va (h q QYz) P).mp c) fun z=>hn (by rw[z];exact QYz)
  rw[Qyz,aN,e,UG P (fun q hq=>h q (QYq _ hq)) fun z=>hn (QYq _ z)]
  rfl
theorem Uv(F:Pt->D){p:Pt}(P:C.P p):∀{l:List Pt},(∀q∈l,C.P q)->p∈l->bH (aX p) (l.map aX) (l.map F)=some (F p)
 |[]=>fun _ h=>by cases h
 |q::l=>fun h hm=>by
  simp only[Qyz,bH]
  have e:=Va (h q QYz) P
  by_cases c:q=p
  ·rw[if_pos (e.mpr c),c]
  ·rw[if_neg fun z=>c (e.mp z)]
   refine Uv F P (fun q hq=>h q (QYq _ hq)) ?_
   rcases QCq.mp hm with z|z
   ·exact absurd z.symm c
   ·exact z
def jX(F:Pt->D):List Pt->Ob
 |[]=>.dct [] []
 |p::l=>.sdt (aX p::l.map aX) (F p::l.map F)
def abL(F:Pt->D){p:Pt}(P:C.P p){l:List Pt}(h:∀q∈l,C.P q)(hn:p∉l)(hl:l.length<=900):nT (aX p) (F p) (jX F l)=some (jX F (l++[p])):=by
 have i:=FT P
 cases l with
 |nil=>
  show nT (aX p) (F p) (.dct [] [])=some (.sdt [aX p] [F p])
  unfold nT
  simp[show keyOk (aX p)=false from rfl,i]
 |cons q l=>
  have f:fits ((aX q::l.map aX).length+1)=true:=by simp at hl;simp[fits];omega
  have u:putD (aX p) (F p) (aX q::l.map aX) (F q::l.map F)=(aX q::l.map aX++[aX p],F q::l.map F++[F p]):=by
   have:=UG P h hn
   rw[Qyz]at this
   unfold putD
   rw[this]
   rfl
  show(if cP (aX p)&&fits ((aX q::l.map aX).length+1)then some (Ob.sdt (putD (aX p) (F p) (aX q::l.map aX) (F q::l.map F)).1 (putD (aX p) (F p) (aX q::l.map aX) (F q::l.map F)).2)else none)=_
  rw[i,f,u]
  simp[jX]
def MK(F:Pt->D){p:Pt}(P:C.P p){l:List Pt}(h:∀q∈l,C.P q)(hm:p∈l):getD (jX F l).d (aX p)=some (F p):=by
 cases l with
 |nil=>cases hm
 |cons q l=>
  show(if cP (aX p)then bH (aX p) ((q::l).map aX) ((q::l).map F)else none)=_
  rw[FT P,Uv F P h hm]
  rfl
def WP(K:C.Ok):C.lQ.Nodup:=by
 have Nd:=K.o.nd
 have Rd:=(v6 (h:=C.h) (g:=C.g)).nodup Nd
 refine List.pairwise_flatMap.mpr ⟨fun x _=>List.pairwise_flatMap.mpr ⟨fun y _=>by simp[two],Nd.imp fun{a b}ne p hp q hq e=>?_⟩,Rd.imp fun{a b}ne p hp q hq e=>?_⟩
 ·simp only[two,QCq,QAz,or_false]at hp hq
  rcases hp with rfl|rfl<;>rcases hq with rfl|rfl<;>exact ne (congrArg Pt.y e)
 ·obtain⟨y,_,hp⟩:=List.mem_flatMap.mp hp
  obtain⟨z,_,hq⟩:=List.mem_flatMap.mp hq
  simp only[two,QCq,QAz,or_false]at hp hq
  rcases hp with rfl|rfl<;>rcases hq with rfl|rfl<;>exact ne (congrArg Pt.x e)
def QJ(K:C.Ok):C.lQ.length<=70:=by
 have a:∀(x:D)(ys:List D),(ys.flatMap (two x)).length=2*ys.length:=fun x ys=>by
  induction ys with
  |nil=>rfl
  |cons y ys ih=>simp[two]at ih⊢;omega
 have b:∀xs:List D,(xs.flatMap fun x=>C.nm.flatMap (two x)).length=xs.length*(2*C.nm.length):=fun xs=>by
  induction xs with
  |nil=>simp
  |cons x xs ih=>rw[List.flatMap_cons,QTq,ih,a,QBq,Nat.add_one_mul xs.length,Nat.add_comm]
 have nl:C.nm.length=C.h.length+C.g.length:=dR K.o.h2 K.o.g5
 have:=b (bh C.g)
 rw[cA K.o.g5,nl]at this
 show((bh C.g).flatMap fun x=>C.nm.flatMap (two x)).length<=70
 rw[this]
 have h2:=K.o.h2
 have g5:=K.o.g5
 exact Nat.le_trans (Nat.mul_le_mul g5 (by omega:2*(C.h.length+C.g.length)<=14)) (by decide)
def xd(K:C.Ok)(hn:aR C.fl=false):∃w r ys,C.fl=.tup (w:: .lst r::ys)/\(∀x∈r,x∈C.nm)/\(ys=[]\/∃y,ys=[y]/\y∈C.nm):=by
 have X:=CJ K
 obtain⟨k,s,r,e,_,n,ef⟩:=iM hn
 have ef:C.fl=C.flt s r:=ef
 have m:=QBz e
 have S:=X.ok.ok _ m
 have wr:=X.ok.wr _ m
 rcases vg s r n with ⟨a,b,c⟩|⟨x,hx,el,c⟩|⟨x,hx,t,y,el,hy,hi,c⟩
 ·exact⟨_,r,[],by rw[ef,c],wr,.inl rfl⟩
 ·exact⟨_,_,[],by rw[ef,c],nu wr ((K.sub S).subset hx),.inl rfl⟩
 ·exact⟨_,_,[y],by rw[ef,c],nu wr ((K.sub S).subset hx),.inr ⟨y,rfl,QVq _ ((K.w.sub s.1 S.l).subset hy)⟩⟩
def o4(n:Nat)(K:C.Ok)(hn:aR C.fl=false){x:D}(hx:∃s,x=.str s):pg.fn (n+1) 34 [.val x,.val C.fl]=.ok (.val (.bl (gA x C.fl))) [.val x,.val C.fl]:=by
 obtain⟨w,r,ys,e,hr,hy⟩:=xd K hn
 obtain⟨s,rfl⟩:=hx
 have tr:cQ r:=fun x hx=>aL C.h C.g x (hr x hx)
 have ty:cQ ys:=fun x hx=>by
  rcases hy with rfl|⟨y,rfl,h⟩
  ·cases hx
  ·rw[QDz.mp hx];exact aL C.h C.g y h
 have i1:=(mL (q:=s) tr).1
 have i2:=(mL (q:=s) ty).2.1
 have c2:cut (w:: .lst r::ys) (some 2) none=ys:=by
  rcases hy with rfl|⟨y,rfl,h⟩<;>simp[cut,clip]
 rw[e,Bv]
 cases h1:aN (.str s) r<;>rw[h1]at i1<;>simp[lJ,gA,i1,h1,bQ,E.dZ,cJ,c2,i2]
noncomputable def fH(f:Pt->Pt->Bool):List Pt->Option (Pt×Pt)
 |[]=>none
 |p::ps=>match ps.find? (f p)with
  |some q=>some (p,q)
  |none=>fH f ps
def Cs.F1(C:Cs)(p:Pt):D:=(C.hl p).fl
def Cs.F2(C:Cs)(p q:Pt):D:=((C.hl p).hl q).fl
end
end Tx.V
end
section
open PySem Mini
namespace Tx.V
section
variable{C:Cs}
structure Cs.Lw(C:Cs):Prop where
 k:C.Ok
 l:∀x,C.L1 x
theorem Cs.Lw.hl(L:C.Lw){p:Pt}(P:C.P p):(C.hl p).Ok:=Mp L.k P (L.l _)
def Cs.Lw.hl2(L:C.Lw){p q:Pt}(P:C.P p)(Q:C.P q)(ne:q.x≠p.x):((C.hl p).hl q).Ok:=Mp (L.hl P) (Yd Q) (acE L.k P Q.x ne (L.l _))
def adn(n:Nat)(L:C.Lw){p:Pt}(P:C.P p):pg.fn (n+12) 31 [.val C.n,.val (.tup [aX p])]=.ok (.val (C.hl p).n) [.val C.n,.val (.tup [aX p])]/\pg.fn (n+12) 27 [.val (C.hl p).n,.val C.t]=.ok (.val (C.F1 p)) [.val (C.hl p).n,.val C.t]:=⟨Ms n L.k P,vm n (L.hl P)⟩
def adl(n:Nat)(L:C.Lw){p q:Pt}(P:C.P p)(Q:C.P q)(ne:q.x≠p.x):pg.fn (n+12) 31 [.val C.n,.val (.tup [aX p,aX q])]=.ok (.val ((C.hl p).hl q).n) [.val C.n,.val (.tup [aX p,aX q])]/\pg.fn (n+12) 27 [.val ((C.hl p).hl q).n,.val C.t]=.ok (.val (C.F2 p q)) [.val ((C.hl p).hl q).n,.val C.t]:=⟨Mr n L.k P (L.l _) Q,vm n (L.hl2 P Q ne)⟩
noncomputable def ZK:S:=(.cons ABj (.cons (.ite (.cmp .dZ (.idx (.var 2) (.var 3)) ABS) (.cons (.ret (.tup AAV)) .nil) .nil) .nil))
theorem Ut(n:Nat)(L:C.Lw):∀(ps l:List Pt)(s3:Sl),(∀p∈l++ps,C.P p)->(l++ps).Nodup->(l++ps).length<=900->bI s3->∃s3' l',
  aZ (.name 3) (ex (pg.cf (n+12)) ZK) (ps.map aX) [.val C.n,.val C.t,.own (jX C.F1 l),s3]=match ps.find? fun p=>aR (C.F1 p)with
   |some p=>.ret (.val (.tup [aX p])) [.val C.n,.val C.t,.own (jX C.F1 l'),s3']
   |none=>.next [.val C.n,.val C.t,.own (jX C.F1 (l++ps)),s3']
 |[]=>fun l s3 _ _ _ _=>⟨s3,l,by simp[aZ]⟩
 |p::ps=>fun l s3 hP nd hl h3=>by
  have P:=hP p (by simp)
  have Pl:∀q∈l,C.P q:=fun q hq=>hP q (QWz _ hq)
  have hn:p∉l:=fun z=>by
   rw[List.nodup_append]at nd
   exact nd.2.2 _ z _ QYz rfl
  have e1:l++p::ps=l++[p]++ps:=by simp
  have pt:=abL C.F1 P Pl hn (by simp at hl;omega)
  have gt:=MK C.F1 P (l:=l++[p]) (fun q hq=>hP q (by simp at hq⊢;rcases hq with h|h<;>simp[h])) (by simp)
  obtain⟨f1,f2⟩:=adn n L P
  have tt:bz (.name 3) (aX p) [.val C.n,.val C.t,.own (jX C.F1 l),s3]=some [.val C.n,.val C.t,.own (jX C.F1 l),.val (aX p)]:=by
   rcases h3 with rfl|⟨d,rfl⟩<;>simp[bz,cj]
  rw[Qyz,aZ,tt,List.find?_cons]
  cases c:aR (C.F1 p)with
  |true=>
   refine⟨.val (aX p),l++[p],?_⟩
   have go:ex (pg.cf (n+12)) ZK [.val C.n,.val C.t,.own (jX C.F1 l),.val (aX p)]=.ret (.val (.tup [aX p])) [.val C.n,.val C.t,.own (jX C.F1 (l++[p])),.val (aX p)]:=by
    simp[ZK,aJ,f1,f2,pt,gt,c]
   simp only[go]
   rfl
  |false=>
   have go:ex (pg.cf (n+12)) ZK [.val C.n,.val C.t,.own (jX C.F1 l),.val (aX p)]=.next [.val C.n,.val C.t,.own (jX C.F1 (l++[p])),.val (aX p)]:=by
    simp[ZK,aJ,f1,f2,pt,gt,c]
   rw[e1]at hP nd hl⊢
   obtain⟨a,b,z⟩:=Ut n L ps (l++[p]) (.val (aX p)) hP nd hl (.inr ⟨_,rfl⟩)
   refine⟨a,b,?_⟩
   simp only[go]
   exact z
def Cs.cd(C:Cs)(p q:Pt):Bool:= !cM q.x p.x&&(gA q.x (C.F1 p)&&(gA p.x (C.F1 q)&&aR (C.F2 p q)))
def abN(p:Pt):getD (aX p) (.int 0)=some p.x:=by simp[aX]
def Xp:S:=(.cons (.ite AAi (.cons (.ite (.cmp .dZ ABm ABS) ACr .nil) .nil) .nil) .nil)
theorem Uo(n:Nat)(L:C.Lw){l:List Pt}(hl:∀q∈l,C.P q/\aR (C.F1 q)=false){p:Pt}(hp:p∈l)(s3 s4:Sl):∀(qs:List Pt)(s6:Sl),(∀q∈qs,q∈l)->bI s6->∃s6',bI s6'/\
  aZ (.name 6) (ex (pg.cf (n+12)) Xp) (qs.map aX) [.val C.n,.val C.t,.val (jX C.F1 l).d,s3,s4,.val (aX p),s6]=match qs.find? (C.cd p)with
   |some q=>.ret (.val (.tup [aX p,aX q])) [.val C.n,.val C.t,.val (jX C.F1 l).d,s3,s4,.val (aX p),s6']
   |none=>.next [.val C.n,.val C.t,.val (jX C.F1 l).d,s3,s4,.val (aX p),s6']
 |[]=>fun s6 _ h6=>⟨s6,h6,by simp[aZ]⟩
 |q::qs=>fun s6 hq h6=>by
  obtain⟨P,np⟩:=hl p hp
  have hm:=hq q QYz
  obtain⟨Q,nq⟩:=hl q hm
  have gp:=MK C.F1 P (fun q hq=>(hl q hq).1) hp
  have gq:=MK C.F1 Q (fun q hq=>(hl q hq).1) hm
  obtain⟨a,ea⟩:=cN C.g p.x P.x
  obtain⟨b,eb⟩:=cN C.g q.x Q.x
  have p0:=abN p
  have q0:=abN q
  have h1:=o4 (n+11) (L.hl P) np (x:=q.x) ⟨b,eb⟩
  have h2:=o4 (n+11) (L.hl Q) nq (x:=p.x) ⟨a,ea⟩
  have h1:pg.fn (n+12) 34 [.val q.x,.val (C.F1 p)]=.ok (.val (.bl (gA q.x (C.F1 p)))) [.val q.x,.val (C.F1 p)]:=h1
  have h2:pg.fn (n+12) 34 [.val p.x,.val (C.F1 q)]=.ok (.val (.bl (gA p.x (C.F1 q)))) [.val p.x,.val (C.F1 q)]:=h2
  have tt:bz (.name 6) (aX q) [.val C.n,.val C.t,.val (jX C.F1 l).d,s3,s4,.val (aX p),s6]=some [.val C.n,.val C.t,.val (jX C.F1 l).d,s3,s4,.val (aX p),.val (aX q)]:=by
   rcases h6 with rfl|⟨d,rfl⟩<;>simp[bz,cj]
  have go:ex (pg.cf (n+12)) Xp [.val C.n,.val C.t,.val (jX C.F1 l).d,s3,s4,.val (aX p),.val (aX q)]=if C.cd p q then .ret (.val (.tup [aX p,aX q])) [.val C.n,.val C.t,.val (jX C.F1 l).d,s3,s4,.val (aX p),.val (aX q)]else .next [.val C.n,.val C.t,.val (jX C.F1 l).d,s3,s4,.val (aX p),.val (aX q)]:=by
   unfold Cs.cd
   by_cases c:q.x=p.x
   ·have ab:b=a:=by rw[ea,eb]at c;simpa using c
    rw[(iQ ⟨b,eb⟩ ⟨a,ea⟩).mpr c]
    simp[Xp,p0,q0,ea,eb,ab]
   ·have ab:¬b=a:=fun z=>c (by rw[ea,eb,z])
    have ce:cM q.x p.x=false:=by
     cases h:cM q.x p.x
     ·rfl
     ·exact absurd ((iQ ⟨b,eb⟩ ⟨a,ea⟩).mp h) c
    obtain⟨f1,f2⟩:=adl n L P Q c
    rw[ce]
    rw[ea]at h2 p0
    rw[eb]at h1 q0
    rw[ea,eb]
    cases c1:gA (.str b) (C.F1 p)with
    |false=>
     rw[c1]at h1
     simp[Xp,p0,q0,ab,gp,h1]
    |true=>
     rw[c1]at h1
     cases c2:gA (.str a) (C.F1 q)with
     |false=>
      rw[c2]at h2
      simp[Xp,p0,q0,ab,gp,gq,h1,h2]
     |true=>
      rw[c2]at h2
      cases c3:aR (C.F2 p q)<;>simp[Xp,p0,q0,ab,gp,gq,h1,h2,aJ,f1,f2,c3]
  rw[Qyz,aZ,tt,List.find?_cons]
  simp only[go]
  cases c:C.cd p q with
  |true=>exact⟨.val (aX q),.inr ⟨_,rfl⟩,rfl⟩
  |false=>
   obtain⟨a,b,z⟩:=Uo n L hl hp s3 s4 qs (.val (aX q)) (fun z hz=>hq z (QYq _ hz)) (.inr ⟨_,rfl⟩)
   exact⟨a,b,z⟩
end
end Tx.V
end
section
open PySem Mini
namespace Tx.V
section
variable{C:Cs}
def Nr(xs:List D)(i:Nat)(h:i+1<=xs.length):cut xs (some ((i:Int)+1)) none=xs.drop (i+1):=by
 have a:clip xs.length ((i:Int)+1)=i+1:=by
  unfold clip
  simp only
  rw[if_neg (by omega),if_neg (by omega),if_neg (by omega)]
  omega
 simp[cut,a]
def Ip{l ps:List Pt}{i:Nat}{p:Pt}(e:l.drop i=p::ps):l.drop (i+1)=ps/\i+1<=l.length/\l[i]? =some p/\p∈l/\∀q∈ps,q∈l:=by
 have hi:i<l.length:=by
  apply Nat.lt_of_not_le
  intro z
  rw[List.drop_eq_nil_of_le z]at e
  cases e
 have e2:=e
 rw[List.drop_eq_getElem_cons hi]at e2
 simp only[List.cons.injEq]at e2
 refine⟨e2.2,hi,by rw[QXq hi,e2.1],?_,fun q hq=>?_⟩
 ·rw[<-e2.1];exact List.getElem_mem hi
 ·exact List.mem_of_mem_drop (i:=i) (by rw[e];exact QYq _ hq)
def od(xs:List D):(Ob.lst xs).d=.lst xs:=rfl
def PQ:Option (Pt×Pt)->D
 |none=>.non
 |some z=>.tup [aX z.1,aX z.2]
def ZL:S:=.cons (.for_ (.name 6) ACs Xp) .nil
theorem Uu(n:Nat)(L:C.Lw){l:List Pt}(hl:∀q∈l,C.P q/\aR (C.F1 q)=false):∀(ps:List Pt)(i:Nat)(s4 s5 s6:Sl),l.drop i=ps->bI s4->bI s5->bI s6->∃a b c,
  aZ (.tup [4,5]) (ex (pg.cf (n+12)) ZL) (aC (b7 i ps.length) (ps.map aX)) [.val C.n,.val C.t,.val (jX C.F1 l).d,.val (.lst (l.map aX)),s4,s5,s6]=match fH C.cd ps with
   |some z=>.ret (.val (.tup [aX z.1,aX z.2])) [.val C.n,.val C.t,.val (jX C.F1 l).d,.val (.lst (l.map aX)),a,b,c]
   |none=>.next [.val C.n,.val C.t,.val (jX C.F1 l).d,.val (.lst (l.map aX)),a,b,c]
 |[]=>fun i s4 s5 s6 _ _ _ _=>⟨s4,s5,s6,by simp[aZ,aC,b7,fH]⟩
 |p::ps=>fun i s4 s5 s6 e h4 h5 h6=>by
  obtain⟨e1,hi,_,hp,hs⟩:=Ip e
  have tt:bz (.tup [4,5]) (.tup [.int i,aX p]) [.val C.n,.val C.t,.val (jX C.F1 l).d,.val (.lst (l.map aX)),s4,s5,s6]=some [.val C.n,.val C.t,.val (jX C.F1 l).d,.val (.lst (l.map aX)),.val (.int i),.val (aX p),s6]:=by
   rcases h4 with rfl|⟨d,rfl⟩<;>rcases h5 with rfl|⟨d',rfl⟩<;>simp[bz,cj,gG]
  obtain⟨s6',h6',z⟩:=Uo n L hl hp (.val (.lst (l.map aX))) (.val (.int i)) ps s6 hs h6
  have ct:=Nr (l.map aX) i (by simpa using hi)
  rw[<-List.map_drop,e1]at ct
  rw[QBq,b7,Qyz,aC,aZ,tt,fH]
  simp only
  cases c:ps.find? (C.cd p)with
  |some q=>
   rw[c]at z
   refine⟨.val (.int i),.val (aX p),s6',?_⟩
   have go:ex (pg.cf (n+12)) ZL [.val C.n,.val C.t,.val (jX C.F1 l).d,.val (.lst (l.map aX)),.val (.int i),.val (aX p),s6]=.ret (.val (.tup [aX p,aX q])) [.val C.n,.val C.t,.val (jX C.F1 l).d,.val (.lst (l.map aX)),.val (.int i),.val (aX p),s6']:=by
    simp[ZL,bQ,E.dZ,cJ,ct,items,z,od]
   simp only[go]
   rfl
  |none=>
   rw[c]at z
   have go:ex (pg.cf (n+12)) ZL [.val C.n,.val C.t,.val (jX C.F1 l).d,.val (.lst (l.map aX)),.val (.int i),.val (aX p),s6]=.next [.val C.n,.val C.t,.val (jX C.F1 l).d,.val (.lst (l.map aX)),.val (.int i),.val (aX p),s6']:=by
    simp[ZL,bQ,E.dZ,cJ,ct,items,z,od]
   obtain⟨a,b,d,z'⟩:=Uu n L hl ps (i+1) (.val (.int i)) (.val (aX p)) s6' e1 (.inr ⟨_,rfl⟩) (.inr ⟨_,rfl⟩) h6'
   refine⟨a,b,d,?_⟩
   simp only[go]
   exact z'
def WN(K:C.Ok):∃p l,C.lQ=p::l:=by
 cases h:C.lQ with
 |cons p l=>exact⟨p,l,rfl⟩
 |nil=>
  exfalso
  have g1:=K.o.g1
  have lr:=cA K.o.g5
  cases hr:bh C.g with
  |nil=>rw[hr]at lr;simp at lr;omega
  |cons x xs=>
   have m:(⟨x,x,true⟩:Pt)∈C.lQ:=List.mem_flatMap.mpr ⟨x,by rw[hr];exact QYz,List.mem_flatMap.mpr ⟨x,QVq _ (by rw[hr];exact QYz),by simp[two]⟩⟩
   rw[h]at m
   cases m
theorem VN(n:Nat)(L:C.Lw)(hl:∀q∈C.lQ,aR (C.F1 q)=false):
  pg.fn (n+13) 33 [.val C.n,.val C.t,.val (jX C.F1 C.lQ).d]=.ok (.val (PQ (fH C.cd C.lQ))) [.val C.n,.val C.t,.val (jX C.F1 C.lQ).d]:=by
 obtain⟨a,b,c,z⟩:=Uu n L (l:=C.lQ) (fun q hq=>⟨oX L.k hq,hl q hq⟩) C.lQ 0 .un .un .un rfl (.inl rfl) (.inl rfl) (.inl rfl)
 have bl:b1 .list (jX C.F1 C.lQ).d=some (.new (.lst (C.lQ.map aX))):=by
  obtain⟨p,l,e⟩:=WN L.k
  rw[e]
  rfl
 have hb:fj=⟨3,7,(.cons (.set 3 ABq) (.cons (.for_ (.tup [4,5]) (.enum (.var 3)) ZL) (.cons (.ret ABS) .nil)))⟩:=rfl
 have z0:(((0:Nat):Int))=0:=rfl
 rw[z0]at z
 rw[pq,hb]
 cases f:fH C.cd C.lQ with
 |none=>rw[f]at z;simp[bl,gf,items,z,PQ,od]
 |some w=>rw[f]at z;simp[bl,gf,items,z,PQ,od]
noncomputable def Cs.men(C:Cs)(f:Pt->Pt->Bool):D:=
 if aR C.fl then .tup []else match C.lQ.find? fun p=>aR (C.F1 p)with
  |some p=>.tup [aX p]
  |none=>PQ (fH f C.lQ)
def gl9:pg.gl 9=some (.int 4):=rfl
def uK(n:Nat)(L:C.Lw)(g4:C.g.length<=4):pg.fn (n+14) 32 [.val C.n,.val C.t]=.ok (.val (C.men C.cd)) [.val C.n,.val C.t]:=by
 have K:=L.k
 have ck:=K.checked (n+2)
 have f0:=vm (n+1) K
 have po:=Hr (n+1) K
 have pl:=QJ K
 obtain⟨a,b,z⟩:=Ut (n+1) L C.lQ [] .un (fun p hp=>oX K hp) (WP K) (by simp;omega) (.inl rfl)
 have hb:sO=⟨2,4,(.cons ABX (.cons (.ite ADb ABJ .nil) (.cons (.ite (.cmp .dZ (.call 27 ADW) ABS) (.cons (.ret (.tup .nil)) .nil) .nil) (.cons (.set 2 .emp) (.cons (.for_ (.name 3) (.call 35 AAS) ZK) ADc)))))⟩:=rfl
 have lz:(aC (bh C.g) C.ks).length=C.g.length:=by rw[pK K.lz,cA K.o.g5]
 have n4:¬(4:Int)<C.g.length:=by omega
 rw[J6,hb]
 have e0:jX C.F1 []=.dct [] []:=rfl
 rw[e0]at z
 unfold Cs.men
 cases c0:aR C.fl with
 |true=>simp[ck,oY,lz,gl9,n4,f0,c0,aJ]
 |false=>
  cases f:C.lQ.find? fun p=>aR (C.F1 p)with
  |some p=>
   rw[f]at z
   simp[ck,oY,lz,gl9,n4,f0,c0,po,items,z,od]
  |none=>
   rw[f]at z
   have tw:=VN n L fun q hq=>by
    have:=List.find?_eq_none.mp f q hq
    simpa using this
   simp[ck,oY,lz,gl9,n4,f0,c0,po,items,z,od,tw]
theorem vp{f:Pt->Pt->Bool}{z:Pt×Pt}:∀{l:List Pt},fH f l=some z->z.1∈l/\z.2∈l
 |[]=>fun e=>by cases e
 |p::l=>fun e=>by
  rw[fH]at e
  split at e
  ·rename_i q h
   cases e
   exact⟨QYz,QYq _ (List.mem_of_find?_eq_some h)⟩
  ·have:=vp e
   exact⟨QYq _ this.1,QYq _ this.2⟩
end
end Tx.V
end
section
open PySem Mini
namespace Tx.V
section
variable{ρ:Str->Str}
def rD(ρ:Str->Str):D->D
 |.str s=>.str (ρ s)
 |d=>d
noncomputable def rK(ρ:Str->Str):D->D
 |.tup [a,d,x,b]=>.tup [a,rK ρ d,rD ρ x,b]
 |.tup [a,.tup ys,r]=>.tup [a,.tup (ys.map (rD ρ)),r]
 |.tup [a,.tup ys]=>.tup [a,.tup (ys.map (rD ρ))]
 |.tup [a,.str s]=>.tup [a,.str (ρ s)]
 |d=>d
def pL(a d x b:D):rK ρ (.tup [a,d,x,b])=.tup [a,rK ρ d,rD ρ x,b]:=by rw[rK]
def By(a r:D)(ys:List D):rK ρ (.tup [a,.tup ys,r])=.tup [a,.tup (ys.map (rD ρ)),r]:=by rw[rK]
def iC(a:D)(ys:List D):rK ρ (.tup [a,.tup ys])=.tup [a,.tup (ys.map (rD ρ))]:=by rw[rK]
def nP(a:D)(s:Str):rK ρ (.tup [a,.str s])=.tup [a,.str (ρ s)]:=by rw[rK]
def rS(ρ:Str->Str)(st:List (D×Nat)):List (D×Nat):=st.map fun m=>(rD ρ m.1,m.2)
noncomputable def Cs.rn(C:Cs)(ρ:Str->Str):Cs:=⟨C.h.map ρ,C.g.map ρ,C.ks.map (rK ρ),C.ls,C.os.map (rD ρ),C.sts.map (rS ρ),wF (C.h.map ρ) (C.g.map ρ) (C.ks.map (rK ρ))⟩
def qw(g:List Str):bh (g.map ρ)=(bh g).map (rD ρ):=by simp[bh,rD]
def zG(h:List Str):hd (h.map ρ)=(hd h).map (rD ρ):=by simp[hd,rD]
def za(h g:List Str):names (h.map ρ) (g.map ρ)=(names h g).map (rD ρ):=by rw[names,names,zG,qw,List.map_append]
def Eq2(ρ:Str->Str)(xs:List D):Prop:=∀x∈xs,∀y∈xs,cM (rD ρ x) (rD ρ y)=cM x y
theorem Fe{x:D}:∀(xs vs:List D),(∀y∈xs,cM (rD ρ y) (rD ρ x)=cM y x)->bH (rD ρ x) (xs.map (rD ρ)) vs=bH x xs vs
 |[],vs=>fun _=>by cases vs<;>rfl
 |y::xs,[]=>fun _=>rfl
 |y::xs,v::vs=>fun h=>by
  simp only[Qyz,bH,h y QYz,Fe xs vs fun z hz=>h z (QYq _ hz)]
theorem rG{x:D}:∀(xs:List D),(∀y∈xs,cM (rD ρ y) (rD ρ x)=cM y x)->aN (rD ρ x) (xs.map (rD ρ))=aN x xs
 |[]=>fun _=>rfl
 |y::xs=>fun h=>by
  simp only[Qyz,aN,h y QYz,rG xs fun z hz=>h z (QYq _ hz)]
theorem Lk{x:D}:∀(st:List (D×Nat)),(∀y∈gM st,cM (rD ρ y) (rD ρ x)=cM y x)->lk (rD ρ x) (rS ρ st)=lk x st
 |[]=>fun _=>rfl
 |m::st=>fun h=>by
  have:=Lk st fun z hz=>h z (QYq _ hz)
  simp only[rS]at this
  simp only[rS,Qyz,lk,h m.1 QYz,this]
def mK{xs:List D}(e:Eq2 ρ xs){bs:List Bool}{x:D}(hx:x∈xs):bA (xs.map (rD ρ)) bs (rD ρ x)=bA xs bs x:=by
 unfold bA
 rw[Fe xs _ fun y hy=>e y hy x hx]
def R3{xs:List D}(e:Eq2 ρ xs){bs:List Bool}{x:D}(hx:x∈xs):gC (xs.map (rD ρ)) bs (rD ρ x)=gC xs bs x:=by
 unfold gC
 rw[List.zip_map_left,List.map_map]
 refine List.map_congr_left fun q hq=>?_
 simp only[Function.comp,Prod.map,e q.1 (List.of_mem_zip hq).1 x hx,id]
def aaN{xs:List D}(t:cQ xs)(e:Eq2 ρ xs){bs:List Bool}{k:Nat}{d:D}(hk:bu xs k d)(own:Bool):nF (xs.map (rD ρ)) bs (rK ρ d) own=nF xs bs d own:=by
 have lm:∀ys:List D,ys.Sublist xs->(ys.map (rD ρ)).map (bA (xs.map (rD ρ)) bs)=ys.map (bA xs bs):=fun ys hs=>by
  rw[List.map_map]
  exact List.map_congr_left fun y hy=>mK e (hs.subset hy)
 induction hk with
 |same hx=>obtain⟨s,rfl⟩:=t _ hx;rw[nP,vR,vR];exact mK e hx
 |not hx=>obtain⟨s,rfl⟩:=t _ hx;rw[nP,Ax,Ax];exact congrArg _ (mK e hx)
 |and hs _ _=>rw[iC,Ay,Ay,lm _ hs]
 |or hs _ _=>rw[iC,Jv,Jv,lm _ hs]
 |both hs _ _=>rw[iC,vV,vV,lm _ hs]
 |table hs _ _ _ _=>rw[By,p7,p7,lm _ hs]
 |held _ hx ih=>rw[pL,vU,vU,ih,mK e hx]
def FJ{xs:List D}(t:cQ xs){k:Nat}{d:D}(hk:bu xs k d):bu (xs.map (rD ρ)) k (rK ρ d):=by
 induction hk with
 |same hx=>obtain⟨s,rfl⟩:=t _ hx;rw[nP];exact .same (QTz (f:=rD ρ) hx)
 |not hx=>obtain⟨s,rfl⟩:=t _ hx;rw[nP];exact .not (QTz (f:=rD ρ) hx)
 |and hs a b=>rw[iC];exact .and (hs.map _) (by simpa using a) (by simpa using b)
 |or hs a b=>rw[iC];exact .or (hs.map _) (by simpa using a) (by simpa using b)
 |both hs a b=>rw[iC];exact .both (hs.map _) (by simpa using a) (by simpa using b)
 |table hs a b c d=>rw[By];exact .table (hs.map _) (by simpa using a) (by simpa using b) (by simpa using c) d
 |held _ hx ih=>rw[pL];exact .held ih (QTz hx)
end
structure Rn(C:Cs)(ρ:Str->Str):Prop where
 i:∀a∈C.h++C.g,∀b∈C.h++C.g,ρ a=ρ b->a=b
 v:∀a∈C.h++C.g,ρ a∈Ul
 w:C.W=wF C.h C.g C.ks
section
variable{C:Cs}{ρ:Str->Str}
def Rn.e(N:Rn C ρ):Eq2 ρ C.nm:=fun x hx y hy=>by
 rw[Cs.nm,dX]at hx hy
 obtain⟨s,hs,rfl⟩:=QDq.mp hx
 obtain⟨t,ht,rfl⟩:=QDq.mp hy
 show decide (ρ s=ρ t)=decide (s=t)
 have:ρ s=ρ t↔s=t:=⟨N.i s hs t ht,fun z=>by rw[z]⟩
 simp only[this]
def JH(sts:List (List (D×Nat)))(j:Nat):bJ (sts.map (rS ρ)) j=rS ρ (bJ sts j):=by
 unfold bJ
 simp only[List.getD_eq_getElem?_getD,QFz]
 cases sts[j]? <;>rfl
def El(K:C.Ok)(N:Rn C ρ):(C.rn ρ).Ok:=by
 have T:=aL C.h C.g
 have o:Nk (C.h.map ρ) (C.g.map ρ) (C.ks.map (rK ρ)) C.ls:=
  ⟨by simpa using K.o.h2,by simpa using K.o.g1,by simpa using K.o.g5,by simpa using K.o.kl,fun d hd=>by
   obtain⟨d,hd',rfl⟩:=QDq.mp hd
   have:=FJ (ρ:=ρ) T (K.o.kk d hd')
   rw[<-za]at this
   exact this,by simpa using K.o.ll,by
   rw[<-List.map_append]
   exact List.pairwise_map.mpr (K.o.nn.imp_of_mem fun{a b}ha hb ne z=>ne (N.i a ha b hb z)),fun s hs=>by
   rw[<-List.map_append]at hs
   obtain⟨a,ha,rfl⟩:=QDq.mp hs
   exact N.v a ha⟩
 refine⟨o,⟨?_,by simpa[Cs.rn]using K.t.s1,by simpa[Cs.rn]using K.t.s4,fun st hst=>?_⟩,Jk o⟩
 ·show(C.os.map (rD ρ)).Sublist (bh (C.g.map ρ))
  rw[qw];exact K.t.ou.map _
 ·obtain⟨st,h,rfl⟩:=QDq.mp hst
  obtain⟨a,b⟩:=K.t.mv st h
  constructor
  ·show((rS ρ st).map (·.1)).Sublist (hd (C.h.map ρ)++C.os.map (rD ρ))
   rw[zG,<-List.map_append,rS,List.map_map]
   have:=a.map (rD ρ)
   rw[List.map_map]at this
   exact this
  ·intro m hm
   obtain⟨m,hm',rfl⟩:=QDq.mp hm
   show m.2< (C.sts.map (rS ρ)).length
   rw[QAq]
   exact b m hm'
def aaw(K:C.Ok)(N:Rn C ρ)(bs:List Bool):wF (C.h.map ρ) (C.g.map ρ) (C.ks.map (rK ρ)) bs=(wF C.h C.g C.ks bs).map (rD ρ):=by
 unfold wF
 rw[qw,za,List.zip_map,List.filter_map,List.map_map,List.map_map]
 have:((bh C.g).zip C.ks).filter (wtP ((names C.h C.g).map (rD ρ)) bs∘Prod.map (rD ρ) (rK ρ))=((bh C.g).zip C.ks).filter (wtP (names C.h C.g) bs):=by
  refine List.filter_congr fun q hq=>?_
  have m:q.1∈C.nm:=QVq _ (List.of_mem_zip hq).1
  have l:=mK N.e (bs:=bs) m
  have w:=aaN (aL C.h C.g) N.e (bs:=bs) (K.o.kk q.2 (List.of_mem_zip hq).2)
  show(!(nF ((names C.h C.g).map (rD ρ)) bs (rK ρ q.2) (bA ((names C.h C.g).map (rD ρ)) bs (rD ρ q.1))==bA ((names C.h C.g).map (rD ρ)) bs (rD ρ q.1)))=_
  rw[show bA ((names C.h C.g).map (rD ρ)) bs (rD ρ q.1)=_ from l,show nF ((names C.h C.g).map (rD ρ)) bs (rK ρ q.2) _=_ from w _]
  rfl
 rw[this]
 rfl
end
end Tx.V
end
section
open PySem Mini
namespace Tx.V
section
variable{C:Cs}{ρ:Str->Str}
def JK(K:C.Ok){j:Nat}(hj:j<C.sts.length){x:D}(hx:x∈gM (bJ C.sts j)):x∈C.nm:=K.t.sub.subset ((K.t.mv _ (mq hj)).1.subset hx)
def KZ(K:C.Ok){x:D}(hx:x∈C.os):x∈C.nm:=QVq _ (K.t.ou.subset hx)
def Zc(K:C.Ok)(N:Rn C ρ)(bs:List Bool):(C.rn ρ).W bs=(C.W bs).map (rD ρ):=by
 rw[N.w]
 exact aaw K N bs
def TV(K:C.Ok)(N:Rn C ρ){s:St}(S:C.S s):(C.rn ρ).st s=(C.st s).map (rD ρ):=by
 show(hd (C.h.map ρ)).filter (fun x=>(lk x (bJ (C.sts.map (rS ρ)) s.2)).isSome)++(C.rn ρ).W s.1=_
 rw[Zc K N,zG,List.filter_map,JH]
 show _=((hd C.h).filter (fun x=>(lk x (bJ C.sts s.2)).isSome)++C.W s.1).map (rD ρ)
 rw[List.map_append]
 congr 2
 refine List.filter_congr fun x hx=>?_
 show(lk (rD ρ x) (rS ρ (bJ C.sts s.2))).isSome=_
 rw[Lk _ fun y hy=>N.e y (JK K S.j hy) x (QWz _ hx)]
def Lq(K:C.Ok)(N:Rn C ρ){s:St}(S:C.S s){x:D}(hx:x∈C.nm):(C.rn ρ).led s (rD ρ x)=C.led s x:=by
 show tV (C.h.map ρ) (C.g.map ρ) (C.os.map (rD ρ)) (C.sts.map (rS ρ)) s (rD ρ x)=tV C.h C.g C.os C.sts s x
 unfold tV
 rw[zG,za,rG _ fun y hy=>N.e y (QWz _ hy) x hx,rG _ fun y hy=>N.e y (KZ K hy) x hx,JH,Lk _ fun y hy=>N.e y (JK K S.j hy) x hx,R3 N.e hx]
def rP(ρ:Str->Str)(p:St×List D):St×List D:=(p.1,p.2.map (rD ρ))
def Wx(R:Rs):(R.map (rP ρ)).map (·.1)=R.map (·.1):=by rw[List.map_map];rfl
theorem wB(K:C.Ok)(N:Rn C ρ){s:St}(S:C.S s)(r:List D):∀(xs:List D)(R:Rs),(∀x∈xs,x∈C.nm)->(C.rn ρ).new s (r.map (rD ρ)) (xs.map (rD ρ)) (R.map (rP ρ))=(C.new s r xs R).map (rP ρ)
 |[]=>fun R _=>rfl
 |x::xs=>fun R h=>by
  have h':∀y∈xs,y∈C.nm:=fun y hy=>h y (QYq _ hy)
  rw[Qyz,Cs.new,Cs.new,Lq K N S (h x QYz)]
  cases C.led s x with
  |none=>exact wB K N S r xs R h'
  |some t=>
   simp only[Wx]
   split
   ·exact wB K N S r xs R h'
   ·have:=wB K N S r xs (R++[(t,r++[x])]) h'
    rw[List.map_append]at this
    rw[Qyz,<-this]
    simp[rP]
theorem Oa(K:C.Ok)(N:Rn C ρ):∀(f k:Nat)(R:Rs),C.Ro R->(C.rn ρ).jD f k (R.map (rP ρ))=(C.jD f k R).map (rP ρ)
 |0=>fun _ _ _=>rfl
 |f+1=>fun k R X=>by
  rw[Cs.jD,Cs.jD,QFz]
  cases e:R[k]? with
  |none=>rfl
  |some p=>
   have m:=QBz e
   have S:=X.ok p m
   have X':=jw K S (X.wr p m) (C.st p.1) (fun x hx=>(K.sub S).subset hx) X (X.le p m)
   show(C.rn ρ).jD f (k+1) (R.map (rP ρ)++(C.rn ρ).new p.1 (p.2.map (rD ρ)) ((C.rn ρ).st p.1) (R.map (rP ρ)))=(C.jD f (k+1) (R++C.new p.1 p.2 (C.st p.1) R)).map (rP ρ)
   rw[TV K N S,wB K N S p.2 _ R fun x hx=>(K.sub S).subset hx,<-List.map_append]
   exact Oa K N f (k+1) _ X'
def Om(K:C.Ok)(N:Rn C ρ):(C.rn ρ).all=C.all.map (rP ρ):=Oa K N 1000 0 (R0 C.ls) (Af K)
def acv(R:Rs):kD (R.map (rP ρ))=kD R:=by unfold kD;rw[List.map_map];rfl
noncomputable def rF(ρ:Str->Str):D->D
 |.tup (w:: .lst r::ys)=>.tup (w:: .lst (r.map (rD ρ))::ys.map (rD ρ))
 |d=>d
def nQ(d:D):aR (rF ρ d)=aR d:=by
 unfold rF
 split<;>rfl
def RK(K:C.Ok)(N:Rn C ρ){s t:St}(S:C.S s)(T:C.S t){x:D}(hx:x∈C.nm):(C.rn ρ).gone s t (rD ρ x)=(C.gone s t x).map (rD ρ):=by
 unfold Cs.gone
 rw[Zc K N,Zc K N,List.filter_map]
 congr 1
 refine List.filter_congr fun y hy=>?_
 have hy':y∈C.nm:=QVq _ ((K.w.sub s.1 S.l).subset hy)
 show(!aN (rD ρ y) ((C.W t.1).map (rD ρ)++[rD ρ x]))=_
 rw[show(C.W t.1).map (rD ρ)++[rD ρ x]=(C.W t.1++[x]).map (rD ρ) by simp,rG _ fun z hz=>N.e z (by
  rcases QXz.mp hz with w|w
  ·exact QVq _ ((K.w.sub t.1 T.l).subset w)
  ·rw[QDz.mp w];exact hx) y hy']
def aa8(K:C.Ok)(N:Rn C ρ){s:St}(S:C.S s)(r:List D){x:D}(hx:x∈C.nm):(C.rn ρ).sf s (r.map (rD ρ)) (rD ρ x)=rF ρ (C.sf s r x):=by
 unfold Cs.sf
 rw[Lq K N S hx]
 cases e:C.led s x with
 |none=>rfl
 |some t=>
  simp only
  rw[RK K N S (K.Rt S e) hx]
  cases C.gone s t x<;>rfl
theorem vo{f g:D->D}:∀{xs:List D},(∀x∈xs,g (rD ρ x)=rF ρ (f x))->dJ g (xs.map (rD ρ))=rF ρ (dJ f xs)
 |[]=>fun _=>rfl
 |x::xs=>fun h=>by
  rw[Qyz,dJ,dJ,h x QYz,nQ]
  cases aR (f x)with
  |true=>simp only[if_true];exact vo fun y hy=>h y (QYq _ hy)
  |false=>simp
def Xa(K:C.Ok)(N:Rn C ρ){s:St}(S:C.S s):qO (C.rn ρ).os (bJ (C.rn ρ).sts s.2)=qO C.os (bJ C.sts s.2):=by
 show qO (C.os.map (rD ρ)) (bJ (C.sts.map (rS ρ)) s.2)=_
 rw[JH]
 unfold qO rS
 rw[List.any_map,Bool.eq_iff_iff,List.any_eq_true,List.any_eq_true]
 have:∀m∈bJ C.sts s.2,aN (rD ρ m.1) (C.os.map (rD ρ))=aN m.1 C.os:=fun m hm=>rG _ fun y hy=>N.e y (KZ K hy) m.1 (JK K S.j (QTz (f:=(·.1)) hm))
 exact⟨fun⟨m,hm,h⟩=>⟨m,hm,by rw[<-this m hm];exact h⟩,fun⟨m,hm,h⟩=>⟨m,hm,by simp only[Function.comp];rw[this m hm];exact h⟩⟩
def YL(K:C.Ok)(N:Rn C ρ){s:St}(S:C.S s)(r:List D):(C.rn ρ).flt s (r.map (rD ρ))=rF ρ (C.flt s r):=by
 unfold Cs.flt
 rw[TV K N S,Xa K N S]
 have e1:((C.st s).map (rD ρ)).isEmpty=(C.st s).isEmpty:=by cases C.st s<;>rfl
 rw[e1]
 split
 ·split<;>rfl
 ·refine vo fun x hx=>?_
  have:=aa8 K N S (r++[x]) ((K.sub S).subset hx)
  rw[List.map_append]at this
  exact this
theorem U8(K:C.Ok)(N:Rn C ρ):∀(R:Rs),(∀p∈R,C.S p.1)->(C.rn ρ).ff (R.map (rP ρ))=rF ρ (C.ff R)
 |[]=>fun _=>rfl
 |p::R=>fun h=>by
  have e:=YL K N (h p QYz) p.2
  rw[Qyz,Cs.ff,Cs.ff,show(rP ρ p).1=p.1 from rfl,show(rP ρ p).2=p.2.map (rD ρ)from rfl,e,nQ]
  cases aR (C.flt p.1 p.2)with
  |true=>simp only[if_true];exact U8 K N R fun q hq=>h q (QYq _ hq)
  |false=>simp
def zN(K:C.Ok)(N:Rn C ρ):(C.rn ρ).fl=rF ρ C.fl:=by
 unfold Cs.fl
 rw[Om K N]
 exact U8 K N _ fun p hp=>(CJ K).ok.ok p hp
def lO(ρ:Str->Str)(p:Pt):Pt:=⟨rD ρ p.x,rD ρ p.y,p.b⟩
def JZ(K:C.Ok)(N:Rn C ρ){p:Pt}(P:C.P p):(C.rn ρ).hl (lO ρ p)=(C.hl p).rn ρ:=by
 have e:hks (C.g.map ρ) (C.ks.map (rK ρ)) (lO ρ p)=(hks C.g C.ks p).map (rK ρ):=by
  unfold hks
  rw[qw,List.zip_map,List.map_map,List.map_map]
  refine List.map_congr_left fun q hq=>?_
  show hk (lO ρ p) (rD ρ q.1,rK ρ q.2)=rK ρ (hk p q)
  unfold hk
  rw[show cM (rD ρ q.1) (lO ρ p).x=cM q.1 p.x from N.e _ (QVq _ (List.of_mem_zip hq).1) _ (QVq _ P.x)]
  split
  ·rw[pL];rfl
  ·rfl
 show Cs.mk (C.h.map ρ) (C.g.map ρ) (hks (C.g.map ρ) (C.ks.map (rK ρ)) (lO ρ p)) C.ls (C.os.map (rD ρ)) (C.sts.map (rS ρ)) (wF (C.h.map ρ) (C.g.map ρ) (hks (C.g.map ρ) (C.ks.map (rK ρ)) (lO ρ p)))=_
 rw[e]
 rfl
def uZ(N:Rn C ρ)(p:Pt):Rn (C.hl p) ρ:=⟨N.i,N.v,rfl⟩
end
end Tx.V
end
section
open PySem Mini
namespace Tx.V
section
variable{C:Cs}{ρ:Str->Str}
theorem wZ(f:D->List Pt)(g:D->List Pt):∀xs:List D,(∀x∈xs,g (rD ρ x)=(f x).map (lO ρ))->(xs.map (rD ρ)).flatMap g=(xs.flatMap f).map (lO ρ)
 |[]=>fun _=>rfl
 |x::xs=>fun h=>by
  rw[Qyz,List.flatMap_cons,List.flatMap_cons,List.map_append,h x QYz,wZ f g xs fun y hy=>h y (QYq _ hy)]
def WQ:(C.rn ρ).lQ=C.lQ.map (lO ρ):=by
 show(bh (C.g.map ρ)).flatMap (fun x=>(names (C.h.map ρ) (C.g.map ρ)).flatMap (two x))=_
 rw[qw,za]
 exact wZ (fun x=>C.nm.flatMap (two x)) _ _ fun x _=>wZ (two x) _ _ fun y _=>rfl
def O2(L:C.Lw)(N:Rn C ρ){p:Pt}(P:C.P p):(C.rn ρ).F1 (lO ρ p)=rF ρ (C.F1 p):=by
 unfold Cs.F1
 rw[JZ L.k N P]
 exact zN (L.hl P) (uZ N p)
def adm(L:C.Lw)(N:Rn C ρ){p q:Pt}(P:C.P p)(Q:C.P q)(ne:q.x≠p.x):(C.rn ρ).F2 (lO ρ p) (lO ρ q)=rF ρ (C.F2 p q):=by
 unfold Cs.F2
 rw[JZ L.k N P,JZ (L.hl P) (uZ N p) (Yd Q)]
 exact zN (L.hl2 P Q ne) (uZ (uZ N p) q)
def Eu(K:C.Ok)(N:Rn C ρ)(hn:aR C.fl=false){x:D}(hx:x∈C.nm):gA (rD ρ x) (rF ρ C.fl)=gA x C.fl:=by
 obtain⟨w,r,ys,e,hr,hy⟩:=xd K hn
 have ey:∀y∈ys,y∈C.nm:=fun y h=>by
  rcases hy with rfl|⟨z,rfl,hz⟩
  ·cases h
  ·rw[QDz.mp h];exact hz
 rw[e]
 show(aN (rD ρ x) (r.map (rD ρ))||aN (rD ρ x) (ys.map (rD ρ)))=(aN x r||aN x ys)
 rw[rG _ fun y h=>N.e y (hr y h) x hx,rG _ fun y h=>N.e y (ey y h) x hx]
def acW(L:C.Lw)(N:Rn C ρ){p q:Pt}(P:C.P p)(Q:C.P q)(hp:aR (C.F1 p)=false)(hq:aR (C.F1 q)=false):(C.rn ρ).cd (lO ρ p) (lO ρ q)=C.cd p q:=by
 have px:p.x∈C.nm:=QVq _ P.x
 have qx:q.x∈C.nm:=QVq _ Q.x
 unfold Cs.cd
 rw[show cM (lO ρ q).x (lO ρ p).x=cM q.x p.x from N.e _ qx _ px,O2 L N P,O2 L N Q]
 by_cases c:q.x=p.x
 ·rw[(iQ (cN C.g q.x Q.x) (cN C.g p.x P.x)).mpr c]
  rfl
 ·rw[adm L N P Q c,nQ,show gA (lO ρ q).x (rF ρ (C.F1 p))=gA q.x (C.F1 p)from Eu (L.hl P) (uZ N p) hp qx,show gA (lO ρ p).x (rF ρ (C.F1 q))=gA p.x (C.F1 q)from Eu (L.hl Q) (uZ N q) hq px]
theorem xf{f g:Pt->Bool}:∀{l:List Pt},(∀p∈l,g (lO ρ p)=f p)->(l.map (lO ρ)).find? g=(l.find? f).map (lO ρ)
 |[]=>fun _=>rfl
 |p::l=>fun h=>by
  rw[Qyz,List.find?_cons,List.find?_cons,h p QYz]
  cases f p with
  |true=>rfl
  |false=>exact xf fun q hq=>h q (QYq _ hq)
theorem zQ{f g:Pt->Pt->Bool}:∀{l:List Pt},(∀p∈l,∀q∈l,g (lO ρ p) (lO ρ q)=f p q)->fH g (l.map (lO ρ))=(fH f l).map fun z=>(lO ρ z.1,lO ρ z.2)
 |[]=>fun _=>rfl
 |p::l=>fun h=>by
  rw[Qyz,fH,fH,xf fun q hq=>h p QYz q (QYq _ hq)]
  cases l.find? (f p)with
  |some q=>rfl
  |none=>exact zQ fun a ha b hb=>h a (QYq _ ha) b (QYq _ hb)
noncomputable def Cs.mo(C:Cs):Option (List Pt):=
 if aR C.fl then some []else match C.lQ.find? fun p=>aR (C.F1 p)with
  |some p=>some [p]
  |none=>(fH C.cd C.lQ).map fun z=>[z.1,z.2]
def Ur:Option (List Pt)->D
 |none=>.non
 |some l=>.tup (l.map aX)
def Li:C.men C.cd=Ur C.mo:=by
 unfold Cs.men Cs.mo
 split
 ·rfl
 ·cases C.lQ.find? fun p=>aR (C.F1 p)with
  |some p=>rfl
  |none=>cases fH C.cd C.lQ<;>rfl
def Uq(L:C.Lw)(N:Rn C ρ):(C.rn ρ).mo=C.mo.map fun l=>l.map (lO ρ):=by
 have K:=L.k
 unfold Cs.mo
 rw[zN K N,nQ,WQ]
 split
 ·rfl
 ·rw[xf (f:=fun p=>aR (C.F1 p)) fun p hp=>by rw[O2 L N (oX K hp),nQ]]
  cases f:C.lQ.find? fun p=>aR (C.F1 p)with
  |some p=>rfl
  |none=>
   have h:∀q∈C.lQ,aR (C.F1 q)=false:=fun q hq=>by simpa using List.find?_eq_none.mp f q hq
   simp only[Option.map_none]
   rw[zQ (f:=C.cd) fun p hp q hq=>acW L N (oX K hp) (oX K hq) (h p hp) (h q hq)]
   cases fH C.cd C.lQ<;>rfl
def aca(K:C.Ok){l:List Pt}(e:C.mo=some l):∀p∈l,C.P p:=fun p hp=>by
 unfold Cs.mo at e
 split at e
 ·cases e;cases hp
 ·split at e
  ·rename_i q h
   cases e
   rw[QDz.mp hp]
   exact oX K (List.mem_of_find?_eq_some h)
  ·obtain⟨z,hz,rfl⟩:=QJz.mp e
   have m:=vp hz
   simp only[QCq,QAz,or_false]at hp
   rcases hp with rfl|rfl
   ·exact oX K m.1
   ·exact oX K m.2
def abm(L:C.Lw)(N:Rn C ρ):(C.rn ρ).Lw:=⟨El L.k N,fun x d hd=>by
 have:(x,d)∈(bh (C.g.map ρ)).zip (C.ks.map (rK ρ)):=hd
 rw[qw,List.zip_map]at this
 obtain⟨q,hq,e⟩:=QDq.mp this
 cases e
 show bu (names (C.h.map ρ) (C.g.map ρ)) 1 (rK ρ q.2)
 rw[za]
 exact FJ (aL C.h C.g) (L.l q.1 q.2 hq)⟩
end
end Tx.V
end
section
open PySem Mini
namespace Tx.V
section
variable{C:Cs}{ρ:Str->Str}
theorem zq(f:D->D){x:D}:∀{xs:List D},cQ xs->x∈xs->bH x xs (xs.map f)=some (f x)
 |[]=>fun _ h=>by cases h
 |y::xs=>fun t h=>by
  obtain⟨s,rfl⟩:=t x h
  obtain⟨q,rfl⟩:=t y QYz
  by_cases e:q=s
  ·subst e;simp[bH,cM]
  ·have:D.str s∈xs:=by
    rcases QCq.mp h with z|z
    ·cases z;exact absurd rfl e
    ·exact z
   simp[bH,cM,e,zq f (fun z hz=>t z (QYq _ hz)) this]
def Cs.A(C:Cs)(ρ:Str->Str):D:=.dU C.nm (C.nm.map (rD ρ))
def je{x:D}(hx:x∈C.nm):getD (C.A ρ) x=some (rD ρ x):=by
 have l:=zq (rD ρ) (aL C.h C.g) hx
 obtain⟨s,rfl⟩:=aL C.h C.g x hx
 show(if keyOk (.str s)then bH (.str s) C.nm (C.nm.map (rD ρ))else none)=_
 exact l
def knC:E:=.comp 1 (.name 0) AAb AAL (.idx (.var 2) (.var 0))
noncomputable def Uy:Fn:=⟨2,2,(.cons (.ite (.cmp .eq AAc AAu) ABL .nil) (.cons (.ite ABi ACR .nil) (.cons (.ret (.op .add (.tup (.cons AAc (.cons (.bi .tuple knC) .nil))) (.slc (.var 0) AAP .noneE))) .nil)))⟩
def q8:dN=Uy:=rfl
def wK(n:Nat){ys:List D}(hs:ys.Sublist C.nm)(w:D)(r:List D):
  ev (pg.cf n) knC [.val (.tup (w:: .tup ys::r)),.val (C.A ρ)]=.ok (.new (.lst (ys.map (rD ρ)))) [.val (.tup (w:: .tup ys::r)),.val (C.A ρ)]:=
 kW (d:=.tup ys) (xs:=ys) (r:=.val (.tup ys)) (rD ρ) (by simp) rfl rfl fun x hx=>by
  have:=je (ρ:=ρ) (hs.subset hx)
  simp[this]
def pC:∀{k:Nat}{d:D},bu C.nm k d->∀n:Nat,pg.fn (n+1+k) 53 [.val d,.val (C.A ρ)]=.ok (.val (rK ρ d)) [.val d,.val (C.A ρ)]:=by
 intro k d hk
 have T:=aL C.h C.g
 have q:knC.aq=none:=rfl
 have f2:fits (1+1)=true:=rfl
 have c2:∀a b:D,cut [a,b] (some 2) none=[]:=fun a b=>by simp[cut,clip]
 have c3:∀a b c:D,cut [a,b,c] (some 2) none=[c]:=fun a b c=>by simp[cut,clip]
 have kb:∀n k:Nat,n+1+k=n+k+1:=fun n k=>by omega
 induction hk with
 | @same k x hx=>
  intro n
  have g:=je (ρ:=ρ) hx
  obtain⟨s,rfl⟩:=T x hx
  rw[kb,bF,q8,nP]
  simp[Uy,g,aJ,rD]
 | @not k x hx=>
  intro n
  have g:=je (ρ:=ρ) hx
  obtain⟨s,rfl⟩:=T x hx
  rw[kb,bF,q8,nP]
  simp[Uy,g,aJ,rD]
 | @and k ys hs h1 h2=>
  intro n
  have e:=wK (ρ:=ρ) (n+k) hs (.str "and") []
  rw[kb,bF,q8,iC]
  simp[Uy,e,q,aJ,bQ,E.dZ,cJ,c2,fits]
 | @or k ys hs h1 h2=>
  intro n
  have e:=wK (ρ:=ρ) (n+k) hs (.str "or") []
  rw[kb,bF,q8,iC]
  simp[Uy,e,q,aJ,bQ,E.dZ,cJ,c2,fits]
 | @both k ys hs h1 h2=>
  intro n
  have e:=wK (ρ:=ρ) (n+k) hs (.str "both") []
  rw[kb,bF,q8,iC]
  simp[Uy,e,q,aJ,bQ,E.dZ,cJ,c2,fits]
 | @table k ys rs hs h1 h2 hr hi=>
  intro n
  have e:=wK (ρ:=ρ) (n+k) hs (.str "table") [.tup (rs.map aO)]
  rw[kb,bF,q8,By]
  simp[Uy,e,q,aJ,bQ,E.dZ,cJ,c3,fits]
 | @held k d x b hk hx ih=>
  intro n
  have g:=je (ρ:=ρ) hx
  have i:=ih n
  rw[<-Nat.add_assoc,bF,q8,pL]
  simp[Uy,i,g,aJ]
def rgC:E:=ABM
def rsC:E:=ABz
def roC(i:Nat):E:=(.comp 1 (.name 0) (.idx (.var i) AAH) AAL ABs)
def rsB:S:=.cons (.append 4 (.bi .tuple rsC)) .nil
theorem TY(n:Nat)(a0 a1 s3 s6:Sl):∀(sts:List (List (D×Nat)))(acc:List D)(s5:Sl),(∀st∈sts,∀m∈st,m.1∈C.nm)->acc.length+sts.length<=900->bI s5->∃s5',
  aZ (.name 5) (ex (pg.cf n) rsB) (sts.map cY) [a0,a1,.val (C.A ρ),s3,.own (.lst acc),s5,s6]=.next [a0,a1,.val (C.A ρ),s3,.own (.lst (acc++sts.map fun st=>cY (rS ρ st))),s5',s6]
 |[]=>fun acc s5 _ _ _=>⟨s5,by simp[aZ]⟩
 |st::sts=>fun acc s5 h ha h5=>by
  simp only[QBq]at ha
  have tt:bz (.name 5) (cY st) [a0,a1,.val (C.A ρ),s3,.own (.lst acc),s5,s6]=some [a0,a1,.val (C.A ρ),s3,.own (.lst acc),.val (cY st),s6]:=by
   rcases h5 with rfl|⟨d,rfl⟩<;>simp[bz,cj]
  have e:ev (pg.cf n) rsC [a0,a1,.val (C.A ρ),s3,.own (.lst acc),.val (cY st),s6]=.ok (.new (.lst ((rS ρ st).map uI))) [a0,a1,.val (C.A ρ),s3,.own (.lst acc),.val (cY st),s6]:=by
   have:=zZ (c:=pg.cf n) (it:=.var 5) (el:=.tup (.cons (.idx (.var 4) (.var 0)) AAT)) (σ:=[a0,a1,.val (C.A ρ),s3,.own (.lst acc),.val (cY st),s6]) (τ:=[a0,a1,.val (C.A ρ),s3,.own (.lst acc),.val (cY st),s6]) (d:=cY st) (ps:=st.map fun m=>(m.1,.int m.2)) (r:=.val (cY st)) (fun q=>.tup [rD ρ q.1,q.2]) (by simp) rfl (by show some _=some _;rw[List.map_map];rfl) (fun q hq=>by
    obtain⟨m,hm,rfl⟩:=QDq.mp hq
    have g:=je (ρ:=ρ) (h st QYz m hm)
    simp[g,aJ])
   rw[List.map_map]at this
   rw[rS,List.map_map]
   exact this
  have q:rsC.aq=none:=rfl
  have f:fits (acc.length+1)=true:=by simp[fits];omega
  have go:ex (pg.cf n) rsB [a0,a1,.val (C.A ρ),s3,.own (.lst acc),.val (cY st),s6]=.next [a0,a1,.val (C.A ρ),s3,.own (.lst (acc++[cY (rS ρ st)])),.val (cY st),s6]:=by
   rw[show cY (rS ρ st)=.tup ((rS ρ st).map uI)from rfl]
   simp[rsB,e,q,f,wA,di]
  obtain⟨s5',z⟩:=TY n a0 a1 s3 s6 sts (acc++[cY (rS ρ st)]) (.val (cY st)) (fun x hx=>h x (QYq _ hx)) (by simp;omega) (.inr ⟨_,rfl⟩)
  refine⟨s5',?_⟩
  rw[Qyz,aZ,tt]
  simp only[go]
  rw[show(Fl.next [a0,a1,.val (C.A ρ),s3,.own (.lst (acc++[cY (rS ρ st)])),.val (cY st),s6]).turn (aZ (.name 5) (ex (pg.cf n) rsB) (sts.map cY))=_ from z]
  simp
def afq:(C.rn ρ).n=.tup [.tup ((hd C.h).map (rD ρ)),.tup (((bh C.g).zip C.ks).map fun q=>.tup [rD ρ q.1,rK ρ q.2]),.tup (C.ls.map .bl)]:=by
 show D.tup [.tup (hd (C.h.map ρ)),.tup (aC (bh (C.g.map ρ)) (C.ks.map (rK ρ))),.tup (C.ls.map .bl)]=_
 rw[bY,zG,qw,List.zip_map,List.map_map]
 rfl
def afp:(C.rn ρ).t=.tup [.tup (C.os.map (rD ρ)),.tup (C.sts.map fun st=>cY (rS ρ st))]:=by
 show D.tup [.tup (C.os.map (rD ρ)),.tup ((C.sts.map (rS ρ)).map cY)]=_
 rw[List.map_map]
 rfl
def Bk(n:Nat)(K:C.Ok):pg.fn (n+4) 54 [.val C.n,.val C.t,.val (C.A ρ)]=.ok (.val (.tup [(C.rn ρ).n,(C.rn ρ).t])) [.val C.n,.val C.t,.val (C.A ρ)]:=by
 have n0:=Le (C:=C)
 have n1:=oY (C:=C)
 have n2:getD C.n (.int 2)=some (.tup (C.ls.map .bl)):=Lf
 have t0:=JB (C:=C)
 have t1:=Tu (C:=C)
 have s4:=K.t.s4
 have e1:ev (pg.cf (n+3)) rgC [.val C.n,.val C.t,.val (C.A ρ),.un,.un,.un,.un]=.ok (.new (.lst (((bh C.g).zip C.ks).map fun q=>.tup [rD ρ q.1,rK ρ q.2]))) [.val C.n,.val C.t,.val (C.A ρ),.un,.un,.un,.un]:=by
  refine zZ (d:=.tup (aC (bh C.g) C.ks)) (ps:=(bh C.g).zip C.ks) (r:=.val (.tup (aC (bh C.g) C.ks))) (fun q=>.tup [rD ρ q.1,rK ρ q.2]) (by simp[n1]) rfl (by show some _=some _;rw[bY]) fun q hq=>?_
  have g:=je (C:=C) (ρ:=ρ) (QVq _ (List.of_mem_zip hq).1)
  have k:=pC (ρ:=ρ) (K.o.kk q.2 (List.of_mem_zip hq).2) n
  simp[g,k,aJ]
 obtain⟨s5,z⟩:=TY (C:=C) (ρ:=ρ) (n+3) (.val C.n) (.val C.t) (.val (.tup (((bh C.g).zip C.ks).map fun q=>.tup [rD ρ q.1,rK ρ q.2]))) .un C.sts [] .un (fun st hst m hm=>K.t.sub.subset ((K.t.mv st hst).1.subset (QTz hm))) (by simp;omega) (.inl rfl)
 have e2:∀a3 a4 a5 a6,ev (pg.cf (n+3)) (roC 1) [.val C.n,.val C.t,.val (C.A ρ),a3,a4,a5,a6]=.ok (.new (.lst (C.os.map (rD ρ)))) [.val C.n,.val C.t,.val (C.A ρ),a3,a4,a5,a6]:=fun a3 a4 a5 a6=>
  kW (d:=.tup C.os) (xs:=C.os) (r:=.val (.tup C.os)) (rD ρ) (by simp[t0]) rfl rfl fun x hx=>by
   have:=je (ρ:=ρ) (KZ K hx)
   simp[this]
 have e3:∀a3 a4 a5 a6,ev (pg.cf (n+3)) (roC 0) [.val C.n,.val C.t,.val (C.A ρ),a3,a4,a5,a6]=.ok (.new (.lst ((hd C.h).map (rD ρ)))) [.val C.n,.val C.t,.val (C.A ρ),a3,a4,a5,a6]:=fun a3 a4 a5 a6=>
  kW (d:=.tup (hd C.h)) (xs:=hd C.h) (r:=.val (.tup (hd C.h))) (rD ρ) (by simp[n0]) rfl rfl fun x hx=>by
   have:=je (C:=C) (ρ:=ρ) (QWz _ hx)
   simp[this]
 have hb:gQ=⟨3,7,(.cons (.set 3 (.bi .tuple rgC)) (.cons ADN (.cons (.for_ (.name 5) AAh rsB) (.cons (.set 6 (.bi .tuple (roC 1))) (.cons (.ret (.tup (.cons (.tup (.cons (.bi .tuple (roC 0)) ADe)) (.cons (.tup (.cons (.var 6) ACW)) .nil)))) .nil)))))⟩:=rfl
 have q1:rgC.aq=none:=rfl
 have q2:∀i,(roC i).aq=none:=fun _=>rfl
 rw[tO,hb,afq,afp]
 simp[e1,q1,aJ,t1,items,z,e2,e3,q2,n2,od]
end
end Tx.V
end
section
open PySem Mini
namespace Tx.V
section
variable{C:Cs}{ρ:Str->Str}
noncomputable def pos:List Str->List Str->Str->Str
 |a::L,b::T,s=>if a=s then b else pos L T s
 |_,_,s=>s
theorem wk:∀(L T:List Str),L.Nodup->L.length<=T.length->L.map (pos L T)=T.take L.length
 |[],_=>fun _ _=>rfl
 |_::_,[]=>fun _ h=>by simp at h
 |a::L,b::T=>fun nd h=>by
  rw[List.nodup_cons]at nd
  have e:L.map (pos (a::L) (b::T))=L.map (pos L T):=List.map_congr_left fun s hs=>by
   have:¬a=s:=fun z=>nd.1 (by rw[z];exact hs)
   simp[pos,this]
  rw[Qyz,e,wk L T nd.2 (by simpa using h)]
  simp[pos]
def Wq(K:C.Ok)(w:C.W=wF C.h C.g C.ks){T:List Str}(nd:T.Nodup)(hl:7<=T.length)(hv:∀s∈T,s∈Ul):Rn C (pos (C.h++C.g) T):=by
 have h2:=K.o.h2
 have g5:=K.o.g5
 have e:=wk (C.h++C.g) T K.o.nn (by simp;omega)
 have nd':((C.h++C.g).map (pos (C.h++C.g) T)).Nodup:=by rw[e];exact(List.take_sublist _ _).nodup nd
 refine⟨fun a ha b hb z=>?_,fun a ha=>?_,w⟩
 ·have inj:∀(f:Str->Str)(l:List Str),(l.map f).Nodup->∀a∈l,∀b∈l,f a=f b->a=b:=fun f l=>by
   induction l with
   |nil=>intro _ a ha;cases ha
   |cons x l ih=>
    intro n a ha b hb z
    rw[Qyz,List.nodup_cons]at n
    rcases QCq.mp ha with ra|ra<;>rcases QCq.mp hb with rb|rb
    ·rw[ra,rb]
    ·subst ra;exact absurd (QTz (f:=f) rb) (by rw[<-z];exact n.1)
    ·subst rb;exact absurd (QTz (f:=f) ra) (by rw[z];exact n.1)
    ·exact ih n.2 a ra b rb z
  exact inj _ _ nd' a ha b hb z
 ·have:pos (C.h++C.g) T a∈(C.h++C.g).map (pos (C.h++C.g) T):=QTz ha
  rw[e]at this
  exact hv _ (List.mem_of_mem_take this)
theorem ue:∀(xs ys:List D),aC xs ys=aC xs (ys.take xs.length)
 |[],_=>rfl
 |_::_,[]=>rfl
 |x::xs,y::ys=>by simp[aC,ue xs ys]
def Nj(K:C.Ok){T:List Str}(hl:7<=T.length):dictOf [] [] (aC C.nm (T.map .str))=some (C.nm,C.nm.map (rD (pos (C.h++C.g) T))):=by
 have h2:=K.o.h2
 have g5:=K.o.g5
 have e:=wk (C.h++C.g) T K.o.nn (by simp;omega)
 have nl:C.nm.length=(C.h++C.g).length:=by rw[Cs.nm,dX];simp
 have v:(T.map D.str).take C.nm.length=C.nm.map (rD (pos (C.h++C.g) T)):=by
  rw[<-List.map_take,nl,<-e,Cs.nm,dX,List.map_map,List.map_map]
  rfl
 rw[ue,v]
 exact rW (by simp) (aL C.h C.g) K.o.nd
def gY:List Str:=["z","y","gates","w","v","inp","t","s"]
def Wo{r:Int}(h0:0<=r)(h8:r<8):∃T:List Str,T.Nodup/\7<=T.length/\(∀s∈T,s∈Ul)/\cut (gY.map .str) (some r) none++cut (gY.map .str) none (some r)=T.map .str/\fits ((cut (gY.map .str) (some r) none).length+(cut (gY.map .str) none (some r)).length)=true:=by
 have c:r=0\/r=1\/r=2\/r=3\/r=4\/r=5\/r=6\/r=7:=by omega
 have ex:∀k:Nat,k<8->(gY.drop k++gY.take k).Nodup/\7<=(gY.drop k++gY.take k).length/\∀s∈gY.drop k++gY.take k,s∈Ul:=by decide
 rcases c with rfl|rfl|rfl|rfl|rfl|rfl|rfl|rfl
 ·exact⟨_,(ex 0 (by omega)).1,(ex 0 (by omega)).2.1,(ex 0 (by omega)).2.2,rfl,rfl⟩
 ·exact⟨_,(ex 1 (by omega)).1,(ex 1 (by omega)).2.1,(ex 1 (by omega)).2.2,rfl,rfl⟩
 ·exact⟨_,(ex 2 (by omega)).1,(ex 2 (by omega)).2.1,(ex 2 (by omega)).2.2,rfl,rfl⟩
 ·exact⟨_,(ex 3 (by omega)).1,(ex 3 (by omega)).2.1,(ex 3 (by omega)).2.2,rfl,rfl⟩
 ·exact⟨_,(ex 4 (by omega)).1,(ex 4 (by omega)).2.1,(ex 4 (by omega)).2.2,rfl,rfl⟩
 ·exact⟨_,(ex 5 (by omega)).1,(ex 5 (by omega)).2.1,(ex 5 (by omega)).2.2,rfl,rfl⟩
 ·exact⟨_,(ex 6 (by omega)).1,(ex 6 (by omega)).2.1,(ex 6 (by omega)).2.2,rfl,rfl⟩
 ·exact⟨_,(ex 7 (by omega)).1,(ex 7 (by omega)).2.1,(ex 7 (by omega)).2.2,rfl,rfl⟩
def R9(m:Nat)(ns:List Int)(k:Int)(hk:0<=k):∃C:Cs,C.Lw/\C.W=wF C.h C.g C.ks/\pg.fn (m+9) 51 [.val (.lst (ns.map .int)),.val (.int k)]=.ok (.val (.tup [C.n,C.t])) [.val (.lst (ns.map .int)),.val (.int k)]:=by
 obtain⟨h,g,ks,ls,os,sts,O,T,e⟩:=R8 m ns k hk
 have eh:hd ((["a","b","come"]:List Str).take h)=Tx.hd h:=by simp[hd,Tx.hd,List.map_take]
 have eg:bh ((["p","q","rr","go","abcdef"]:List Str).take g)=Tx.bh g:=by simp[bh,Tx.bh,List.map_take]
 have h2:=O.h2
 have g1:=O.g1
 have g5:=O.g5
 have lh:((["a","b","come"]:List Str).take h).length=h:=List.length_take_of_le (Nat.le_succ_of_le h2)
 have lg:((["p","q","rr","go","abcdef"]:List Str).take g).length=g:=List.length_take_of_le g5
 have k1:∀d∈ks,bu (names ((["a","b","come"]:List Str).take h) ((["p","q","rr","go","abcdef"]:List Str).take g)) 1 d:=fun d hd=>by
  show bu (V.hd _++bh _) 1 d
  rw[eh,eg];exact O.kk d hd
 have o:Nk ((["a","b","come"]:List Str).take h) ((["p","q","rr","go","abcdef"]:List Str).take g) ks ls:=
  ⟨by omega,by omega,by omega,by rw[lg];exact O.kl,fun d hd=>(k1 d hd).up (by decide),by rw[lh,lg];exact O.ll,((List.take_sublist h _).append (List.take_sublist g _)).nodup (by decide),fun s hs=>by
   rcases QXz.mp hs with z|z
   ·have:=List.mem_of_mem_take z
    simp only[QCq,QAz,or_false]at this
    rcases this with rfl|rfl|rfl<;>decide
   ·have:=List.mem_of_mem_take z
    simp only[QCq,QAz,or_false]at this
    rcases this with rfl|rfl|rfl|rfl|rfl<;>decide⟩
 refine⟨⟨_,_,ks,ls,os,sts,wF _ _ ks⟩,⟨⟨o,⟨by rw[eg];exact T.ou,T.s1,T.s4,fun st hst=>by rw[eh];exact T.mv st hst⟩,Jk o⟩,fun x d hd=>k1 d (List.of_mem_zip hd).2⟩,rfl,?_⟩
 rw[e]
 show _=Res.ok (.val (.tup [.tup [.tup (V.hd _),.tup (aC (bh _) ks),.tup (ls.map .bl)],bf os sts])) _
 rw[eh,eg]
 rfl
def acO(K:C.Ok):nd C.fl=true/\dep C.fl<=50:=by
 cases hn:aR C.fl with
 |true=>rw[BX hn];exact⟨rfl,by simp[dep]⟩
 |false=>
  have X:=CJ K
  obtain⟨k,s,r,e,_,n,ef⟩:=iM hn
  have ef:C.fl=C.flt s r:=ef
  have m:=QBz e
  have S:=X.ok.ok _ m
  have wr:=X.ok.wr _ m
  have o1:Ph (Str.ofString "stuck")=true:=by decide+kernel
  have o2:Ph (Str.ofString "unasked")=true:=by decide+kernel
  have o3:Ph (Str.ofString "taken")=true:=by decide+kernel
  rw[ef]
  rcases vg s r n with ⟨a,b,c⟩|⟨x,hx,el,c⟩|⟨x,hx,t,y,el,hy,hi,c⟩
  ·obtain⟨a1,a2⟩:=qR K wr
   rw[c]
   exact⟨by simp[nd,il,o1,a1],by simp[dep,dM,a2]⟩
  ·obtain⟨a1,a2⟩:=qR K (nu wr ((K.sub S).subset hx))
   rw[c]
   exact⟨by simp only[nd,il,o2,a1];rfl,by simp only[dep,dM,a2];decide⟩
  ·obtain⟨a1,a2⟩:=qR K (nu wr ((K.sub S).subset hx))
   obtain⟨q,rfl,o⟩:=Ey K (x:=y) (QVq _ ((K.w.sub s.1 S.l).subset hy))
   rw[c]
   exact⟨by simp only[nd,il,o3,a1,o];rfl,by simp only[dep,dM,a2];decide⟩
end
end Tx.V
end
section
open PySem Mini
namespace Tx.V
section
variable{C:Cs}{ρ:Str->Str}
def w1(n:Nat)(ns:List Int){d t:D}(e':pg.fn (n+10+9) 51 [.val (.lst (ns.map .int)),.val (.int 1)]=.ok (.val (.tup [d,t])) [.val (.lst (ns.map .int)),.val (.int 1)])(rest:S):ex (pg.cf (n+19)) (.cons ABV rest) [.val (.lst (ns.map .int)),.un,.un,.un,.un,.un,.un,.un,.un,.un,.un,.un]=ex (pg.cf (n+19)) rest [.val (.lst (ns.map .int)),.val d,.val t,.un,.un,.un,.un,.un,.un,.un,.un,.un]:=by
 simp[e',bz,gG,cj]
def Wn:E:=AAk
def w2(n:Nat)(a b d:Sl)(rest:S):ex (pg.cf n) (.cons (.set 3 Wn) rest) [a,b,d,.un,.un,.un,.un,.un,.un,.un,.un,.un]=ex (pg.cf n) rest [a,b,d,.own (.lst (gY.map .str)),.un,.un,.un,.un,.un,.un,.un,.un]:=by
 have e:gY.map D.str=[.str "z",.str "y",.str "gates",.str "w",.str "v",.str "inp",.str "t",.str "s"]:=rfl
 rw[e]
 simp[Wn,aJ,fits]
def w3(n:Nat)(ns:List Int){r:Int}(e:pg.fn (n+19) 40 [.val (.lst (ns.map .int)),.val (.int 0),.val (.int 8)]=.ok (.val (.int r)) [.val (.lst (ns.map .int)),.val (.int 0),.val (.int 8)])(b d f:Sl)(rest:S):ex (pg.cf (n+19)) (.cons AAy rest) [.val (.lst (ns.map .int)),b,d,f,.un,.un,.un,.un,.un,.un,.un,.un]=ex (pg.cf (n+19)) rest [.val (.lst (ns.map .int)),b,d,f,.val (.int r),.un,.un,.un,.un,.un,.un,.un]:=by
 simp[e]
def lN(n:Nat)(K:C.Ok):pg.fn (n+1) 52 [.val C.n]=.ok (.new (.lst C.nm)) [.val C.n]:=
 (show pg.fn (n+1) 52 _=pg.fn (n+1) 13 _ from(yK n _).trans (mz n _).symm).trans (Jl n K)
def YX:E:=ABU
def w4(n:Nat)(K:C.Ok){r:Int}{T:List Str}(et:cut (gY.map .str) (some r) none++cut (gY.map .str) none (some r)=T.map .str)(ef:fits ((cut (gY.map .str) (some r) none).length+(cut (gY.map .str) none (some r)).length)=true)(hl:7<=T.length)(a d:Sl)(rest:S):
  ex (pg.cf (n+19)) (.cons (.set 5 YX) rest) [a,.val C.n,d,.own (.lst (gY.map .str)),.val (.int r),.un,.un,.un,.un,.un,.un,.un]=ex (pg.cf (n+19)) rest [a,.val C.n,d,.val (.lst (gY.map .str)),.val (.int r),.own (.dct C.nm (C.nm.map (rD (pos (C.h++C.g) T)))),.un,.un,.un,.un,.un,.un]:=by
 have l:=lN (n+18) K
 have dp:=Nj K hl
 generalize gY.map D.str=R at*
 have z:∀xs:List D,bK (.lst xs)=some xs:=fun _=>rfl
 simp[YX,l,bQ,E.dZ,cJ,ef,et,z,dp,od]
def w5(n:Nat)(K:C.Ok)(a s3 s4:Sl)(rest:S):ex (pg.cf (n+19)) (.cons ACf rest) [a,.val C.n,.val C.t,s3,s4,.own (.dct C.nm (C.nm.map (rD ρ))),.un,.un,.un,.un,.un,.un]=ex (pg.cf (n+19)) rest [a,.val C.n,.val C.t,s3,s4,.val (C.A ρ),.val (C.rn ρ).n,.val (C.rn ρ).t,.un,.un,.un,.un]:=by
 have e:=Bk (ρ:=ρ) (n+15) K
 have o:(Ob.dct C.nm (C.nm.map (rD ρ))).d=C.A ρ:=rfl
 simp[e,bz,gG,cj,o]
def w6(n:Nat)(K:C.Ok)(N:Rn C ρ)(a s3 s4 s5:Sl)(x y:S)(rest:S):ex (pg.cf (n+19)) (.cons (.ite ACL x .nil) rest) [a,.val C.n,.val C.t,s3,s4,s5,.val (C.rn ρ).n,.val (C.rn ρ).t,.un,.un,.un,.un]=ex (pg.cf (n+19)) rest [a,.val C.n,.val C.t,s3,s4,s5,.val (C.rn ρ).n,.val (C.rn ρ).t,.un,.un,.un,.un]:=by
 have e:=uq (n+7) K
 have e':=uq (n+7) (El K N)
 have k:kD ((C.rn ρ).jD 1000 0 (R0 (C.rn ρ).ls))=kD (C.jD 1000 0 (R0 C.ls)):=(congrArg kD (Om K N)).trans (acv _)
 rw[k]at e'
 have nk:=Lb (C.jD 1000 0 (R0 C.ls))
 generalize kD (C.jD 1000 0 (R0 C.ls))=L at*
 have en:=(M8 (d:=.lst L) ⟨nk.1,Nat.le_trans (Nat.succ_le_succ nk.2) (by omega)⟩).2
 simp[e,e',en,od]
def w7(n:Nat)(K:C.Ok)(N:Rn C ρ)(a s3 s4 s5:Sl)(rest:S):ex (pg.cf (n+19)) (.cons ACy (.cons ACx rest)) [a,.val C.n,.val C.t,s3,s4,s5,.val (C.rn ρ).n,.val (C.rn ρ).t,.un,.un,.un,.un]=ex (pg.cf (n+19)) rest [a,.val C.n,.val C.t,s3,s4,s5,.val (C.rn ρ).n,.val (C.rn ρ).t,.val C.fl,.val (rF ρ C.fl),.un,.un]:=by
 have e:=vm (n+7) K
 have e':=vm (n+7) (El K N)
 rw[zN K N]at e'
 simp[e,e']
def YQ:E:=ACT
def YS:E:=ACN
def YT:E:=(.op .add (.tup (.cons (.idx (.var 8) AAH) (.cons YQ .nil))) (.bi .tuple YS))
def w8(n:Nat)(K:C.Ok)(N:Rn C ρ)(hn:aR C.fl=false)(a b d s3 s4 s6 s7 s9:Sl)(rest:S):ex (pg.cf n) (.cons (.set 10 YT) rest) [a,b,d,s3,s4,.val (C.A ρ),s6,s7,.val C.fl,s9,.un,.un]=ex (pg.cf n) rest [a,b,d,s3,s4,.val (C.A ρ),s6,s7,.val C.fl,s9,.val (rF ρ C.fl),.un]:=by
 obtain⟨w,r,ys,e,hr,hy⟩:=xd K hn
 have ey:∀y∈ys,y∈C.nm:=fun y h=>by
  rcases hy with rfl|⟨z,rfl,hz⟩
  ·cases h
  ·rw[QDz.mp h];exact hz
 have ly:ys.length<=1:=by rcases hy with rfl|⟨z,rfl,hz⟩<;>simp
 have c2:cut (w:: .lst r::ys) (some 2) none=ys:=by
  rcases hy with rfl|⟨y,rfl,h⟩<;>simp[cut,clip]
 have f:fits (2+ys.length)=true:=by simp[fits];omega
 rw[e]
 have e1:ev (pg.cf n) YQ [a,b,d,s3,s4,.val (C.A ρ),s6,s7,.val (.tup (w:: .lst r::ys)),s9,.un,.un]=.ok (.new (.lst (r.map (rD ρ)))) [a,b,d,s3,s4,.val (C.A ρ),s6,s7,.val (.tup (w:: .lst r::ys)),s9,.un,.un]:=
  kW (d:=.lst r) (xs:=r) (r:=.val (.lst r)) (rD ρ) (by simp) rfl rfl fun x hx=>by
   have:=je (ρ:=ρ) (hr x hx)
   simp[this]
 have e2:ev (pg.cf n) YS [a,b,d,s3,s4,.val (C.A ρ),s6,s7,.val (.tup (w:: .lst r::ys)),s9,.un,.un]=.ok (.new (.lst (ys.map (rD ρ)))) [a,b,d,s3,s4,.val (C.A ρ),s6,s7,.val (.tup (w:: .lst r::ys)),s9,.un,.un]:=
  kW (d:=.tup ys) (xs:=ys) (r:=.val (.tup ys)) (rD ρ) (by simp[bQ,E.dZ,cJ,c2]) rfl rfl fun x hx=>by
   have:=je (ρ:=ρ) (ey x hx)
   simp[this]
 have q1:YS.aq=none:=rfl
 have q2:YQ.aq=none:=rfl
 have rf:rF ρ (.tup (w:: .lst r::ys))=.tup ([w,.lst (r.map (rD ρ))]++ys.map (rD ρ)):=rfl
 have f':fits (([w,.lst (r.map (rD ρ))]:List D).length+(ys.map (rD ρ)).length)=true:=by simpa using f
 rw[rf]
 simp[YT,e1,e2,q1,aJ,od,f']
 simp_all
end
end Tx.V
end
section
open PySem Mini
namespace Tx.V
section
variable{C:Cs}{ρ:Str->Str}
def aez{s t u:Sl}(hs:bI s)(ht:bI t)(hu:bI u)(x y z:D)(τ:Ev):bz (.tup [0,1,2]) (.tup [x,y,z]) (s::t::u::τ)=some (.val x:: .val y:: .val z::τ):=by
 rcases hs with rfl|⟨d,rfl⟩<;>rcases ht with rfl|⟨d',rfl⟩<;>rcases hu with rfl|⟨d'',rfl⟩<;>simp[bz,gG,cj]
theorem go3{c:Cf}{el:E}{τ:Ev}{f:Pt->D}:∀(ps:List Pt)(acc:List D)(s t u:Sl),bI s->bI t->bI u->(∀p∈ps,ev c el (.val p.x:: .val p.y:: .val (.bl p.b)::τ)=.ok (.val (f p)) (.val p.x:: .val p.y:: .val (.bl p.b)::τ))->
  ∃s' t' u',aP (.tup [0,1,2]) (ev c AAL) (ev c el) (ps.map aX) acc (s::t::u::τ)=.ok (acc++ps.map f) (s'::t'::u'::τ)
 |[]=>fun acc s t u _ _ _ _=>⟨s,t,u,by simp[aP]⟩
 |p::ps=>fun acc s t u hs ht hu he=>by
  obtain⟨s',t',u',a⟩:=go3 (f:=f) ps (acc++[f p]) (.val p.x) (.val p.y) (.val (.bl p.b)) (.inr ⟨_,rfl⟩) (.inr ⟨_,rfl⟩) (.inr ⟨_,rfl⟩) fun q hq=>he q (QYq _ hq)
  refine⟨s',t',u',?_⟩
  rw[Qyz,aP,show aX p=.tup [p.x,p.y,.bl p.b]from rfl,aez hs ht hu]
  simp only
  rw[De,dC,if_pos rfl,he p QYz,bU,a]
  simp
def acT{c:Cf}{el it:E}{σ τ:Ev}{r:Rv}{d:D}{ps:List Pt}(f:Pt->D)(hi:ev c it σ=.ok r τ)(hr:r.jl=some d)(hd:items d=some (ps.map aX))(he:∀p∈ps,ev c el (.val p.x:: .val p.y:: .val (.bl p.b)::τ)=.ok (.val (f p)) (.val p.x:: .val p.y:: .val (.bl p.b)::τ)):
  ev c (.comp 3 (.tup [0,1,2]) it AAL el) σ=.ok (.new (.lst (ps.map f))) τ:=by
 obtain⟨s',t',u',a⟩:=go3 (f:=f) ps [] .un .un .un (.inl rfl) (.inl rfl) (.inl rfl) he
 rw[lX,hi]
 have b:∀{β:Type}(g:D->Ev->Out β),(Out.ok r τ).ak g=g d τ:=fun g=>by cases r<;>simp[Rv.jl]at hr<;>subst hr<;>rfl
 rw[b]
 simp only[hd]
 rw[show List.replicate 3 Sl.un++τ=.un:: .un:: .un::τ from rfl,a]
 simp
def ptC:E:=ACn
def ab9(K:C.Ok){l:List Pt}(e:C.mo=some l):nd (.tup (l.map aX))=true/\dep (.tup (l.map aX))<=50:=by
 have h:=aca K e
 have go:∀l:List Pt,(∀p∈l,C.P p)->il (l.map aX)=true/\dM (l.map aX)<=1:=fun l=>by
  induction l with
  |nil=>intro _;exact⟨rfl,by simp[dM]⟩
  |cons p l ih=>
   intro h
   obtain⟨a,b⟩:=ih fun q hq=>h q (QYq _ hq)
   have P:=h p QYz
   obtain⟨s,e1,o⟩:=P.v _ (P_x P)
   obtain⟨t,e2,o'⟩:=P.v _ P.y
   have c:nd (aX p)=true/\dep (aX p)<=1:=by simp[aX,e1,e2,nd,il,o,o',dep,dM]
   exact⟨by simp[il,c.1,a],by simp[dM];omega⟩
 obtain⟨a,b⟩:=go l h
 exact⟨by simpa[nd]using a,by simp[dep];omega⟩
def w9(c:Cf)(a b d s3 s4 s5 s6 s7:Sl)(f g:D)(e:aR g=aR f)(rest:S):ex c (.cons (.ite (.cmp .dZ (.var 8) ABS) (.cons (.ret (.cmp .dZ (.var 9) ABS)) .nil) .nil) rest) [a,b,d,s3,s4,s5,s6,s7,.val f,.val g,.un,.un]=if aR f then .ret (.val (.bl true)) [a,b,d,s3,s4,s5,s6,s7,.val f,.val g,.un,.un]else ex c rest [a,b,d,s3,s4,s5,s6,s7,.val f,.val g,.un,.un]:=by
 cases h:aR f<;>rw[h]at e<;>simp[h,e]
def w10(c:Cf)(a b d s3 s4 s5 s6 s7 s8:Sl)(f:D)(en:aG .ne f f=some false)(x rest:S):ex c (.cons (.ite ACh x .nil) rest) [a,b,d,s3,s4,s5,s6,s7,s8,.val f,.val f,.un]=ex c rest [a,b,d,s3,s4,s5,s6,s7,s8,.val f,.val f,.un]:=by
 simp[en]
def w11(c:Cf)(K:C.Ok)(a d s3 s4 s5 s6 s7 s8 s9 yC:Sl)(rest:S):ex c (.cons (.ite AAn ADG .nil) rest) [a,.val C.n,d,s3,s4,s5,s6,s7,s8,s9,yC,.un]=if (2:Int)<C.g.length\/(3:Int)<C.ls.length then .ret (.val (.bl true)) [a,.val C.n,d,s3,s4,s5,s6,s7,s8,s9,yC,.un]else ex c rest [a,.val C.n,d,s3,s4,s5,s6,s7,s8,s9,yC,.un]:=by
 have lz:(aC (bh C.g) C.ks).length=C.g.length:=by rw[pK K.lz,cA K.o.g5]
 have n1:=oY (C:=C)
 have n2:getD C.n (.int 2)=some (.tup (C.ls.map .bl)):=Lf
 by_cases c1:(2:Int)<C.g.length
 ·simp[n1,lz,c1]
 ·by_cases c2:(3:Int)<C.ls.length<;>simp[n1,n2,lz,c1,c2]
def w12(n:Nat)(L:C.Lw)(g4:C.g.length<=4)(a s3 s4 s5 s6 s7 s8 s9 yC:Sl)(rest:S):ex (pg.cf (n+19)) (.cons ACu rest) [a,.val C.n,.val C.t,s3,s4,s5,s6,s7,s8,s9,yC,.un]=ex (pg.cf (n+19)) rest [a,.val C.n,.val C.t,s3,s4,s5,s6,s7,s8,s9,yC,.val (Ur C.mo)]:=by
 have me:=uK (n+5) L g4
 rw[Li]at me
 simp[me]
noncomputable def R4:S:=(.cons (.ite (.cmp .dZ (.var 11) ABS) (.cons (.ret (.cmp .dZ ADa ABS)) .nil) .nil) (.cons (.ret (.cmp .eq ADa (.bi .tuple ptC))) .nil))
def w13(n:Nat)(L:C.Lw)(N:Rn C ρ)(g4:C.g.length<=4)(a b d s3 s4 s8 s9 yC:Sl):∃τ,ex (pg.cf (n+19)) R4 [a,b,d,s3,s4,.val (C.A ρ),.val (C.rn ρ).n,.val (C.rn ρ).t,s8,s9,yC,.val (Ur C.mo)]=.ret (.val (.bl true)) τ/\τ=[a,b,d,s3,s4,.val (C.A ρ),.val (C.rn ρ).n,.val (C.rn ρ).t,s8,s9,yC,.val (Ur C.mo)]:=by
 have L':=abm L N
 have me:=uK (n+5) L' (by simpa[Cs.rn]using g4)
 rw[Li,Uq L N]at me
 refine⟨_,?_,rfl⟩
 cases h:C.mo with
 |none=>
  rw[h]at me
  simp only[Option.map_none,Ur]at me
  simp[R4,Ur,me]
 |some l=>
  have P:=aca L.k h
  rw[h]at me
  have nd':=ab9 L'.k (l:=l.map (lO ρ)) (by rw[Uq L N,h];rfl)
  have en:=(M8 nd').1
  simp only[Option.map_some,Ur]at me
  have e:ev (pg.cf (n+19)) ptC [a,b,d,s3,s4,.val (C.A ρ),.val (C.rn ρ).n,.val (C.rn ρ).t,s8,s9,yC,.val (.tup (l.map aX))]=.ok (.new (.lst ((l.map (lO ρ)).map aX))) [a,b,d,s3,s4,.val (C.A ρ),.val (C.rn ρ).n,.val (C.rn ρ).t,s8,s9,yC,.val (.tup (l.map aX))]:=by
   have:=acT (c:=pg.cf (n+19)) (it:=.var 11) (el:=.tup AAs) (σ:=[a,b,d,s3,s4,.val (C.A ρ),.val (C.rn ρ).n,.val (C.rn ρ).t,s8,s9,yC,.val (.tup (l.map aX))]) (τ:=[a,b,d,s3,s4,.val (C.A ρ),.val (C.rn ρ).n,.val (C.rn ρ).t,s8,s9,yC,.val (.tup (l.map aX))]) (d:=.tup (l.map aX)) (ps:=l) (r:=.val (.tup (l.map aX))) (fun p=>.tup [rD ρ p.x,rD ρ p.y,.bl p.b]) (by simp) rfl rfl (fun p hp=>by
    have g1:=je (ρ:=ρ) (P_x (P p hp))
    have g2:=je (ρ:=ρ) (P p hp).y
    simp[g1,g2,aJ])
   rw[List.map_map]
   exact this
  have q:ptC.aq=none:=rfl
  generalize (l.map (lO ρ)).map aX=M at*
  simp[R4,Ur,me,e,q,en]
def XC(n:Nat)(ns:List Int):∃qs,pg.fn (n+20) 55 [.val (.lst (ns.map .int))]=.ok (.val (.bl true)) qs:=by
 obtain⟨C,L,w,e'⟩:=R9 (n+10) ns 1 (by omega)
 have K:=L.k
 obtain⟨r,r0,r8,er⟩:=zf (n+17) ns 0 8 (by omega) (by omega)
 obtain⟨T,nd,hl,hv,et,ef⟩:=Wo r0 r8
 have N:=Wq K w nd hl hv
 have hb:Oe=⟨1,12,(.cons ABV (.cons (.set 3 Wn) (.cons AAy (.cons (.set 5 YX) (.cons ACf (.cons (.ite ACL AAQ .nil) (.cons ACy (.cons ACx (.cons (.ite (.cmp .dZ (.var 8) ABS) (.cons (.ret (.cmp .dZ (.var 9) ABS)) .nil) .nil) (.cons (.set 10 YT) (.cons (.ite ACh AAQ .nil) (.cons (.ite AAn ADG .nil) (.cons ACu R4)))))))))))))⟩:=rfl
 rw[abx,hb]
 simp only[w1 n ns e',w2,w3 n ns er,w4 n K et ef hl,w5 n K,w6 n K N _ _ _ _ _ .nil,w7 n K N,w9 _ _ _ _ _ _ _ _ _ _ _ (nQ C.fl)]
 cases hn:aR C.fl with
 |true=>exact⟨_,rfl⟩
 |false=>
  have fn:=acO (El K N)
  rw[zN K N]at fn
  simp only[Qxq,if_false,w8 (n+19) K N hn,w10 _ _ _ _ _ _ _ _ _ _ _ (M8 fn).2,w11 _ K]
  by_cases c:(2:Int)<C.g.length\/(3:Int)<C.ls.length
  ·rw[if_pos c];exact⟨_,rfl⟩
  ·rw[if_neg c]
   have g4:C.g.length<=4:=by omega
   simp only[w12 n L g4]
   obtain⟨τ,z,rfl⟩:=w13 n L N g4 (.val (.lst (ns.map .int))) (.val C.n) (.val C.t) (.val (.lst (gY.map .str))) (.val (.int r)) (.val C.fl) (.val (rF (pos (C.h++C.g) T) C.fl)) (.val (rF (pos (C.h++C.g) T) C.fl))
   rw[z]
   exact⟨_,rfl⟩
end
end Tx.V
namespace Tx
def math(ns:List Int)(hl:ns.length<=63):∃qs,pg.fn 60 55 [.val (.lst (ns.map .int))]=.ok (.val (.bl true)) qs:=V.XC 40 ns
end Tx
end
namespace Tx
open PySem PySem.W L2 Mini
def bO{K:QQq}{x:Str}{st:Stmt}(m:Value)(f c:Addr)(a:PySem.W.nsIn K mainGlobals x=some (some (.ref f)):=by kernel_rfl)(l:K.lookup f=some (fO x st m c):=by kernel_rfl)(q:PySem.W.codeIn K (.ref c) x=true:=by kernel_rfl):O3 K x st:=Mini.dIn a l q (by unfold PySem.W.keepIn;dsimp only;rw[l];rfl)
end Tx
open PySem PySem.W PyProof.Rows
theorem PySem.Challenge.cw_anywait_k31_whole_names_holds : PySem.Challenge.rw_anywait_k31_whole_names.Holds := by
 w_on
 refine PySem.W.holds_law Tx.w0w fun said => ?_
 refine PySem.W.holds_open (q := Tx.qV) (loose := Tx.lo) (Xt := fun s => recOk [] s) (XP := fun _ _ => True) (Yf := Hook.obs Tx.Kh) (Ya := Hook.val Tx.Kh) (YP := Hook.says Tx.Kh) (N := 5400) Tx.hl (Hook.of Tx.Kh) (Hook.keeps Tx.Kh) (fun _ _ => trivial) (fun _ _ _ _ _ => trivial) (by rfl) (by rfl) (by rfl) (fun s e => recFacts_of e) (by rfl) said (by decide +kernel) ⟨rfl, rfl, rfl, rfl, rfl, by decide +kernel⟩ ?hw ?hc
 case hw => w_witness2
 case hc =>
  refine Mini.Jo (p := Tx.pg) (L := 55) (y := "_law_script") (l := PySem.Challenge.rw_anywait_k31_whole_names) rfl rfl (fun w h Y => PySem.W.kIn_of Y) Tx.math ?qF
  intro w mg fa h KX G hmg
  refine Mini.Sy (dL := Tx.d55) KX G hmg rfl rfl rfl Tx.bd Tx.scp Tx.m8 ?qA ?qB ?qZ
  case qA =>
   show Mini.AllIn _ Tx.nms
   exact ⟨Tx.bO Tx.jV 71 70, Tx.bO Tx.jV 76 75, Tx.bO Tx.jV 81 80, Tx.bO Tx.jV 88 87, Tx.bO Tx.jV 95 94, Tx.bO Tx.jV 100 99, Tx.bO Tx.jV 105 104, Tx.bO Tx.jV 110 109, Tx.bO Tx.jV 117 116, Tx.bO Tx.jV 122 121, Tx.bO Tx.jV 127 126, Tx.bO Tx.jV 134 133, Tx.bO Tx.jV 141 140, Tx.bO Tx.jV 146 145, Tx.bO Tx.jV 151 150, Tx.bO Tx.jV 156 155, Tx.bO Tx.jV 163 162, Tx.bO Tx.ZJ 170 169, Tx.bO Tx.ZJ 175 174, Tx.bO Tx.ZJ 180 179, Tx.bO Tx.Fb 187 186, Tx.bO Tx.Fb 194 193, Tx.bO Tx.Fb 199 198, Tx.bO Tx.Fb 206 205, Tx.bO Tx.Fb 213 212, Tx.bO Tx.Fb 218 217, Tx.bO Tx.Fb 225 224, Tx.bO Tx.Us 232 231, Tx.bO Tx.Us 239 238, Tx.bO Tx.Us 244 243, Tx.bO Tx.Us 251 250, Tx.bO Tx.Ak 258 257, Tx.bO Tx.Ak 265 264, Tx.bO Tx.Ak 272 271, Tx.bO Tx.Ak 279 278, Tx.bO Tx.Ak 284 283, Tx.bO Tx.Ak 291 290, Tx.bO Tx.Ak 296 295, Tx.bO Tx.Ak 303 302, Tx.bO Tx.jU 310 309, Tx.bO Tx.jU 317 316, Tx.bO Tx.jU 324 323, Tx.bO Tx.jU 331 330, Tx.bO Tx.jU 336 335, Tx.bO Tx.jU 343 342, Tx.bO Tx.jU 348 347, Tx.bO Tx.jU 353 352, Tx.bO Tx.jU 358 357, Tx.bO Tx.jU 365 364, Tx.bO Tx.jU 372 371, Tx.bO Tx.jU 377 376, Tx.bO Tx.jU 384 383, Tx.bO Tx.jU 389 388, Tx.bO Tx.jU 394 393, Tx.bO Tx.jU 399 398, Tx.bO Tx.jU 404 403, trivial⟩
  case qB => exact ⟨.v (u := .str "abcdefghijklmnopqrstuvwxyz" 257) (by kernel_rfl) (by decide +kernel), .v (u := .int 6 259) (by kernel_rfl) (by decide +kernel), .t (a := 64) (o := Tx.o64) (by kernel_rfl) (by kernel_rfl) (by decide +kernel), .v (u := .int 3 276) (by kernel_rfl) (by decide +kernel), .v (u := .int 5 278) (by kernel_rfl) (by decide +kernel), .v (u := .int 4 280) (by kernel_rfl) (by decide +kernel), .v (u := .int 8 282) (by kernel_rfl) (by decide +kernel), .v (u := .int 3 284) (by kernel_rfl) (by decide +kernel), .v (u := .int 12 412) (by kernel_rfl) (by decide +kernel), .v (u := .int 4 545) (by kernel_rfl) (by decide +kernel), trivial⟩
  case qZ => exact ⟨by kernel_rfl, by kernel_rfl, by kernel_rfl, by kernel_rfl, by kernel_rfl, by kernel_rfl, by kernel_rfl, by kernel_rfl, by kernel_rfl, by kernel_rfl, by kernel_rfl, by kernel_rfl, by kernel_rfl, by kernel_rfl, trivial⟩