import PyProof.Rows.All
import Wide.All
import OpenK.AllK
import Wide.FinOn
import PySem.Syntax
import Lean
import PyProof.EqAt
import PyProof.EqKinds
import PyProof.TupleCall
import PyProof.TupleKey
import PyProof.DictRoadsH
import PyProof.P3Eq
import Wide.Seal
import KE.KDictList
import KE.KSortAsk
import PyProof.ListMulAny
import PyProof.FactsAll.tuple_2
import PyProof.NeData
import PyProof.P3In
import KE.KSortTup
import PyProof.DictUpdate
import PyProof.DictCopy
import PyProof.EnumFor
import PyProof.EnumMake
import PyProof.Rows.EnumRows
import PyProof.CompFree
import PySem.Challenge.RW_anywait_k25_whole_mended
set_option linter.all false
set_option Elab.async false
set_option maxRecDepth 100000
set_option maxHeartbeats 0
set_option compiler.extract_closed false
set_option bootstrap.genMatcherCode false
abbrev QQq:=PySem.W.Frag
abbrev QQz:=List (PySem.Addr×PySem.Obj)
abbrev QZq:=PySem.Value→PySem.Shared→Prop
abbrev QZz:=PySem.Str→Option PySem.Value
def QJq:=@Option.bind_eq_some_iff
def QJz:=@Option.map_eq_some_iff
def QYq:=@List.mem_cons_of_mem
def QYz:=@List.mem_cons_self
def QXq:=@List.getElem?_eq_getElem
def QXz:=@List.mem_append
def QWq:=@PySem.Heap.get?_push_of_some
def QWz:=@List.mem_append_left
def QVq:=@List.mem_append_right
def QVz:=@Nat.le_refl
def QUq:=@Bool.and_eq_true
def QUz:=@decide_eq_true_eq
def QTq:=@List.length_append
def QTz:=@List.mem_map_of_mem
def QKq:=@PySem.wpAny_bind
def QKz:=@PySem.wpAny_pure
def QGq:=@PySem.wpAny_mono
def QGz:=@PySem.wpAny_field
def Qqq:=@PySem.wpAny_holding
def Qqz:=@PySem.Heap.lt_size
def Qzq:=@PySem.Heap.get?_push_size
def Qzz:=@PySem.wpAny_call_entry
def Qjq:=@PySem.wpAny_newObj_type
def Qjz:=@Bool.false_ne_true
def Qyq:=@List.size_toArray
def Qyz:=@List.map_cons
def Qxq:=@Bool.false_eq_true
def Qxz:=@List.getElem?_set_ne
def Qwq:=@List.getElem?_set_self
def Qwz:=@List.getElem?_append_left
def Qvq:=@Nat.lt_of_lt_of_le
def Qvz:=@Nat.ne_of_lt
def QAq:=@List.length_map
def QAz:=@List.not_mem_nil
def QBq:=@List.length_cons
def QBz:=@List.mem_of_getElem?
def QCq:=@List.mem_cons
def QCz:=@List.getElem?_eq_some_iff
def QDq:=@List.mem_map
def QDz:=@List.mem_singleton
def QEq:=@Option.some.inj
def QEz:=@decide_eq_false
def QFq:=@decide_eq_true
def QFz:=@List.getElem?_map
def QHq:=@Option.bind_some
def QHz:=@List.lookup_cons
def QIq:=@Nat.zero_le
def QIz:=@List.getElem?_append_right
def QLq:=@List.append_assoc
def QLz:=@List.cons_append
noncomputable section
section
namespace L2
open PySem
noncomputable def eF(s:Stmt):Arguments:=match s with
 |.FunctionDef _ a _ _ _ _ _ _ _ _=>a
 |_=>{posonlyargs:=[],args:=[],vararg:=none,kwonlyargs:=[],kw_defaults:=[],kwarg:=none,defaults:=[]}
def eE(s:Stmt):List Stmt:=match s with
 |.FunctionDef _ _ b _ _ _ _ _ _ _=>b
 |_=>[]
noncomputable def bA(s:Stmt):Scope:=match s with
 |.FunctionDef _ _ _ _ _ _ sc _ _ _=>sc
 |_=>{kind:=.function,names:=[],isGenerator:=false,isCoroutine:=false}
end L2
end
section
namespace Tx
open PySem PySem.W L2 PyProof.Rows
theorem w0w:PySem.Challenge.rw_anywait_k25_whole_mended.wellSaid=true:=by kernel_rfl
noncomputable def top(i:Nat):Stmt:=PySem.Challenge.pw_anywait_k25_whole_mended.main.body.getD i (.Pass ⟨0,0,0,0⟩)
abbrev s0:Stmt:=top 14
abbrev s1:Stmt:=top 15
abbrev s2:Stmt:=top 16
abbrev s3:Stmt:=top 17
abbrev s4:Stmt:=top 18
abbrev s5:Stmt:=top 19
abbrev s6:Stmt:=top 20
abbrev s7:Stmt:=top 21
abbrev s8:Stmt:=top 22
abbrev s9:Stmt:=top 23
abbrev s10:Stmt:=top 24
abbrev s11:Stmt:=top 25
abbrev s12:Stmt:=top 26
abbrev s13:Stmt:=top 27
abbrev s14:Stmt:=top 28
abbrev s15:Stmt:=top 29
abbrev s16:Stmt:=top 30
abbrev s17:Stmt:=top 33
abbrev s18:Stmt:=top 34
abbrev s19:Stmt:=top 35
abbrev s20:Stmt:=top 37
abbrev s21:Stmt:=top 38
abbrev s22:Stmt:=top 39
abbrev s23:Stmt:=top 40
abbrev s24:Stmt:=top 41
abbrev s25:Stmt:=top 42
abbrev s26:Stmt:=top 44
abbrev s27:Stmt:=top 45
abbrev s28:Stmt:=top 46
abbrev s29:Stmt:=top 47
abbrev s30:Stmt:=top 50
abbrev s31:Stmt:=top 51
abbrev s32:Stmt:=top 52
abbrev s33:Stmt:=top 53
abbrev s34:Stmt:=top 54
abbrev s35:Stmt:=top 55
abbrev s36:Stmt:=top 56
abbrev s37:Stmt:=top 57
abbrev s38:Stmt:=top 59
abbrev s39:Stmt:=top 60
abbrev s40:Stmt:=top 61
abbrev s41:Stmt:=top 62
abbrev s42:Stmt:=top 63
abbrev s43:Stmt:=top 64
abbrev s44:Stmt:=top 65
abbrev s45:Stmt:=top 66
abbrev s46:Stmt:=top 67
abbrev s47:Stmt:=top 68
abbrev s48:Stmt:=top 69
abbrev s49:Stmt:=top 70
abbrev s50:Stmt:=top 71
abbrev s51:Stmt:=top 72
abbrev s52:Stmt:=top 73
abbrev s53:Stmt:=top 74
abbrev s54:Stmt:=top 75
abbrev s55:Stmt:=top 76
abbrev s56:Stmt:=top 77
abbrev s57:Stmt:=top 78
abbrev s58:Stmt:=top 79
abbrev s59:Stmt:=top 80
abbrev s60:Stmt:=top 81
def gE(P:Params)(x:Str)(i:Nat)(v:Value):DictEntry:=⟨PyData.keyHash P x,.str x i,v⟩
noncomputable def fO(x:Str)(st:Stmt)(m:Value)(c:Addr):Obj:=⟨.type "function",none,.func (PySem.W.fnOf x x (eF st) (eE st) (bA st) .none .none .none m none (.ref c) .none), #[]⟩
noncomputable def cO(x:Str)(a:Nat)(l n:Int)(r s:Nat)(u v:Value)(t:Nat)(q:Int)(z:Nat):Obj:=⟨.type "code",none,.fields #[.str x a,.str x (a+1),.str "/claim/cut.py" (a+2),.int l 0,.int n 0,.int 0 0,.int 0 0,.int 3 0,.ref r,.bool true,.int 181 0,.ref s,.none,u,v,.ref t,.int q 0,.int l 0,.str "/claim/cut.py" z], #[]⟩
def Ur:Value:=.str "anywait.faults" 488
def Af:Value:=.str "anywait.mending" 533
def kE:Value:=.str "anywait.nets" 255
def Je:Value:=.str "anywait.stands" 434
def ZC:Value:=.str "anywait.talks" 410
def gG:Value:=.str "law_anywait_k25_whole_mended" 607
noncomputable def o64:Obj:=⟨.type "tuple",none,.seq #[.str "input" 261,.str "gate" 262,.str "start" 263,.str "out" 264,.str "state" 265,.str "same" 266,.str "not" 267,.str "and" 268,.str "or" 269,.str "both" 270,.str "held" 271,.str "table" 272,.str "on" 273,.str "off" 274], #[]⟩
noncomputable def Kf(P:Params):QQq:=[(3,⟨.type "dict",none,.dict #[gE P "__name__" 165 (.str "law_anywait_k25_whole_mended" 607),gE P "__doc__" 166 .none,gE P "__package__" 167 .none,gE P "__loader__" 168 (.builtin "__main__.__loader__#opaque"),gE P "__spec__" 169 .none,gE P "__annotations__" 170 (.ref 6),gE P "__builtins__" 171 (.ref 4),gE P "__file__" 173 (.str "/claim/cut.py" 172),gE P "__cached__" 174 .none,gE P "WaitError" 206 (.ref 24),gE P "NoNet" 222 (.ref 37),gE P "NoTalk" 238 (.ref 49),gE P "TooBig" 254 (.ref 61),gE P "LETTERS" 258 (.str "abcdefghijklmnopqrstuvwxyz" 257),gE P "LONGEST_NAME" 260 (.int 6 259),gE P "WORDS" 275 (.ref 64),gE P "MOST_INPUTS" 277 (.int 3 276),gE P "MOST_GATES" 279 (.int 5 278),gE P "MOST_WIRES" 281 (.int 4 280),gE P "MOST_TABLE_WIRES" 283 (.int 8 282),gE P "DEEPEST_HELD" 285 (.int 3 284),gE P "checked" 292 (.ref 71),gE P "is_net" 298 (.ref 76),gE P "has_parts" 304 (.ref 81),gE P "is_tuple" 313 (.ref 88),gE P "is_number" 322 (.ref 95),gE P "is_name" 328 (.ref 100),gE P "are_unlike" 334 (.ref 105),gE P "is_row" 340 (.ref 110),gE P "is_wire" 348 (.ref 117),gE P "are_wires" 354 (.ref 122),gE P "are_rows" 360 (.ref 127),gE P "is_kind" 371 (.ref 134),gE P "is_held" 380 (.ref 141),gE P "wire_names" 386 (.ref 146),gE P "waiting_gates" 392 (.ref 151),gE P "told" 398 (.ref 156),gE P "told_held" 409 (.ref 163),gE P "MOST_STATES" 413 (.int 12 412),gE P "checked_talk" 421 (.ref 170),gE P "is_talk" 427 (.ref 175),gE P "is_state" 433 (.ref 180),gE P "first_stand" 442 (.ref 187),gE P "steps_at" 448 (.ref 192),gE P "is_unasked" 457 (.ref 199),gE P "led_to" 468 (.ref 206),gE P "changed" 474 (.ref 211),gE P "newly_met" 487 (.ref 218),gE P "fault" 500 (.ref 225),gE P "fault_at" 513 (.ref 232),gE P "has_out" 519 (.ref 237),gE P "fault_of_step" 532 (.ref 244),gE P "MOST_MENDED_GATES" 536 (.int 4 535),gE P "held" 546 (.ref 251),gE P "mended" 556 (.ref 258),gE P "mended_by_two" 569 (.ref 265),gE P "has_part" 577 (.ref 272),gE P "points_of" 583 (.ref 277),gE P "is_point" 592 (.ref 284),gE P "with_point" 598 (.ref 289),gE P "held_kind" 606 (.ref 296),gE P "_law_cell_at" 616 (.ref 303),gE P "_law_mixed" 626 (.ref 310),gE P "_law_next" 635 (.ref 317),gE P "_law_some" 647 (.ref 324),gE P "_law_table" 653 (.ref 329),gE P "_law_kind" 665 (.ref 336),gE P "_law_net" 671 (.ref 341),gE P "_law_talk" 677 (.ref 346),gE P "_law_ring" 683 (.ref 351),gE P "_law_chain" 697 (.ref 358),gE P "_law_meeting" 711 (.ref 365),gE P "_law_spoilt_kind" 717 (.ref 370),gE P "_law_case" 729 (.ref 377),gE P "_law_names" 735 (.ref 382),gE P "_law_tells" 741 (.ref 387),gE P "_law_waiting" 747 (.ref 392),gE P "_law_steps" 753 (.ref 397),gE P "_law_led" 759 (.ref 402),gE P "_law_stands" 772 (.ref 409),gE P "_law_points" 783 (.ref 416),gE P "_law_deep" 790 (.ref 423),gE P "_law_first" 802 (.ref 430),gE P "law" 811 (.ref 437)] 84, #[]⟩),
 (71,fO "checked" s0 kE 70),
 (70,cO "checked" 286 19 1 65 66 (.ref 67) (.ref 68) 69 290 291),
 (76,fO "is_net" s1 kE 75),
 (75,cO "is_net" 293 23 1 72 73 .none .none 74 296 297),
 (81,fO "has_parts" s2 kE 80),
 (80,cO "has_parts" 299 30 1 77 78 .none .none 79 302 303),
 (88,fO "is_tuple" s3 kE 87),
 (87,cO "is_tuple" 305 34 3 82 83 (.ref 84) (.ref 85) 86 311 312),
 (95,fO "is_number" s4 kE 94),
 (94,cO "is_number" 314 36 3 89 90 (.ref 91) (.ref 92) 93 320 321),
 (100,fO "is_name" s5 kE 99),
 (99,cO "is_name" 323 38 1 96 97 .none .none 98 326 327),
 (105,fO "are_unlike" s6 kE 104),
 (104,cO "are_unlike" 329 42 1 101 102 .none .none 103 332 333),
 (110,fO "is_row" s7 kE 109),
 (109,cO "is_row" 335 44 2 106 107 .none .none 108 338 339),
 (117,fO "is_wire" s8 kE 116),
 (116,cO "is_wire" 341 46 2 111 112 (.ref 113) (.ref 114) 115 346 347),
 (122,fO "are_wires" s9 kE 121),
 (121,cO "are_wires" 349 48 4 118 119 .none .none 120 352 353),
 (127,fO "are_rows" s10 kE 126),
 (126,cO "are_rows" 355 52 2 123 124 .none .none 125 358 359),
 (134,fO "is_kind" s11 kE 133),
 (133,cO "is_kind" 361 56 3 128 129 (.ref 130) (.ref 131) 132 369 370),
 (141,fO "is_held" s12 kE 140),
 (140,cO "is_held" 372 72 3 135 136 (.ref 137) (.ref 138) 139 378 379),
 (146,fO "wire_names" s13 kE 145),
 (145,cO "wire_names" 381 74 1 142 143 .none .none 144 384 385),
 (151,fO "waiting_gates" s14 kE 150),
 (150,cO "waiting_gates" 387 76 2 147 148 .none .none 149 390 391),
 (156,fO "told" s15 kE 155),
 (155,cO "told" 393 79 3 152 153 .none .none 154 396 397),
 (163,fO "told_held" s16 kE 162),
 (162,cO "told_held" 399 95 3 157 158 (.ref 159) (.ref 160) 161 407 408),
 (170,fO "checked_talk" s17 ZC 169),
 (169,cO "checked_talk" 414 101 2 164 165 (.ref 166) (.ref 167) 168 419 420),
 (175,fO "is_talk" s18 ZC 174),
 (174,cO "is_talk" 422 105 2 171 172 .none .none 173 425 426),
 (180,fO "is_state" s19 ZC 179),
 (179,cO "is_state" 428 113 3 176 177 .none .none 178 431 432),
 (187,fO "first_stand" s20 Je 186),
 (186,cO "first_stand" 436 120 1 181 182 (.ref 183) (.ref 184) 185 440 441),
 (192,fO "steps_at" s21 Je 191),
 (191,cO "steps_at" 443 122 3 188 189 .none .none 190 446 447),
 (199,fO "is_unasked" s22 Je 198),
 (198,cO "is_unasked" 449 125 3 193 194 (.ref 195) (.ref 196) 197 455 456),
 (206,fO "led_to" s23 Je 205),
 (205,cO "led_to" 458 127 4 200 201 (.ref 202) (.ref 203) 204 466 467),
 (211,fO "changed" s24 Je 210),
 (210,cO "changed" 469 132 3 207 208 .none .none 209 472 473),
 (218,fO "newly_met" s25 Je 217),
 (217,cO "newly_met" 475 134 4 212 213 (.ref 214) (.ref 215) 216 485 486),
 (225,fO "fault" s26 Ur 224),
 (224,cO "fault" 490 143 2 219 220 (.ref 221) (.ref 222) 223 498 499),
 (232,fO "fault_at" s27 Ur 231),
 (231,cO "fault_at" 501 153 4 226 227 (.ref 228) (.ref 229) 230 511 512),
 (237,fO "has_out" s28 Ur 236),
 (236,cO "has_out" 514 162 2 233 234 .none .none 235 517 518),
 (244,fO "fault_of_step" s29 Ur 243),
 (243,cO "fault_of_step" 520 164 5 238 239 (.ref 240) (.ref 241) 242 530 531),
 (251,fO "held" s30 Af 250),
 (250,cO "held" 537 174 2 245 246 (.ref 247) (.ref 248) 249 544 545),
 (258,fO "mended" s31 Af 257),
 (257,cO "mended" 547 183 2 252 253 (.ref 254) (.ref 255) 256 554 555),
 (265,fO "mended_by_two" s32 Af 264),
 (264,cO "mended_by_two" 557 195 3 259 260 (.ref 261) (.ref 262) 263 567 568),
 (272,fO "has_part" s33 Af 271),
 (271,cO "has_part" 570 203 2 266 267 (.ref 268) (.ref 269) 270 575 576),
 (277,fO "points_of" s34 Af 276),
 (276,cO "points_of" 578 205 1 273 274 .none .none 275 581 582),
 (284,fO "is_point" s35 Af 283),
 (283,cO "is_point" 584 213 2 278 279 (.ref 280) (.ref 281) 282 590 591),
 (289,fO "with_point" s36 Af 288),
 (288,cO "with_point" 593 218 2 285 286 .none .none 287 596 597),
 (296,fO "held_kind" s37 Af 295),
 (295,cO "held_kind" 599 221 2 290 291 (.ref 292) (.ref 293) 294 604 605),
 (303,fO "_law_cell_at" s38 gG 302),
 (302,cO "_law_cell_at" 609 224 2 297 298 (.ref 299) (.ref 300) 301 614 615),
 (310,fO "_law_mixed" s39 gG 309),
 (309,cO "_law_mixed" 617 230 3 304 305 (.ref 306) (.ref 307) 308 624 625),
 (317,fO "_law_next" s40 gG 316),
 (316,cO "_law_next" 627 233 3 311 312 (.ref 313) (.ref 314) 315 633 634),
 (324,fO "_law_some" s41 gG 323),
 (323,cO "_law_some" 636 236 5 318 319 (.ref 320) (.ref 321) 322 645 646),
 (329,fO "_law_table" s42 gG 328),
 (328,cO "_law_table" 648 241 3 325 326 .none .none 327 651 652),
 (336,fO "_law_kind" s43 gG 335),
 (335,cO "_law_kind" 654 247 4 330 331 (.ref 332) (.ref 333) 334 663 664),
 (341,fO "_law_net" s44 gG 340),
 (340,cO "_law_net" 666 257 4 337 338 .none .none 339 669 670),
 (346,fO "_law_talk" s45 gG 345),
 (345,cO "_law_talk" 672 263 4 342 343 .none .none 344 675 676),
 (351,fO "_law_ring" s46 gG 350),
 (350,cO "_law_ring" 678 271 2 347 348 .none .none 349 681 682),
 (358,fO "_law_chain" s47 gG 357),
 (357,cO "_law_chain" 684 277 2 352 353 (.ref 354) (.ref 355) 356 695 696),
 (365,fO "_law_meeting" s48 gG 364),
 (364,cO "_law_meeting" 698 288 2 359 360 (.ref 361) (.ref 362) 363 709 710),
 (370,fO "_law_spoilt_kind" s49 gG 369),
 (369,cO "_law_spoilt_kind" 712 302 3 366 367 .none .none 368 715 716),
 (377,fO "_law_case" s50 gG 376),
 (376,cO "_law_case" 718 308 2 371 372 (.ref 373) (.ref 374) 375 727 728),
 (382,fO "_law_names" s51 gG 381),
 (381,cO "_law_names" 730 328 1 378 379 .none .none 380 733 734),
 (387,fO "_law_tells" s52 gG 386),
 (386,cO "_law_tells" 736 330 3 383 384 .none .none 385 739 740),
 (392,fO "_law_waiting" s53 gG 391),
 (391,cO "_law_waiting" 742 348 2 388 389 .none .none 390 745 746),
 (397,fO "_law_steps" s54 gG 396),
 (396,cO "_law_steps" 748 351 3 393 394 .none .none 395 751 752),
 (402,fO "_law_led" s55 gG 401),
 (401,cO "_law_led" 754 355 4 398 399 .none .none 400 757 758),
 (409,fO "_law_stands" s56 gG 408),
 (408,cO "_law_stands" 760 364 2 403 404 (.ref 405) (.ref 406) 407 770 771),
 (416,fO "_law_points" s57 gG 415),
 (415,cO "_law_points" 773 376 1 410 411 (.ref 412) (.ref 413) 414 781 782),
 (423,fO "_law_deep" s58 gG 422),
 (422,cO "_law_deep" 784 384 1 417 418 (.ref 419) (.ref 420) 421 788 789),
 (430,fO "_law_first" s59 gG 429),
 (429,cO "_law_first" 791 388 2 424 425 (.ref 426) (.ref 427) 428 800 801),
 (437,fO "law" s60 gG 436),
 (436,cO "law" 803 400 1 431 432 (.ref 433) (.ref 434) 435 809 810),
 (64,o64)]
noncomputable def Ka:List Addr:=[3,71,70,76,75,81,80,88,87,95,94,100,99,105,104,110,109,117,116,122,121,127,126,134,133,141,140,146,145,151,150,156,155,163,162,170,169,175,174,180,179,187,186,192,191,199,198,206,205,211,210,218,217,225,224,232,231,237,236,244,243,251,250,258,257,265,264,272,271,277,276,284,283,289,288,296,295,303,302,310,309,317,316,324,323,329,328,336,335,341,340,346,345,351,350,358,357,365,364,370,369,377,376,382,381,387,386,392,391,397,396,402,401,409,408,416,415,423,422,430,429,437,436,64]
def Ke(P:Params):Ka=(Kf P).map (·.1):=rfl
abbrev Kh:PySem.W.Hook:=PySem.W.kHook Kf Ka Ke
noncomputable def lo:List Str:="__name__"::"WaitError"::"NoNet"::"NoTalk"::"TooBig"::"LETTERS"::"LONGEST_NAME"::"WORDS"::"MOST_INPUTS"::"MOST_GATES"::"MOST_WIRES"::"MOST_TABLE_WIRES"::"DEEPEST_HELD"::"checked"::"is_net"::"has_parts"::"is_tuple"::"is_number"::"is_name"::"are_unlike"::"is_row"::"is_wire"::"are_wires"::"are_rows"::"is_kind"::"is_held"::"wire_names"::"waiting_gates"::"told"::"told_held"::"MOST_STATES"::"checked_talk"::"is_talk"::"is_state"::"first_stand"::"steps_at"::"is_unasked"::"led_to"::"changed"::"newly_met"::"fault"::"fault_at"::"has_out"::"fault_of_step"::"MOST_MENDED_GATES"::"held"::"mended"::"mended_by_two"::"has_part"::"points_of"::"is_point"::"with_point"::"held_kind"::"_law_cell_at"::"_law_mixed"::"_law_next"::"_law_some"::"_law_table"::"_law_kind"::"_law_net"::"_law_talk"::"_law_ring"::"_law_chain"::"_law_meeting"::"_law_spoilt_kind"::"_law_case"::"_law_names"::"_law_tells"::"_law_waiting"::"_law_steps"::"_law_led"::"_law_stands"::"_law_points"::"_law_deep"::"_law_first"::[]
def qV:Program:=view PySem.Challenge.pw_anywait_k25_whole_mended [81]
def hl:LeftO PySem.Challenge.pw_anywait_k25_whole_mended qV lo (fun s=>recOk [] s) (Hook.obs Kh) (Hook.val Kh) 5712:=fun w=>by
 rw[PySem.W.Fast.te4187177175401517315,PySem.W.Fast.te5923862056798008813,PySem.W.Fast.te14364793385576792824]
 kernel_rfl
end Tx
end
section
namespace L2
open PySem PySem.Spec PyProof.Rows
abbrev Key:=Sum Int Str
def vf:Key->Value->Bool
 |.inl k,v=>Value.isInt k v
 |.inr x,v=>Value.isStrOf x v
def ab8(w:World):Key->Int
 |.inl k=>hashInt k
 |.inr x=>hashStr w x
theorem cG:∀{k:Key}{v:Value},vf k v=true->(∃i t,k=Sum.inl i/\v=Value.int i t)\/(∃x t,k=Sum.inr x/\v=Value.str x t)
 |.inl i,v,h=>by
  obtain⟨t,e⟩:=Value.isInt_shape h
  exact .inl ⟨i,t,rfl,e⟩
 |.inr x,v,h=>by
  obtain⟨t,e⟩:=Value.isStrOf_shape h
  exact .inr ⟨x,t,rfl,e⟩
def HW i t:vf (.inl i) (.int i t)=true:=by simp[vf,Value.isInt]
def HS x t:vf (.inr x) (.str x t)=true:=by simp[vf,Value.isStrOf]
def XQ a b:decide ((Sum.inl a:Key)=Sum.inl b)=(a==b):=by
 by_cases e:a=b
 ·subst e;simp
 ·rw[QEz (fun q=>e (Sum.inl.inj q))]
  exact(beq_eq_false_iff_ne.mpr e).symm
def XJ a b:decide ((Sum.inr a:Key)=Sum.inr b)=decide (a=b):=by
 by_cases e:a=b
 ·subst e;simp
 ·rw[QEz (fun q=>e (Sum.inr.inj q)),QEz e]
def XN a b:decide ((Sum.inl a:Key)=Sum.inr b)=false:=QEz (fun q=>nomatch q)
def XM a b:decide ((Sum.inr a:Key)=Sum.inl b)=false:=QEz (fun q=>nomatch q)
noncomputable def fV(prog:Program)(w:World):PySem.KeyKind prog w Key where
 is:=vf
 hash:=ab8 w
 inj:=fun v a b ha hb=>by
  rcases cG ha with ⟨i,t,rfl,rfl⟩|⟨x,t,rfl,rfl⟩
  ·rcases cG hb with ⟨j,u,rfl,e⟩|⟨y,u,rfl,e⟩
   ·injection e with e1 _;rw[e1]
   ·exact nomatch e
  ·rcases cG hb with ⟨j,u,rfl,e⟩|⟨y,u,rfl,e⟩
   ·exact nomatch e
   ·injection e with e1 _;rw[e1]
 byValue:=fun k v h=>by
  rcases cG h with ⟨i,t,rfl,rfl⟩|⟨x,t,rfl,rfl⟩<;>rfl
 pyHash:=fun hv h=>by
  rcases cG hv with ⟨i,t,rfl,rfl⟩|⟨x,t,rfl,rfl⟩
  ·exact wpAny_pyHash_int h
  ·exact wpAny_pyHash_str h
 eqBool:=fun hu hv h=>by
  rcases cG hu with ⟨i,t,rfl,rfl⟩|⟨x,t,rfl,rfl⟩
  ·rcases cG hv with ⟨j,u,rfl,rfl⟩|⟨y,u,rfl,rfl⟩
   ·rw[XQ]at h;exact wpAny_eqBool_int h
   ·rw[XN]at h;exact SeqAt.EqAt.int_str i t y u _ _ _ _ h
  ·rcases cG hv with ⟨j,u,rfl,rfl⟩|⟨y,u,rfl,rfl⟩
   ·rw[XM]at h;exact SeqAt.EqAt.str_int x t j u _ _ _ _ h
   ·rw[XJ]at h;exact wpAny_eqBool_str h
 «strs»:=fun k x t v h=>by
  rcases cG h with ⟨i,u,rfl,e⟩|⟨y,u,rfl,e⟩
  ·exact nomatch e
  ·injection e with e1 _
   subst e1
   cases v<;>rfl
def zg prog w i t:(fV prog w).is (.inl i) (.int i t)=true:=HW i t
def zf prog w x t:(fV prog w).is (.inr x) (.str x t)=true:=HS x t
inductive V where
 |non|bl (b:Bool)|int (i:Int)|str (x:Str)|ref (a:Addr)|ty (n:String)
 deriving DecidableEq
noncomputable def RelV:V->Value->Prop
 |.non,u=>u=Value.none
 |.bl b,u=>u=Value.bool b
 |.int i,u=>∃t,u=Value.int i t
 |.str x,u=>∃t,u=Value.str x t
 |.ref a,u=>u=Value.ref a
 |.ty n,u=>u=Value.type n
abbrev Vals:List V->List Value->Prop:=Paired RelV
theorem Vals.length{us:List Value}(r:Vals xs us):xs.length=us.length:=Paired.length r
theorem Vals.get:∀{xs:List V}{us:List Value}{i:Nat}{x:V},Vals xs us->xs[i]? =some x->∃u,us[i]? =some u/\RelV x u
 |_,_,_,_,.nil=>fun e=>by simp at e
 |_,_,0,_,.cons r _=>fun e=>by simp at e;subst e;exact⟨_,rfl,r⟩
 |_,_,i+1,x,.cons _ t=>fun e=>by
  obtain⟨u,h1,h2⟩:=Vals.get t (by simpa using e)
  exact⟨u,by simpa using h1,h2⟩
theorem Vals.set{u:Value}(r:RelV x u):∀{xs:List V}{us:List Value}(i:Nat),Vals xs us->Vals (xs.set i x) (us.set i u)
 |_,_,_,.nil=>.nil
 |_,_,0,.cons _ t=>.cons r t
 |_,_,i+1,.cons q t=>.cons q (Vals.set r i t)
theorem Vals.append:∀{xs ys:List V}{us ws:List Value},Vals xs us->Vals ys ws->Vals (xs++ys) (us++ws)
 |_,_,_,_,.nil=>fun s=>s
 |_,_,_,_,.cons r t=>fun s=>.cons r (Vals.append t s)
theorem Vals.take:∀{xs:List V}{us:List Value}(n:Nat),Vals xs us->Vals (xs.take n) (us.take n)
 |_,_,0,_=>.nil
 |_,_,_+1,.nil=>.nil
 |_,_,n+1,.cons r t=>.cons r (Vals.take n t)
theorem Vals.drop:∀{xs:List V}{us:List Value}(n:Nat),Vals xs us->Vals (xs.drop n) (us.drop n)
 |_,_,0,r=>r
 |_,_,_+1,.nil=>.nil
 |_,_,n+1,.cons _ t=>Vals.drop n t
def tX:Option V->Option Value->Prop
 |some v,some u=>RelV v u
 |none,none=>True
 |_,_=>False
noncomputable def KV{κ:Type}:List (κ×V)->List (κ×Value)->Prop:=Paired fun(p:κ×V)(q:κ×Value)=>p.1=q.1/\RelV p.2 q.2
def kV:Key->V
 |.inl i=>.int i
 |.inr x=>.str x
abbrev SK:=PyData
noncomputable instance skDec:DecidableEq PyData:=fun a b=>Classical.propDecidable (a=b)
abbrev SV:=SK×Addr×V
mutual
def hH(w:World):PyData->Int
 |.int i=>hashInt i
 |.str x=>ab8 w (.inr x)
 |.tuple xs=>reduceHash (Builtin.Tuple.tupleHashOf (hHs w xs))
 |_=>0
def hHs(w:World):List PyData->List Int
 |[]=>[]
 |x::xs=>hH w x::hHs w xs
end
abbrev Pb:SV->SK×Addr×Value->Prop:=fun p q=>p.1=q.1/\p.2.1=q.2.1/\RelV p.2.2 q.2.2
inductive HO where
 |lst (xs:List V)
 |tup (xs:List V)
 |dK (kvs:List (Key×V))|dS (xs:List SV)
 |ins (C dx:Addr) (fs:List (Str×V))
 |own (x:Addr)
 |met (f x:Addr)
 |frz (o:Obj) (u:HO)
 |tbl (ps:Array Value)
abbrev Hp:=Addr->Option HO
def upd(H:Hp)(a:Addr)(o:HO):Hp:=fun b=>if b=a then some o else H b
def aU{a:Addr}:upd H a o a=some o:=by unfold upd;rw[if_pos rfl]
def aC{a b:Addr}(h:b≠a):upd H a o b=H b:=by unfold upd;rw[if_neg h]
def gm{H:Hp}{o:HO}(h:H a=some o)(h':H b=none):a≠b:=by
 intro e;subst e;rw[h]at h';cases h'
def TupOk(h:Heap)(a:Addr)(items:Array Value):Prop:=∃o,h.get? a=some o/\o.cls=.type "tuple"/\o.dict=none/\∃n,o.data=.seq items n
def TupOk.is{a:Addr}(x:TupOk h a items):IsTup h a items:=let ⟨o,e,c,_,d⟩:=x;⟨o,e,c,d⟩
def TupOk.new(h:Heap)items:TupOk (h.push {cls:=.type "tuple",data:=.seq items}) h.objs.size items:=⟨_,Qzq _ rfl,rfl,rfl,_,rfl⟩
section
variable(P:Program)(w:World)
noncomputable def cu(H:Hp)(h:Heap)(a:Addr):HO->Prop
 |.lst xs=>xs.length<=sizeLine/\∃(its:List Value)(n:Nat),Vals xs its/\h.get? a=some {cls:=.type "list",data:=.seq its.toArray n}
 |.tup xs=>xs.length<=sizeLine/\∃its:List Value,Vals xs its/\TupOk h a its.toArray
 |.dK kvs=>kvs.length<=sizeLine/\(a==sysModules)=false/\∃vs,KV kvs vs/\h.DictOf (fV P w) a vs
 |.dS xs=>xs.length<=sizeLine/\(a==sysModules)=false/\(xs.map (·.1)).Nodup/\∃(ys:List (SK×Addr×Value))(o:Obj)(es:Array DictEntry)(ep:Nat),Paired Pb xs ys/\h.get? a=some o/\o.ExactDict/\o.data=.dict es ep/\es.toList=ys.map fun y=>⟨hH w y.1,.ref y.2.1,y.2.2⟩
 |.ins C dx fs=>H dx=some (.own a)/\fs.length<=1000/\dx≠a/\h.get? a=some (PySem.W.instObj C dx)/\
   ∃mA,h.Ns1 dx mA/\(∀f,tX (fs.lookup f) (mA f))/\PySem.Within mA (fs.map (·.1))
 |.own _=>∃o,h.get? a=some o
 |.frz o u=>h.get? a=some o/\cu H h a u
 |.tbl ps=>h.get? a=some {cls:=.none,data:=.fields ps}
 |.met f x=>h.get? a=some (PySem.W.methodObj (.ref f) (.ref x))
def pC(H:Hp)(h:Heap):Prop:=∀a o,H a=some o->cu P w H h a o
end
section
variable{P:Program}{w:World}{H H':Hp}{h h':Heap}{a:Addr}{o:HO}
theorem cu.lt(x:cu P w H h a o):a<h.objs.size:=by
 cases o with
 |lst xs=>obtain⟨_,_,_,_,e⟩:=x;exact Qqz e
 |tup xs=>obtain⟨_,_,_,p⟩:=x;exact p.is.lt
 |dK kvs=>obtain⟨_,_,_,_,o,_,_,e,_⟩:=x;exact Qqz e
 |dS xs=>obtain⟨_,_,_,_,o,_,_,_,e,_⟩:=x;exact Qqz e
 |ins C dx fs=>obtain⟨_,_,_,e,_⟩:=x;exact Qqz e
 |own y=>obtain⟨_,e⟩:=x;exact Qqz e
 |frz ob u=>obtain⟨e,_⟩:=x;exact Qqz e
 |tbl ps=>exact Qqz (x)
 |met f y=>exact Qqz (x)
theorem cu.stay(x:cu P w H h a o)(k:∀b u,(b=a\/H b=some (.own a))->h.get? b=some u->h'.get? b=some u)
  (ho:∀b,H b=some (.own a)->H' b=some (.own a))(ht:∀b xs,H b=some (.tup xs)->H' b=some (.tup xs)):cu P w H' h' a o:=by
 induction o with
 |lst xs=>obtain⟨z,its,n,r,e⟩:=x;exact⟨z,its,n,r,k _ _ (.inl rfl) e⟩
 |tup xs=>obtain⟨z,its,r,ob,e,c⟩:=x;exact⟨z,its,r,ob,k _ _ (.inl rfl) e,c⟩
 |dK kvs=>obtain⟨z,y,vs,r,ob,es,ep,e,c⟩:=x;exact⟨z,y,vs,r,ob,es,ep,k _ _ (.inl rfl) e,c⟩
 |dS xs=>obtain⟨z,y,nd,ys,ob,es,ep,pr,e,c⟩:=x;exact⟨z,y,nd,ys,ob,es,ep,pr,k _ _ (.inl rfl) e,c⟩
 |ins C dx fs=>
  obtain⟨d,z,ne,e,mA,⟨od,es,ep,e2,c⟩,r⟩:=x
  exact⟨ho _ d,z,ne,k _ _ (.inl rfl) e,mA,⟨od,es,ep,k _ _ (.inr d) e2,c⟩,r⟩
 |own y=>obtain⟨ob,e⟩:=x;exact⟨ob,k _ _ (.inl rfl) e⟩
 |frz ob u ih=>obtain⟨e,q⟩:=x;exact⟨k _ _ (.inl rfl) e,ih q⟩
 |tbl ps=>
  exact k a _ (.inl rfl) x
 |met f y=>
  exact k a _ (.inl rfl) x
theorem pC.lt(x:pC P w H h)(e:H a=some o):a<h.objs.size:=(x a o e).lt
def pC.fresh(x:pC P w H h)(e:h.objs.size<=a):H a=none:=by
 cases q:H a with
 |none=>rfl
 |some u=>exact absurd (Qvq (x.lt q) e) (Nat.lt_irrefl _)
def pC.kept(x:pC P w H h)(k:∀b u,h.get? b=some u->h'.get? b=some u):pC P w H h':=fun a o e=>
 (x a o e).stay (fun b u _ q=>k b u q) (fun _ q=>q) fun _ _ q=>q
def pC.laid(x:pC P w H h)(k:∀b u,h.get? b=some u->h'.get? b=some u)(hp:h.objs.size<=a)(new:cu P w (upd H a o) h' a o):pC P w (upd H a o) h':=fun b u e=>by
 have hn:=x.fresh hp
 by_cases hb:b=a
 ·subst hb;rw[aU]at e;cases e;exact new
 ·rw[aC hb]at e
  exact(x b u e).stay (fun c v _ q=>k c v q) (fun c q=>by rw[aC (gm q hn)];exact q) fun c xs q=>by rw[aC (gm q hn)];exact q
end
def Rd(H:Hp)(a:Addr)(u:HO):Prop:=H a=some u\/∃o,H a=some (.frz o u)
def Rd.ok{w:World}{h:Heap}{u:HO}(r:Rd H a u)(x:pC P w H h):cu P w H h a u:=by
 rcases r with r|⟨o,r⟩
 ·exact x a u r
 ·obtain⟨_,q⟩:=x a _ r
  exact q
noncomputable def Mut:Option HO->Prop
 |some (.lst _)=>True
 |some (.dK _)=>True
 |some (.dS _)=>True
 |some (.ins _ _ _)=>True
 |_=>False
section
variable{P:Program}{w:World}{H:Hp}{h h':Heap}{x e:Addr}{o':HO}
def pC.write(ok:pC P w H h)(mu:Mut (H x))(he:e=x\/H e=some (.own x))(k:∀b u,b≠e->h.get? b=some u->h'.get? b=some u)(heo:∃u,h'.get? e=some u)
  (new:cu P w (upd H x o') h' x o'):pC P w (upd H x o') h':=fun b u q=>by
 have nown:∀c y,H c=some (.own y)->c≠x:=fun c y r z=>by subst z;rw[r]at mu;exact mu
 by_cases hb:b=x
 ·subst hb;rw[aU]at q;cases q;exact new
 ·rw[aC hb]at q
  by_cases hbe:b=e
  ·have q':H b=some (.own x):=by
    rcases he with z|z
    ·exact absurd (hbe.trans z) hb
    ·rw[hbe];exact z
   rw[q]at q';cases q'
   obtain⟨v,hv⟩:=heo
   exact⟨v,by rw[hbe];exact hv⟩
  ·refine(ok b u q).stay (fun c v hc r=>k c v ?_ r) (fun c r=>by rw[aC (nown c b r)];exact r) fun c xs r=>by rw[aC ((fun c xs r z=>by subst z;rw[r]at mu;exact mu) c xs r)];exact r
   rcases hc with rfl|hc
   ·exact hbe
   ·rintro rfl
    rcases he with z|z
    ·exact nown c b hc z
    ·rw[hc]at z;cases z;exact hb rfl
end
structure Un(fs ex:List Addr)(H H':Hp)(h h':Heap):Prop where
 keep:∀b o,h.get? b=some o->H b=none->b∉fs->b∉ex->h'.get? b=some o
 slot:∀b o,h.get? b=some o->H b=none->b∈fs->b∉ex->∃sl,h'.get? b=some {o with slots:=sl}
 free:∀b o,h.get? b=some o->H b=none->b∉ex->H' b=none
 there:∀b o,h.get? b=some o->b∉ex->∃o',h'.get? b=some o'
 tups:∀b xs,H b=some (.tup xs)->H' b=some (.tup xs)
 frzs:∀b o u,H b=some (.frz o u)->H' b=some (.frz o u)
 tbls:∀b ps,H b=some (.tbl ps)->∃more,H' b=some (.tbl (ps++more))
section
variable{fs fs' ex ex':List Addr}{H H1 H2:Hp}{h h1 h2 h':Heap}{a x e:Addr}{o:HO}
def Un.any(u:Un fs ex H H1 h h1){ob:Obj}(q:h.get? b=some ob)(n:H b=none)(hx:b∉ex):∃sl,h1.get? b=some {ob with slots:=sl}:=by
 by_cases hb:b∈fs
 ·exact u.slot b ob q n hb hx
 ·exact⟨ob.slots,u.keep b ob q n hb hx⟩
def Un.kept(k:∀b u,h.get? b=some u->h'.get? b=some u):Un fs ex H H h h':=
 ⟨fun b ob q _ _ _=>k b ob q,fun b ob q _ _ _=>⟨ob.slots,k b ob q⟩,fun _ _ _ n _=>n,fun b ob q _=>⟨ob,k b ob q⟩,fun _ _ q=>q,fun _ _ _ q=>q,fun _ ps q=>⟨#[],by rw[q];simp⟩⟩
def Un.refl:Un fs ex H H h h:=Un.kept fun _ _ q=>q
theorem Un.laid(k:∀b u,h.get? b=some u->h'.get? b=some u)(hp:h.objs.size<=a)(hn:H a=none):Un fs ex H (upd H a o) h h' where
 keep:=fun b u q _ _ _=>k b u q
 slot:=fun b u q _ _ _=>⟨u.slots,k b u q⟩
 free:=fun b u q n _=>by rw[aC (Qvz (Qvq (Qqz q) hp))];exact n
 there:=fun b u q _=>⟨u,k b u q⟩
 tups:=fun b xs q=>by rw[aC (gm q hn)];exact q
 frzs:=fun b u xs q=>by rw[aC (gm q hn)];exact q
 tbls:=fun b ps q=>⟨#[],by rw[aC (gm q hn),q];simp⟩
def Un.write(mu:Mut (H x))(he:e=x\/H e=some (.own x))(k:∀b u,b≠e->h.get? b=some u->h'.get? b=some u)(heo:∃u,h'.get? e=some u):Un fs ex H (upd H x o) h h':=by
 have hx:∀b,H b=none->b≠x:=fun b n z=>by subst z;rw[n]at mu;exact mu
 have hb:∀b,H b=none->b≠e:=fun b n z=>by
  subst z
  rcases he with r|r
  ·exact hx b n r
  ·rw[n]at r;cases r
 have hm:∀b u,H b=some u->¬Mut (some u)->b≠x:=fun b u q nm z=>by subst z;rw[q]at mu;exact nm mu
 refine⟨fun b u q n _ _=>k b u (hb b n) q,fun b u q n _ _=>⟨u.slots,k b u (hb b n) q⟩,fun b u q n _=>by rw[aC (hx b n)];exact n,fun b u q _=>?_,
  fun b xs q=>by rw[aC (hm b _ q fun z=>z)];exact q,fun b u xs q=>by rw[aC (hm b _ q fun z=>z)];exact q,fun b ps q=>⟨#[],by rw[aC (hm b _ q fun z=>z),q];simp⟩⟩
 by_cases hbe:b=e
 ·subst hbe;exact heo
 ·exact⟨u,k b u hbe q⟩
end
def trk(h:Heap)(H:Hp):List Addr:=(List.range h.objs.size).filter fun a=>(H a).isSome
def Ia(h:Heap)(H:Hp):Heap:=PySem.W.hideAll h (trk h H)
def H9 h H:(Ia h H).objs.size=h.objs.size:=PySem.W.hideAll_size _ _
def Mq{H:Hp}{o:Obj}(e:h.get? b=some o)(n:H b=none):(Ia h H).get? b=some o:=
 PySem.W.hideAll_get _ e fun hm=>by
  have q:=(List.mem_filter.mp hm).2
  rw[n]at q;simp at q
def Q9{H:Hp}{o:Obj}(e:(Ia h H).get? b=some o):h.get? b=some o/\H b=none:=by
 have e':=PySem.W.of_hideAll _ e
 refine⟨e',?_⟩
 cases q:H b with
 |none=>rfl
 |some x=>
  have z:(Ia h H).get? b=none:=PySem.W.hideAll_none _ (List.mem_filter.mpr ⟨List.mem_range.mpr (Qqz e'),by simp[q]⟩)
  rw[z]at e;cases e
noncomputable def SM(g h:Heap)(L:Addr):List (Addr×Obj):=(List.range h.objs.size).filterMap fun a=>if a=L\/(g.get? a).isSome=true then none else(h.get? a).map fun o=>(a,o)
def rest(g h:Heap)(L d:Addr):List (Addr×Obj):=(SM g h L).filter fun p=>decide (p.1≠d)
structure Mod(K:QQq)(mg:QZz)(base:Heap):Prop where
 kin:K.In base
 glob:base.Ns mainGlobals mg
 blt:∃mb,base.Ns builtinsNs mb/\∀x:Str,x≠"__name__"->mb x=bootBuiltins x
 nolimit:base.NoLimit
structure Cx where
 prog:Program
 w:World
 K:QQq
 mg:Str->Option Value
 base:Heap
 A:Around
 N:List Str
 s₀:Shared
 H₀:Hp
 env:Env
 outer:List Env
 stack:List Env
 ex:List Addr
 fn:Str->Bool
 calm:Bool
 pn:List (Addr×Obj)
 xe:Value->Shared->Prop
def frs(l:List Env):List Addr:=l.filterMap (·.frame)
abbrev Cx.fs(X:Cx):List Addr:=frs X.outer
def Vis(sc:Scope)(x:Str):Prop:=sc.names.lookup x=some .local\/sc.names.lookup x=some .cell\/sc.names.lookup x=some .free
def Loc(sc:Scope)(x:Str):Prop:=sc.names.lookup x=some .local\/sc.names.lookup x=some .cell
def Look(env:Env)(h:Heap)(m:QZz)(x:Str)(u:Value):Prop:=
 (env.kindOf x=some .local/\m x=some u)\/((env.kindOf x=some .cell\/env.kindOf x=some .free)/\∃c,env.cells.lookup x=some c/\h.IsCell c (some u))
structure Cx.Ok(X:Cx):Prop where
 mod:Mod X.K X.mg X.base
 kind:X.env.scope.kind=.function
 glob:X.env.globals=mainGlobals
 blt:X.env.builtins=builtinsNs
 above:X.s₀.heap.objs.size<=X.env.locals
 inj:∀x y c,X.env.cells.lookup x=some c->X.env.cells.lookup y=some c->x=y
 has:∀x,(X.env.kindOf x=some .cell\/X.env.kindOf x=some .free)->∃c,X.env.cells.lookup x=some c
 cab:∀x c,X.fn x=true->X.env.cells.lookup x=some c->X.s₀.heap.objs.size<=c
 hd:X.calm=true->X.A.handled=none
 frames:X.A.frames=some X.stack
 stk:X.stack=X.outer\/(X.stack=X.env::X.outer/\X.env.frame=some X.env.locals)
 exf:∀b∈X.ex,b≠X.env.locals/\∀x c,X.env.cells.lookup x=some c->c≠b
 bs:∀b o,X.base.get? b=some o->X.s₀.heap.get? b=some o/\X.H₀ b=none
 bsz:X.base.objs.size<=X.s₀.heap.objs.size
 noex:∀b o,X.base.get? b=some o->b∉X.ex
 exfs:∀b∈X.ex,b∉X.fs
 lO:X.s₀.heap.FunFrames X.base X.outer
 frf:∀b∈X.fs,X.H₀ b=none
structure Inv(X:Cx)(γ:QQz)(σ:List (Option V))(H:Hp)(s:Shared):Prop where
 ok:X.Ok
 os:s.os=X.s₀.os
 bare:AllBare s.gens
 base:Un X.fs X.ex X.H₀ H X.s₀.heap s.heap
 loc:∃m,s.heap.Ns X.env.locals m/\∀(i:Nat)(x:Str)(v:V),X.N[i]? =some x->σ[i]? =some (some v)->Vis X.env.scope x->∃u,RelV v u/\Look X.env s.heap m x u
 cell:∀x c,X.env.cells.lookup x=some c->∃v,s.heap.IsCell c v
 free:H X.env.locals=none
 freeC:∀x c,X.env.cells.lookup x=some c->H c=none
 pin:∀p∈X.pn++γ,s.heap.get? p.1=some p.2/\H p.1=none/\p.1≠X.env.locals/\p.1∉X.fs/\∀v,p.2.data≠ .cell v
 hok:pC X.prog X.w H s.heap
 len:σ.length=X.N.length
section
variable{X:Cx}{γ:QQz}{σ:List (Option V)}{H H':Hp}{s:Shared}{h':Heap}
def Cx.Ok.afq(ok:X.Ok){o:Obj}(e:X.base.get? b=some o):b∉X.fs:=fun hb=>by
 have:=(ok.lO.mem hb).1
 rw[e]at this;cases this
theorem Inv.bs(I:Inv X γ σ H s):∀b o,X.base.get? b=some o->s.heap.get? b=some o/\H b=none:=fun b o e=>
 ⟨I.base.keep b o (I.ok.bs b o e).1 (I.ok.bs b o e).2 (I.ok.afq e) (I.ok.noex b o e),I.base.free b o (I.ok.bs b o e).1 (I.ok.bs b o e).2 (I.ok.noex b o e)⟩
def Inv.bk(I:Inv X γ σ H s):∀b o,X.base.get? b=some o->s.heap.get? b=some o:=fun b o e=>(I.bs b o e).1
theorem Inv.mod(I:Inv X γ σ H s):Mod X.K X.mg X.base:=I.ok.mod
def Inv.ZQ(I:Inv X γ σ H s):X.K.In s.heap:=I.ok.mod.kin.keeps I.bk
theorem Inv.lt(I:Inv X γ σ H s):X.env.locals<s.heap.objs.size:=let ⟨_,hn,_⟩:=I.loc;hn.lt
def Inv.sz(I:Inv X γ σ H s):X.s₀.heap.objs.size<=s.heap.objs.size:=Nat.le_trans I.ok.above (Nat.le_of_lt I.lt)
def Inv.afp(I:Inv X γ σ H s){a:Addr}(h:s.heap.objs.size<=a):a∉X.fs:=fun hb=>by
 obtain⟨_,o,ho,_⟩:=I.ok.lO.mem hb
 exact absurd (Qvq (Qqz ho) (Nat.le_trans I.sz h)) (Nat.lt_irrefl _)
def Inv.YZ(I:Inv X γ σ H s):∀x c,X.env.cells.lookup x=some c->c≠X.env.locals:=fun x c e z=>by
 obtain⟨v,o,ho,hd⟩:=I.cell x c e
 obtain⟨m,⟨o',es,ep,ho',hd',_⟩,_⟩:=I.loc
 rw[z,ho']at ho;cases ho;rw[hd']at hd;cases hd
theorem Inv.lO(I:Inv X γ σ H s):s.heap.FunFrames X.base X.outer:=by
 have all:∀l,(∀b∈frs l,b∈X.fs)->X.s₀.heap.FunFrames X.base l->s.heap.FunFrames X.base l:=by
  intro l
  induction l with
  |nil=>intro _ _;trivial
  |cons env r ih=>
   intro hs hl
   obtain⟨hk,⟨L,o,hf,hn,ho,hd⟩,hr⟩:=hl
   have hL:=hs L (by unfold frs;rw[List.filterMap_cons,hf];exact QYz)
   obtain⟨sl,e⟩:=I.base.slot L o ho (I.ok.frf L hL) hL fun z=>I.ok.exfs L z hL
   exact⟨hk,⟨L,_,hf,hn,e,hd⟩,ih (fun b hb=>hs b (by unfold frs;rw[List.filterMap_cons,hf];exact QYq _ hb)) hr⟩
 exact all X.outer (fun _ hb=>hb) I.ok.lO
theorem Inv.stack(I:Inv X γ σ H s):s.heap.FunFrames X.base X.stack:=by
 rcases I.ok.stk with e|⟨e,hf⟩
 ·rw[e];exact I.lO
 ·rw[e]
  obtain⟨m,hn,_⟩:=I.loc
  exact .cons (by rw[I.ok.kind];decide) hf hn (Heap.get?_none_of_le (Nat.le_trans I.ok.bsz I.ok.above)) I.lO
def Inv.Aq(I:Inv X γ σ H s):∀b∈frs X.stack,b∈X.env.locals::X.fs:=fun b hb=>by
 rcases I.ok.stk with e|⟨e,hf⟩
 ·rw[e]at hb;exact QYq _ hb
 ·rw[e]at hb
  unfold frs at hb
  rw[List.filterMap_cons,hf]at hb
  exact hb
def Inv.DK(I:Inv X γ σ H s):∀b∈frs X.stack,H b=none:=fun b hb=>by
 rcases QCq.mp (I.Aq b hb)with e|hb
 ·rw[e];exact I.free
 ·obtain⟨_,o,ho,_⟩:=I.ok.lO.mem hb
  exact I.base.free b o ho (I.ok.frf b hb) fun z=>I.ok.exfs b z hb
def Inv.step{t':Nat}{ch:List Addr}(I:Inv X γ σ H s)
  (hch:∀b∈ch,(b∈X.ex\/X.s₀.heap.objs.size<=b)/\b≠X.env.locals/\(∀x c,X.env.cells.lookup x=some c->c≠b)/\∀p∈X.pn++γ,p.1≠b)
  (keep:∀b o,b≠X.env.locals->b∉X.fs->b∉ch->s.heap.get? b=some o->H b=none->h'.get? b=some o)
  (slot:∀b o,b≠X.env.locals->b∈X.fs->b∉ch->s.heap.get? b=some o->H b=none->∃sl,h'.get? b=some {o with slots:=sl})(free:∀b o,b∉ch->s.heap.get? b=some o->H b=none->H' b=none)
  (there:∀b o,b∉ch->s.heap.get? b=some o->∃o',h'.get? b=some o')
  (tups:∀b xs,H b=some (.tup xs)->H' b=some (.tup xs))(frzs:∀b o u,H b=some (.frz o u)->H' b=some (.frz o u))(tbls:∀b ps,H b=some (.tbl ps)->∃more,H' b=some (.tbl (ps++more)))
  (ns:∀m,s.heap.Ns X.env.locals m->h'.Ns X.env.locals m)(hok:pC X.prog X.w H' h')(hg:AllBare g'):
  Inv X γ σ H' {s with heap:=h',gens:=g',drawn:=d',toks:=t'}:=by
 have neL:∀b o,X.s₀.heap.get? b=some o->b≠X.env.locals:=fun b o e=>Qvz (Qvq (Qqz e) I.ok.above)
 have neC:∀b o,X.s₀.heap.get? b=some o->b∉X.ex->b∉ch:=fun b o e hx hb=>by
  rcases (hch b hb).1 with z|z
  ·exact hx z
  ·exact absurd (Qvq (Qqz e) z) (Nat.lt_irrefl _)
 have cellK:∀x c,X.env.cells.lookup x=some c->∀v,s.heap.IsCell c v->h'.IsCell c v:=fun x c e v⟨o,ho,hd⟩=>by
  have nch:=fun z=>(hch c z).2.2.1 x c e rfl
  by_cases hc:c∈X.fs
  ·obtain⟨sl,q⟩:=slot c o (I.YZ x c e) hc nch ho (I.freeC x c e)
   exact⟨_,q,hd⟩
  ·exact⟨o,keep c o (I.YZ x c e) hc nch ho (I.freeC x c e),hd⟩
 refine⟨I.ok,I.os,hg,⟨fun b o e n hb hx=>?_,fun b o e n hb hx=>?_,fun b o e n hx=>?_,fun b o e hx=>?_,fun b xs e=>tups b xs (I.base.tups b xs e),fun b o xs e=>frzs b o xs (I.base.frzs b o xs e),fun b ps e=>?_⟩,?_,fun x c e=>?_,?_,fun x c e=>?_,fun p hp=>?_,hok,I.len⟩
 ·exact keep b o (neL b o e) hb (neC b o e hx) (I.base.keep b o e n hb hx) (I.base.free b o e n hx)
 ·obtain⟨sl,e1⟩:=I.base.slot b o e n hb hx
  obtain⟨sl',e2⟩:=slot b _ (neL b o e) hb (neC b o e hx) e1 (I.base.free b o e n hx)
  exact⟨sl',e2⟩
 ·obtain⟨o',e1⟩:=I.base.there b o e hx
  exact free b o' (neC b o e hx) e1 (I.base.free b o e n hx)
 ·obtain⟨o',e1⟩:=I.base.there b o e hx
  exact there b o' (neC b o e hx) e1
 ·obtain⟨m1,e1⟩:=I.base.tbls b ps e
  obtain⟨m2,e2⟩:=tbls b _ e1
  exact⟨m1++m2,by rw[e2,Array.append_assoc]⟩
 ·obtain⟨m,hn,hl⟩:=I.loc
  refine⟨m,ns m hn,fun i x v e1 e2 e3=>?_⟩
  obtain⟨u,r,l⟩:=hl i x v e1 e2 e3
  refine⟨u,r,?_⟩
  rcases l with l|⟨k,c,e,z⟩
  ·exact .inl l
  ·exact .inr ⟨k,c,e,cellK x c e _ z⟩
 ·obtain⟨v,z⟩:=I.cell x c e
  exact⟨v,cellK x c e v z⟩
 ·obtain⟨m,⟨o,_,_,ho,_⟩,_⟩:=I.loc
  exact free _ o (fun z=>(hch _ z).2.1 rfl) ho I.free
 ·obtain⟨v,o,ho,hd⟩:=I.cell x c e
  exact free c o (fun z=>(hch c z).2.2.1 x c e rfl) ho (I.freeC x c e)
 ·obtain⟨e,n,ne,nf,d⟩:=I.pin p hp
  have nch:=fun z=>(hch p.1 z).2.2.2 p hp rfl
  exact⟨keep p.1 p.2 ne nf nch e n,free p.1 p.2 nch e n,ne,nf,d⟩
def Inv.un(I:Inv X γ σ H s)(u:Un X.fs [] H H' s.heap h')(hok:pC X.prog X.w H' h'):Inv X γ σ H' {s with heap:=h',toks:=t'}:=by
 obtain⟨m,⟨o,es,ep,ho,r⟩,_⟩:=id I.loc
 obtain⟨sl,hL⟩:=u.any ho I.free (by simp)
 exact I.step (ch:=[]) (fun _ z=>nomatch z) (fun b o _ hb _ e n=>u.keep b o e n hb (by simp)) (fun b o _ hb _ e n=>u.slot b o e n hb (by simp)) (fun b o _ e n=>u.free b o e n (by simp)) (fun b o _ e=>u.there b o e (by simp)) u.tups u.frzs u.tbls (fun m' hm=>by
  obtain⟨o',es',ep',ho',r'⟩:=hm
  rw[ho]at ho';cases ho'
  exact⟨_,es',ep',hL,r'⟩) hok I.bare
def Inv.call{t':Nat}{ch:List Addr}(I:Inv X γ σ H s)(u:Un (frs X.stack) ch H H' s.heap h')(hok:pC X.prog X.w H' h')(hg:AllBare g')
  (hch:∀b∈ch,(b∈X.ex\/X.s₀.heap.objs.size<=b)/\b≠X.env.locals/\(∀x c,X.env.cells.lookup x=some c->c≠b)/\∀p∈X.pn++γ,p.1≠b):
  Inv X γ σ H' {s with heap:=h',gens:=g',drawn:=d',toks:=t'}:=by
 obtain⟨m,⟨o,es,ep,ho,r⟩,_⟩:=id I.loc
 obtain⟨sl,hL⟩:=u.any ho I.free fun z=>(hch _ z).2.1 rfl
 exact I.step hch (fun b o hL hb hc e n=>u.keep b o e n (fun z=>(QCq.mp (I.Aq b z)).elim hL hb) hc) (fun b o _ _ hc e n=>u.any e n hc) (fun b o hc e n=>u.free b o e n hc) (fun b o hc e=>u.there b o e hc) u.tups u.frzs u.tbls (fun m' hm=>by
  obtain⟨o',es',ep',ho',r'⟩:=hm
  rw[ho]at ho';cases ho'
  exact⟨_,es',ep',hL,r'⟩) hok hg
def Inv.turned{it:Addr}(I:Inv X γ σ H s)(k:∀b o,b≠it->s.heap.get? b=some o->h'.get? b=some o)(hn:H it=none)(hL:it≠X.env.locals)
  (h1:it∈X.ex\/X.s₀.heap.objs.size<=it)(h2:∀x c,X.env.cells.lookup x=some c->c≠it)(h3:∀p∈X.pn++γ,p.1≠it):Inv X γ σ H {s with heap:=h',toks:=t'}:=by
 have nit:∀b u,H b=some u->b≠it:=fun b u e z=>by rw[z,hn]at e;cases e
 refine I.step (ch:=[it]) (fun b hb=>?_) (fun b o _ _ hc e _=>k b o (fun z=>hc (by simp[z])) e) (fun b o _ _ hc e _=>⟨o.slots,k b o (fun z=>hc (by simp[z])) e⟩) (fun _ _ _ _ n=>n)
  (fun b o hc e=>⟨o,k b o (fun z=>hc (by simp[z])) e⟩) (fun _ _ e=>e) (fun _ _ _ e=>e) (fun b ps e=>⟨#[],by rw[e];simp⟩) (fun m hm=>?_) (fun b u e=>?_) I.bare
 ·have e:b=it:=by simpa using hb
  subst e
  exact⟨h1,hL,h2,h3⟩
 ·obtain⟨o,es,ep,ho,r⟩:=hm
  exact⟨o,es,ep,k _ o (Ne.symm hL) ho,r⟩
 ·refine(I.hok b u e).stay (fun c v hc q=>k c v ?_ q) (fun _ q=>q) fun _ _ q=>q
  rcases hc with z|z
  ·rw[z];exact nit b u e
  ·exact nit c _ z
def Inv.tok(I:Inv X γ σ H s)t:Inv X γ σ H {s with toks:=t}:=I.un Un.refl I.hok
theorem Inv.kept(I:Inv X γ σ H s)(k:∀b u,s.heap.get? b=some u->h'.get? b=some u):Inv X γ σ H {s with heap:=h',toks:=t'}:=I.un (Un.kept k) (I.hok.kept k)
theorem Inv.laid{a:Addr}{o:HO}(I:Inv X γ σ H s)(k:∀b u,s.heap.get? b=some u->h'.get? b=some u)(hp:s.heap.objs.size<=a)(new:cu X.prog X.w (upd H a o) h' a o):
  Inv X γ σ (upd H a o) {s with heap:=h',toks:=t'}:=I.un (Un.laid k hp (I.hok.fresh hp)) (I.hok.laid k hp new)
theorem Inv.write{o:HO}(I:Inv X γ σ H s)(mu:Mut (H x))(he:e=x\/H e=some (.own x))(k:∀b u,b≠e->s.heap.get? b=some u->h'.get? b=some u)(heo:∃u,h'.get? e=some u)
  (new:cu X.prog X.w (upd H x o) h' x o):Inv X γ σ (upd H x o) {s with heap:=h',toks:=t'}:=I.un (Un.write mu he k heo) (I.hok.write mu he k heo new)
def Inv.Eh(I:Inv X γ σ H s)(h:∀p∈pins',s.heap.get? p.1=some p.2/\H p.1=none/\p.1≠X.env.locals/\p.1∉X.fs/\∀v,p.2.data≠ .cell v):Inv X pins' σ H s:=
 ⟨I.ok,I.os,I.bare,I.base,I.loc,I.cell,I.free,I.freeC,fun p hp=>(QXz.mp hp).elim (fun z=>I.pin p (QWz _ z)) (h p),I.hok,I.len⟩
def zb{N:List Str}(hN:N.Nodup){i j:Nat}(a:N[i]? =some x)(b:N[j]? =some x):i=j:=by
 obtain⟨h1,e1⟩:=QCz.mp a
 obtain⟨h2,e2⟩:=QCz.mp b
 exact(List.getElem_inj hN).mp (e1.trans e2.symm)
def uF{A:Around}{i:Nat}{v:V}{u:Value}(I:Inv X γ σ H s)(hN:X.N.Nodup)(hi:X.N[i]? =some x)(hx:Loc X.env.scope x)(r:RelV v u)
  (h:∀s',Inv X γ (σ.set i (some v)) H s'->(∃a,Heap.SameBut a s.heap s'.heap/\(a=X.env.locals\/X.env.cells.lookup x=some a))->Q () s')(hf:X.fn x=true\/X.env.scope.names.lookup x=some .local:=by first|exact .inl rfl|exact .inr rfl|assumption):wpAny M A (storeName X.env x u) Q E s:=by
 obtain⟨m,hn,hl⟩:=id I.loc
 have hiσ:i<σ.length:=by rw[I.len];exact(QCz.mp hi).1
 have YZ:=I.YZ
 have tracked:∀{a:Addr}{h':Heap},(∃o,s.heap.get? a=some o/\H a=none)->Heap.SameBut a s.heap h'->pC X.prog X.w H h':=fun{a h'}ha hs b ob e=>by
  obtain⟨_,_,hfree⟩:=ha
  refine(I.hok b ob e).stay (fun c w' hc q=>(hs.2 c ?_).trans q) (fun _ q=>q) fun _ _ q=>q
  rintro rfl
  rcases hc with rfl|hc
  ·rw[hfree]at e;cases e
  ·rw[hfree]at hc;cases hc
 rcases hx with hk|hk
 ·refine wpAny_storeName_local hk hn (fun h' hn' hs=>?_) (by rw[I.ok.kind];rfl)
  obtain⟨oL,_,_,hoL,_⟩:=id hn
  refine h _ ⟨I.ok,I.os,I.bare,⟨fun b o e n hb hx=>?_,fun b o e n hb hx=>?_,I.base.free,fun b o e hx=>?_,I.base.tups,I.base.frzs,I.base.tbls⟩,⟨_,hn',fun j y v' e1 e2 e3=>?_⟩,fun y c e=>?_,I.free,I.freeC,fun p hp=>?_,tracked ⟨oL,hoL,I.free⟩ hs,by simpa using I.len⟩ ⟨_,hs,.inl rfl⟩
  ·exact(hs.2 b (Qvz (Qvq (Qqz e) I.ok.above))).trans (I.base.keep b o e n hb hx)
  ·obtain⟨sl,e1⟩:=I.base.slot b o e n hb hx
   exact⟨sl,(hs.2 b (Qvz (Qvq (Qqz e) I.ok.above))).trans e1⟩
  ·obtain⟨o',e1⟩:=I.base.there b o e hx
   exact⟨o',(hs.2 b (Qvz (Qvq (Qqz e) I.ok.above))).trans e1⟩
  ·by_cases hj:j=i
   ·subst hj
    rw[hi]at e1;cases e1
    rw[Qwq hiσ]at e2
    cases e2
    exact⟨u,r,.inl ⟨hk,by simp⟩⟩
   ·rw[Qxz (Ne.symm hj)]at e2
    obtain⟨u',r',q⟩:=hl j y v' e1 e2 e3
    refine⟨u',r',?_⟩
    rcases q with ⟨k,e⟩|⟨k,c,e,z⟩
    ·refine .inl ⟨k,?_⟩
     have:y≠x:=fun e=>hj (zb hN e1 (e▸hi))
     simp[this,e]
    ·exact .inr ⟨k,c,e,z.sameBut hs (YZ y c e)⟩
  ·obtain⟨w',z⟩:=I.cell y c e
   exact⟨w',z.sameBut hs (YZ y c e)⟩
  ·obtain⟨e,n,ne,nf,d⟩:=I.pin p hp
   exact⟨(hs.2 p.1 ne).trans e,n,ne,nf,d⟩
 ·have hfn:X.fn x=true:=by
   rcases hf with z|z
   ·exact z
   ·rw[z]at hk;cases hk
  obtain⟨c,hc⟩:=I.ok.has x (.inl hk)
  obtain⟨w',z⟩:=I.cell x c hc
  refine wpAny_storeName_cell I.ok.kind hk hc z (fun h' hc' hs=>?_)
  obtain⟨oc,hoc,hocd⟩:=id z
  refine h {s with heap:=h'} ⟨I.ok,I.os,I.bare,⟨fun b o e n hb hx=>?_,fun b o e n hb hx=>?_,I.base.free,fun b o e hx=>?_,I.base.tups,I.base.frzs,I.base.tbls⟩,⟨m,hn.sameBut hs (Ne.symm (YZ x c hc)),fun j y v' e1 e2 e3=>?_⟩,fun y c' e=>?_,I.free,I.freeC,fun p hp=>?_,tracked ⟨oc,hoc,I.freeC x c hc⟩ hs,by simpa using I.len⟩ ⟨c,hs,.inr hc⟩
  ·exact(hs.2 b (Qvz (Qvq (Qqz e) (I.ok.cab x c hfn hc)))).trans (I.base.keep b o e n hb hx)
  ·obtain⟨sl,e1⟩:=I.base.slot b o e n hb hx
   exact⟨sl,(hs.2 b (Qvz (Qvq (Qqz e) (I.ok.cab x c hfn hc)))).trans e1⟩
  ·obtain⟨o',e1⟩:=I.base.there b o e hx
   exact⟨o',(hs.2 b (Qvz (Qvq (Qqz e) (I.ok.cab x c hfn hc)))).trans e1⟩
  ·by_cases hj:j=i
   ·subst hj
    rw[hi]at e1;cases e1
    rw[Qwq hiσ]at e2
    cases e2
    exact⟨u,r,.inr ⟨.inl hk,c,hc,hc'⟩⟩
   ·rw[Qxz (Ne.symm hj)]at e2
    obtain⟨u',r',q⟩:=hl j y v' e1 e2 e3
    refine⟨u',r',?_⟩
    rcases q with q|⟨k,c',e,z'⟩
    ·exact .inl q
    ·refine .inr ⟨k,c',e,z'.sameBut hs ?_⟩
     rintro rfl
     exact hj (zb hN e1 (I.ok.inj _ _ _ e hc▸hi))
  ·by_cases hcc:c'=c
   ·subst hcc;exact⟨_,hc'⟩
   ·obtain⟨w2,z2⟩:=I.cell y c' e
    exact⟨w2,z2.sameBut hs hcc⟩
  ·obtain⟨e,n,ne,nf,d⟩:=I.pin p hp
   refine⟨(hs.2 p.1 ?_).trans e,n,ne,nf,d⟩
   intro q
   rw[q,hoc]at e
   exact d w' (by rw[<- (QEq e)];exact hocd)
def yw{A:Around}{i:Nat}{v:V}{u:Value}(I:Inv X γ σ H s)(hN:X.N.Nodup)(hi:X.N[i]? =some x)(hx:Loc X.env.scope x)(r:RelV v u)
  (h:∀s',Inv X γ (σ.set i (some v)) H s'->Q () s')(hf:X.fn x=true\/X.env.scope.names.lookup x=some .local:=by first|exact .inl rfl|exact .inr rfl|assumption):wpAny M A (storeName X.env x u) Q E s:=
 uF I hN hi hx r (fun s' I' _=>h s' I') hf
def Inv.call'{ch:List Addr}(I:Inv X γ σ H s)(ho:s'.os=s.os)(u:Un (frs X.stack) ch H H' s.heap s'.heap)(hok:pC X.prog X.w H' s'.heap)(hg:AllBare s'.gens)
  (hch:∀b∈ch,(b∈X.ex\/X.s₀.heap.objs.size<=b)/\b≠X.env.locals/\(∀x c,X.env.cells.lookup x=some c->c≠b)/\∀p∈X.pn++γ,p.1≠b):Inv X γ σ H' s':=by
 obtain⟨h',g',d',t',o'⟩:=s'
 subst ho
 exact I.call u hok hg hch
end
abbrev XK:=Value->Option Addr->Hp->Prop
abbrev St:=List (Option V)
abbrev VK:=V->Hp->Prop
abbrev TE:=St->Hp->VK->Prop
abbrev TT:=St->Hp->(Bool->Hp->Prop)->Prop
abbrev TA:=St->Hp->(List V->Hp->Prop)->Prop
structure Ends where
 nx:St->Hp->Prop
 rt:VK
 bk:St->Hp->Prop:=fun _ _=>False
 ct:St->Hp->Prop:=fun _ _=>False
abbrev TS:=Ends->St->Hp->Prop
def EP(X:Cx)(γ:QQz)(σ:St)(Q:VK)(u:Value)(s':Shared):Prop:=∃v H',Inv X γ σ H' s'/\RelV v u/\Q v H'
def TP(X:Cx)(γ:QQz)(σ:St)(Q:Bool->Hp->Prop)(b:Bool)(s':Shared):Prop:=∃H',Inv X γ σ H' s'/\Q b H'
def AP(X:Cx)(γ:QQz)(σ:St)(Q:List V->Hp->Prop)(us:List Value)(s':Shared):Prop:=∃vs H',Inv X γ σ H' s'/\Vals vs us/\Q vs H'
def SP(X:Cx)(γ:QQz)(D:Ends)(f:Flow)(s':Shared):Prop:=
 match f with
 |.next=>∃ζ H',Inv X γ ζ H' s'/\D.nx ζ H'
 |.brk=>∃ζ H',Inv X γ ζ H' s'/\D.bk ζ H'
 |.cont=>∃ζ H',Inv X γ ζ H' s'/\D.ct ζ H'
 |.ret u=>∃v ζ H',Inv X γ ζ H' s'/\RelV v u/\D.rt v H'
def PE(X:Cx)(e:Expr)(t:TE):Prop:=
 ∀(γ:QQz)(s:Shared)(σ:St)(H:Hp)(Q:VK),Inv X γ σ H s->t σ H Q->wpAny (model X.prog X.w) X.A (eval e X.env) (EP X γ σ Q) X.xe s
def PT(X:Cx)(e:Expr)(t:TT):Prop:=
 ∀(γ:QQz)(s:Shared)(σ:St)(H:Hp)(Q:Bool->Hp->Prop),Inv X γ σ H s->t σ H Q->wpAny (model X.prog X.w) X.A (isTrue e X.env (eval e X.env)) (TP X γ σ Q) X.xe s
def PW(X:Cx)(e:Expr)(t:TT):Prop:=
 ∀(whole:Sem Value)(γ:QQz)(s:Shared)(σ:St)(H:Hp)(Q:Bool->Hp->Prop),Inv X γ σ H s->t σ H Q->wpAny (model X.prog X.w) X.A (isTrue e X.env whole) (TP X γ σ Q) X.xe s
def PW.pt{e:Expr}(h:PW X e t):PT X e t:=h _
def PA(X:Cx)(es:List Expr)(t:TA):Prop:=
 ∀(pos:Pos)(γ:QQz)(s:Shared)(σ:St)(H:Hp)(Q:List V->Hp->Prop),Inv X γ σ H s->t σ H Q->wpAny (model X.prog X.w) X.A (spliced (backTo pos (starEach es X.env))) (AP X γ σ Q) X.xe s
def PS(X:Cx)(st:Stmt)(t:TS):Prop:=
 ∀(γ:QQz)(s:Shared)(σ:St)(H:Hp)(D:Ends),Inv X γ σ H s->t D σ H->wpAny (model X.prog X.w) X.A (exec st X.env) (SP X γ D) X.xe s
def xU(X:Cx)(st:List Stmt)(t:TS):Prop:=
 ∀(γ:QQz)(s:Shared)(σ:St)(H:Hp)(D:Ends),Inv X γ σ H s->t D σ H->wpAny (model X.prog X.w) X.A (execs st X.env) (SP X γ D) X.xe s
def cB{t:Sem α}{Q Q':α->Shared->Prop}{A:Around}{s:Shared}(h:wpAny M A t Q E s)(hQ:∀a s,Q a s->Q' a s):wpAny M A t Q' E s:=QGq h hQ fun _ _ x=>x
section
variable{X:Cx}
def bin{ta tb:TE}(ha:PE X a ta)(hb:PE X b tb){s:Shared}{σ:St}{R:V->V->Hp->Prop}(I:Inv X γ σ H s)(h:ta σ H fun x H1=>tb σ H1 fun y H2=>R x y H2)
{Q:α->Shared->Prop} {f:Value->Value->Sem α}
  (hf:∀v u s2 x y H2,Inv X γ σ H2 s2->RelV x v->RelV y u->R x y H2->wpAny (model X.prog X.w) X.A (f v u) Q X.xe s2):
  wpAny (model X.prog X.w) X.A (eval a X.env) (fun v ι=>wpAny (model X.prog X.w) X.A (eval b X.env) (fun u s₂=>wpAny (model X.prog X.w) X.A (f v u) Q X.xe s₂) X.xe ι) X.xe s:=by
 refine cB (ha γ s σ H _ I h) fun v s1⟨x,H1,I1,r1,q1⟩=>?_
 refine cB (hb γ s1 σ H1 _ I1 q1) fun u s2⟨y,H2,I2,r2,q2⟩=>?_
 exact hf v u s2 x y H2 I2 r1 r2 q2
def Jz(i:Nat):TE:=fun σ H Q=>∃v,σ[i]? =some (some v)/\Q v H
def tC(v:V):TE:=fun _ H Q=>Q v H
def Ks{x:Str}{pos:Pos}(hN:X.N[i]? =some x)(hv:Vis X.env.scope x)(hd:(x==("__debug__":Str))=false:=by decide)(hcd:(x==("__classdict__":Str))=false:=by decide):PE X (.Name x pos) (Jz i):=by
 intro γ s σ H Q I h
 obtain⟨v,e,h⟩:=h
 obtain⟨m,hn,hl⟩:=I.loc
 obtain⟨u,r,l⟩:=hl i x v hN e hv
 have fin:EP X γ σ Q u s:=⟨v,H,I,r,h⟩
 rcases l with ⟨hk,hm⟩|⟨hk,c,hc,hcell⟩
 ·exact wpAny_Name (wpAny_loadName_local I.ok.kind hk hn hm fin) hd
 ·rcases hk with hk|hk
  ·exact wpAny_Name (wpAny_loadName_cell I.ok.kind hk hc hcell fin) hd
  ·exact wpAny_Name (wpAny_loadName_free I.ok.kind hk hc hcell fin hcd) hd
def W6{i j pos}:PE X (.Constant (.int i) j pos) (tC (.int i)):=fun _ _ _ H _ I h=>wpAny_Constant_int ⟨.int i,H,I.tok _,⟨_,rfl⟩,h⟩
def abM{b j pos}:PE X (.Constant (.bool b) j pos) (tC (.bl b)):=fun _ _ _ H _ I h=>Constant_bool ⟨.bl b,H,I,rfl,h⟩
def W4{j pos}:PE X (.Constant .none j pos) (tC .non):=fun _ _ _ H _ I h=>Constant_none ⟨.non,H,I,rfl,h⟩
def W3{x j pos}:PE X (.Constant (.str x) j pos) (tC (.str x)):=fun _ _ _ H _ I h=>Calls.Constant_str ⟨.str x,H,I.tok _,⟨_,rfl⟩,h⟩
def Gl(X:Cx)(x:Str):Prop:=X.env.kindOf x=some .globalImplicit
def Fe{γ:QQz}{σ:St}{x:Str}{pos:Pos}(I:Inv X γ σ H s)(hg:Gl X x)(hm:X.mg x=some u)(h:Q u s)
  (hd:(x==("__debug__":Str))=false:=by decide):wpAny (model X.prog X.w) X.A (eval (.Name x pos) X.env) Q E s:=
 Calls.Name_function_global I.ok.kind hg (Calls.loadGlobal_global (by rw[I.ok.glob];exact I.mod.glob.keeps I.bk) hm h) hd
def iZ{E:QZq}{s:Shared}{σ:St}{x:Str}{pos:Pos}(I:Inv X γ σ H s)(hg:Gl X x)(hm:X.mg x=none)(hv:bootBuiltins x=some u)(h:Q u s)
  (hn:x≠"__name__":=by decide)(hd:(x==("__debug__":Str))=false:=by decide):wpAny (model X.prog X.w) X.A (eval (.Name x pos) X.env) Q E s:=by
 obtain⟨mb,h1,h2⟩:=I.mod.blt
 exact Calls.Name_function_global I.ok.kind hg (Calls.loadGlobal_builtin (by rw[I.ok.glob];exact I.mod.glob.keeps I.bk) hm (by rw[I.ok.blt];exact h1.keeps I.bk) ((h2 x hn).trans hv) h) hd
def QR{v:V}{pos:Pos}(hg:Gl X x)(hm:X.mg x=some u)(r:RelV v u)(hd:(x==("__debug__":Str))=false:=by decide):PE X (.Name x pos) (tC v):=
 fun _ _ _ H _ I h=>Fe I hg hm ⟨v,H,I,r,h⟩ hd
def QW{v:V}{pos:Pos}(hg:Gl X x)(hm:X.mg x=none)(hv:bootBuiltins x=some u)(r:RelV v u)(hn:x≠"__name__":=by decide)(hd:(x==("__debug__":Str))=false:=by decide):PE X (.Name x pos) (tC v):=
 fun _ _ _ H _ I h=>iZ I hg hm hv ⟨v,H,I,r,h⟩ hn hd
variable{a b:Expr}{ta tb:TE}{pos:Pos}
variable{tA tB':TT}{rest:List Expr}
def aek(t u:TT):TT:=fun σ H Q=>t σ H fun c H1=>if c=true then u σ H1 Q else Q false H1
def tOr(t u:TT):TT:=fun σ H Q=>t σ H fun c H1=>if c=true then Q true H1 else u σ H1 Q
def aef(t:TT):TT:=fun σ H Q=>t σ H fun c H1=>Q (!c) H1
def QB(ha:PT X a tA):PW X (.BoolOp .And [a] pos) tA:=by
 intro wh γ s σ H Q I h
 refine isTrue_and (cB (ha γ s σ H Q I h) fun c s1 e=>?_)
 cases c with
 |true=>exact isTrue_and_nil e
 |false=>exact e
def WL(ha:PT X a tA):PW X (.BoolOp .Or [a] pos) tA:=by
 intro wh γ s σ H Q I h
 refine isTrue_or (cB (ha γ s σ H Q I h) fun c s1 e=>?_)
 cases c with
 |false=>exact isTrue_or_nil e
 |true=>exact e
def WM(ha:PT X a tA)(hb:PW X (.BoolOp .And (b::rest) pos) tB'):PW X (.BoolOp .And (a::b::rest) pos) (aek tA tB'):=by
 intro wh γ s σ H Q I h
 refine isTrue_and (cB (ha γ s σ H _ I h) fun c s1⟨H1,I1,q1⟩=>?_)
 cases c with
 |true=>exact hb wh γ s1 σ H1 Q I1 q1
 |false=>exact⟨H1,I1,q1⟩
def abD(ha:PT X a tA)(hb:PW X (.BoolOp .Or (b::rest) pos) tB'):PW X (.BoolOp .Or (a::b::rest) pos) (tOr tA tB'):=by
 intro wh γ s σ H Q I h
 refine isTrue_or (cB (ha γ s σ H _ I h) fun c s1⟨H1,I1,q1⟩=>?_)
 cases c with
 |true=>exact⟨H1,I1,q1⟩
 |false=>exact hb wh γ s1 σ H1 Q I1 q1
def WR(ha:PT X a tA):PT X (.UnaryOp .Not a pos) (aef tA):=by
 intro γ s σ H Q I h
 exact isTrue_not (ha γ s σ H _ I h)
noncomputable def aaZ(ta tb:TE):TE:=fun σ H Q=>ta σ H fun x H1=>∃c,x=.bl c/\if c=true then tb σ H1 Q else Q (.bl false) H1
noncomputable def aee(ta tb:TE):TE:=fun σ H Q=>ta σ H fun x H1=>∃c,x=.bl c/\if c=true then Q (.bl true) H1 else tb σ H1 Q
def Ky{op}(h:PE X a t):PE X (.BoolOp op [a] pos) t:=fun γ s σ H Q I hw=>BoolOp_one (h γ s σ H Q I hw)
def W8(ha:PE X a ta)(hb:PE X (.BoolOp .And (b::rest) pos) tb):PE X (.BoolOp .And (a::b::rest) pos) (aaZ ta tb):=by
 intro γ s σ H Q I h
 refine BoolOp_and (cB (ha γ s σ H _ I h) fun v s1⟨x,H1,I1,r1,q1⟩=>?_)
 obtain⟨c,rfl,q1⟩:=q1
 cases r1
 refine wpAny_truthy_bool ?_
 cases c with
 |true=>exact hb γ s1 σ H1 Q I1 q1
 |false=>exact⟨.bl false,H1,I1,rfl,q1⟩
def abK(ha:PE X a ta)(hb:PE X (.BoolOp .Or (b::rest) pos) tb):PE X (.BoolOp .Or (a::b::rest) pos) (aee ta tb):=by
 intro γ s σ H Q I h
 refine BoolOp_or (cB (ha γ s σ H _ I h) fun v s1⟨x,H1,I1,r1,q1⟩=>?_)
 obtain⟨c,rfl,q1⟩:=q1
 cases r1
 refine wpAny_truthy_bool ?_
 cases c with
 |false=>exact hb γ s1 σ H1 Q I1 q1
 |true=>exact⟨.bl true,H1,I1,rfl,q1⟩
noncomputable def tIf(t:TT)(ta tb:TE):TE:=fun σ H Q=>t σ H fun c H1=>if c=true then ta σ H1 Q else tb σ H1 Q
def KC(hc:PT X c tA)(ha:PE X a ta)(hb:PE X b tb):PE X (.IfExp c a b pos) (tIf tA ta tb):=by
 intro γ s σ H Q I h
 refine wpAny_IfExp (cB (hc γ s σ H _ I h) fun d s1⟨H1,I1,q1⟩=>?_)
 cases d with
 |true=>exact ha γ s1 σ H1 Q I1 q1
 |false=>exact hb γ s1 σ H1 Q I1 q1
end
def jB(K:QQq)(H:Hp)(a:Addr)(xs:List V):Prop:=
 Rd H a (.lst xs)\/
  ∃(o:Obj)(its:Array Value)(n:Nat),K.lookup a=some o/\o.cls=.type "list"/\o.dict=none/\o.data=.seq its n/\its.size<=sizeLine/\Vals xs its.toList
def ju(K:QQq)(H:Hp)(a:Addr)(xs:List V):Prop:=
 Rd H a (.tup xs)\/
  ∃(o:Obj)(its:Array Value)(n:Nat),K.lookup a=some o/\o.cls=.type "tuple"/\o.dict=none/\o.data=.seq its n/\its.size<=sizeLine/\Vals xs its.toList
noncomputable def agA:Value->Option V
 |.none=>some .non
 |.bool b=>some (.bl b)
 |.int i _=>some (.int i)
 |.str x _=>some (.str x)
 |.ref a=>some (.ref a)
 |.type n=>some (.ty n)
 |_=>none
def RelV.abs{u:Value}(r:RelV x u):agA u=some x:=by
 cases x with
 |non=>cases r;rfl
 |bl _=>cases r;rfl
 |int _=>obtain⟨t,rfl⟩:=r;rfl
 |str _=>obtain⟨t,rfl⟩:=r;rfl
 |ref _=>cases r;rfl
 |ty _=>cases r;rfl
def RelV.inj{x y:V}{u:Value}(r:RelV x u)(q:RelV y u):x=y:=QEq (r.abs.symm.trans q.abs)
theorem Vals.inj:∀{xs ys:List V}{us:List Value},Vals xs us->Vals ys us->xs=ys
 |_,_,_,.nil,.nil=>rfl
 |_,_,_,.cons r t,.cons r' t'=>by rw[r.inj r',Vals.inj t t']
section
variable{X:Cx}{γ:QQz}{σ:St}{H:Hp}{s:Shared}{a:Addr}{xs ys:List V}
def Inv.list(I:Inv X γ σ H s)(h:jB X.K H a xs):∃its:List Value,Vals xs its/\PlainL s.heap a its.toArray/\xs.length<=sizeLine:=by
 rcases h with h|⟨o,its,n,hk,hc,hd,hs,hz,r⟩
 ·obtain⟨z,its,n,r,e⟩:=h.ok I.hok
  exact⟨its,r,⟨_,n,e,rfl,rfl,rfl⟩,z⟩
 ·refine⟨its.toList,r,⟨o,n,I.ZQ a o hk,hc,hd,by simpa using hs⟩,?_⟩
  have e:=r.length
  simp only[Array.length_toList]at e
  omega
def Inv.Am(I:Inv X γ σ H s)(h:ju X.K H a xs):∃its:List Value,Vals xs its/\TupOk s.heap a its.toArray/\xs.length<=sizeLine:=by
 rcases h with h|⟨o,its,n,hk,hc,hn,hs,hz,r⟩
 ·obtain⟨z,its,r,p⟩:=h.ok I.hok
  exact⟨its,r,p,z⟩
 ·refine⟨its.toList,r,⟨o,I.ZQ a o hk,hc,hn,n,by simpa using hs⟩,?_⟩
  have e:=r.length
  simp only[Array.length_toList]at e
  omega
def Inv.tuple(I:Inv X γ σ H s)(h:ju X.K H a xs):∃its:List Value,Vals xs its/\IsTup s.heap a its.toArray/\xs.length<=sizeLine:=by
 obtain⟨its,r,p,z⟩:=I.Am h
 exact⟨its,r,p.is,z⟩
def Inv.zq(I:Inv X γ σ H s)(h:jB X.K H a xs)(h':jB X.K H a ys):xs=ys:=by
 obtain⟨its,r,⟨o,n,e,_,_,d⟩,_⟩:=I.list h
 obtain⟨its',r',⟨o',n',e',_,_,d'⟩,_⟩:=I.list h'
 rw[e]at e';cases e'
 rw[d]at d'
 injection d' with d1 _
 have:its=its':=by simpa using congrArg Array.toList d1
 subst this
 exact r.inj r'
def Inv.uD(I:Inv X γ σ H s)(h:ju X.K H a xs)(h':ju X.K H a ys):xs=ys:=by
 obtain⟨its,r,⟨o,e,_,n,d⟩,_⟩:=I.tuple h
 obtain⟨its',r',⟨o',e',_,n',d'⟩,_⟩:=I.tuple h'
 rw[e]at e';cases e'
 rw[d]at d'
 injection d' with d1 _
 have:its=its':=by simpa using congrArg Array.toList d1
 subst this
 exact r.inj r'
end
abbrev Cx.wish(X:Cx)(E:QZq):Cx:={X with xe:=E}
abbrev Cx.nox(X:Cx):Cx:=X.wish fun _ _=>False
theorem Cx.Ok.wish{X:Cx}(ok:X.Ok)E:(X.wish E).Ok:=
 ⟨ok.mod,ok.kind,ok.glob,ok.blt,ok.above,ok.inj,ok.has,ok.cab,ok.hd,ok.frames,ok.stk,ok.exf,ok.bs,ok.bsz,ok.noex,ok.exfs,ok.lO,ok.frf⟩
def Cx.Ok.jG{X:Cx}(ok:(X.wish E).Ok):X.Ok:=
 ⟨ok.mod,ok.kind,ok.glob,ok.blt,ok.above,ok.inj,ok.has,ok.cab,ok.hd,ok.frames,ok.stk,ok.exf,ok.bs,ok.bsz,ok.noex,ok.exfs,ok.lO,ok.frf⟩
section
variable{X:Cx}{γ:QQz}{σ:St}{H:Hp}{s:Shared}{E:QZq}
theorem Inv.wish(I:Inv X γ σ H s)E:Inv (X.wish E) γ σ H s:=⟨I.ok.wish E,I.os,I.bare,I.base,I.loc,I.cell,I.free,I.freeC,I.pin,I.hok,I.len⟩
theorem Inv.jG(I:Inv (X.wish E) γ σ H s):Inv X γ σ H s:=⟨I.ok.jG,I.os,I.bare,I.base,I.loc,I.cell,I.free,I.freeC,I.pin,I.hok,I.len⟩
theorem SP.jG{f:Flow}(h:SP (X.wish E) γ D f s'):SP X γ D f s':=by
 cases f with
 |next=>obtain⟨ζ,H',I,q⟩:=h;exact⟨ζ,H',I.jG,q⟩
 |brk=>obtain⟨ζ,H',I,q⟩:=h;exact⟨ζ,H',I.jG,q⟩
 |cont=>obtain⟨ζ,H',I,q⟩:=h;exact⟨ζ,H',I.jG,q⟩
 |ret u=>obtain⟨v,ζ,H',I,r,q⟩:=h;exact⟨v,ζ,H',I.jG,r,q⟩
theorem xU.nox{st:List Stmt}(h:xU X.nox st t):xU X st t:=fun γ s σ H D I hw=>
 QGq (h γ s σ H D (I.wish _) hw) (fun _ _ q=>q.jG) fun _ _ z=>False.elim z
end
section
variable{X:Cx}{st:Stmt}{rest:List Stmt}{t u:TS}{e:Expr}{te:TE}{pos:Pos}
def aaT:TS:=fun D σ H=>D.nx σ H
def aaN(t u:TS):TS:=fun D σ H=>t {D with nx:=u D} σ H
def QF:xU X [] aaT:=fun _ _ σ H _ I h=>wpAny_execs_nil ⟨σ,H,I,h⟩
def Kg(h1:PS X st t)(h2:xU X rest u):xU X (st::rest) (aaN t u):=by
 intro γ s σ H D I h
 refine wpAny_execs_cons (cB (h1 γ s σ H {D with nx:=u D} I h) fun f s1 q=>?_)
 cases f with
 |next=>
  obtain⟨ζ,H',I',q⟩:=q
  exact h2 γ s1 ζ H' D I' q
 |ret v=>exact q
 |brk=>exact q
 |cont=>exact q
def Inv.quiet{σ:St}{H:Hp}(I:Inv X γ σ H s):interactive X.env=false:=by simp[interactive,I.ok.kind]
def aaW(te:TE):TS:=fun D σ H=>te σ H fun _ H1=>D.nx σ H1
def wD(he:PE X e te)(hs:swapsWith e none pos.line X.env=pure false:=by rfl):PS X (.Expr e pos) (aaW te):=by
 intro γ s σ H D I h
 exact wpAny_Expr_any (cB (he γ s σ H _ I h) fun v s1⟨x,H1,I1,r1,q1⟩=>⟨σ,H1,I1,q1⟩) I.quiet hs
def aaP(te:TE):TS:=fun D σ H=>te σ H D.rt
def oM(he:PE X e te):PS X (.Return (some e) pos) (aaP te):=by
 intro γ s σ H D I h
 exact wpAny_Return_some (cB (he γ s σ H _ I h) fun v s1⟨x,H1,I1,r1,q1⟩=>⟨x,σ,H1,I1,r1,q1⟩)
def aaO:TS:=fun D _ H=>D.rt .non H
def QG:PS X (.Return none pos) aaO:=fun _ _ σ H _ I h=>wpAny_Return_none ⟨.non,σ,H,I,rfl,h⟩
def aeh(c:TT)(t u:TS):TS:=fun D σ H=>c σ H fun b H1=>if b=true then t D σ H1 else u D σ H1
def abG{a b:List Stmt}(hc:PT X c tc)(ha:xU X a t)(hb:xU X b u):PS X (.If c a b pos) (aeh tc t u):=by
 intro γ s σ H D I h
 refine wpAny_If (cB (hc γ s σ H _ I h) fun d s1⟨H1,I1,q1⟩=>?_)
 cases d with
 |true=>exact ha γ s1 σ H1 D I1 q1
 |false=>exact hb γ s1 σ H1 D I1 q1
end
abbrev TG:=V->St->Hp->(St->Hp->Prop)->Prop
abbrev Y8:=List V->St->Hp->(St->Hp->Prop)->Prop
def PG(X:Cx)(target:Expr)(t:TG):Prop:=
 ∀(γ:QQz)(s:Shared)(σ:St)(H:Hp)(v:V)(u:Value)(Q:St->Hp->Prop),Inv X γ σ H s->RelV v u->t v σ H Q->
  wpAny (model X.prog X.w) X.A (assign target X.env u) (fun _ s'=>∃ζ H',Inv X γ ζ H' s'/\Q ζ H') X.xe s
def PGs(X:Cx)(ts:List Expr)(t:Y8):Prop:=
 ∀(γ:QQz)(s:Shared)(σ:St)(H:Hp)(vs:List V)(us:List Value)(Q:St->Hp->Prop),Inv X γ σ H s->Vals vs us->t vs σ H Q->
  wpAny (model X.prog X.w) X.A (assignInOrder ((assignEach ts X.env).map (·.2)) us) (fun _ s'=>∃ζ H',Inv X γ ζ H' s'/\Q ζ H') X.xe s
abbrev ac5:=V->V->V->Hp->(Hp->Prop)->Prop
def Jb(X:Cx)(t:ac5):Prop:=
 ∀(γ:QQz)(s:Shared)(σ:St)(H:Hp)(o i v:V)(ov iv u:Value)(Q:Hp->Prop),Inv X γ σ H s->RelV o ov->RelV i iv->RelV v u->t o i v H Q->
  wpAny (model X.prog X.w) X.A (setItem ov iv u) (fun _ s'=>∃H',Inv X γ σ H' s'/\Q H') X.xe s
section
variable{X:Cx}{pos:Pos}
def U7(i:Nat):TG:=fun v σ H Q=>Q (σ.set i (some v)) H
def QM{x:Str}(hN:X.N.Nodup)(hi:X.N[i]? =some x)(hx:Loc X.env.scope x)(hf:X.fn x=true\/X.env.scope.names.lookup x=some .local:=by first|exact .inl rfl|exact .inr rfl|assumption):PG X (.Name x pos) (U7 i):=by
 intro γ s σ H v u Q I r h
 exact wpAny_assign_Name (yw I hN hi hx r (fun s' I'=>⟨_,H,I',h⟩) hf)
def aga:Y8:=fun vs σ H Q=>vs=[]/\Q σ H
def acF(t:TG)(u:Y8):Y8:=fun vs σ H Q=>∃v r,vs=v::r/\t v σ H fun ζ H'=>u r ζ H' Q
def QL:PGs X [] aga:=by
 intro γ s σ H vs us Q I r h
 obtain⟨e,h⟩:=h
 subst e
 cases r
 exact assignInOrder_nil ⟨σ,H,I,h⟩
theorem Kq{es:List Expr}{u:Y8}(h1:PG X e t)(h2:PGs X es u)
  (hs:(assignEach (e::es) X.env).map (·.2)=assign e X.env::(assignEach es X.env).map (·.2):=by rfl):PGs X (e::es) (acF t u):=by
 intro γ s σ H vs us Q I r h
 obtain⟨v,vr,e1,h⟩:=h
 subst e1
 cases r with
 |cons r rr=>
  rw[hs]
  exact assignInOrder_cons (cB (h1 γ s σ H _ _ _ I r h) fun _ s1⟨ξ,H1,I1,q1⟩=>h2 γ s1 ξ H1 _ _ Q I1 rr q1)
noncomputable def af8(K:QQq)(n:Nat)(t:Y8):TG:=fun v σ H Q=>∃a xs,v=.ref a/\ju K H a xs/\xs.length=n/\t xs σ H Q
def WX{k:Nat}{t:Y8}(hc:X.calm=true)(h:PGs X es t)
  (hn:(assignEach es X.env).length=n:=by rfl)(hst:(assignEach es X.env).findIdx? (·.1)=none:=by rfl):PG X (.Tuple es k pos) (af8 X.K n t):=by
 intro γ s σ H v u Q I r hw
 obtain⟨a,xs,e1,hq,hl,hw⟩:=hw
 subst e1
 cases r
 obtain⟨its,rv,ht,hz⟩:=I.tuple hq
 exact assign_Tuple_tuple (I.ok.hd hc) ht (by simp[hn,<-hl,rv.length]) hst fun h' hx=>h γ _ σ H xs _ Q (I.kept (t':=s.toks) fun b o e=>hx b o (Qvz (Qqz e)) e) (by simpa using rv) hw
noncomputable def af9(to ti:TE)(t:ac5):TG:=fun v σ H Q=>to σ H fun o H1=>ti σ H1 fun i H2=>t o i v H2 fun H3=>Q σ H3
def WY{to ti:TE}(ho:PE X o to)(hi:PE X i ti)(hs:Jb X t)
  (ha:∀v,assign (.Subscript o i pos) X.env v=(do
   let ov<-holding [v] (eval o X.env)
   let iv<-holding [v,ov] (eval i X.env)
   standAt pos
   holding [v,ov,iv] (setItem ov iv v)
   release [v,ov,iv] []):=by intro _;rfl):PG X (.Subscript o i pos) (af9 to ti t):=by
 intro γ s σ H v u Q I r h
 refine QKq (Qqq (cB (ho γ s σ H _ I h) fun ov s1⟨x,H1,I1,r1,q1⟩=>?_))
 exact QKq (Qqq (cB (hi γ s1 σ H1 _ I1 q1) fun iv s2⟨y,H2,I2,r2,q2⟩=>QKq (wpAny_standAt (QKq (Qqq (cB (hs γ s2 σ H2 x y v ov iv u _ I2 r1 r2 r q2) fun _ s3⟨H3,I3,q3⟩=>wpAny_release ⟨σ,H3,I3,q3⟩))))))
def aaY(te:TE)(g:TG):TS:=fun D σ H=>te σ H fun x H1=>g x σ H1 D.nx
def Km{te:TE}(he:PE X e te)(hg:PG X tg g)(hs:swapsWithSole [tg] e pos.line X.env=pure false:=by rfl)(hw:swappedStores [tg] e X.env=pure none:=by rfl)
  (h1:(assignEach [tg] X.env).map (·.2)=[assign tg X.env]:=by rfl):PS X (.Assign [tg] e pos) (aaY te g):=by
 intro γ s σ H D I h
 refine wpAny_Assign_stores (cB (he γ s σ H _ I h) fun v s1⟨x,H1,I1,r1,q1⟩=>?_) hs hw
 rw[h1]
 exact cB (hg γ s1 σ H1 x v _ I1 r1 q1) fun _ s2 q=>q
def WT{x:Str}{te:TE}(hN:X.N.Nodup)(hi:X.N[i]? =some x)(hx:Loc X.env.scope x)(he:PE X e te)(hs:swapsWith e (some (.Name x pos')) pos.line X.env=pure false:=by rfl)(hf:X.fn x=true\/X.env.scope.names.lookup x=some .local:=by first|exact .inl rfl|exact .inr rfl|assumption):
  PS X (.Assign [.Name x pos'] e pos) (aaY te (U7 i)):=by
 intro γ s σ H D I h
 exact wpAny_Assign_Name (cB (he γ s σ H _ I h) fun v s1⟨y,H1,I1,r1,q1⟩=>yw I1 hN hi hx r1 (fun s2 I2=>⟨_,H1,I2,q1⟩) hf) hs
end
section
variable{X:Cx}{pos:Pos}
noncomputable def V4(c:TT)(tb:TS):TS:=fun D σ H=>∃W:Nat->St->Hp->Prop,(∃m,W m σ H)/\∀m σ H,W m σ H->
 c σ H fun b H1=>if b=true then∃N:St->Hp->Prop,(∀ζ H',N ζ H'->∃m',m'<m/\W m' ζ H')/\tb {D with nx:=N,ct:=N,bk:=D.nx} σ H1 else D.nx σ H1
def Kl{body:List Stmt}{tb:TS}(hp:PassesOwn (model X.prog X.w) X.A X.env X.xe)(hc:PT X c tc)(hb:xU X body tb):PS X (.While c body [] pos) (V4 tc tb):=by
 intro γ s σ H D I h
 obtain⟨W,⟨m0,w0⟩,turn⟩:=h
 refine wpAny_While (codeAny_whileLoop (fun n s'=>∃ζ H',Inv X γ ζ H' s'/\W n ζ H') ?_ m0 ⟨σ,H,I,w0⟩)
 rintro n s1 ⟨ξ,H1,I1,w1⟩
 refine wpAny_passesOwn hp (cB (hc γ s1 ξ H1 _ I1 (turn n ξ H1 w1)) fun b s2⟨H2,I2,q2⟩=>?_)
 cases b with
 |true=>
  obtain⟨N,hN,q2⟩:=q2
  refine wpAny_passesOwn hp (cB (hb γ s2 ξ H2 _ I2 q2) fun f s3 q3=>?_)
  cases f with
  |next=>
   obtain⟨σ3,H3,I3,n3⟩:=q3
   obtain⟨m',hm,w3⟩:=hN σ3 H3 n3
   exact⟨m',hm,σ3,H3,I3,w3⟩
  |cont=>
   obtain⟨σ3,H3,I3,n3⟩:=q3
   obtain⟨m',hm,w3⟩:=hN σ3 H3 n3
   exact⟨m',hm,σ3,H3,I3,w3⟩
  |brk=>exact q3
  |ret v=>exact q3
 |false=>
  exact wpAny_execs_nil ⟨ξ,H2,I2,q2⟩
end
structure It where
 go:Nat->Hp->Prop
 yld:Nat->Hp->V->Hp->Prop
 stop:Nat->Hp->Prop
def fY(X:Cx)(γ:QQz)(H:Hp)(b:Addr):Prop:=
 H b=none/\b≠X.env.locals/\b∉X.fs/\(b∈X.ex\/X.s₀.heap.objs.size<=b)/\(∀x c,X.env.cells.lookup x=some c->c≠b)/\∀p∈X.pn++γ,p.1≠b
def Inv.zJ{X:Cx}{σ:St}{H H':Hp}{b:Addr}(I:Inv X γ σ H s)(hb:s.heap.objs.size<=b)(hn:H' b=none):fY X γ H' b:=by
 refine⟨hn,Nat.ne_of_gt (Qvq I.lt hb),I.afp hb,.inr (Nat.le_trans I.sz hb),fun x c e z=>?_,fun p hp z=>?_⟩
 ·obtain⟨v,q⟩:=I.cell x c e
  exact absurd (Qvq q.lt (by rw[z];exact hb)) (Nat.lt_irrefl _)
 ·exact absurd (Qvq (Qqz (I.pin p hp).1) (by rw[z];exact hb)) (Nat.lt_irrefl _)
structure Turn(P:Program)(w:World)(K:QQq)(tg:Expr)(J:It)(fp:List Addr)(it:Addr)(tn:Nat->Heap->Prop):Prop where
 mem:it∈fp
 obj:∀i h,tn i h->∀b∈fp,∃o,h.get? b=some o/\∀v,o.data≠ .cell v
 keep:∀i h h',tn i h->(∀b∈fp,∀o,h.get? b=some o->h'.get? b=some o)->tn i h'
 item:∀(X:Cx),X.prog=P->X.w=w->X.K=K->X.calm=true->∀(i:Nat)(γ:QQz)(s:Shared)(σ:St)(H:Hp)(E:QZq),Inv X γ σ H s->(∀b∈fp,fY X γ H b)->tn i s.heap->J.go i H->
  wpAny (model P w) X.A (pyNext (.ref it)) (fun r s1=>∃u,r=some u/\
   wpAny (model P w) X.A (letOwnedTupleGo tg (.ref it) u) (fun _ s2=>∃x H',Inv X γ σ H' s2/\RelV x u/\J.yld i H x H'/\tn (i+1) s2.heap/\∀b∈fp,H' b=none) E s1) E s
 done:∀(X:Cx),X.prog=P->X.w=w->X.K=K->X.calm=true->∀(i:Nat)(γ:QQz)(s:Shared)(σ:St)(H:Hp)(E:QZq),Inv X γ σ H s->(∀b∈fp,fY X γ H b)->tn i s.heap->J.stop i H->
  wpAny (model P w) X.A (pyNext (.ref it)) (fun r s1=>r=none/\Inv X γ σ H s1) E s
 self:∀(A:Around)(i:Nat)(s:Shared)(Q:QZq)(E:QZq),tn i s.heap->Q (.ref it) s->wpAny (model P w) A (pyIter (.ref it)) Q E s
abbrev TI:=St->Hp->(It->Hp->Prop)->Prop
def PIE(X:Cx)(γ:QQz)(σ:St)(tg:Expr)(R:It->Hp->Prop)(itv:Value)(s2:Shared):Prop:=
 ∃(it:Addr)(fp:List Addr)(tn:Nat->Heap->Prop)(J:It)(H':Hp),itv=.ref it/\Inv X γ σ H' s2/\Turn X.prog X.w X.K tg J fp it tn/\tn 0 s2.heap/\(∀b∈fp,fY X γ H' b)/\R J H'
def PI(X:Cx)(tg iter:Expr)(wi:TI):Prop:=
 ∀(γ:QQz)(s:Shared)(σ:St)(H:Hp)(R:It->Hp->Prop),Inv X γ σ H s->wi σ H R->
  wpAny (model X.prog X.w) X.A (eval iter X.env) (fun v s1=>wpAny (model X.prog X.w) X.A (pyIter v) (PIE X γ σ tg R) X.xe s1) X.xe s
def Fx {A : Around} {s : Shared} {it : Addr} {o : Obj} {vs : Array Value} (ho : s.heap.get? it = some o) (hc : o.cls = .type n) (hd : o.data = .fields vs)
    (hn : ["enumerate", "zip", "dict_itemiterator", "dict_reverseitemiterator", "odict_iterator", "itertools.zip_longest", "itertools.pairwise"].contains n = false) (hQ : Q () s) : wpAny M A (letOwnedTupleGo tg (.ref it) u) Q E s := by
  cases tg <;> first
    | exact QKz hQ
    | (cases u <;> first
        | exact QKz hQ
        | (refine QKq (wpAny_load ho ?_)
           rw [hc, hd]
           show wpAny M A (if _ = true then _ else _) Q E s
           rw [if_neg (by intro h; rw [hn, Bool.false_and] at h; cases h)]
           exact QKz hQ))
noncomputable def Itl(K:QQq)(a:Addr):It:=
 ⟨fun i H=>∃xs x,jB K H a xs/\xs[i]? =some x,fun i H x H'=>H'=H/\∀xs,jB K H a xs->xs[i]? =some x,fun i H=>∃xs,jB K H a xs/\xs.length<=i⟩
noncomputable def Itt(K:QQq)(a:Addr):It:=
 ⟨fun i H=>∃xs x,ju K H a xs/\xs[i]? =some x,fun i H x H'=>H'=H/\∀xs,ju K H a xs->xs[i]? =some x,fun i H=>∃xs,ju K H a xs/\xs.length<=i⟩
noncomputable def Itr(lo:Int)(n:Nat):It:=⟨fun i _=>i<n,fun i H x H'=>H'=H/\x=.int (lo+i),fun i _=>n<=i⟩
theorem Gz{w:World}{K:QQq}a it:Turn P w K tg (Itl K a) [it] it (fun i h=>h.IsListIter it a i) where
 mem:=by simp
 obj:=fun i h st b hb=>by
  have e:b=it:=by simpa using hb
  subst e
  obtain⟨o,e,c,d⟩:=st
  exact⟨o,e,fun v z=>by rw[d]at z;cases z⟩
 keep:=fun i h h' st k=>st.at fun o e=>k it (by simp) o e
 item:=by
  intro X hP hw hK hc i γ s σ H E I hf st hg
  subst hP hw hK
  obtain⟨xs,x,hq,hx⟩:=hg
  obtain⟨its,rv,p,hz⟩:=I.list hq
  obtain⟨u,hu,ru⟩:=rv.get hx
  obtain⟨f0,f1,f2,f3,f4,f5⟩:=hf it (by simp)
  refine wpAny_pyNext_list_item st p.isList (by simpa using hu) fun h' st' sb=>?_
  obtain⟨o,e,c,d⟩:=id st'
  exact⟨u,rfl,Fx e c d (by decide) ⟨x,H,I.turned (t':=s.toks) (fun b o hb e=>(sb.2 b hb).trans e) f0 f1 f3 f4 f5,ru,⟨rfl,fun ys hy=>by rw[I.zq hy hq];exact hx⟩,st',fun b hb=>(hf b hb).1⟩⟩
 done:=by
  intro X hP hw hK hc i γ s σ H E I hf st hg
  subst hP hw hK
  obtain⟨xs,hq,hx⟩:=hg
  obtain⟨its,rv,p,hz⟩:=I.list hq
  obtain⟨f0,f1,f2,f3,f4,f5⟩:=hf it (by simp)
  have hl:=rv.length
  exact wpAny_pyNext_list_end (I.ok.hd hc) st p.isList (by simp;omega) fun h' eb=>⟨rfl,I.turned (fun b o hb e=>eb b o hb e) f0 f1 f3 f4 f5⟩
 self:=fun _ _ _ _ _ st h=>wpAny_pyIter_listiter st h
theorem Aj{w:World}{K:QQq}a it:Turn P w K tg (Itt K a) [it] it (fun i h=>h.IsTupleIter it a i) where
 mem:=by simp
 obj:=fun i h st b hb=>by
  have e:b=it:=by simpa using hb
  subst e
  obtain⟨o,e,c,d⟩:=st
  exact⟨o,e,fun v z=>by rw[d]at z;cases z⟩
 keep:=fun i h h' st k=>st.at fun o e=>k it (by simp) o e
 item:=by
  intro X hP hw hK hc i γ s σ H E I hf st hg
  subst hP hw hK
  obtain⟨xs,x,hq,hx⟩:=hg
  obtain⟨its,rv,p,hz⟩:=I.tuple hq
  obtain⟨u,hu,ru⟩:=rv.get hx
  obtain⟨f0,f1,f2,f3,f4,f5⟩:=hf it (by simp)
  refine wpAny_pyNext_tuple_item st (p) (by simpa using hu) fun h' st' sb=>?_
  obtain⟨o,e,c,d⟩:=id st'
  exact⟨u,rfl,Fx e c d (by decide) ⟨x,H,I.turned (t':=s.toks) (fun b o hb e=>(sb.2 b hb).trans e) f0 f1 f3 f4 f5,ru,⟨rfl,fun ys hy=>by rw[I.uD hy hq];exact hx⟩,st',fun b hb=>(hf b hb).1⟩⟩
 done:=by
  intro X hP hw hK hc i γ s σ H E I hf st hg
  subst hP hw hK
  obtain⟨xs,hq,hx⟩:=hg
  obtain⟨its,rv,p,hz⟩:=I.tuple hq
  obtain⟨f0,f1,f2,f3,f4,f5⟩:=hf it (by simp)
  have hl:=rv.length
  exact wpAny_pyNext_tuple_end (I.ok.hd hc) st (p) (by simp;omega) fun h' eb=>⟨rfl,I.turned (fun b o hb e=>eb b o hb e) f0 f1 f3 f4 f5⟩
 self:=fun _ _ _ _ _ st h=>wpAny_pyIter_tupleiter st h
theorem Ak{w:World}{K:QQq}it lo n:Turn P w K tg (Itr lo n) [it] it (fun i h=>IsRangeIter h it (lo+(i:Nat)*1) ((n:Int)- (i:Nat)) 1) where
 mem:=by simp
 obj:=fun i h st b hb=>by
  have e:b=it:=by simpa using hb
  subst e
  exact⟨_,st,fun v z=>by
   cases z⟩
 keep:=fun i h h' st k=>k it (by simp) _ st
 item:=by
  intro X hP hw hK hc i γ s σ H E I hf st hg
  subst hP hw hK
  obtain⟨f0,f1,f2,f3,f4,f5⟩:=hf it (by simp)
  refine(Walks.range (prog:=X.prog) (w:=X.w) (I.ok.hd hc) it lo 1 n).item i s _ _ hg st fun v h' tk hv st' kk=>?_
  obtain⟨t,rfl⟩:=hv
  refine⟨_,rfl,Fx st' rfl rfl (by decide) ⟨.int _,H,(I.turned (fun b o hb e=>kk b o (by simpa using hb) e) f0 f1 f3 f4 f5),⟨t,?_⟩,⟨rfl,rfl⟩,st',fun b hb=>(hf b hb).1⟩⟩
  rw[Int.mul_one]
 done:=by
  intro X hP hw hK hc i γ s σ H E I hf st hg
  obtain⟨f0,f1,f2,f3,f4,f5⟩:=hf it (by simp)
  exact wpAny_pyNext_range_end (I.ok.hd hc) st (by have:n<=i:=hg;omega) fun h' eb=>⟨rfl,I.turned (fun b o hb e=>eb b o hb e) f0 f1 f3 f4 f5⟩
 self:=fun _ _ _ _ _ st h=>wpAny_pyIter_rangeiter st h
section
variable{X:Cx}{tg:Expr}
def J0{σ:St}{H:Hp}{R:It->Hp->Prop}{lo hi:Int}{tk:Nat}(I:Inv X γ σ H s)(h1: -(2 ^62)<=lo)(h2:lo<2 ^62)(h3: -(2 ^62)<=hi)(h4:hi<2 ^62)
  (q:R (Itr lo (hi-lo).toNat) H):wpAny (model X.prog X.w) X.A (pyIter (.ref s.heap.objs.size)) (PIE X γ σ tg R) E {s with heap:=s.heap.push {cls:=.type "range",data:=.fields #[.int lo t,.int hi u,.int 1 v]},toks:=tk}:=by
 refine wpAny_pyIter_range (IsRange.new ..) (small_one h1 h2 h3 h4) ?_
 have I1:Inv X γ σ H {s with heap:=s.heap.push {cls:=.type "range",data:=.fields #[.int lo t,.int hi u,.int 1 v]},toks:=tk}:=I.kept fun b o e=>QWq _ e
 refine⟨(s.heap.push {cls:=.type "range",data:=.fields #[.int lo t,.int hi u,.int 1 v]}).objs.size,[(s.heap.push {cls:=.type "range",data:=.fields #[.int lo t,.int hi u,.int 1 v]}).objs.size],_,_,H,rfl,
  I1.kept fun b o e=>QWq _ e,Ak _ lo (hi-lo).toNat,?_,fun b hb=>?_,q⟩
 ·have e1:lo+((0:Nat))*1=lo:=by simp
  have e2:(((hi-lo).toNat:Nat))- ((0:Nat))=Builtin.Range.rangeSize lo hi 1:=by rw[rangeSize_one];split<;>omega
  rw[e1,e2]
  exact Qzq _ rfl
 ·have e:b=(s.heap.push {cls:=.type "range",data:=.fields #[.int lo t,.int hi u,.int 1 v]}).objs.size:=by simpa using hb
  subst e
  exact I1.zJ (QVz _) (I1.hok.fresh (QVz _))
noncomputable def acv(ta:TA):TI:=fun σ H R=>ta σ H fun vs H1=>∃j:Int,vs=[.int j]/\ -(2 ^62)<=j/\j<2 ^62/\R (Itr 0 j.toNat) H1
def Hl{ta:TA}(hg:Gl X "range")(hm:X.mg "range"=none)(ha:PA X [a] ta)(hs:starEach [a] X.env=[(false,eval a X.env)]:=by rfl):PI X tg (.Call (.Name "range" p) [a] [] pos) (acv ta):=by
 intro γ s σ H R I h
 refine Call_ (iZ I hg hm boot_range (PyProof.Rows.callWith_type1 (cB (ha pos γ s σ H _ I h) fun us s1⟨vs,H1,I1,r1,q1⟩=>?_) hs rfl))
 obtain⟨j,e,q1,q2,q⟩:=q1
 subst e
 cases r1 with
 |cons r rr=>
  cases rr
  obtain⟨t,rfl⟩:=r
  exact call_range_1 (J0 I1 (by omega) (by omega) q1 q2 (by simpa using q))
noncomputable def aei(wi:TI)(g:TG)(tb:TS):TS:=fun D σ H=>wi σ H fun J H1=>∃W:Nat->Nat->St->Hp->Prop,(∃m,W 0 m σ H1)/\∀i m σ H,W i m σ H->
 (J.stop i H/\D.nx σ H)\/(J.go i H/\∃N:St->Hp->Prop,(∀ζ H',N ζ H'->∃m',m'<m/\W (i+1) m' ζ H')/\∀x H',J.yld i H x H'->g x σ H' fun υ H2=>tb {D with nx:=N,ct:=N,bk:=D.nx} υ H2)
noncomputable def rB(fp:List Addr)(h:Heap):List (Addr×Obj):=fp.filterMap fun b=>(h.get? b).map fun o=>(b,o)
def iY{h:Heap}{o:Obj}(hb:b∈fp)(e:h.get? b=some o):(b,o)∈rB fp h:=List.mem_filterMap.mpr ⟨b,hb,by rw[e];rfl⟩
def Hr{h:Heap}(hp:p∈rB fp h):p.1∈fp/\h.get? p.1=some p.2:=by
 obtain⟨b,hb,e⟩:=List.mem_filterMap.mp hp
 cases q:h.get? b with
 |none=>rw[q]at e;cases e
 |some o=>
  rw[q]at e
  have e':=QEq e
  subst e'
  exact⟨hb,q⟩
def Inv.pinned{σ:St}{s:Shared}(I:Inv X γ σ H s)(hf:∀b∈fp,fY X γ H b)(ho:∀b∈fp,∃o,s.heap.get? b=some o/\∀v,o.data≠ .cell v):Inv X (γ++rB fp s.heap) σ H s:=
 I.Eh fun p hp=>(QXz.mp hp).elim (fun z=>I.pin p (QVq _ z)) fun z=>by
  obtain⟨hb,e⟩:=Hr z
  obtain⟨f0,f1,f2,_⟩:=hf p.1 hb
  obtain⟨o,e',d⟩:=ho p.1 hb
  rw[e]at e';cases e'
  exact⟨e,f0,f1,f2,d⟩
def Inv.mK{σ:St}{H:Hp}(I:Inv X (γ++pl) σ H s):Inv X γ σ H s:=I.Eh fun p hp=>I.pin p (QVq _ (QWz _ hp))
theorem WW{body:List Stmt}{g:TG}{pos:Pos}(hp:PassesOwn (model X.prog X.w) X.A X.env X.xe)(hc:X.calm=true)(hi:PI X tg iter wi)(hg:PG X tg g)(hb:xU X body tb)
  (hs:∀x,foldedSetIterable iter X.env x=pure x:=by intro _;rfl):PS X (.For tg iter body [] pos) (aei wi g tb):=by
 intro γ s σ H D I h
 refine wpAny_For (cB (hi γ s σ H _ I h) fun v s1 h1=>cB h1 fun itv s2 h2=>?_) hs
 obtain⟨it,fp,tn,J,H2,e,I2,T,st2,f2,W,⟨m0,w0⟩,turn⟩:=h2
 subst e
 have stat:∀{H':Hp},(∀b∈fp,H' b=none)->∀b∈fp,fY X γ H' b:=fun hn b hb=>⟨hn b hb,(f2 b hb).2⟩
 refine codeAny_forLoop_any (fun n s'=>∃i ζ H',Inv X γ ζ H' s'/\tn i s'.heap/\(∀b∈fp,H' b=none)/\W i n ζ H') ?_ m0 ⟨0,σ,H2,I2,st2,fun b hb=>(f2 b hb).1,w0⟩
 rintro n s3 ⟨i,σ3,H3,I3,st3,fr3,w3⟩
 rcases turn i n σ3 H3 w3 with ⟨stop,qn⟩|⟨go,N,hN,step⟩
 ·refine wpAny_passesOwn hp (cB (T.done X rfl rfl rfl hc i γ s3 σ3 H3 X.xe I3 (stat fr3) st3 stop) fun r s4⟨hr,I4⟩=>?_)
  subst hr
  exact wpAny_execs_nil ⟨σ3,H3,I4,qn⟩
 ·refine wpAny_passesOwn hp (cB (T.item X rfl rfl rfl hc i γ s3 σ3 H3 X.xe I3 (stat fr3) st3 go) fun r s4⟨u,hr,h4⟩=>?_)
  subst hr
  refine wpAny_passesOwn hp (cB h4 fun _ s5⟨x,H5,I5,r5,y5,st5,fr5⟩=>?_)
  refine wpAny_passesOwn hp (cB (hg _ s5 σ3 H5 x u _ (I5.pinned (stat fr5) (T.obj _ _ st5)) r5 (step x H5 y5)) fun _ s6⟨σ6,H6,I6,q6⟩=>?_)
  refine wpAny_passesOwn hp (cB (hb _ s6 σ6 H6 _ I6 q6) fun f s7 q7=>?_)
  have again:∀{σ7:St}{H7:Hp},Inv X _ σ7 H7 s7->N σ7 H7->∃m,m<n/\∃i ζ H',Inv X γ ζ H' s7/\tn i s7.heap/\(∀b∈fp,H' b=none)/\W i m ζ H':=fun{σ7 H7}I7 n7=>by
   obtain⟨m',hm,w7⟩:=hN σ7 H7 n7
   refine⟨m',hm,i+1,σ7,H7,I7.mK,T.keep _ _ _ st5 fun b hb o e=>(I7.pin (b,o) (QVq _ (QVq _ (iY hb e)))).1,fun b hb=>?_,w7⟩
   obtain⟨o,e,d⟩:=T.obj _ _ st5 b hb
   exact(I7.pin (b,o) (QVq _ (QVq _ (iY hb e)))).2.1
  cases f with
  |next=>obtain⟨σ7,H7,I7,n7⟩:=q7;exact again I7 n7
  |cont=>obtain⟨σ7,H7,I7,n7⟩:=q7;exact again I7 n7
  |brk=>obtain⟨σ7,H7,I7,q7⟩:=q7;exact⟨σ7,H7,I7.mK,q7⟩
  |ret v=>obtain⟨x7,σ7,H7,I7,r7,q7⟩:=q7;exact⟨x7,σ7,H7,I7.mK,r7,q7⟩
end
abbrev R2:=V->V->Hp->VK->Prop
def fX(X:Cx)(f:Value->Value->Sem Value)(r:R2):Prop:=
 ∀(γ:QQz)(s:Shared)(σ:St)(H:Hp)(x y:V)(v u:Value)(Q:VK),Inv X γ σ H s->RelV x v->RelV y u->r x y H Q->
  wpAny (model X.prog X.w) X.A (f v u) (EP X γ σ Q) X.xe s
def UnR(X:Cx)(f:Value->Sem Value)(r:V->Hp->VK->Prop):Prop:=
 ∀(γ:QQz)(s:Shared)(σ:St)(H:Hp)(x:V)(v:Value)(Q:VK),Inv X γ σ H s->RelV x v->r x H Q->
  wpAny (model X.prog X.w) X.A (f v) (EP X γ σ Q) X.xe s
def fU(X:Cx)(f:Value)(r:List V->Hp->VK->Prop):Prop:=
 ∀(γ:QQz)(s:Shared)(σ:St)(H:Hp)(xs:List V)(us:List Value)(Q:VK),Inv X γ σ H s->Vals xs us->r xs H Q->
  wpAny (model X.prog X.w) X.A (call f us) (EP X γ σ Q) X.xe s
def agD(X:Cx)(r:V->Hp->(Bool->Hp->Prop)->Prop):Prop:=
 ∀(γ:QQz)(s:Shared)(σ:St)(H:Hp)(x:V)(v:Value)(Q:Bool->Hp->Prop),Inv X γ σ H s->RelV x v->r x H Q->
  wpAny (model X.prog X.w) X.A (truthy v) (TP X γ σ Q) X.xe s
def Zw(r:R2)(ta tb:TE):TE:=fun σ H Q=>ta σ H fun x H1=>tb σ H1 fun y H2=>r x y H2 Q
def tUn(r:V->Hp->VK->Prop)(ta:TE):TE:=fun σ H Q=>ta σ H fun x H1=>r x H1 Q
noncomputable def rI(C:Int->Int->Prop)(g:Int->Int->V):R2:=fun x y H Q=>∃i j,x=.int i/\y=.int j/\C i j/\Q (g i j) H
def O9(g:Int->Int->V):R2:=fun x y H Q=>∃i j,x=.int i/\y=.int j/\Q (g i j) H
def rU(g:Int->V):V->Hp->VK->Prop:=fun x H Q=>∃i,x=.int i/\Q (g i) H
section
variable{X:Cx}{a b c:Expr}{ta tb tc:TE}{pos:Pos}
def Y0(ha:PE X a ta)(hb:PE X b tb){s:Shared}{σ:St}{R:V->V->Hp->Prop}(I:Inv X γ σ H s)
  (h:ta σ H fun x H1=>tb σ H1 fun y H2=>R x y H2){f:Value->Value->Sem Value}
  (hf:∀v u s2 x y H2,Inv X γ σ H2 s2->RelV x v->RelV y u->R x y H2->wpAny (model X.prog X.w) X.A (f v u) Q X.xe s2):
  wpAny (model X.prog X.w) X.A (eval a X.env) (fun v ι=>wpAny (model X.prog X.w) X.A (eval b X.env) (fun u s₂=>wpAny (model X.prog X.w) X.A (f v u) Q X.xe s₂) X.xe ι) X.xe s:=by
 exact cB (ha γ s σ H _ I h) fun v s1⟨x,H1,I1,r1,q1⟩=>cB (hb γ s1 σ H1 _ I1 q1) fun u s2⟨y,H2,I2,r2,q2⟩=>hf v u s2 x y H2 I2 r1 r2 q2
def Ei{r:R2}(ho:fX X (binaryOp op) r)(ha:PE X a ta)(hb:PE X b tb):PE X (.BinOp a op b pos) (Zw r ta tb):=by
 intro γ s σ H Q I h
 exact wpAny_BinOp (Y0 ha hb I h fun v u s2 x y H2 I2 rx ry q=>ho γ s2 σ H2 x y v u Q I2 rx ry q)
def abJ{r:V->Hp->VK->Prop}(ho:UnR X (unaryOp op) r)(ha:PE X a ta):PE X (.UnaryOp op a pos) (tUn r ta):=by
 intro γ s σ H Q I h
 exact UnaryOp_ (cB (ha γ s σ H _ I h) fun v s1⟨x,H1,I1,r1,q1⟩=>ho γ s1 σ H1 x v Q I1 r1 q1)
def opI{C:Int->Int->Prop}{g:Int->Int->Int}
  (rule:∀(i j:Int)(t u:Tok)(s:Shared)(Q:QZq)(E:QZq),C i j->Q (.int (g i j) s.toks) {s with toks:=s.toks+1}->wpAny (model X.prog X.w) X.A (f (.int i t) (.int j u)) Q E s):
  fX X f (rI C fun i j=>.int (g i j)):=by
 intro γ s σ H x y v u Q I rx ry h
 obtain⟨i,j,rfl,rfl,hc,q⟩:=h
 obtain⟨t,rfl⟩:=rx
 obtain⟨t',rfl⟩:=ry
 exact rule i j t t' s _ _ hc ⟨.int _,H,I.tok _,⟨_,rfl⟩,q⟩
def abU{g:Int->Int->Int}
  (rule:∀(i j:Int)(t u:Tok)(s:Shared)(Q:QZq)(E:QZq),Q (.int (g i j) s.toks) {s with toks:=s.toks+1}->wpAny (model X.prog X.w) X.A (f (.int i t) (.int j u)) Q E s):
  fX X f (O9 fun i j=>.int (g i j)):=by
 intro γ s σ H x y v u Q I rx ry h
 obtain⟨i,j,rfl,rfl,q⟩:=h
 obtain⟨t,rfl⟩:=rx
 obtain⟨t',rfl⟩:=ry
 exact rule i j t t' s _ _ ⟨.int _,H,I.tok _,⟨_,rfl⟩,q⟩
def Xm{g:Int->Int->Bool}
  (rule:∀(i j:Int)(t u:Tok)(s:Shared)(Q:QZq)(E:QZq),Q (.bool (g i j)) s->wpAny (model X.prog X.w) X.A (f (.int i t) (.int j u)) Q E s):
  fX X f (O9 fun i j=>.bl (g i j)):=by
 intro γ s σ H x y v u Q I rx ry h
 obtain⟨i,j,rfl,rfl,q⟩:=h
 obtain⟨t,rfl⟩:=rx
 obtain⟨t',rfl⟩:=ry
 exact rule i j t t' s _ _ ⟨.bl _,H,I,rfl,q⟩
def S6(i j:Int):Prop:=(-(2 ^64)<i/\i<2 ^64)\/(-(2 ^64)<j/\j<2 ^64)
def S6.ok(h:S6 i j):IntMulOk i j:=by
 rcases h with ⟨h1,h2⟩|⟨h1,h2⟩
 ·exact .of_left (intBits_le_64 h1 h2)
 ·exact .of_right (intBits_le_64 h1 h2)
def Xk:fX X (binaryOp .Add) (O9 fun i j=>.int (i+j)):=abU fun _ _ _ _ _ _ _ q=>add_int q
def Xa:fX X (binaryOp .Sub) (O9 fun i j=>.int (i-j)):=abU fun _ _ _ _ _ _ _ q=>sub_int q
def Xc:fX X (binaryOp .Mult) (rI S6 fun i j=>.int (i*j)):=opI fun _ _ _ _ _ _ _ hc q=>mul_int q hc.ok
def Xd:fX X (binaryOp .Mod) (rI (fun _ j=>0<j) fun i j=>.int (i%j)):=opI fun i j _ _ _ _ _ hc q=>by
 have h1:=hc
 exact mod_int' (by omega) (by rw[Int.fmod_eq_emod_of_nonneg i (by omega)];exact q)
def unI{g:Int->Int}
  (rule:∀(i:Int)(t:Tok)(s:Shared)(Q:QZq)(E:QZq),Q (.int (g i) s.toks) {s with toks:=s.toks+1}->wpAny (model X.prog X.w) X.A (f (.int i t)) Q E s):
  UnR X f (rU fun i=>.int (g i)):=by
 intro γ s σ H x v Q I rx h
 obtain⟨i,rfl,q⟩:=h
 obtain⟨t,rfl⟩:=rx
 exact rule i t s _ _ ⟨.int (g i),H,I.tok _,⟨_,rfl⟩,q⟩
def VP:UnR X (unaryOp .USub) (rU fun i=>.int (-i)):=unI fun _ _ _ _ _ q=>neg_int q
end
noncomputable def Qh:V->V->Bool
 |.non,.non=>true|.non,.int _=>true|.int _,.non=>true|.non,.bl _=>true|.bl _,.non=>true|.non,.str _=>true|.str _,.non=>true
 |.int _,.int _=>true|.bl _,.bl _=>true|.str _,.str _=>true
 |.int _,.str _=>true|.str _,.int _=>true|.bl _,.str _=>true|.str _,.bl _=>true
 |_,_=>false
def rEq:R2:=fun x y H Q=>Qh x y=true/\Q (.bl (decide (x=y))) H
def rNe:R2:=fun x y H Q=>Qh x y=true/\Q (.bl (!decide (x=y))) H
def Gf:decide (V.int i=V.int j)=(i==j):=by
 rw[Bool.eq_iff_iff]
 simp
def Nm:decide (V.bl i=V.bl j)=(i==j):=by
 rw[Bool.eq_iff_iff]
 simp
def Ge:decide (V.str i=V.str j)=(i==j):=by
 rw[Bool.eq_iff_iff]
 simp
section
variable{X:Cx}{a b c:Expr}{ta tb tc:TE}{pos:Pos}
def bJ{σ:St}{H:Hp}{Q:VK}(I:Inv X γ σ H s)(q:Q (.bl k) H)(e:k=k'):EP X γ σ Q (.bool k') s:=by
 subst e
 exact⟨.bl k,H,I,rfl,q⟩
def abS:fX X (compareOp .Eq) rEq:=by
 intro γ s σ H x y v u Q I rx ry h
 obtain⟨hs,q⟩:=h
 cases x with
 |non=>
  cases rx
  cases y with
  |non=>cases ry;exact PySem.EqNone.eq_none_none (bJ I q (by simp))
  |bl j=>cases ry;exact PySem.EqNone.eq_none_bool (bJ I q (by simp))
  |int j=>obtain⟨t',rfl⟩:=ry;exact PySem.EqNone.eq_none_int (bJ I q (by simp))
  |str j=>obtain⟨t',rfl⟩:=ry;exact PySem.EqNone.eq_none_str (bJ I q (by simp))
  |_=>exact absurd (hs) Qjz
 |bl i=>
  cases rx
  cases y with
  |non=>cases ry;exact PySem.EqNone.eq_bool_none (bJ I q (by simp))
  |bl j=>cases ry;exact eq_bool (bJ I q Nm)
  |str j=>obtain⟨t',rfl⟩:=ry;exact PySem.EqMixed.eq_bool_str (bJ I q (by simp))
  |_=>exact absurd (hs) Qjz
 |int i=>
  obtain⟨t,rfl⟩:=rx
  cases y with
  |non=>cases ry;exact PySem.EqNone.eq_int_none (bJ I q (by simp))
  |int j=>obtain⟨t',rfl⟩:=ry;exact eq_int (bJ I q Gf)
  |str j=>obtain⟨t',rfl⟩:=ry;exact PySem.EqMixed.eq_int_str (bJ I q (by simp))
  |_=>exact absurd (hs) Qjz
 |str i=>
  obtain⟨t,rfl⟩:=rx
  cases y with
  |non=>cases ry;exact PySem.EqNone.eq_str_none (bJ I q (by simp))
  |bl j=>cases ry;exact PySem.EqMixed.eq_str_bool (bJ I q (by simp))
  |int j=>obtain⟨t',rfl⟩:=ry;exact PySem.EqMixed.eq_str_int (bJ I q (by simp))
  |str j=>obtain⟨t',rfl⟩:=ry;exact eq_str (bJ I q Ge)
  |_=>exact absurd (hs) Qjz
 |_=>cases y<;>exact absurd (hs) Qjz
def abO:fX X (compareOp .NotEq) rNe:=by
 intro γ s σ H x y v u Q I rx ry h
 obtain⟨hs,q⟩:=h
 cases x with
 |non=>
  cases rx
  cases y with
  |non=>cases ry;exact PySem.EqNone.ne_none_none (bJ I q (by simp))
  |bl j=>cases ry;exact PySem.EqNone.ne_none_bool (bJ I q (by simp))
  |int j=>obtain⟨t',rfl⟩:=ry;exact PySem.EqNone.ne_none_int (bJ I q (by simp))
  |str j=>obtain⟨t',rfl⟩:=ry;exact PySem.EqNone.ne_none_str (bJ I q (by simp))
  |_=>exact absurd (hs) Qjz
 |bl i=>
  cases rx
  cases y with
  |non=>cases ry;exact PySem.EqNone.ne_bool_none (bJ I q (by simp))
  |bl j=>cases ry;exact ne_bool (bJ I q (congrArg not Nm))
  |str j=>obtain⟨t',rfl⟩:=ry;exact PySem.EqMixed.ne_bool_str (bJ I q (by simp))
  |_=>exact absurd (hs) Qjz
 |int i=>
  obtain⟨t,rfl⟩:=rx
  cases y with
  |non=>cases ry;exact PySem.EqNone.ne_int_none (bJ I q (by simp))
  |int j=>obtain⟨t',rfl⟩:=ry;exact ne_int (bJ I q (congrArg not Gf))
  |str j=>obtain⟨t',rfl⟩:=ry;exact PySem.EqMixed.ne_int_str (bJ I q (by simp))
  |_=>exact absurd (hs) Qjz
 |str i=>
  obtain⟨t,rfl⟩:=rx
  cases y with
  |non=>cases ry;exact PySem.EqNone.ne_str_none (bJ I q (by simp))
  |bl j=>cases ry;exact PySem.EqMixed.ne_str_bool (bJ I q (by simp))
  |int j=>obtain⟨t',rfl⟩:=ry;exact PySem.EqMixed.ne_str_int (bJ I q (by simp))
  |str j=>obtain⟨t',rfl⟩:=ry;exact ne_str (bJ I q (congrArg not Ge))
  |_=>exact absurd (hs) Qjz
 |_=>cases y<;>exact absurd (hs) Qjz
def abP:fX X (compareOp .Lt) (O9 fun i j=>.bl (decide (i<j))):=Xm fun _ _ _ _ _ _ _ q=>lt_int q
def abQ:fX X (compareOp .LtE) (O9 fun i j=>.bl (decide (i<=j))):=Xm fun _ _ _ _ _ _ _ q=>le_int q
def abR:fX X (compareOp .Gt) (O9 fun i j=>.bl (decide (j<i))):=Xm fun _ _ _ _ _ _ _ q=>gt_int q
def Ho:fX X (compareOp .In) (fun x y H Q=>∃i j,x=.str i/\y=.str j/\Q (.bl (!(Builtin.Str.occurrences j i 0 j.length 1).isEmpty)) H):=by
 intro γ s σ H x y v u Q I rx ry h
 obtain⟨i,j,rfl,rfl,q⟩:=h
 obtain⟨t,rfl⟩:=rx
 obtain⟨t',rfl⟩:=ry
 exact in_str (bJ I q rfl)
def Xf:fX X (compareOp .Is) (fun x y H Q=>y=.non/\Q (.bl (decide (x=.non))) H):=by
 intro γ s σ H x y v u Q I rx ry h
 obtain⟨rfl,q⟩:=h
 cases ry
 refine is_none_gen (bJ I q ?_)
 cases x<;>first
  |(cases rx;rfl)
  |(obtain⟨t,rfl⟩:=rx;rfl)
def Q0:fX X (compareOp .IsNot) (fun x y H Q=>y=.non/\Q (.bl (!decide (x=.non))) H):=by
 intro γ s σ H x y v u Q I rx ry h
 obtain⟨rfl,q⟩:=h
 cases ry
 refine isnot_none_gen (bJ I q ?_)
 cases x<;>first
  |(cases rx;rfl)
  |(obtain⟨t,rfl⟩:=rx;rfl)
def fX.or{f:Value->Value->Sem Value}{r r':R2}(h:fX X f r)(h':fX X f r'):fX X f (fun x y H Q=>r x y H Q\/r' x y H Q):=by
 intro γ s σ H x y v u Q I rx ry q
 rcases q with q|q
 ·exact h γ s σ H x y v u Q I rx ry q
 ·exact h' γ s σ H x y v u Q I rx ry q
def QT{r:R2}(ho:fX X (compareOp op) r)(ha:PE X a ta)(hb:PE X b tb)(hm:behindInMarks op b=false):PE X (.Compare a [op] [b] pos) (Zw r ta tb):=by
 intro γ s σ H Q I h
 exact wpAny_Compare1 (Y0 ha hb I h fun v u s2 x y H2 I2 rx ry q=>ho γ s2 σ H2 x y v u Q I2 rx ry q) hm
def Tz(t:TE):TT:=fun σ H Q=>t σ H fun x H'=>∃k,x=.bl k/\Q k H'
def QC{r:R2}(ho:fX X (compareOp op) r)(ha:PE X a ta)(hb:PE X b tb)(hm:behindInMarks op b=false):PT X (.Compare a [op] [b] pos) (Tz (Zw r ta tb)):=by
 intro γ s σ H Q I h
 refine wpAny_isTrue_Compare1 (cB (ha γ s σ H _ I h) fun v s1⟨x,H1,I1,r1,q1⟩=>cB (hb γ s1 σ H1 _ I1 q1) fun u s2⟨y,H2,I2,r2,q2⟩=>
  cB (ho γ s2 σ H2 x y v u _ I2 r1 r2 q2) fun c s3⟨z,H3,I3,r3,k,e,q3⟩=>?_) hm
 subst e
 cases r3
 exact wpAny_truthy_bool ⟨H3,I3,q3⟩
noncomputable def An(r r':R2)(ta tb tc:TE):TE:=fun σ H Q=>ta σ H fun x H1=>tb σ H1 fun y H2=>r x y H2 fun z H3=>∃k,z=.bl k/\
 (if k=true then tc σ H3 fun w' H4=>r' y w' H4 Q else Q (.bl false) H3)
theorem KJ{r r':R2}(ho:fX X (compareOp op) r)(ho':fX X (compareOp op') r')(ha:PE X a ta)(hb:PE X b tb)(hc:PE X c tc)
  (hm:lastMarks [op,op'] [b,c]=false:=by with_unfolding_all rfl):PE X (.Compare a [op,op'] [b,c] pos) (An r r' ta tb tc):=by
 intro γ s σ H Q I h
 refine Compare_chain (cB (ha γ s σ H _ I h) fun v s1⟨x,H1,I1,r1,q1⟩=>chain_link (cB (hb γ s1 σ H1 _ I1 q1) fun u s2⟨y,H2,I2,r2,q2⟩=>
  cB (ho γ s2 σ H2 x y v u _ I2 r1 r2 q2) fun d s3⟨z,H3,I3,r3,k,e,q3⟩=>?_)) hm
 subst e
 cases r3
 refine wpAny_truthy_bool ?_
 cases k with
 |false=>exact ite_ff ⟨.bl false,H3,I3,rfl,q3⟩
 |true=>exact ite_tt (chain_last (cB (hc γ s3 σ H3 _ I3 q3) fun w' s4⟨z',H4,I4,r4,q4⟩=>ho' γ s4 σ H4 y z' u w' Q I4 r2 r4 q4))
theorem Kd{r r':R2}(ho:fX X (compareOp op) r)(ho':fX X (compareOp op') r')(ha:PE X a ta)(hb:PE X b tb)(hc:PE X c tc)
  (hm:lastMarks [op,op'] [b,c]=false:=by with_unfolding_all rfl):PT X (.Compare a [op,op'] [b,c] pos) (Tz (An r r' ta tb tc)):=by
 intro γ s σ H Q I h
 refine isTrue_chain (cB (ha γ s σ H _ I h) fun v s1⟨x,H1,I1,r1,q1⟩=>test_link (cB (hb γ s1 σ H1 _ I1 q1) fun u s2⟨y,H2,I2,r2,q2⟩=>
  cB (ho γ s2 σ H2 x y v u _ I2 r1 r2 q2) fun d s3⟨z,H3,I3,r3,k,e,q3⟩=>?_)) hm
 subst e
 cases r3
 refine wpAny_truthy_bool ?_
 cases k with
 |false=>
  obtain⟨k',e',q'⟩:=q3
  cases e'
  exact ite_ff ⟨H3,I3,q'⟩
 |true=>
  refine ite_tt (test_last (cB (hc γ s3 σ H3 _ I3 q3) fun w' s4⟨z',H4,I4,r4,q4⟩=>cB (ho' γ s4 σ H4 y z' u w' _ I4 r2 r4 q4) fun d' s5⟨z2,H5,I5,r5,k2,e2,q5⟩=>?_))
  subst e2
  cases r5
  exact wpAny_truthy_bool ⟨H5,I5,q5⟩
def Ow(K:QQq)(x:V)(H:Hp)(k:Bool):Prop:=
 match x with
 |.non=>k=false
 |.bl b=>k=b
 |.int i=>k=(i !=0)
 |.str y=>y.length<=sizeLine/\k=((y.length:Int) !=0)
 |.ref p=>(∃xs,jB K H p xs/\k= !xs.isEmpty)\/(∃xs,ju K H p xs/\k= !xs.isEmpty)\/∃kvs,H p=some (.dK kvs)/\k= !kvs.isEmpty
 |_=>False
def BV{kvs:List (κ×V)}{vs:List (κ×Value)}(r:KV kvs vs):(!vs.isEmpty)= !kvs.isEmpty:=by
 cases r<;>rfl
def rQ{its:List Value}(r:Vals xs its):(!its.toArray.isEmpty)= !xs.isEmpty:=by
 cases r<;>simp
def wN:(sizeLine:Nat)<2 ^63:=by rw[sizeLine_eq];decide
def Ju:agD X (fun x H Q=>∃k,Ow X.K x H k/\Q k H):=by
 intro γ s σ H x v Q I rx h
 obtain⟨k,e,q⟩:=h
 have hs:=sizeLine_eq
 cases x with
 |non=>
  cases rx
  subst e
  exact truthy_none ⟨H,I,q⟩
 |bl b=>
  cases rx
  subst e
  exact wpAny_truthy_bool ⟨H,I,q⟩
 |int i=>
  obtain⟨t,rfl⟩:=rx
  subst e
  exact PySem.P.truthy_int ⟨H,I,q⟩
 |str y=>
  obtain⟨t,rfl⟩:=rx
  obtain⟨hy,e'⟩:y.length<=sizeLine/\k=((y.length:Int) !=0):=e
  subst e'
  exact PySem.P.truthy_str (by omega) ⟨H,I.tok _,q⟩
 |ref p=>
  cases rx
  have e':=e
  rcases e' with ⟨xs,hx,e'⟩|⟨xs,hx,e'⟩|⟨kvs,hx,e'⟩
  ·subst e'
   obtain⟨its,r,pl,hz⟩:=I.list hx
   have hlen:=r.length
   exact wpAny_truthy_list pl.isList (by simp only[Qyq];omega) ⟨H,I.tok _,by rw[rQ r];exact q⟩
  ·subst e'
   obtain⟨its,r,pl,hz⟩:=I.tuple hx
   have hlen:=r.length
   exact truthy_tuple pl (by simp only[Qyq];omega) ⟨H,I.tok _,by rw[rQ r];exact q⟩
  ·subst e'
   obtain⟨hz,hS,vs,r,m⟩:kvs.length<=sizeLine/\(p==sysModules)=false/\∃vs,KV kvs vs/\s.heap.DictOf _ p vs:=I.hok p _ hx
   have hlen:=Paired.length r
   exact wpAny_truthy_dict hS m (by omega) ⟨H,I.tok _,by rw[BV r];exact q⟩
 |_=>exact(e).elim
def Kc(ha:PE X a ta)(he:∀whole,isTrue a X.env whole=(do let v<-whole;standAt a.pos;holding [v] (truthy v))):
  PT X a (fun σ H Q=>ta σ H fun x H'=>∃k,Ow X.K x H' k/\Q k H'):=by
 intro γ s σ H Q I h
 exact isTrue_plain (cB (ha γ s σ H _ I h) fun v s1⟨x,H1,I1,r1,q1⟩=>Ju γ s1 σ H1 x v Q I1 r1 q1) (he _)
def vals1{us:List Value}(r:Vals [x] us):∃u,us=[u]/\RelV x u:=by
 cases r with
 |cons r1 r2=>cases r2;exact⟨_,rfl,r1⟩
def Iz:fU X (.type "int") (fun xs H Q=>(∃i,xs=[.int i]/\Q (.int i) H)\/∃k,xs=[.bl k]/\Q (.int (if k then 1 else 0)) H):=by
 intro γ s σ H xs us Q I r h
 rcases h with ⟨i,rfl,q⟩|⟨k,rfl,q⟩
 ·obtain⟨u,rfl,t,rfl⟩:=vals1 r
  exact call_int_int ⟨.int i,H,I,⟨_,rfl⟩,q⟩
 ·obtain⟨u,rfl,r1⟩:=vals1 r
  cases r1
  exact call_int_bool ⟨.int _,H,I.tok _,⟨_,rfl⟩,q⟩
def Za(K:QQq)(x:V)(H:Hp)(n:Nat):Prop:=
 match x with
 |.str y=>y.length<=sizeLine/\n=y.length
 |.ref p=>(∃xs,jB K H p xs/\n=xs.length)\/∃xs,ju K H p xs/\n=xs.length
 |_=>False
def NQ:fU X (.builtin "len") (fun xs H Q=>∃x n,xs=[x]/\Za X.K x H n/\Q (.int n) H):=by
 intro γ s σ H xs us Q I r h
 obtain⟨x,n,rfl,e,q⟩:=h
 obtain⟨u,rfl,rx⟩:=vals1 r
 have hs:=sizeLine_eq
 cases x with
 |str y=>
  obtain⟨t,rfl⟩:=rx
  obtain⟨hy,e'⟩:y.length<=sizeLine/\n=y.length:=e
  subst e'
  exact len_str (by omega) ⟨.int _,H,I.tok _,⟨_,rfl⟩,q⟩
 |ref p=>
  cases rx
  have e':=e
  rcases e' with ⟨xs,hx,e'⟩|⟨xs,hx,e'⟩
  ·subst e'
   obtain⟨its,r',pl,hz⟩:=I.list hx
   have hlen:=r'.length
   exact Calls.call_len_list pl.isList (by simp only[Qyq];omega) ⟨.int xs.length,H,I.tok _,⟨_,by simp only[Qyq];rw[hlen]⟩,q⟩
  ·subst e'
   obtain⟨its,r',pl,hz⟩:=I.tuple hx
   have hlen:=r'.length
   exact len_tuple pl (by simp only[Qyq];omega) ⟨.int xs.length,H,I.tok _,⟨_,by simp only[Qyq];rw[hlen]⟩,q⟩
 |_=>exact(e).elim
end
section
variable{prog:Program}{w:World}{A:Around}{E:QZq}{s:Shared}{K:QQq}{x dx C f:Addr}{mA:QZz}{name:Str}{v:Value}
end
def tX.some_of{o:Option Value}(r:tX (some v) o):∃u,o=some u/\RelV v u:=by
 cases o with
 |none=>exact(r).elim
 |some u=>exact⟨u,rfl,r⟩
section
variable{P:Program}{w:World}{H H':Hp}{h h':Heap}{a C dx:Addr}{fs fs':List (Str×V)}
end
section
variable{X:Cx}{γ:QQz}{σ:St}{H:Hp}{s:Shared}{a C dx:Addr}{fs:List (Str×V)}{f:Str}{v:V}{A:Around}{E:QZq}
end
section
variable{X:Cx}{o e value:Expr}{f:Str}{pos pos' tpos:Pos}{ta tv:TE}
end
section
variable{X:Cx}{γ:QQz}{σ:St}{H:Hp}{s:Shared}{A:Around}{E:QZq}{Q:QZq}{c:Value}{b:Bool}
end
structure jy(k:Nat)(A:Around):Prop where
 hd:A.handled=none
 dp:A.depth+3*k+5<recursionLimit
 un:A.units+16*k+200<cLine
theorem jy.deeper{A:Around}(r:jy (k+1) A)env:jy k (A.deeper env):=
 ⟨r.hd,by have:=r.dp;show A.depth+1+3*k+5<_;omega,by have:=r.un;show A.units+3+16*k+200<_;omega⟩
theorem jy.in1{k:Nat}{A:Around}(r:jy (k+1) A):jy k A.in1:=
 ⟨r.hd,by have:=r.dp;show A.depth+3*k+5<_;omega,by have:=r.un;show A.units+1+16*k+200<_;omega⟩
theorem jy.depth{A:Around}(r:jy k A):A.depth<recursionLimit:=by have:=r.dp;omega
def aaS:TA:=fun _ H Q=>Q [] H
def JD(ta:TE)(tr:TA):TA:=fun σ H Q=>ta σ H fun x H1=>tr σ H1 fun xs H2=>Q (x::xs) H2
section
variable{X:Cx}{e:Expr}{es:List Expr}{te:TE}{t:TA}{pos:Pos}
def eU:PA X [] aaS:=fun _ _ _ _ H Q I h=>Calls.spliced_nil ⟨[],H,I,.nil,h⟩
def cL(ha:PE X e te)(hr:PA X es t)(hs:starEach (e::es) X.env=(false,eval e X.env)::starEach es X.env:=by rfl):PA X (e::es) (JD te t):=by
 intro pos γ s σ H Q I h
 rw[hs]
 exact Calls.spliced_cons (cB (ha γ s σ H _ I h) fun u s1⟨x,H1,I1,r1,q1⟩=>cB (hr pos γ s1 σ H1 _ I1 q1) fun us s2⟨xs,H2,I2,r2,q2⟩=>⟨x::xs,H2,I2,.cons r1 r2,q2⟩)
noncomputable def aed(t:TA):TE:=fun σ H Q=>t σ H fun xs H1=>xs.length<=sizeLine/\∀p,H1 p=none->Q (.ref p) (upd H1 p (.tup xs))
noncomputable def aeg(t:TA):TE:=fun σ H Q=>t σ H fun xs H1=>xs.length<=sizeLine/\∀p,H1 p=none->Q (.ref p) (upd H1 p (.lst xs))
def W2{x1}(h:PA X es t):PE X (.Tuple es x1 pos) (aed t):=by
 intro γ s σ H Q I hq
 refine wpAny_Tuple_spliced (cB (h pos γ s σ H _ I hq) fun us s1⟨xs,H1,I1,r,z,q⟩=>⟨by rw[<-r.length];exact z,?_⟩)
 refine⟨.ref s1.heap.objs.size,upd H1 s1.heap.objs.size _,I1.laid (fun b u e=>QWq _ e) (QVz _) ?_,rfl,q _ (I1.hok.fresh (QVz _))⟩
 exact⟨z,us,r,TupOk.new _ _⟩
def W5(h:PA X es t):PE X (.List es pos) (aeg t):=by
 intro γ s σ H Q I hq
 refine wpAny_List_spliced (cB (h pos γ s σ H _ I hq) fun us s1⟨xs,H1,I1,r,z,q⟩=>⟨by rw[<-r.length];exact z,?_⟩)
 refine⟨.ref s1.heap.objs.size,upd H1 s1.heap.objs.size _,I1.laid (fun b u e=>QWq _ e) (QVz _) ?_,rfl,q _ (I1.hok.fresh (QVz _))⟩
 exact⟨z,us,0,r,Qzq _ rfl⟩
end
abbrev Sp:=List V->Hp->VK->XK->Prop
abbrev O5:=List Env->Hp->Shared->XK->Value->Shared->Prop
structure Jd(P:Program)(w:World)(K:QQq)(mg:QZz)(base:Heap)(A:Around)(outer:List Env)(s:Shared)(H:Hp):Prop where
 frames:A.frames=some outer
 mod:Mod K mg base
 bs:∀b o,base.get? b=some o->s.heap.get? b=some o/\H b=none
 bsz:base.objs.size<=s.heap.objs.size
 lO:s.heap.FunFrames base outer
 frf:∀b∈frs outer,H b=none
 hok:pC P w H s.heap
 bare:AllBare s.gens
def CE(outer:List Env)(P:Program)(w:World)(H:Hp)(s:Shared)(Q:VK)(u:Value)(s':Shared):Prop:=
 ∃v H',s'.os=s.os/\AllBare s'.gens/\Un (frs outer) [] H H' s.heap s'.heap/\pC P w H' s'.heap/\RelV v u/\Q v H'
def CR(CX:O5)(outer:List Env)(P:Program)(w:World)(H:Hp)(s:Shared)(Q:VK)(E:XK)(r:Result)(s':Shared):Prop:=
 match r with
 |.ok (.ret u)=>CE outer P w H s Q u s'
 |.ok _=>False
 |.error e=>CX outer H s E e s'
structure pD(P:Program)(w:World)(K:QQq)(mg:QZz)(base:Heap)(CX:O5)(k:Nat)(f:Addr)(fd:FuncData)(ps:List Str)(sp:Sp):Prop where
 len:∀vs H Q E,sp vs H Q E->vs.length=ps.length
 run:∀(A:Around)(outer:List Env)(s:Shared)(H:Hp)(args:Args)(us:List Value)(vs:List V)(Q:VK)(E:XK),jy k A->Jd P w K mg base A outer s H->BindsTo s fd args (ps.zip us)->Vals vs us->sp vs H Q E->
  codeAny (model P w) A (.call (.ref f) args) (CR CX outer P w H s Q E) s
theorem Jd.in1{P:Program}{w:World}{K:QQq}{mg:QZz}{base:Heap}{A:Around}{outer:List Env}{s:Shared}{H:Hp}(e:Jd P w K mg base A outer s H):
  Jd P w K mg base A.in1 outer s H:=⟨e.frames,e.mod,e.bs,e.bsz,e.lO,e.frf,e.hok,e.bare⟩
section
variable{X:Cx}{γ:QQz}{σ:St}{H:Hp}{s s':Shared}
def Inv.env0(I:Inv X γ σ H s):Jd X.prog X.w X.K X.mg X.base X.A X.stack s H:=
 ⟨I.ok.frames,I.ok.mod,I.bs,Nat.le_trans I.ok.bsz I.sz,I.stack,I.DK,I.hok,I.bare⟩
def Inv.after{u:Value}(I:Inv X γ σ H s)(h:CE X.stack X.prog X.w H s Q u s'):EP X γ σ Q u s':=by
 obtain⟨v,H',os,bare,un,hok,r,q⟩:=h
 obtain⟨hh,g,d,t,os'⟩:=s'
 obtain rfl:os'=s.os:=os
 exact⟨v,H',I.call un hok bare (fun b z=>absurd z (by simp)),r,q⟩
end
noncomputable def aaX(sp:Sp)(dvs:List V)(E:XK)(t:TA):TE:=fun σ H Q=>t σ H fun vs H1=>sp (vs++dvs) H1 Q E
def Binds(K:QQq)(fd:FuncData)(ps:List Str)(ds:List Value):Prop:=
 ∀(s:Shared)(us:List Value),K.In s.heap->(us++ds).length=ps.length->BindsTo s fd ⟨us,[]⟩ (ps.zip (us++ds))
def Binds.all{K:QQq}{fd:FuncData}(h:∀us:List Value,us.length=ps.length->bindArgs fd ⟨us,[]⟩=pure (ps.zip us)):Binds K fd ps []:=fun s us _ hl=>by
 rw[List.append_nil]at hl⊢
 exact .of_eq (h us hl)
def Do(CX:O5)(X:Cx)(E:XK):Prop:=∀(γ:QQz)(σ:St)(H:Hp)(s:Shared)(e:Value)(s':Shared),Inv X γ σ H s->CX X.stack H s E e s'->X.xe e s'
section
variable{X:Cx}{CX:O5}{k:Nat}{f C:Addr}{fd:FuncData}{ps:List Str}{sp:Sp}{dvs:List V}{ds:List Value}{E:XK}{x m:Str}{p pos apos:Pos}{e o:Expr}{es:List Expr}{ta:TE}{t:TA}
theorem Ws{σ:St}{H:Hp}{Q:VK}{vs:List V}(F:pD X.prog X.w X.K X.mg X.base CX k f fd ps sp)(hr:jy k X.A)(hb:Binds X.K fd ps ds)(hd:Vals dvs ds)(hx:Do CX X E)
  (I:Inv X γ σ H s)(r:Vals vs us)(h:sp (vs++dvs) H Q E):wpAny (model X.prog X.w) X.A (call (.ref f) us) (EP X γ σ Q) X.xe s:=by
 have r2:=r.append hd
 refine wpAny_call (codeAny_mono (F.run X.A X.stack s H ⟨us,[]⟩ _ _ Q E hr I.env0 (hb s us I.ZQ (by rw[<-r2.length];exact F.len _ _ _ _ h)) r2 h) fun r s' hq=>?_)
 cases r with
 |error e=>exact hx γ σ H s e s' I hq
 |ok fl=>
  cases fl with
  |ret u=>exact I.after hq
  |next=>exact False.elim hq
  |brk=>exact False.elim hq
  |cont=>exact False.elim hq
def QV(F:pD X.prog X.w X.K X.mg X.base CX k f fd ps sp)(hr:jy k X.A)(hg:Gl X x)(hm:X.mg x=some (.ref f))(hk:PySem.W.keepIn X.K (.ref f)=true)(hb:Binds X.K fd ps ds)(hd:Vals dvs ds)(hx:Do CX X E)
  (ha:PA X (e::es) t)(hdb:(x==("__debug__":Str))=false:=by decide)(he:starEach (e::es) X.env=(false,eval e X.env)::starEach es X.env:=by rfl)(hpl:(backTo pos (starEach es X.env)).any (·.1)=false:=by rfl):
  PE X (.Call (.Name x p) (e::es) [] pos) (aaX sp dvs E t):=by
 intro γ s σ H Q I h
 exact wpAny_Call_Name_kw (Fe I hg hm (PySem.W.callWith_K I.ok.mod.kin hk (cB (ha pos γ s σ H _ I h) fun us s1⟨vs,H1,I1,r,q⟩=>⟨I1.ZQ,Ws F hr hb hd hx I1 r q⟩) he hpl) hdb)
end
section
variable{X:Cx}{CX:O5}{k:Nat}{f C:Addr}{fd:FuncData}{ps ks:List Str}{sp:Sp}{E:XK}{x m:Str}{p pos apos kpos:Pos}{e o:Expr}{es:List Expr}{kws:List Keyword}{te ta:TE}{t tk:TA}{nm:Option Str}
variable{g:List Value->List Value->List Value}{gV:List V->List V->List V}
end
structure lD(N P:List Str)(sc:Scope):Prop where
 kind:sc.kind=.function
 co:sc.isCoroutine=false
 gen:sc.isGenerator=false
 nd:N.Nodup
 pre:N.take P.length=P
 par:∀x∈P,sc.names.lookup x=some .local\/sc.names.lookup x=some .cell
 nofree:∀y∈sc.names,y.2≠ .free
theorem vQ{kindOf:Str->Option NameKind}:∀{binds:List (Str×Value)}{m:QZz},(∀v,(x,v)∉binds)->bindL kindOf binds m x=m x
 |[],_,_=>rfl
 |(n,v)::r,m,h=>by
  unfold bindL
  rw[vQ fun w hw=>h w (QYq _ hw)]
  split
  ·have:x≠n:=by rintro rfl;exact h v QYz
   simp[this]
  ·rfl
theorem vU{kindOf:Str->Option NameKind}:∀{binds:List (Str×Value)}{m:QZz},(∀v,(x,v)∉binds)->bindC kindOf binds m x=m x
 |[],_,_=>rfl
 |(n,v)::r,m,h=>by
  unfold bindC
  rw[vU fun w hw=>h w (QYq _ hw)]
  split
  ·rfl
  ·have:x≠n:=by rintro rfl;exact h v QYz
   simp[this]
theorem vR{kindOf:Str->Option NameKind}{x:Str}{v:Value}:∀{P:List Str}{vs:List Value}{i:Nat}{m:QZz},P.Nodup->P[i]? =some x->vs[i]? =some v->kindOf x=some .local->
  bindL kindOf (P.zip vs) m x=some v
 |[],_,_,_,_,h,_,_=>by simp at h
 |_::_,[],_,_,_,_,h,_=>by simp at h
 |p::P,w::vs,0,m,nd,h1,h2,hk=>by
  simp at h1 h2;subst h1;subst h2
  show bindL kindOf ((p,w)::P.zip vs) m p=_
  unfold bindL
  rw[vQ fun v hv=>(List.nodup_cons.mp nd).1 (List.of_mem_zip hv).1,if_pos hk]
  simp
 |p::P,w::vs,i+1,m,nd,h1,h2,hk=>by
  unfold bindL
  exact vR (List.nodup_cons.mp nd).2 (by simpa using h1) (by simpa using h2) hk
theorem vV{kindOf:Str->Option NameKind}{x:Str}{v:Value}:∀{P:List Str}{vs:List Value}{i:Nat}{m:QZz},P.Nodup->P[i]? =some x->vs[i]? =some v->kindOf x≠some .local->
  bindC kindOf (P.zip vs) m x=some v
 |[],_,_,_,_,h,_,_=>by simp at h
 |_::_,[],_,_,_,_,h,_=>by simp at h
 |p::P,w::vs,0,m,nd,h1,h2,hk=>by
  simp at h1 h2;subst h1;subst h2
  show bindC kindOf ((p,w)::P.zip vs) m p=_
  unfold bindC
  rw[vU fun v hv=>(List.nodup_cons.mp nd).1 (List.of_mem_zip hv).1,if_neg hk]
  simp
 |p::P,w::vs,i+1,m,nd,h1,h2,hk=>by
  unfold bindC
  exact vV (List.nodup_cons.mp nd).2 (by simpa using h1) (by simpa using h2) hk
def start(N:List Str)(vs:List V):St:=vs.map some++List.replicate (N.length-vs.length) none
noncomputable def CK(CX:O5)(P:Program)(w:World)(K:QQq)(mg:QZz)(base:Heap)(N:List Str)(qual:Str)(scope:Scope)(f:Addr)(cd:Value)(A:Around)(outer:List Env)(s:Shared)(H:Hp)(E:XK):Cx where
 prog:=P
 w:=w
 K:=K
 mg:=mg
 base:=base
 A:=A.deeper (envOfC qual scope s.heap.objs.size f cd)
 N:=N
 s₀:=s
 H₀:=H
 env:=envOfC qual scope s.heap.objs.size f cd
 outer:=outer
 stack:=envOfC qual scope s.heap.objs.size f cd::outer
 ex:=[]
 calm:=true
 fn:=fun _=>true
 pn:=[]
 xe:=fun e s'=>wpAny (model P w) (A.deeper (envOfC qual scope s.heap.objs.size f cd)) (leaving (envOfC qual scope s.heap.objs.size f cd) e) (fun _ s''=>CX outer H s E e s'') (fun e' s''=>CX outer H s E e' s'') s'
def zX{sc:Scope}{n:Nat}(h:sc.names.lookup x=some .cell):∃c,(cellsFrom n sc.names []).lookup x=some c:=by
 exact Option.isSome_iff_exists.mp (PySem.W.cellsFrom_some sc.names n [] (.inl h))
def H8{CX:O5}{w:World}{K:QQq}{base:Heap}{qual:Str}{f:Addr}{A:Around}{s s1:Shared}{E:XK}
  (S:lD N ps scope)(hd:A.handled=none)(e0:Jd P w K mg base A outer s H)(hl:vs.length=ps.length)(r:Vals vs us)
  (x:InCallC s s.heap.objs.size (bindL (envOfC qual scope s.heap.objs.size f cd).kindOf (ps.zip us) fun _=>none) (cellsFrom (s.heap.objs.size+1) scope.names []) (bindC (envOfC qual scope s.heap.objs.size f cd).kindOf (ps.zip us) fun _=>none) s1):
  Inv (CK CX P w K mg base N qual scope f cd A outer s H E) [] (start N vs) H s1:=by
 have hpl:ps.length<=N.length:=by have:=congrArg List.length S.pre;rw[List.length_take]at this;omega
 obtain⟨h1,tk,rfl,hk⟩:=x.done
 have noA:∀b:Addr,b∉(CK CX P w K mg base N qual scope f cd A outer s H E).ex:=fun b z=>absurd (show b∈([])from z) (by simp)
 refine⟨⟨e0.mod,S.kind,rfl,rfl,QVz _,fun y z c h1 h2=>?_,fun y hy=>?_,fun y c _ h=>?_,fun _=>hd,Around.frames_deeper e0.frames,.inr ⟨rfl,rfl⟩,fun b z=>absurd z (noA b),e0.bs,e0.bsz,fun b _ _=>noA b,fun b z=>absurd z (noA b),e0.lO,e0.frf⟩,
  rfl,e0.bare,Un.kept hk,⟨_,x.toInCall.ns,fun i y v h1 h2 h3=>?_⟩,fun y c h=>⟨_,x.cell y c h⟩,e0.hok.fresh (QVz _),fun y c h=>?_,fun p hp=>absurd (show p∈([])from hp) (by simp),e0.hok.kept hk,?_⟩
 ·exact name_of_addr x.apart (PySem.mem_of_lookup h1) (PySem.mem_of_lookup h2)
 ·have hy:=hy
  rcases hy with hy|hy
  ·exact zX hy
  ·exact absurd rfl (S.nofree _ (PySem.mem_of_lookup hy))
 ·exact Nat.le_of_lt (x.above y c (PySem.mem_of_lookup h))
 ·have hi:i<vs.length:=by
   unfold start at h2
   by_cases hi:i<vs.length
   ·exact hi
   ·rw[QIz (by simpa using hi)]at h2
    rw[List.getElem?_replicate]at h2
    split at h2<;>cases h2
  have ha:vs[i]? =some v:=by
   unfold start at h2
   rw[Qwz (by simpa using hi),QFz]at h2
   cases e:vs[i]? with
   |none=>rw[e]at h2;cases h2
   |some a=>rw[e]at h2;cases h2;rfl
  obtain⟨u,hu,rv⟩:=r.get ha
  have hp:ps[i]? =some y:=by
   rw[<-S.pre,List.getElem?_take_of_lt (by omega)];exact h1
  have ndP:ps.Nodup:=by rw[<-S.pre];exact S.nd.sublist (List.take_sublist _ _)
  refine⟨u,rv,?_⟩
  rcases S.par y (QBz hp)with k|k
  ·exact .inl ⟨k,vR ndP hp hu k⟩
  ·obtain⟨c,e⟩:=zX k
   refine .inr ⟨.inl k,c,e,?_⟩
   have q:=x.cell y c e
   rw[vV ndP hp hu (by show scope.names.lookup y≠_;rw[k];decide)]at q
   exact q
 ·exact e0.hok.fresh (Nat.le_of_lt (x.above y c (PySem.mem_of_lookup h)))
 ·unfold start
  show _=N.length
  rw[QTq,QAq,List.length_replicate]
  omega
def acG{CX:O5}{w:World}{K:QQq}{base:Heap}{k:Nat}{name qual:Str}{body:List Stmt}{dV kV doc pm cdv ct oc:Value}
{N ps:List Str} (lk:K.lookup f=some ⟨oc,od,.func (PySem.W.fnOf name qual params body scope dV kV doc pm an cdv ct),osl⟩) (hcd:PySem.W.codeIn K cdv qual=true) (S:lD N ps scope)
  (len:∀vs H Q E,sp vs H Q E->vs.length=ps.length)
  (hbody:∀(A:Around)(outer:List Env)(s:Shared)(H:Hp)(vs:List V)(Q:VK)(E:XK),jy k (A.deeper (envOfC qual scope s.heap.objs.size f cdv))->sp vs H Q E->
   ∃t,xU (CK CX P w K mg base N qual scope f cdv A outer s H E) body t/\t {nx:=fun _ H'=>Q .non H',rt:=Q} (start N vs) H):
  pD P w K mg base CX (k+1) f (PySem.W.fnOf name qual params body scope dV kV doc pm an cdv ct) ps sp:=by
 refine⟨len,fun A outer s H args us vs Q E hr e0 hb r hsp=>?_⟩
 have hl:=len _ _ _ _ hsp
 have KX:=e0.mod.kin.keeps fun b o e=>(e0.bs b o e).1
 have lim:=e0.mod.nolimit.keeps fun b o e=>(e0.bs b o e).1
 have hkind:∀y∈ps.zip us,scope.names.lookup y.1=some .local\/(scope.names.lookup y.1=some .cell/\((cellsFrom (s.heap.objs.size+1) scope.names []).lookup y.1).isSome=true):=fun⟨n,v⟩hy=>by
  rcases S.par n (List.of_mem_zip hy).1 with q|q
  ·exact .inl q
  ·exact .inr ⟨q,PySem.W.cellsFrom_some _ _ _ (.inl q)⟩
 refine codeAny_call_function hr.depth (KX _ _ lk) rfl S.co S.gen rfl (PySem.W.codeRec_of KX hcd) (hb _ _ _ _ ?_)
 refine wpAny_newFunctionEnv_cells S.kind hkind fun env he s1 x=>?_
 subst he
 refine⟨lim.keeps x.toInCall.keep,codeAny_func ?_⟩
 obtain⟨t,ht,hq⟩:=hbody A outer s H vs Q E (hr.deeper _) hsp
 have I:Inv (CK CX P w K mg base N qual scope f cdv A outer s H E) [] _ H s1:=H8 S hr.hd e0 hl r x
 refine QGq (ht [] s1 _ H _ I hq) (fun fl s' hs=>?_) fun e s' hs=>hs
 have fin:∀{ζ:St}{H':Hp}{v:V}{u:Value},Inv (CK CX P w K mg base N qual scope f cdv A outer s H E) [] ζ H' s'->RelV v u->Q v H'->CE outer P w H s Q u s':=
  fun{ζ H' v u}J rv q=>⟨v,H',J.os,J.bare,J.base,J.hok,rv,q⟩
 cases fl with
 |ret u=>
  obtain⟨v,ζ,H',J,rv,q⟩:=hs
  exact fin J rv q
 |next=>
  obtain⟨ζ,H',J,q⟩:=hs
  exact fin (v:=V.non) J rfl q
 |brk=>
  obtain⟨_,_,_,q⟩:=hs
  exact False.elim q
 |cont=>
  obtain⟨_,_,_,q⟩:=hs
  exact False.elim q
section
variable{X:Cx}{x:Str}{p pos:Pos}{e:Expr}{es:List Expr}{t:TA}{id T:String}{r:List V->Hp->VK->Prop}
def tCB(r:List V->Hp->VK->Prop)(t:TA):TE:=fun σ H Q=>t σ H fun vs H1=>r vs H1 Q
def rC(hc:fU X (.builtin id) r)(hg:Gl X x)(hm:X.mg x=none)(hv:bootBuiltins x=some (.builtin id))(ha:PA X (e::es) t)(hn:x≠"__name__":=by decide)(hdb:(x==("__debug__":Str))=false:=by decide)
  (he:starEach (e::es) X.env=(false,eval e X.env)::starEach es X.env:=by rfl)(hpl:(backTo pos (starEach es X.env)).any (·.1)=false:=by rfl):PE X (.Call (.Name x p) (e::es) [] pos) (tCB r t):=by
 intro γ s σ H Q I h
 exact wpAny_Call_Name_kw (iZ I hg hm hv (PyProof.Rows.callWith_builtin1 (cB (ha pos γ s σ H _ I h) fun us s1⟨vs,H1,I1,r1,q1⟩=>hc γ s1 σ H1 vs us Q I1 r1 q1) he hpl) hn hdb)
def oN(hc:fU X (.type T) r)(hg:Gl X x)(hm:X.mg x=none)(hv:bootBuiltins x=some (.type T))(ha:PA X (e::es) t)(hn:x≠"__name__":=by decide)(hdb:(x==("__debug__":Str))=false:=by decide)
  (he:starEach (e::es) X.env=(false,eval e X.env)::starEach es X.env:=by rfl)(hpl:(backTo pos (starEach es X.env)).any (·.1)=false:=by rfl):PE X (.Call (.Name x p) (e::es) [] pos) (tCB r t):=by
 intro γ s σ H Q I h
 exact wpAny_Call_Name_kw (iZ I hg hm hv (PyProof.Rows.callWith_type1 (cB (ha pos γ s σ H _ I h) fun us s1⟨vs,H1,I1,r1,q1⟩=>hc γ s1 σ H1 vs us Q I1 r1 q1) he hpl) hn hdb)
end
end L2
namespace HT
open PySem PyProof.Rows
section
open PySem.SeqAt
open PySem.AutoSeq1 (wpAny_loadPart')
open PySem.MeetsSeq PySem.MeetsSeq2 PySem.MeetsSeq3
end
section
variable{prog:Program}{w:World}{A:Around}{E:QZq}{s:Shared}
def R7{vs ws:List Value}(ht:IsTup s.heap t vs.toArray)(hb:IsTup s.heap b ws.toArray)(hv:vs≠[])
  (h1:ws=[]->Q (.ref t) s)(h2:ws≠[]->Q (.ref s.heap.objs.size) {s with heap:=s.heap.push {cls:=.type "tuple",data:=.seq (vs++ws).toArray}})
  (hsz:vs.length+ws.length<=sizeLine):wpAny (model prog w) A (binaryOp .Add (.ref t) (.ref b)) Q E s:=by
 obtain⟨⟨cls,dd,data,sl⟩,ho,hc,n,hd⟩:=id ht
 obtain⟨⟨cls2,dd2,data2,sl2⟩,ho2,hc2,n2,hd2⟩:=id hb
 subst hc hd hc2 hd2
 have e:vs.toArray++ws.toArray=(vs++ws).toArray:=by simp
 by_cases hw:ws=[]
 ·exact concat_meets ⟨_,ho,rfl⟩ ⟨_,ho2,rfl⟩ noFill_tuple_add seq_tuple_add PySem.F.slot_tuple_add PySem.F.entry_tuple_add (PySem.F.args_tuple_add_2 _ _)
   (tuple_addW1 t b vs.toArray ws.toArray n n2 dd dd2 sl sl2 (by simpa using hv) (by simp[hw])) ⟨ho,ho2,h1 hw⟩
 ·refine concat_meets ⟨_,ho,rfl⟩ ⟨_,ho2,rfl⟩ noFill_tuple_add seq_tuple_add PySem.F.slot_tuple_add PySem.F.entry_tuple_add (PySem.F.args_tuple_add_2 _ _)
   (tuple_addW2 t b vs.toArray ws.toArray n n2 dd dd2 sl sl2 (by simpa using hv) (by simpa using hw) (by rw[Qyq,Qyq];exact hsz)) ⟨ho,ho2,?_⟩
  rw[e]
  exact h2 hw
noncomputable def fM(n d:Nat):Option Int->Nat
 |none=>d
 |some v=>if v<0 then(v+(n:Int)).toNat else min v.toNat n
def mR n d:fM n d none=d:=rfl
def Gj v(n d:Nat):(if v<0 then max (v+(n:Int)) 0 else min v (n:Int))=((fM n d (some v):Nat):Int):=by
 show(if v<0 then max (v+n) 0 else min v n)=(((if v<0 then(v+(n:Int)).toNat else min v.toNat n):Nat))
 by_cases hv:v<0
 ·simp only[if_pos hv];omega
 ·simp only[if_neg hv];omega
def Dn lo hi(n:Nat):Builtin.Slice.sliceAdjust lo hi 1 (n:Int)=(((fM n 0 lo:Nat):Int),((fM n n hi:Nat):Int)):=by
 have h1:¬(1<0):=by omega
 unfold Builtin.Slice.sliceAdjust
 refine Prod.ext ?_ ?_
 ·cases lo with
  |none=>rfl
  |some v=>exact Gj v n 0
 ·cases hi with
  |none=>rfl
  |some v=>exact Gj v n n
def Bs(i j:Nat):Builtin.Slice.slicePlaces (i:Int) (j:Int) 1=j-i:=by
 unfold Builtin.Slice.slicePlaces
 split<;>omega
def qQ{o:Option Int}(p:IsPart v o)(h:Q o s):wpAny (model prog w) A (Builtin.Slice.slicePartIndex v) Q E s:=by
 cases p with
 |none=>exact slicePart_none h
 |int i t=>exact slicePart_int h
def iy{sl:Addr}{lo hi:Option Int}{n:Nat}(hs:s.heap.IsSliceOf sl vl vu .none)(pl:IsPart vl lo)(pu:IsPart vu hi)
  (h:Q (((fM n 0 lo:Nat):Int),1,fM n n hi-fM n 0 lo) s):wpAny (model prog w) A (Builtin.Slice.sliceApplied (.ref sl) (pure (n:Int))) Q E s:=by
 obtain⟨os,hos,hcs,hds⟩:=id hs
 refine QKq (QKq (QGz hos hds rfl (QKq (QGz hos hds rfl (QKq (QGz hos hds rfl (QKz ?_)))))))
 refine QKq (slicePart_none ?_)
 refine QKq (qQ pl (QKq (qQ pu (QKq (QKz ?_)))))
 show wpAny _ _ (match Builtin.Slice.sliceAdjust lo hi 1 n with|(lo,hi)=>pure (lo,(1:Int),Builtin.Slice.slicePlaces lo hi 1)) _ _ s
 rw[Dn lo hi n]
 show wpAny _ _ (pure ((fM n 0 lo:Int),1,Builtin.Slice.slicePlaces ((fM n 0 lo:Nat)) ((fM n n hi:Nat)) 1)) _ _ s
 rw[Bs]
 exact QKz h
def Kp(xs:Array Value)(i k:Nat):((List.range k).filterMap fun(m:Nat)=>xs[((i:Int)+(m:Int)*1).toNat]?).toArray=((xs.toList.drop i).take k).toArray:=by
 have e:(fun(m:Nat)=>xs[(i+(m:Int)*1).toNat]?)=fun m=>xs[i+m]? :=by
  funext m
  have:(i+(m:Int)*1).toNat=i+m:=by omega
  rw[this]
 rw[e]
 have:=pick_run xs i k
 rw[List.filterMap_map]at this
 have e2:((fun x=>xs[x]?)∘fun x=>i+x)=fun m=>xs[i+m]? :=rfl
 rw[e2]at this
 rw[this]
theorem nD{t sl:Addr}{vl vu:Value}{lo hi:Option Int}(ht:IsTup s.heap t items)(hs:s.heap.IsSliceOf sl vl vu .none)(pl:IsPart vl lo)(pu:IsPart vu hi)
  (hw:¬(fM items.size 0 lo=0/\fM items.size items.size hi=items.size))
  (h:Q (.ref s.heap.objs.size) {s with heap:=s.heap.push {cls:=.type "tuple",data:=.seq ((items.toList.drop (fM items.size 0 lo)).take (fM items.size items.size hi-fM items.size 0 lo)).toArray}})
  (hsz:items.size<=sizeLine):wpAny (model prog w) A (getItem (.ref t) (.ref sl)) Q E s:=by
 have htake:sizeOk (.seq ((items.toList.drop (fM items.size 0 lo)).take (fM items.size items.size hi-fM items.size 0 lo)).toArray):=by
  show((items.toList.drop _).take _).toArray.size<=sizeLine
  rw[Qyq,List.length_take,List.length_drop,Array.length_toList]
  omega
 obtain⟨os,hos,hcs,hds⟩:=id hs
 unfold getItem
 try with_reducible refine Qqq ?_
 first|refine QKq _|skip
 refine QKq (wpAny_sequenceKey ht.typeIs (by decide) ?_)
 refine QKq (wpAny_callSpecial?_slot ht.typeIs PyProof.Rows.slot_tuple_getitem
  (Qzz PyProof.Rows.slot_tuple_getitem ht.typeIs entry_tuple_getitem ?_ (args_tuple_getitem _ _)))
 show wpAny _ _ (Builtin.Tuple.tupleItemsOf _>>=_) _ _ s
 refine QKq (tupleItemsOf_ ht ?_)
 refine QKq (wpAny_typeOf ⟨os,hos,hcs⟩ ?_)
 refine QKq (iy hs pl pu ?_)
 have hno:¬((((fM items.size 0 lo):Int)==0&&(1:Int)==1&&(fM items.size items.size hi-fM items.size 0 lo)==items.size)=true):=by
  intro q
  rw[QUq,QUq]at q
  have q1:=eq_of_beq q.1.1
  have q2:=eq_of_beq q.2
  exact hw ⟨by omega,by omega⟩
 show wpAny _ _ (if (((fM items.size 0 lo):Int)==0&&1==1&&_==items.size)=true then _ else _) _ _ s
 rw[if_neg hno,Kp]
 first
  |exact QKq (Qjq (QKz ⟨_,rfl,QKz h⟩) htake)
  |exact QKq _
  |exact QKq (QKq _)
  |exact QKq (QKq _)
end
end HT
namespace L2
open PySem PySem.Spec PyProof.Rows
abbrev TO:=St->Hp->(Option Int->Hp->Prop)->Prop
def PO(X:Cx)(e:Option Expr)(t:TO):Prop:=
 ∀(γ:QQz)(s:Shared)(σ:St)(H:Hp)(Q:Option Int->Hp->Prop),Inv X γ σ H s->t σ H Q->
  wpAny (model X.prog X.w) X.A (evalPart e X.env) (fun u s'=>∃o H',Inv X γ σ H' s'/\IsPart u o/\Q o H') X.xe s
def PN:TO:=fun _ H Q=>Q none H
def aaQ(t:TE):TO:=fun σ H Q=>t σ H fun x H1=>∃i,x=.int i/\Q (some i) H1
section
variable{X:Cx}{e:Expr}{te:TE}{lo hi:Option Expr}{tl th:TO}{pos p2:Pos}
def QK:PO X none PN:=by
 intro γ s σ H Q I h
 exact QKz ⟨none,H,I,.none,h⟩
def QJ(h:PE X e te):PO X (some e) (aaQ te):=by
 intro γ s σ H Q I hw
 refine cB (h γ s σ H _ I hw) fun u s1⟨x,H1,I1,r1,q1⟩=>?_
 obtain⟨i,rfl,q⟩:=q1
 obtain⟨t,rfl⟩:=r1
 exact⟨some i,H1,I1,.int i t,q⟩
def SQ(X:Cx)(r:V->Option Int->Option Int->Hp->VK->Prop):Prop:=
 ∀(γ:QQz)(s:Shared)(σ:St)(H:Hp)(x:V)(v vl vu:Value)(lo hi:Option Int)(sl:Addr)(Q:VK),Inv X γ σ H s->RelV x v->s.heap.IsSliceOf sl vl vu .none->IsPart vl lo->IsPart vu hi->r x lo hi H Q->
  ∃T id,typeLookup (.type T) "__getitem__"=pure (some (.builtin id))/\s.TypeIs v T/\wpAny (model X.prog X.w) X.A (getItem v (.ref sl)) (EP X γ σ Q) X.xe s
def SQ.or{r r':V->Option Int->Option Int->Hp->VK->Prop}(h:SQ X r)(h':SQ X r'):SQ X (fun x lo hi H Q=>r x lo hi H Q\/r' x lo hi H Q):=by
 intro γ s σ H x v vl vu lo hi sl Q I rx hs pl pu q
 rcases q with q|q
 ·exact h γ s σ H x v vl vu lo hi sl Q I rx hs pl pu q
 ·exact h' γ s σ H x v vl vu lo hi sl Q I rx hs pl pu q
noncomputable def tSl(r:V->Option Int->Option Int->Hp->VK->Prop)(te:TE)(tl th:TO):TE:=fun σ H Q=>te σ H fun x H1=>tl σ H1 fun l H2=>th σ H2 fun u H3=>r x l u H3 Q
def Kw(hr:SQ X r)(he:PE X e te)(hl:PO X lo tl)(hu:PO X hi th):PE X (.Subscript e (.Slice lo hi none p2) pos) (tSl r te tl th):=by
 intro γ s σ H Q I h
 refine Subscript_ (cB (he γ s σ H _ I h) fun v s1⟨x,H1,I1,r1,q1⟩=>?_)
 refine wpAny_Slice (cB (hl γ s1 σ H1 _ I1 q1) fun vl s2⟨l,H2,I2,pl,q2⟩=>cB (hu γ s2 σ H2 _ I2 q2) fun vu s3⟨u,H3,I3,pu,q3⟩=>?_)
 refine QKz ?_
 obtain⟨T,id,hT,ht,hg⟩:=hr γ {s3 with heap:=s3.heap.push {cls:=.type "slice",data:=.fields #[vl,vu,.none]}} σ H3 x v vl vu l u s3.heap.objs.size Q (I3.kept fun b ob q=>QWq _ q) r1 (Heap.IsSliceOf.new ..) pl pu q3
 exact tail_any ht hT hg (by with_unfolding_all rfl)
noncomputable def xG(xs:List V)(lo hi:Option Int):List V:=(xs.drop (HT.fM xs.length 0 lo)).take (HT.fM xs.length xs.length hi-HT.fM xs.length 0 lo)
def pP xs lo hi:(xG xs lo hi).length<=xs.length:=by
 unfold xG
 rw[List.length_take,List.length_drop]
 omega
noncomputable def abr(K:QQq):V->Option Int->Option Int->Hp->VK->Prop:=fun x lo hi H Q=>∃a xs,x=.ref a/\ju K H a xs/\
 ¬(HT.fM xs.length 0 lo=0/\HT.fM xs.length xs.length hi=xs.length)/\∀p,H p=none->Q (.ref p) (upd H p (.tup (xG xs lo hi)))
def Wm:SQ X (abr X.K):=by
 intro γ s σ H x v vl vu lo hi sl Q I rx hs pl pu h
 obtain⟨a,xs,rfl,hx,hw,q⟩:=h
 cases rx
 obtain⟨its,r,ht,hz⟩:=I.tuple hx
 have hlen:its.toArray.size=xs.length:=by rw[Qyq];exact r.length.symm
 refine⟨"tuple",_,PyProof.Rows.slot_tuple_getitem.lookup,ht.typeIs,?_⟩
 refine HT.nD ht hs pl pu (by rw[hlen];exact hw) ?_ (by rw[hlen];exact hz)
 rw[hlen]
 refine⟨.ref s.heap.objs.size,_,I.laid (fun b ob q=>QWq _ q) (QVz _) ?_,rfl,q _ (I.hok.fresh (QVz _))⟩
 exact⟨Nat.le_trans (pP xs lo hi) hz,_,(r.drop _).take _,TupOk.new _ _⟩
noncomputable def abC(K:QQq):R2:=fun x y H Q=>∃a b xs ys,x=.ref a/\y=.ref b/\ju K H a xs/\ju K H b ys/\xs≠[]/\xs.length+ys.length<=sizeLine/\
 (ys=[]->Q (.ref a) H)/\(ys≠[]->∀p,H p=none->Q (.ref p) (upd H p (.tup (xs++ys))))
def Vals.bO{us:List Value}(r:Vals xs us):us=[]↔xs=[]:=by
 cases r with
 |nil=>simp
 |cons _ _=>simp
def Q5:fX X (binaryOp .Add) (abC X.K):=by
 intro γ s σ H x y v u Q I rx ry h
 obtain⟨a,b,xs,ys,rfl,rfl,ha,hb,hx,hz,q1,q2⟩:=h
 cases rx
 cases ry
 obtain⟨its,r1,p1,_⟩:=I.tuple ha
 obtain⟨its2,r2,p2,_⟩:=I.tuple hb
 refine HT.R7 p1 p2 (fun z=>hx (r1.bO.mp z)) (fun z=>⟨.ref a,H,I,rfl,q1 (r2.bO.mp z)⟩) (fun z=>?_) (by rw[<-r1.length,<-r2.length];exact hz)
 refine⟨.ref s.heap.objs.size,_,I.laid (fun b ob q=>QWq _ q) (QVz _) ?_,rfl,q2 (fun w=>z (r2.bO.mpr w)) _ (I.hok.fresh (QVz _))⟩
 exact⟨by rw[QTq];exact hz,_,r1.append r2,TupOk.new _ _⟩
end
noncomputable def Rp(n:Nat)(i:Int):Option Nat:=if 0<=i then(if i<n then some i.toNat else none)else if-(n:Int)<=i then some (i+n).toNat else none
def Y5{α:Type}(xs:List α)(i:Int):Option α:=(Rp xs.length i).bind fun j=>xs[j]?
def Fp{i:Int}(h:Rp n i=some j):seqIndex? i n=some j/\j<n/\ -(n:Int)<=i/\i<n:=by
 unfold Rp at h
 by_cases h0:0<=i
 ·rw[if_pos h0]at h
  by_cases h1:i<n
  ·rw[if_pos h1]at h
   have e:=QEq h
   exact⟨by rw[seqIndex_of h0 h1,e],by omega,by omega,h1⟩
  ·rw[if_neg h1]at h;cases h
 ·rw[if_neg h0]at h
  by_cases h1: -n<=i
  ·rw[if_pos h1]at h
   have e:=QEq h
   exact⟨by rw[seqIndex_neg (by omega) h1,e],by omega,h1,by omega⟩
  ·rw[if_neg h1]at h;cases h
def xR{xs:List α}{v:α}(h:Y5 xs i=some v):∃j,seqIndex? i xs.length=some j/\xs[j]? =some v/\j<xs.length/\ -(xs.length:Int)<=i/\i<xs.length:=by
 unfold Y5 at h
 cases e:Rp xs.length i with
 |none=>rw[e]at h;cases h
 |some j=>
  rw[e]at h
  obtain⟨h1,h2,h3,h4⟩:=Fp e
  exact⟨j,h1,h,h2,h3,h4⟩
def xT(b:Expr):Prop:=∀o i,subscripted b false o i=operate [o,i] (getItem o i)
def Jh(X:Cx)(r:R2):Prop:=
 ∀(value slice:Expr)(γ:QQz)(s:Shared)(σ:St)(H:Hp)(x y:V)(v u:Value)(Q:VK),Inv X γ σ H s->RelV x v->RelV y u->r x y H Q->
  subscripted slice false v u=operate [v,u] (getItem v u)->wpAny (model X.prog X.w) X.A (subscriptTail value slice v u) (EP X γ σ Q) X.xe s
def MtR(X:Cx)(id:String)(r:V->List V->Hp->VK->Prop):Prop:=
 ∀(γ:QQz)(s:Shared)(σ:St)(H:Hp)(x:V)(xs:List V)(v:Value)(us:List Value)(Q:VK),Inv X γ σ H s->RelV x v->Vals xs us->r x xs H Q->
  wpAny (model X.prog X.w) X.A (call (.builtin id) (v::us)) (EP X γ σ Q) X.xe s
section
variable{X:Cx}{a b:Expr}{ta tb:TE}{pos:Pos}
def Jh.or{r r':R2}(h:Jh X r)(h':Jh X r'):Jh X (fun x y H Q=>r x y H Q\/r' x y H Q):=by
 intro value slice γ s σ H x y v u Q I rx ry q hs
 rcases q with q|q
 ·exact h value slice γ s σ H x y v u Q I rx ry q hs
 ·exact h' value slice γ s σ H x y v u Q I rx ry q hs
def Uk(hr:Jh X r)(ha:PE X a ta)(hb:PE X b tb)(hs:xT b):PE X (.Subscript a b pos) (Zw r ta tb):=by
 intro γ s σ H Q I h
 exact Subscript_ (Y0 ha hb I h fun v u s2 x y H2 I2 rx ry q=>hr a b γ s2 σ H2 x y v u Q I2 rx ry q (hs _ _))
noncomputable def WF(K:QQq):R2:=fun x y H Q=>∃p xs i v,x=.ref p/\y=.int i/\jB K H p xs/\Y5 xs i=some v/\Q v H
noncomputable def WD(K:QQq):R2:=fun x y H Q=>∃p xs i v,x=.ref p/\y=.int i/\ju K H p xs/\Y5 xs i=some v/\Q v H
noncomputable def J7:R2:=fun x y H Q=>∃z i c,x=.str z/\y=.int i/\z.length<=sizeLine/\Y5 z.cps.toList i=some c/\Q (.str ⟨#[c]⟩) H
def Fo:Jh X (WF X.K):=by
 intro value slice γ s σ H x y v u Q I rx ry h hs
 obtain⟨p,xs,i,z,rfl,rfl,hq,he,q⟩:=h
 cases rx
 obtain⟨t,rfl⟩:=ry
 obtain⟨its,r,pl,hz⟩:=I.list hq
 obtain⟨j,h1,h2,h3,h4,h5⟩:=xR he
 obtain⟨w,ew,rw'⟩:=r.get h2
 have hl:=r.length
 have hn:=wN
 have fin:EP X γ σ Q w s:=⟨z,H,I,rw',q⟩
 by_cases h0:0<=i
 ·have hj:i.toNat=j:=by
   rw[seqIndex_of h0 h5]at h1
   exact QEq h1
  exact item_listR pl.isList h0 (by omega) (by rw[hj];simpa using ew) fin hs
 ·have hj:(i+its.toArray.size).toNat=j:=by
   rw[seqIndex_neg (by omega) h4]at h1
   rw[Qyq,<-hl]
   exact QEq h1
  exact subscriptTail_builtinR pl.isList.typeIs slot_list_getitem.lookup
   (wpAny_getItem_list_neg pl.isList (by omega) (by rw[Qyq]<;>omega) (by omega) (by rw[hj];simpa using ew) ⟨rfl,fin⟩) hs
def LC:Jh X (WD X.K):=by
 intro value slice γ s σ H x y v u Q I rx ry h hs
 obtain⟨p,xs,i,z,rfl,rfl,hq,he,q⟩:=h
 cases rx
 obtain⟨t,rfl⟩:=ry
 obtain⟨its,r,pl,hz⟩:=I.tuple hq
 obtain⟨j,h1,h2,h3,h4,h5⟩:=xR he
 obtain⟨w,ew,rw'⟩:=r.get h2
 have hn:=wN
 exact subscriptTail_builtinR pl.typeIs slot_tuple_getitem.lookup
  (getItem_tuple pl (by omega) (by omega) (by rw[Qyq,<-r.length];exact h1) (by simpa using ew) ⟨rfl,⟨z,H,I,rw',q⟩⟩) hs
def X3:Jh X J7:=by
 intro value slice γ s σ H x y v u Q I rx ry h hs
 obtain⟨z,i,c,rfl,rfl,hz,he,q⟩:=h
 obtain⟨t,rfl⟩:=rx
 obtain⟨t',rfl⟩:=ry
 obtain⟨j,h1,h2,h3,h4,h5⟩:=xR he
 have hl:z.cps.toList.length=z.length:=by simp[Str.length]
 rw[hl]at h1 h4 h5
 have hn:=wN
 exact tail_any (typeIs_str s z t) slot_str_getitem.lookup (getItem_str (c:=c) (by
  have e1:decide (i< -(2 ^63:Int))=false:=QEz (by omega)
  have e2:decide (i>=2 ^63)=false:=QEz (by omega)
  rw[e1,e2,Bool.or_false]) (by rw[h1];simpa using h2) ⟨.str ⟨#[c]⟩,H,I.tok _,⟨_,rfl⟩,q⟩) hs
def rIx(K:QQq):R2:=fun x y H Q=>WF K x y H Q\/WD K x y H Q\/J7 x y H Q
def LK:Jh X (rIx X.K):=Fo.or (LC.or X3)
def BK(its:List Value)n j u:Obj.mapSeq (·.setIfInBounds j u) {cls:=.type "list",data:=.seq its.toArray n}={cls:=.type "list",data:=.seq (its.set j u).toArray n}:=by
 simp[Obj.mapSeq]
theorem Inv.lst{γ:QQz}{σ:St}{H:Hp}{s:Shared}{p:Addr}{xs:List V}(I:Inv X γ σ H s)(h:H p=some (.lst xs)):
  ∃(its:List Value)(n:Nat),Vals xs its/\s.heap.get? p=some {cls:=.type "list",data:=.seq its.toArray n}/\xs.length<=sizeLine:=by
 obtain⟨z,its,n,r,e⟩:=I.hok p _ h
 exact⟨its,n,r,e,z⟩
def Inv.Xx{σ:St}{H:Hp}{p:Addr}{its its':List Value}{n n':Nat}(I:Inv X γ σ H s)(h:H p=some (.lst xs))
  (ho:s.heap.get? p=some {cls:=.type "list",data:=.seq its.toArray n})(hf:f {cls:=.type "list",data:=.seq its.toArray n}={cls:=.type "list",data:=.seq its'.toArray n'})(r:Vals ys its')(hz:ys.length<=sizeLine)t:
  Inv X γ σ (upd H p (.lst ys)) {s with heap:=s.heap.update p f,toks:=t}:=by
 have e:(s.heap.update p f).get? p=some {cls:=.type "list",data:=.seq its'.toArray n'}:=by
  rw[Heap.get?_update_self f ho (by rw[hf]<;>rfl),hf]
 refine I.write (by rw[h];trivial) (.inl rfl) (fun b u hb q=>(Heap.get?_update_other _ _ (Ne.symm hb)).trans q) ⟨_,e⟩ ?_
 exact⟨hz,its',n',r,e⟩
noncomputable def T8:V->V->V->Hp->(Hp->Prop)->Prop:=fun o i v H Q=>∃p xs k j,o=.ref p/\i=.int k/\H p=some (.lst xs)/\Rp xs.length k=some j/\Q (upd H p (.lst (xs.set j v)))
def set_list:Jb X T8:=by
 intro γ s σ H o i v ov iv u Q I ro ri rv h
 obtain⟨p,xs,k,j,rfl,rfl,hp,hj,q⟩:=h
 cases ro
 obtain⟨t,rfl⟩:=ri
 obtain⟨its,n,r,ho,hz⟩:=I.lst hp
 obtain⟨h1,h2,h3,h4⟩:=Fp hj
 have hl:=r.length
 have hn:=wN
 have I':=
  I.Xx hp ho (BK its n j u) (r.set rv j) (by rw[List.length_set];exact hz) s.toks
 by_cases h0:0<=k
 ·have hk:k.toNat=j:=by
   rw[seqIndex_of h0 h4]at h1
   exact QEq h1
  exact PySem.W.ki_setAt ho h0 (by omega) (by rw[Qyq,<-hl];exact h4) (by rw[hk];exact⟨_,I',q⟩)
 ·have hk:(k+its.toArray.size).toNat=j:=by
   rw[seqIndex_neg (by omega) h3]at h1
   rw[Qyq,<-hl]
   exact QEq h1
  exact PySem.W.ki_setBack ho (by omega) (by rw[Qyq,<-hl];exact h3) (by omega) (by rw[hk];exact⟨_,I',q⟩)
def wj lo hi n:(sliceBounds lo hi none n).1=((HT.fM n 0 lo:Nat):Int)/\(sliceBounds lo hi none n).2.1=((HT.fM n n hi:Nat):Int)/\(sliceBounds lo hi none n).2.2=1:=by
 refine⟨?_,?_,rfl⟩
 ·cases lo with
  |none=>simp[sliceBounds,HT.fM]
  |some i=>
   simp only[sliceBounds,HT.fM,Option.getD_none,show 1>0 by decide,if_true]
   by_cases h:i<0
   ·simp only[h,if_true]<;>omega
   ·simp only[h,if_false]<;>omega
 ·cases hi with
  |none=>simp[sliceBounds,HT.fM]
  |some i=>
   simp only[sliceBounds,HT.fM,Option.getD_none,show 1>0 by decide,if_true]
   by_cases h:i<0
   ·simp only[h,if_true]<;>omega
   ·simp only[h,if_false]<;>omega
def uf(its:List Value)lo hi:slicePick its.toArray lo hi none=((its.drop (HT.fM its.length 0 lo)).take (HT.fM its.length its.length hi-HT.fM its.length 0 lo)).toArray:=by
 obtain⟨h1,h2,h3⟩:=wj lo hi its.toArray.size
 unfold slicePick
 rw[h1,h2,h3]
 simp only[sliceRange_one,pick_run,Qyq]<;>rfl
noncomputable def abt(K:QQq):V->Option Int->Option Int->Hp->VK->Prop:=fun x lo hi H Q=>∃a xs,x=.ref a/\jB K H a xs/\∀p,H p=none->Q (.ref p) (upd H p (.lst (xG xs lo hi)))
def Qa:SQ X (abt X.K):=by
 intro γ s σ H x v vl vu lo hi sl Q I rx hs pl pu h
 obtain⟨a,xs,rfl,hx,q⟩:=h
 cases rx
 obtain⟨its,r,ht,hz⟩:=I.list hx
 have hlen:=r.length
 refine⟨"list",_,slot_list_getitem.lookup,ht.isList.typeIs,?_⟩
 refine wpAny_getItem_list_slice ht.isList hs pl pu .none (by simp) ?_ (by rw[Qyq]<;>omega)
 rw[uf,<-hlen]
 refine⟨.ref s.heap.objs.size,_,I.laid (fun b ob q=>QWq _ q) (QVz _) ?_,rfl,q _ (I.hok.fresh (QVz _))⟩
 exact⟨Nat.le_trans (pP xs lo hi) hz,_,0,(r.drop _).take _,Qzq _ rfl⟩
def jt:V->Bool
 |.non=>true
 |.bl _=>true
 |.int _=>true
 |.str _=>true
 |_=>false
noncomputable def M9:V->V->Bool
 |.non,.non=>true
 |.bl a,.bl b=>a==b
 |.bl a,.int b=>(if a then 1 else 0)==b
 |.int a,.bl b=>a==(if b then 1 else 0)
 |.int a,.int b=>a==b
 |.str a,.str b=>a==b
 |_,_=>false
def YL{s:Shared}{u v:Value}(ry:RelV y u)(rx:RelV x v)(fy:jt y=true)(fx:jt x=true):SeqAt.EqAt A s u v (M9 y x):=by
 cases y with
 |non=>
  cases ry
  cases x with
  |non=>cases rx;exact SeqAt.EqAt.same _
  |bl b=>cases rx;exact SeqAt.EqAt.none_bool b
  |int b=>obtain⟨t,rfl⟩:=rx;exact SeqAt.EqAt.none_int b t
  |str b=>obtain⟨t,rfl⟩:=rx;exact SeqAt.EqAt.none_str b t
  |_=>exact absurd (fx) Qjz
 |bl a=>
  cases ry
  cases x with
  |non=>cases rx;exact SeqAt.EqAt.bool_none a
  |bl b=>cases rx;exact SeqAt.EqAt.bool_bool a b
  |int b=>obtain⟨t,rfl⟩:=rx;exact SeqAt.EqAt.bool_int a b t
  |str b=>obtain⟨t,rfl⟩:=rx;exact SeqAt.EqAt.bool_str a b t
  |_=>exact absurd (fx) Qjz
 |int a=>
  obtain⟨t',rfl⟩:=ry
  cases x with
  |non=>cases rx;exact SeqAt.EqAt.int_none a t'
  |bl b=>cases rx;exact SeqAt.EqAt.int_bool a t' b
  |int b=>obtain⟨t,rfl⟩:=rx;exact SeqAt.EqAt.int_int a t' b t
  |str b=>obtain⟨t,rfl⟩:=rx;exact SeqAt.EqAt.int_str a t' b t
  |_=>exact absurd (fx) Qjz
 |str a=>
  obtain⟨t',rfl⟩:=ry
  cases x with
  |non=>cases rx;exact SeqAt.EqAt.str_none a t'
  |bl b=>cases rx;exact SeqAt.EqAt.str_bool a t' b
  |int b=>obtain⟨t,rfl⟩:=rx;exact SeqAt.EqAt.str_int a t' b t
  |str b=>obtain⟨t,rfl⟩:=rx;exact SeqAt.EqAt.str_str a t' b t
  |_=>exact absurd (fx) Qjz
 |_=>exact absurd (fy) Qjz
noncomputable def Vd(x:V)(u:Value):Bool:=match u with
 |.none=>M9 .non x
 |.bool b=>M9 (.bl b) x
 |.int i _=>M9 (.int i) x
 |.str z _=>M9 (.str z) x
 |_=>false
def Cv{u:Value}(r:RelV y u)(f:jt y=true):Vd x u=M9 y x:=by
 cases y with
 |non=>cases r;rfl
 |bl b=>cases r;rfl
 |int i=>obtain⟨t,rfl⟩:=r;rfl
 |str z=>obtain⟨t,rfl⟩:=r;rfl
 |_=>exact absurd (f) Qjz
theorem nR{x:V}:∀{xs:List V}{us:List Value},Vals xs us->xs.all jt=true->us.any (Vd x)=xs.any fun y=>M9 y x
 |_,_,.nil=>fun _=>rfl
 |y::xs,u::us,.cons r t=>fun f=>by
  rw[List.all_cons,QUq]at f
  rw[List.any_cons,List.any_cons,Cv r f.1,nR t f.2]
theorem gn{A:Around}{s:Shared}{x:V}{v:Value}(rx:RelV x v)(fx:jt x=true):∀{xs:List V}{us:List Value},Vals xs us->xs.all jt=true->∀u∈us,SeqAt.EqAt A s u v (Vd x u)
 |_,_,.nil=>fun _=>fun u hu=>by cases hu
 |y::xs,u::us,.cons r t=>fun f=>fun u' hu=>by
  rw[List.all_cons,QUq]at f
  rcases QCq.mp hu with rfl|hu
  ·rw[Cv r f.1];exact YL r rx f.1 fx
  ·exact gn rx fx t f.2 u' hu
def inV(x:V)(xs:List V):Bool:=xs.any fun y=>M9 y x
noncomputable def rIn(K:QQq)(neg:Bool):R2:=fun x y H Q=>∃p xs,y=.ref p/\(jB K H p xs\/ju K H p xs)/\jt x=true/\xs.all jt=true/\Q (.bl (if neg then !inV x xs else inV x xs)) H
def Hq:fX X (compareOp .In) (rIn X.K false):=by
 intro γ s σ H x y v u Q I rx ry h
 obtain⟨p,xs,rfl,hq,fx,fs,q⟩:=h
 cases ry
 rcases hq with hq|hq
 ·obtain⟨its,r,pl,hz⟩:=I.list hq
  refine SeqAt.in_listAt _ pl.isList (fun w hw=>gn rx fx r fs w (by simpa using hw)) ⟨.bl _,H,I,rfl,?_⟩
  rw[show its.toArray.any _=its.any (Vd x) by simp,nR r fs]
  exact q
 ·obtain⟨its,r,pl,hz⟩:=I.tuple hq
  refine SeqAt.in_tupleAt _ pl (fun w hw=>gn rx fx r fs w (by simpa using hw)) ⟨.bl _,H,I,rfl,?_⟩
  rw[show its.toArray.any _=its.any (Vd x) by simp,nR r fs]
  exact q
def wH:fX X (compareOp .NotIn) (rIn X.K true):=by
 intro γ s σ H x y v u Q I rx ry h
 obtain⟨p,xs,rfl,hq,fx,fs,q⟩:=h
 cases ry
 rcases hq with hq|hq
 ·obtain⟨its,r,pl,hz⟩:=I.list hq
  refine SeqAt.notIn_listAt _ pl.isList (fun w hw=>gn rx fx r fs w (by simpa using hw)) ⟨.bl _,H,I,rfl,?_⟩
  rw[show its.toArray.any _=its.any (Vd x) by simp,nR r fs]
  exact q
 ·obtain⟨its,r,pl,hz⟩:=I.tuple hq
  refine SeqAt.notIn_tupleAt _ pl (fun w hw=>gn rx fx r fs w (by simpa using hw)) ⟨.bl _,H,I,rfl,?_⟩
  rw[show its.toArray.any _=its.any (Vd x) by simp,nR r fs]
  exact q
def xN:fU X (.type "list") (fun xs H Q=>∃p ys,xs=[.ref p]/\(jB X.K H p ys\/ju X.K H p ys)/\∀l,H l=none->Q (.ref l) (upd H l (.lst ys))):=by
 intro γ s σ H xs us Q I r h
 obtain⟨p,ys,rfl,hq,q⟩:=h
 obtain⟨u,rfl,rx⟩:=vals1 r
 cases rx
 have fin:∀its,Vals ys its->ys.length<=sizeLine->∀h' c',_->
   h'.get? s.heap.objs.size=some {cls:=.type "list",dict:=none,data:=.seq its.toArray c',slots:= #[]}->EP X γ σ Q _ {s with heap:=h'}:=fun its r' hz h' c' kp e=>
  ⟨.ref s.heap.objs.size,_,I.laid kp (QVz _) (show cu X.prog X.w _ h' _ (.lst ys)from⟨hz,its,c',r',e⟩),rfl,q _ (I.hok.fresh (QVz _))⟩
 rcases hq with hq|hq
 ·obtain⟨its,r',pl,hz⟩:=I.list hq
  have hlen:=r'.length
  obtain⟨o,ho,hc,n,hd⟩:=pl.isList
  exact call_list_seq p (.inl rfl) ho hc hd (fun h' c' kp e=>fin its r' hz h' c' kp e) (by simp only[Qyq]<;>omega)
 ·obtain⟨its,r',pl,hz⟩:=I.tuple hq
  have hlen:=r'.length
  obtain⟨o,ho,hc,n,hd⟩:=pl
  exact call_list_seq p (.inr rfl) ho hc hd (fun h' c' kp e=>fin its r' hz h' c' kp e) (by simp only[Qyq]<;>omega)
def uy:fU X (.type "tuple") (fun xs H Q=>∃p ys,xs=[.ref p]/\((jB X.K H p ys/\∀l,H l=none->Q (.ref l) (upd H l (.tup ys)))\/(ju X.K H p ys/\Q (.ref p) H))):=by
 intro γ s σ H xs us Q I r h
 obtain⟨p,ys,rfl,h⟩:=h
 obtain⟨u,rfl,rx⟩:=vals1 r
 cases rx
 rcases h with ⟨hq,q⟩|⟨hq,q⟩
 ·obtain⟨its,r',pl,hz⟩:=I.list hq
  have hlen:=r'.length
  refine call_tuple_list pl.isList (fun h' kp=>?_) (by simp only[Qyq]<;>omega)
  have I1:=I.kept (t':=s.toks) kp
  have I2:=
   I1.laid (t':=s.toks) (fun b o e=>QWq _ e) (QVz _) (show cu X.prog X.w _ _ _ (.tup ys)from⟨hz,its,r',TupOk.new _ _⟩)
  exact⟨.ref h'.objs.size,_,I2,rfl,q _ (I1.hok.fresh (QVz _))⟩
 ·obtain⟨its,r',pl,hz⟩:=I.tuple hq
  exact call_tuple_same pl ⟨.ref p,H,I,rfl,q⟩
def tyV(K:QQq)(T:String)(x:V)(H:Hp):Prop:=match x with
 |.str _=>T="str"
 |.int _=>T="int"
 |.ref p=>(T="list"/\∃xs,jB K H p xs)\/(T="tuple"/\∃o,K.lookup p=some o/\o.cls=.type "tuple"/\o.dict=none)
 |_=>False
theorem VR{σ:St}{H:Hp}{T:String}{x:V}(I:Inv X γ σ H s)(r:RelV x v)(ty:tyV X.K T x H):
  s.TypeIs v T/\∀a,v=.ref a->∃ob,s.heap.get? a=some ob/\ob.dict=none:=by
 cases x with
 |str z=>
  obtain⟨t,rfl⟩:=r
  cases (ty)
  exact⟨typeIs_str s z t,fun _ e=>nomatch e⟩
 |int i=>
  obtain⟨t,rfl⟩:=r
  cases (ty)
  exact⟨typeIs_int s i t,fun _ e=>nomatch e⟩
 |ref p=>
  cases r
  rcases ty with ⟨rfl,xs,hq⟩|⟨rfl,o,hk,hc,hd⟩
  ·obtain⟨its,_,pl,_⟩:=I.list hq
   refine⟨pl.isList.typeIs,fun a e=>?_⟩
   cases e
   obtain⟨o,n,e,c,hd,_⟩:=pl
   exact⟨o,e,hd⟩
  ·refine⟨⟨o,I.ZQ p o hk,hc⟩,fun a e=>?_⟩
   cases e
   exact⟨o,I.ZQ _ o hk,hd⟩
 |_=>exact False.elim ty
noncomputable def tBM(K:QQq)(T:String)(r:V->List V->Hp->VK->Prop)(to:TE)(t:TA):TE:=fun σ H Q=>to σ H fun x H1=>tyV K T x H1/\t σ H1 fun xs H2=>r x xs H2 Q
variable{o e:Expr}{es:List Expr}{to:TE}{t:TA}{name:Str}{apos cpos:Pos}{T id:String}{r:V->List V->Hp->VK->Prop}
def abL(pa:PlainAttrs T)(slot:Slot T name id)(hty:typeOf (.builtin id)=pure (.type "method_descriptor"))(hm:MtR X id r)(ho:PE X o to)(ha:PA X (e::es) t)
  (hbase:attributeBase o name X.env (eval o X.env)=eval o X.env:=by rfl)
  (hfew:((backTo cpos (starEach (e::es) X.env)).all (fun x=> !x.1)&&(backToKw cpos (keywordEach [] X.env)).all (fun x=>x.1.isSome)
   &&decide ((e::es).length+([]:List Keyword).length+(if ([]:List Keyword).isEmpty then 0 else 1)<30))=true:=by rfl)
  (hline:(apos.endLine==cpos.line)=true:=by rfl)(hs:starEach (e::es) X.env=(false,eval e X.env)::starEach es X.env:=by rfl)(hplain:(backTo cpos (starEach es X.env)).any (·.1)=false:=by rfl):
  PE X (.Call (.Attribute o name apos) (e::es) [] cpos) (tBM X.K T r to t):=by
 intro γ s σ H Q I h
 refine wpAny_Call_method_late hbase hfew hline rfl (cB (ho γ s σ H _ I h) fun v s1⟨x,H1,I1,r1,ty,q1⟩=>?_)
 obtain⟨h1,h2⟩:=VR I1 r1 ty
 refine⟨T,id,pa,slot,hty,h1,h2,?_⟩
 have hA:=ha cpos γ s1 σ H1 _ I1 q1
 rw[hs]at hA⊢
 exact Calls.callWith_builtin (by show(false||(backTo cpos _).any (·.1))=false;rw[hplain]<;>rfl) (Calls.evalArgs_plain (cB hA fun us s2⟨vs,H2,I2,r2,q2⟩=>hm γ s2 σ H2 x vs v us Q I2 r1 r2 q2))
end
def MtM(X:Cx)(id:String)(r:V->List V->Hp->VK->Prop):Prop:=
 ∀(γ:QQz)(s:Shared)(σ:St)(H:Hp)(x:V)(xs:List V)(v:Value)(us:List Value)(Q:VK),Inv X γ σ H s->RelV x v->Vals xs us->r x xs H Q->
  wpAny (model X.prog X.w) X.A (call (.builtin id) (v::us)) (EP X γ σ Q) X.xe s
theorem Vals.one:∀{x:V}{us:List Value},Vals [x] us->∃u,us=[u]/\RelV x u
 |_,_,.cons r .nil=>⟨_,rfl,r⟩
theorem Vals.two:∀{x y:V}{us:List Value},Vals [x,y] us->∃u v,us=[u,v]/\RelV x u/\RelV y v
 |_,_,_,.cons r (.cons q .nil)=>⟨_,_,rfl,r,q⟩
theorem Vals.eraseIdx:∀{xs:List V}{us:List Value}(i:Nat),Vals xs us->Vals (xs.eraseIdx i) (us.eraseIdx i)
 |_,_,_,.nil=>.nil
 |_,_,0,.cons _ t=>t
 |_,_,i+1,.cons r t=>.cons r (Vals.eraseIdx i t)
theorem u6{α:Type}:∀(l:List α)(i:Nat),(l.eraseIdx i).length<=l.length
 |[],_=>QVz _
 |_::_,0=>Nat.le_succ _
 |_::r,i+1=>Nat.succ_le_succ (u6 r i)
section
variable{X:Cx}{γ:QQz}{σ:St}{H:Hp}{s:Shared}{l b:Addr}{xs ys zs:List V}
def Inv.Xz{its its':List Value}{n:Nat}{t':Nat}(I:Inv X γ σ H s)(hH:H l=some (.lst xs))
  (e:s.heap.get? l=some {cls:=.type "list",data:=.seq its.toArray n})(hf:f its.toArray=its'.toArray)(hv:Vals ys its')(hz:ys.length<=sizeLine):
  Inv X γ σ (upd H l (.lst ys)) {s with heap:=s.heap.update l (Obj.mapSeq f),toks:=t'}:=by
 have q:=PySem.IsL.update e f
 rw[hf]at q
 refine I.write (by rw[hH];exact trivial) (.inl rfl) (fun b' u hb hu=>(Heap.get?_update_other s.heap _ (Ne.symm hb)).trans hu) ⟨_,q⟩ ?_
 exact⟨hz,its',_,hv,q⟩
def Inv.afu{t':Nat}(I:Inv X γ σ H s)(hv:Vals ys its)(hz:ys.length<=sizeLine):
  Inv X γ σ (upd H s.heap.objs.size (.lst ys)) {s with heap:=s.heap.push {cls:=.type "list",data:=.seq its.toArray},toks:=t'}:=
 I.laid (fun _ _ q=>QWq _ q) (QVz _) ⟨hz,its,0,hv,Qzq _ rfl⟩
theorem Inv.fresh(I:Inv X γ σ H s):H s.heap.objs.size=none:=I.hok.fresh (QVz _)
def Inv.Xy(I:Inv X γ σ H s)(hH:H l=some (.lst xs)):xs.length<=sizeLine/\∃(its:List Value)(n:Nat),Vals xs its/\xs.length=its.length/\s.heap.get? l=some {cls:=.type "list",data:=.seq its.toArray n}:=by
 obtain⟨z,its,n,r,e⟩:=I.hok l _ hH
 exact⟨z,its,n,r,r.length,e⟩
def KZ{n:Nat}(h:n<=sizeLine):Builtin.List.listTooLong n=false:=by
 unfold Builtin.List.listTooLong
 exact QEz (by omega)
end
section
variable{X:Cx}
noncomputable def Qz:V->List V->Hp->VK->Prop:=fun x vs H Q=>∃l xs y,x=.ref l/\vs=[y]/\H l=some (.lst xs)/\xs.length<sizeLine/\Q .non (upd H l (.lst (xs++[y])))
def uX:MtM X "list.append" Qz:=by
 intro γ s σ H x vs v us Q I rx rv h
 obtain⟨l,xs,y,rfl,rfl,hH,hz,q⟩:=h
 cases rx
 obtain⟨u,rfl,ru⟩:=rv.one
 obtain⟨z,its,n,r,hl,e⟩:=I.Xy hH
 refine call_meets F.slot_list_append ⟨_,e,rfl⟩ F.entry_list_append (F.args_list_append_2 _ _) (PySem.list_append l its.toArray n u (by rw[Qyq];omega)) ⟨e,?_⟩
 refine⟨.non,_,I.Xz hH e (by simp) (r.append (.cons ru .nil)) ?_,rfl,q⟩
 rw[QTq,List.length_singleton]
 omega
noncomputable def Wy:V->List V->Hp->VK->Prop:=fun x vs H Q=>∃l xs i k y,x=.ref l/\vs=[.int i]/\H l=some (.lst xs)/\ -(2 ^63)<=i/\i<2 ^63/\seqIndex? i xs.length=some k/\xs[k]? =some y/\Q y (upd H l (.lst (xs.eraseIdx k)))
def Lb:MtM X "list.pop" Wy:=by
 intro γ s σ H x vs v us Q I rx rv h
 obtain⟨l,xs,i,k,y,rfl,rfl,hH,h1,h2,hk,hy,q⟩:=h
 cases rx
 obtain⟨u,rfl,ru⟩:=rv.one
 obtain⟨t,rfl⟩:=ru
 obtain⟨z,its,n,r,hl,e⟩:=I.Xy hH
 obtain⟨w,hw,rw'⟩:=r.get hy
 refine call_meets F.slot_list_pop ⟨_,e,rfl⟩ F.entry_list_pop (F.args_list_pop_2 _ _)
  (MeetsSeq.list_pop_at l its.toArray n i t k w (fitsIndex_both h1 h2) (by rw[Qyq,<-hl];exact hk) (by rw[<-Array.getElem?_toList];exact hw) (by rw[Qyq];omega)) ⟨e,?_⟩
 refine⟨y,_,I.Xz hH e ?_ (r.eraseIdx k) ?_,rw',q⟩
 ·show its.toArray.eraseIdxIfInBounds k=(its.eraseIdx k).toArray
  rw[List.eraseIdxIfInBounds_toArray]
 ·have:=u6 xs k
  omega
end
section
variable{prog:Program}{w:World}{A:Around}{E:QZq}{s:Shared}
end
section
variable{X:Cx}
end
section
variable{κ:Type}[DecidableEq κ]
def jF(kvs:List (κ×V))(k:κ):Option V:=(kvs.find? fun kv=>decide (kv.1=k)).map (·.2)
noncomputable def putK(kvs:List (κ×V))(k:κ)(v:V):List (κ×V):=
 if (kvs.any fun kv=>decide (kv.1=k))=true then kvs.map (fun kv=>if kv.1=k then(kv.1,v)else kv)else kvs++[(k,v)]
def mG{p:κ×V}{k:κ}(e:p.1=k):jF (p::r) k=some p.2:=by simp[jF,List.find?_cons,e]
def mH{p:κ×V}{k:κ}(e:¬p.1=k):jF (p::r) k=jF r k:=by simp[jF,List.find?_cons,e]
theorem ye(k:κ):∀kvs:List (κ×V),(kvs.any fun kv=>decide (kv.1=k))=(jF kvs k).isSome
 |[]=>rfl
 |p::r=>by
  rw[List.any_cons]
  by_cases e:p.1=k
  ·simp only[mG e,QFq e,Bool.true_or,Option.isSome_some]
  ·rw[mH e,QEz e,Bool.false_or];exact ye k r
def pK(kvs:List (κ×V))(k:κ)v:(putK kvs k v).length<=kvs.length+1:=by
 unfold putK
 split
 ·rw[QAq];omega
 ·rw[QTq,QBq,List.length_nil];omega
def tX.iC{u:Option Value}(r:tX o u):o.isSome=u.isSome:=by
 cases o with
 |none=>cases u with
  |none=>rfl
  |some _=>exact(r).elim
 |some _=>cases u with
  |none=>exact(r).elim
  |some _=>rfl
theorem tX.getD{u:Option Value}{d':Value}(r:tX o u)(rd:RelV d d'):RelV (o.getD d) (u.getD d'):=by
 cases o with
 |none=>cases u with
  |none=>exact rd
  |some _=>exact(r).elim
 |some _=>cases u with
  |none=>exact(r).elim
  |some _=>exact r
def KV.val{vs:List (κ×Value)}(r:KV kvs vs)(k:κ):tX (jF kvs k) (valueAt vs k):=by
 induction r with
 |nil=>exact True.intro
 | @cons p q ps qs h t ih=>
  obtain⟨h1,h2⟩:=h
  by_cases e:p.1=k
  ·have b:valueAt (q::qs) k=some q.2:=by simp[valueAt,List.find?_cons,h1.symm.trans e]
   rw[mG e,b];exact h2
  ·have e':¬q.1=k:=fun z=>e (h1.trans z)
   have b:valueAt (q::qs) k=valueAt qs k:=by simp[valueAt,List.find?_cons,e']
   rw[mH e,b];exact ih
theorem KV.any{vs:List (κ×Value)}(r:KV kvs vs)(k:κ):(kvs.any fun kv=>decide (kv.1=k))=vs.any fun kv=>decide (kv.1=k):=by
 induction r with
 |nil=>rfl
 |cons h t ih=>rw[List.any_cons,List.any_cons,ih,h.1]
theorem KV.repl{vs:List (κ×Value)}(r:KV kvs vs)(k:κ){u:Value}(ry:RelV y u):
  KV (kvs.map fun kv=>if kv.1=k then(kv.1,y)else kv) (vs.map fun kv=>if kv.1=k then(kv.1,u)else kv):=by
 induction r with
 |nil=>exact .nil
 | @cons p q ps qs h t ih=>
  rw[Qyz,Qyz]
  refine .cons ?_ ih
  obtain⟨h1,h2⟩:=h
  by_cases e:p.1=k
  ·rw[if_pos e,if_pos (h1.symm.trans e)];exact⟨h1,ry⟩
  ·rw[if_neg e,if_neg (fun z=>e (h1.trans z))];exact⟨h1,h2⟩
def KV.put{vs:List (κ×Value)}(r:KV kvs vs)(k:κ){u:Value}(ry:RelV y u):KV (putK kvs k y) (stored vs k u):=by
 unfold putK stored
 rw[r.any k]
 by_cases e:(vs.any fun kv=>decide (kv.1=k))=true
 ·rw[if_pos e,if_pos e];exact r.repl k ry
 ·rw[if_neg e,if_neg e];exact Paired.snoc r ⟨rfl,ry⟩
theorem KV.length{kvs:List (κ×V)}(r:KV kvs vs):kvs.length=vs.length:=Paired.length r
end
def vm{w:World}{u:Value}(r:RelV (kV k) u):(fV P w).is k u=true:=by
 cases k with
 |inl i=>obtain⟨t,e⟩:=(r);subst e;exact zg P w i t
 |inr x=>obtain⟨t,e⟩:=(r);subst e;exact zf P w x t
section
variable{P:Program}{w:World}{H:Hp}{h:Heap}{a:Addr}
def Eb(ok:pC P w H h)(e:Rd H a u):cu P w H h a u:=e.ok ok
def nJ(ok:pC P w H h)(e:Rd H a (.dK kvs)):kvs.length<=sizeLine/\(a==sysModules)=false/\∃vs,KV kvs vs/\h.DictOf (fV P w) a vs:=
 show cu P w H h a _ from Eb ok e
def Nh(ok:pC P w H h)(e:H a=some (.dK kvs)):kvs.length<=sizeLine/\(a==sysModules)=false/\∃vs,KV kvs vs/\h.DictOf (fV P w) a vs:=nJ ok (.inl e)
end
def uz(H:Hp)(a:Addr)(y:V)(r:Option V):Prop:=
 ∃kvs k,Rd H a (.dK kvs)/\y=kV k/\r=jF kvs k
def O1(H:Hp)(a:Addr)(y v:V)(H':Hp):Prop:=
 ∃kvs k,H a=some (.dK kvs)/\y=kV k/\kvs.length<sizeLine/\H'=upd H a (.dK (putK kvs k v))
theorem uz.k{a:Addr}{k:Key}(e:H a=some (.dK kvs)):uz H a (kV k) (jF kvs k):=⟨kvs,k,.inl e,rfl,rfl⟩
theorem O1.k{a:Addr}{k:Key}(e:H a=some (.dK kvs))(hl:kvs.length<sizeLine):O1 H a (kV k) v (upd H a (.dK (putK kvs k v))):=⟨kvs,k,e,rfl,hl,rfl⟩
section
variable{X:Cx}{γ:QQz}{σ:St}{H:Hp}{s:Shared}{a:Addr}{y v:V}{u r:Value}{o:Option V}{A:Around}{E:QZq}
def Inv.big(I:Inv X γ σ H s):sysModules<s.heap.objs.size:=by
 exact Nat.lt_trans (by decide) ((I.mod.glob.keeps I.bk).lt)
def Iu(hu:A.units+1<cLine)(I:Inv X γ σ H s)(g:uz H a y (some v))(ry:RelV y u)(h:∀w' s',Inv X γ σ H s'->RelV v w'->Q w' s'):
  wpAny (model X.prog X.w) A (getItem (.ref a) u) Q E s:=by
 obtain⟨kvs,k,e,ey,l⟩:=g
 subst ey
 obtain⟨z,hd,vs,rel,dd⟩:=nJ I.hok e
 obtain⟨w',hw,rw'⟩:=tX.some_of (by rw[l];exact rel.val k)
 exact wpAny_getItem_of (vm ry) dd.mapOf hw (h w' _ (I.tok _) rw')
def ags(hu:A.units+1<cLine)(I:Inv X γ σ H s)(g:uz H a y o)(ry:RelV y u)(h:∀s',Inv X γ σ H s'->Q (.bool o.isSome) s'):
  wpAny (model X.prog X.w) A (compareOp .In u (.ref a)) Q E s:=by
 obtain⟨kvs,k,e,ey,l⟩:=g
 subst ey
 obtain⟨z,hd,vs,rel,dd⟩:=nJ I.hok e
 refine wpAny_in_of (vm ry) hd dd.mapOf ?_
 rw[<- (rel.val k).iC,<-l]
 exact h _ (I.tok _)
def R4(hu:A.units+1<cLine)(I:Inv X γ σ H s)(g:uz H a y o)(ry:RelV y u)(h:∀s',Inv X γ σ H s'->Q (.bool (!o.isSome)) s'):
  wpAny (model X.prog X.w) A (compareOp .NotIn u (.ref a)) Q E s:=by
 obtain⟨kvs,k,e,ey,l⟩:=g
 subst ey
 obtain⟨z,hd,vs,rel,dd⟩:=nJ I.hok e
 refine wpAny_notIn_of (vm ry) hd dd.mapOf ?_
 rw[<- (rel.val k).iC,<-l]
 exact h _ (I.tok _)
def lA{t':Nat}(I:Inv X γ σ H s)(mu:Mut (H a))(hs:Heap.SameBut a s.heap h')(he:∃q,h'.get? a=some q)(new:cu X.prog X.w (upd H a ob) h' a ob):
  Inv X γ σ (upd H a ob) {s with heap:=h',toks:=t'}:=
 I.write mu (.inl rfl) (fun b q hb z=>(hs.2 b hb).trans z) he new
def Ni{w:World}{h':Heap}{vs:List (Key×Value)}(z:kvs.length<=sizeLine)(hd:(a==sysModules)=false)(rel:KV kvs vs)(dd:h'.DictOf (fV P w) a vs):
  cu P w H' h' a (.dK kvs):=⟨z,hd,vs,rel,dd⟩
def Ir{Q:Unit->Shared->Prop}(hu:A.units+1<cLine)(I:Inv X γ σ H s)(g:O1 H a y v H')(ry:RelV y u)(rv:RelV v r)(h:∀s',Inv X γ σ H' s'->Q () s'):
  wpAny (model X.prog X.w) A (setItem (.ref a) u r) Q E s:=by
 obtain⟨kvs,k,e,ey,l,eH⟩:=g
 subst ey eH
 obtain⟨z,hd,vs,rel,dd⟩:=Nh I.hok e
 have hz:vs.length<=sizeLine:=by rw[<-rel.length];exact z
 refine wpAny_setItem_pairs (vm ry) dd fun h' dd' hs=>h _ ?_
 exact lA I (by rw[e];exact True.intro) hs (let ⟨q,_,_,hq,_⟩:=dd';⟨q,hq⟩) (Ni (by have:=pK kvs k v;omega) hd (rel.put k rv) dd')
end
section
variable{X:Cx}{γ:QQz}{σ:St}{H:Hp}{s:Shared}{a:Addr}{kvs:List (Key×V)}{k:Key}{u:Value}{A:Around}{E:QZq}
def acK(I:Inv X γ σ H s)(e:Rd H a (.dK kvs))(h:∀t s',Inv X γ σ H s'->Q (.int kvs.length t) s'):wpAny (model X.prog X.w) A (call (.builtin "len") [.ref a]) Q E s:=by
 obtain⟨z,hd,vs,rel,dd⟩:=nJ I.hok e
 refine call_len_dict hd dd (by rw[<-rel.length];rw[sizeLine_eq]at z;omega) ?_
 rw[<-rel.length]
 exact h _ _ (I.tok _)
end
def zR{X:Cx}{σ:St}{H:Hp}{a:Addr}{y:V}(I:Inv X γ σ H s)(g:uz H a y o):s.TypeIs (.ref a) "dict":=by
 obtain⟨kvs,k,e,_,_⟩:=g
 obtain⟨_,_,vs,_,dd⟩:=nJ I.hok e
 exact dd.typeIs
section
variable{X:Cx}{o i e value:Expr}{pos pos' tpos:Pos}{td ty tv:TE}
end
def sV{w:World}(h:Heap)(hb:sysModules<h.objs.size):cu P w H (h.push {cls:=.type "dict",data:=.dict #[]}) h.objs.size (.dK []):=
 ⟨QIq _,beq_eq_false_iff_ne.mpr (Ne.symm (Qvz hb)),[],.nil,Heap.DictOf.new h⟩
def V5:TE:=fun _ H Q=>∀p,H p=none->Q (.ref p) (upd H p (.dK []))
section
variable{X:Cx}{pos:Pos}
def KD:PE X (.Dict [] [] pos) V5:=fun γ s σ H Q I h=>
 wpAny_Dict_empty ⟨.ref s.heap.objs.size,_,I.laid (fun _ _ q=>QWq _ q) (QVz _) (sV s.heap I.big),rfl,h _ (I.hok.fresh (QVz _))⟩
end
noncomputable def v6:List (TE×TE)->St->Hp->(List (V×V)->Hp->Prop)->Prop
 |[],_,H,Q=>Q [] H
 |(tk,tv)::r,σ,H,Q=>tk σ H fun x H1=>tv σ H1 fun y H2=>v6 r σ H2 fun ps H3=>Q ((x,y)::ps) H3
abbrev VV:List (V×V)->List (Value×Value)->Prop:=Paired fun p q=>RelV p.1 q.1/\RelV p.2 q.2
def PPs(X:Cx)(pos:Pos)(keys:List (Option Expr))(values:List Expr)(nT:List (TE×TE)):Prop:=
 ∀(γ:QQz)(s:Shared)(σ:St)(H:Hp)(Q:List (V×V)->Hp->Prop),Inv X γ σ H s->v6 nT σ H Q->
  wpAny (model X.prog X.w) X.A (evalPairs (pairTrees keys values X.env pos)) (fun vs s'=>∃ps H',Inv X γ σ H' s'/\VV ps vs/\Q ps H') X.xe s
def QH{pos:Pos}:PPs X pos [] [] []:=fun γ s σ H Q I h=>pairTrees_nil_walk ⟨[],H,I,.nil,h⟩
def Ko{pos:Pos}{ks:List (Option Expr)}{tk tv:TE}(hk:PE X k tk)(hv:PE X v tv)(hr:PPs X pos ks vs nT):
  PPs X pos (some k::ks) (v::vs) ((tk,tv)::nT):=fun γ s σ H Q I h=>
 pairTrees_cons_walk (cB (hk γ s σ H _ I h) fun u s1⟨x,H1,I1,rx,q1⟩=>cB (hv γ s1 σ H1 _ I1 q1) fun w2 s2⟨y,H2,I2,ry,q2⟩=>
  cB (hr γ s2 σ H2 _ I2 q2) fun ws s3⟨ps,H3,I3,rel,q3⟩=>⟨(x,y)::ps,H3,I3,.cons ⟨rx,ry⟩ rel,q3⟩)
structure M2(X:Cx)(o:Expr)(m:Str)(apos:Pos)(e f:Expr)(cpos:Pos):Prop where
 base:attributeBase o m X.env (eval o X.env)=eval o X.env
 few:((backTo cpos (starEach [e,f] X.env)).all (fun x=> !x.1)&&(backToKw cpos (keywordEach [] X.env)).all (fun x=>x.1.isSome)
  &&decide (([e,f]:List Expr).length+([]:List Keyword).length+(if ([]:List Keyword).isEmpty then 0 else 1)<30))=true
 line:(apos.endLine==cpos.line)=true
 trees:backTo cpos (starEach [e,f] X.env)=[(false,eval e X.env),(false,eval f X.env)]
def IsD(H:Hp)(a:Addr):Prop:=∃kvs,Rd H a (.dK kvs)
def X6{X:Cx}{σ:St}{H:Hp}{a:Addr}(I:Inv X γ σ H s)(d:IsD H a):
  s.TypeIs (.ref a) "dict"/\(∀b,Value.ref a=.ref b->∃ob,s.heap.get? b=some ob/\ob.dict=none)/\(a==sysModules)=false:=by
 obtain⟨kvs,e⟩:=d
 obtain⟨_,hd,vs,_,dd⟩:=nJ I.hok e
 refine⟨dd.typeIs,fun b q=>?_,hd⟩
 cases q
 obtain⟨ob,_,_,h1,h2,_⟩:=dd
 exact⟨ob,h1,h2.2.1⟩
section
variable{X:Cx}{γ:QQz}{σ:St}{H:Hp}{s:Shared}{a:Addr}{y d:V}{u r:Value}{o:Option V}{A:Around}{E:QZq}
def YQ(hu:A.units+1<cLine)(I:Inv X γ σ H s)(g:uz H a y o)(ry:RelV y u)(rd:RelV d r)(h:∀w' s',Inv X γ σ H s'->RelV (o.getD d) w'->Q w' s'):
  wpAny (model X.prog X.w) A (call (.builtin "dict.get") [.ref a,u,r]) Q E s:=by
 obtain⟨kvs,k,e,ey,l⟩:=g
 subst ey
 obtain⟨z,hd,vs,rel,dd⟩:=nJ I.hok e
 refine call_meetsIn PySem.F.slot_dict_get dd.typeIs PySem.F.entry_dict_get (PySem.F.args_dict_get_3 _ _ _) (meets_dict_get_default _ a (vm ry) hd r) ⟨_,dd.mapOf,h _ _ (I.tok _) ?_⟩
 rw[l]
 exact(rel.val k).getD rd
end
noncomputable def V6(td ty tx:TE):TE:=fun σ H Q=>td σ H fun x H1=>∃a,x=.ref a/\IsD H1 a/\ty σ H1 fun y H2=>tx σ H2 fun z H3=>∃o,uz H3 a y o/\Q (o.getD z) H3
section
variable{X:Cx}{o e f:Expr}{apos cpos:Pos}{td ty tx:TE}
def KH(hu:X.A.units+1<cLine)(ho:PE X o td)(he:PE X e ty)(hf:PE X f tx)(m:M2 X o "get" apos e f cpos):PE X (.Call (.Attribute o "get" apos) [e,f] [] cpos) (V6 td ty tx):=by
 intro γ s σ H Q I h
 refine wpAny_Call_method m.base m.few m.line PySem.F.plainAttrs_dict PySem.F.slot_dict_get PySem.F.type_dict_get (cB (ho γ s σ H _ I h) fun u s1⟨x,H1,I1,rx,a,ex,d,q1⟩=>?_)
 subst ex
 obtain rfl:u=Value.ref a:=rx
 obtain⟨t1,t2,_⟩:=X6 I1 d
 refine⟨t1,t2,?_⟩
 rw[m.trees]
 refine Calls.callWith_builtin rfl (Calls.evalArgs_plain (Calls.spliced_cons (cB (he γ s1 σ H1 _ I1 q1) fun iv s2⟨y,H2,I2,ry,q2⟩=>
  Calls.spliced_cons (cB (hf γ s2 σ H2 _ I2 q2) fun fv s3⟨z,H3,I3,rz,ov,g,q3⟩=>Calls.spliced_nil ?_))))
 exact YQ hu I3 g ry rz fun w' s4 I4 rw'=>⟨_,H3,I4,rw',q3⟩
end
section
variable{X:Cx}{γ:QQz}{σ:St}{H:Hp}{s:Shared}{a:Addr}{kvs:List (Key×V)}{A:Around}{E:QZq}
end
section
variable{X:Cx}{γ:QQz}{σ:St}{H:Hp}{s:Shared}{a:Addr}{y:V}{u:Value}{A:Around}{E:QZq}
end
end L2
namespace Att
open PySem PySem.W PySem.Calls PyProof.Rows
def qd{h:Heap}:∀(ns:List Int)(vs:List Value),WellAll P h vs (ns.map WData.int)->IntsAre vs ns:=by
 intro ns
 induction ns with
 |nil=>
  intro vs w
  cases w
  exact .nil
 |cons n ns ih=>
  intro vs w
  cases w with
  |cons a b=>
   cases a
   exact .cons _ _ (ih _ b)
theorem G3{l:OpenLaw}(hn:l.most=some n){h:Heap}
  (hpre:l.row.toRowW.claim.pre args=true)(hwl:WellAll P h vals args):
  ∃a vs ns,vals=[Value.ref a]/\args=[WData.list (ns.map WData.int)]/\h.get? a=some {cls:=.type "list",data:=.seq vs.toArray}/\IntsAre vs ns/\ns.length<=n:=by
 obtain⟨d,r,rfl,h1,h2⟩:=hasAllW_cons ((pre_splitW hpre).1)
 obtain rfl:=hasAllW_nil h2
 obtain⟨xs,rfl,h3⟩:=hasW_list h1
 obtain⟨ns,rfl⟩:=items_int h3
 have hlen:ns.length<=n:=by
  have h4:(WTm.not (.lt (.lit (.int n)) (.len (.arg 0)))).holds [] {args:=[.list (ns.map .int)]}=true:=by
   have h4:=(holds_andW ((pre_splitW hpre).2)).1
   rw[hn]at h4
   exact h4
  have h5:=condW_of h4 (w_not (w_lt w_lit (w_len_list (w_arg rfl))))
  refine Nat.le_of_not_lt fun q=>?_
  first
   |(rw[QFq q']at h5;exact absurd h5 (by decide))
   |(simp at h5;omega)
 cases hwl with
 |cons w1 w2=>
  cases w2
  cases w1 with
  |list ho hall=>exact⟨_,_,ns,rfl,rfl,ho,qd ns _ hall,hlen⟩
def Hj(l:OpenLaw)args:l.row.toRowW.claim.post args (.bool true) args=true:=
 postW_of
  (show WShape.has [] _ .bool=true by first|rfl|decide|simp[WShape.has,WShape.arms,WShape.armsAll])
  (w_eq_bool (w_res rfl) w_lit) rfl
def z7{l:OpenLaw}{n:Nat}{loose:List Str}{YP:World->Heap->Prop}
  (hn:l.most=some n)(hdf:d.params.defaults=[])
  (call:∀(w:World)(s₀ ι:Shared)(mg mb:QZz)(fa:Addr)(o:Obj)(pm cd doc:Value)(a:Addr)(vs:List Value)(ns:List Int),
   Ground q loose [] XP w s₀ mg mb ι.heap->YP w ι.heap->
   ι.heap.get? fa=some o->o.data=.func (docDef d.name d.params d.body d.scope pm cd doc)->ι.heap.CodeRec cd d.name->mg d.name=some (.ref fa)->
   ι.heap.get? a=some {cls:=.type "list",data:=.seq vs.toArray}->IntsAre vs ns->ns.length<=n->ι.gens= #[]->
   codeAny (model l.prog w) callerA (.call (.ref fa) ⟨[.ref a],[]⟩) (fun r s'=>r=.ok (.ret (.bool true))/\OldK ι.heap s'.heap/\s'.os=ι.os/\AllBare s'.gens) ι):
  WalkO q loose XP YP l.row.toRowW d [] (fun f vs=>PySem.call f vs):=by
 intro w s₀ ι mg mb G Y fa o pm cd doc dV kV ho hd hcd hD hmg hg args vals as hpre hlay hrd hwl hlo
 obtain rfl:dV=.none:=Dflts.none hD hdf
 obtain rfl:kV=.none:=Dflts.noKw hD
 obtain⟨a,vs,ns,rfl,rfl,hobj,hints,hlen⟩:=G3 hn hpre hwl
 refine enter_call (codeAny_mono (call w s₀ ι mg mb fa o pm cd doc a vs ns G Y ho (fd_plain hd) hcd hmg hobj hints hlen hg) fun r s' hq=>?_)
 obtain⟨rfl,h2,h3,h4⟩:=hq
 exact⟨.inl ⟨.bool true,.bool true,[],rfl,fun _=>rfl,.bool true,Hj l _,fun _=>⟨List.Pairwise.nil,fun _ hm=>(nomatch hm)⟩⟩,h2,h3,h4⟩
section
variable{prog:Program}{w:World}{A:Around}{E:QZq}{s:Shared}{K:Frag}
end
end Att
namespace L2
open PySem PySem.Spec PyProof.Rows
theorem uB:∀{vs:List Value}{ns:List Int},IntsAre vs ns->Vals (ns.map V.int) vs
 |_,_,.nil=>.nil
 |_,_,.cons n t h=>.cons ⟨t,rfl⟩ (uB h)
def Only(H:Hp):Prop:=∀b,H b=none\/∃o xs,H b=some (.frz o (.lst xs))
theorem Lp{w:World}{K:QQq}{CX:O5}{fa a:Addr}{x:Str}{ι:Shared}
  (KX:K.In ι.heap)(hns:ι.heap.Ns mainGlobals mg)(hb:ι.heap.Ns builtinsNs mb)(hbb:∀x:Str,x≠"__name__"->mb x=bootBuiltins x)(hlim:ι.heap.NoLimit)(hg:ι.gens= #[])
  (ha:ι.heap.get? a=some {cls:=.type "list",data:=.seq vs.toArray})(hi:IntsAre vs ns)(hl:ns.length<=sizeLine)(hr:jy k callerA)
  (F:∀base:Heap,K.In base->base.Ns mainGlobals mg->pD P w K mg base CX k fa fd [x] sp)(hbind:∀(s:Shared)(u:Value),BindsTo s fd ⟨[u],[]⟩ [(x,u)])
  (hsp:∀H:Hp,Only H->jB K H a (ns.map V.int)->sp [.ref a] H (fun v _=>v=.bl true) fun _ _ _=>False)
  (hCX:∀H e s',CX [] H ι (fun _ _ _=>False) e s'->False):
  codeAny (model P w) callerA (.call (.ref fa) ⟨[.ref a],[]⟩) (fun r s'=>r=.ok (.ret (.bool true))/\OldK ι.heap s'.heap/\s'.os=ι.os/\AllBare s'.gens) ι:=by
 have rv:=uB hi
 have core:∀H:Hp,Only H->jB K H a (ns.map V.int)->pC P w H ι.heap->(∀b,H b≠none->b=a)->(H a≠none->K.lookup a=none)->
   codeAny (model P w) callerA (.call (.ref fa) ⟨[.ref a],[]⟩) (fun r s'=>r=.ok (.ret (.bool true))/\OldK ι.heap s'.heap/\s'.os=ι.os/\AllBare s'.gens) ι:=by
  intro H hO hS hok hA hK
  have nP:∀{b:Addr}{o:Obj},ι.heap.get? b=some o->H b=none->(Ia ι.heap H).get? b=some o:=fun e n=>Mq e n
  have noA:∀{b:Addr}{o:Obj}{es:Array DictEntry}{ep:Nat},ι.heap.get? b=some o->o.data=.dict es ep->H b=none:=fun{b o es ep}e d=>by
   cases q:H b with
   |none=>rfl
   |some u=>
    have e':=hA b (by rw[q];simp)
    subst e'
    rw[ha]at e;cases e
    cases d
  have nsK:∀{b:Addr}{m:QZz},ι.heap.Ns b m->(Ia ι.heap H).Ns b m:=fun{b m}⟨o,es,ep,e,d,r⟩=>⟨o,es,ep,nP e (noA e d),d,r⟩
  have hKb:=fun b o e=>nP (KX b o e) (by
   cases q:H b with
   |none=>rfl
   |some u=>
    have e':=hA b (by rw[q];simp)
    subst e'
    rw[hK (by rw[q];simp)]at e;cases e)
  have hM:Mod K mg _:=⟨hKb,nsK hns,⟨mb,nsK hb,hbb⟩,let ⟨mc,h1,h2⟩:=hlim;⟨mc,nsK h1,h2⟩⟩
  refine codeAny_mono ((F _ hKb (nsK hns)).run callerA [] ι H ⟨[.ref a],[]⟩ [.ref a] [.ref a] _ _ hr ⟨rfl,hM,fun b o e=>Q9 e,Nat.le_of_eq (H9 _ _),trivial,fun b hb=>absurd (show b∈([])from hb) (by simp),hok,.of_eq hg⟩ (hbind ι _) (.cons rfl .nil) (hsp H hO hS)) fun r s' h=>?_
  cases r with
  |error e=>exact(hCX H e s' h).elim
  |ok fl=>
   cases fl with
   |next=>exact False.elim h
   |brk=>exact False.elim h
   |cont=>exact False.elim h
   |ret u=>
    obtain⟨v,H',os,bare,un,hok',r',q⟩:=h
    subst q
    obtain rfl:u=Value.bool true:=r'
    refine⟨rfl,OldK.of_keep fun b o e=>?_,os,bare⟩
    cases q:H b with
    |none=>exact un.keep b o e q (by intro z;exact absurd (show b∈([])from z) (by simp)) (by simp)
    |some u=>
     rcases hO b with z|⟨ob,xs,z⟩
     ·rw[q]at z;cases z
     ·obtain⟨e1,_⟩:=hok b _ z
      obtain⟨e2,_⟩:=hok' b _ (un.frzs b ob _ z)
      rw[e]at e1;cases e1
      exact e2
 cases hk:K.lookup a with
 |some o=>
  have e:=KX a o hk
  rw[ha]at e
  cases e
  refine core _ (fun _=>.inl rfl) (.inr ⟨_,vs.toArray,_,hk,rfl,rfl,rfl,by rw[Qyq,hi.length];exact hl,by simpa using rv⟩) (fun b u z=>by have z':=z;cases z') (fun b z=>absurd rfl z) fun z=>absurd rfl z
 |none=>
  refine core (fun b=>if b=a then some _ else none) (fun b=>?_) (.inl (.inr ⟨{cls:=.type "list",data:=.seq vs.toArray},if_pos rfl⟩)) (fun b u z=>?_) (fun b z=>?_) fun _=>hk
  ·by_cases hb:b=a
   ·exact .inr ⟨_,_,if_pos hb⟩
   ·exact .inl (if_neg hb)
  ·by_cases hb:b=a
   ·cases ((if_pos hb).symm.trans z)
    subst hb
    exact⟨ha,by rw[QAq];exact hl,vs,_,rv,ha⟩
   ·cases ((if_neg hb).symm.trans z)
  ·by_cases hb:b=a
   ·exact hb
   ·exact absurd (if_neg hb) z
def Pj{l:PySem.W.OpenLaw}{n k:Nat}{loose:List Str}{YP:World->Heap->Prop}{K:Params->QQq}{CX:World->O5}{sp:World->Sp}
  (hn:l.most=some n)(hn2:n<=sizeLine)(hdf:d.params.defaults=[])(hr:jy k callerA)
  (hY:∀(w:World)(h:Heap),YP w h->(K w.params).In h)
  (F:∀(w:World)(mg:QZz)(fa:Addr)(h:Heap),(K w.params).In h->h.Ns mainGlobals mg->mg d.name=some (.ref fa)->
   ∃fd:FuncData,(∀(s:Shared)(u:Value),BindsTo s fd ⟨[u],[]⟩ [(x,u)])/\
    ∀base:Heap,(K w.params).In base->base.Ns mainGlobals mg->pD l.prog w (K w.params) mg base (CX w) k fa fd [x] (sp w))
  (hsp:∀(w:World)(H:Hp)(a:Addr)(ns:List Int),ns.length<=n->Only H->jB (K w.params) H a (ns.map V.int)->sp w [.ref a] H (fun v _=>v=.bl true) fun _ _ _=>False)
  (hCX:∀(w:World)(H:Hp)(s:Shared)(e:Value)(s':Shared),CX w [] H s (fun _ _ _=>False) e s'->False):
  PySem.W.WalkO q loose XP YP l.row.toRowW d [] (fun f vs=>PySem.call f vs):=by
 refine Att.z7 hn hdf fun w s₀ ι mg mb fa o pm cd doc a vs ns G Y ho hd hcd hmg hobj hints hlen hg=>?_
 have KX:=hY w _ Y
 obtain⟨fd,hb,hF⟩:=F w mg fa _ KX G.T.g hmg
 exact Lp KX G.T.g G.T.b G.T.builtins G.T.nolimit hg hobj hints (Nat.le_trans hlen hn2) hr hF hb (fun H hO hS=>hsp w H a ns hlen hO hS) fun H e s'=>hCX w H ι e s'
abbrev O6:O5:=fun _ _ _ _ _ _=>False
abbrev E0:XK:=fun _ _ _=>False
def abN:Do O6 X E0:=fun _ _ _ _ _ _ _ h=>h.elim
structure Zc(K:QQq)(x qual:Str)(st:Stmt)(f:Addr)(fd:FuncData):Prop where
 ex:∃(oc:Value)(od:Option Addr)(kV doc pm:Value)(an:Option Addr)(cdv ct:Value)(osl:Array (Option Value)),
  fd=PySem.W.fnOf x qual (eF st) (eE st) (bA st) .none kV doc pm an cdv ct/\K.lookup f=some ⟨oc,od,.func fd,osl⟩/\PySem.W.codeIn K cdv qual=true
 kp:PySem.W.keepIn K (.ref f)=true
section
variable{P:Program}{w:World}{K:QQq}{mg:QZz}{base:Heap}
def Zc.ok{st:Stmt}{fd:FuncData}{k:Nat}(F:Zc K x qual st f fd)(S:lD N ps (bA st))(len:∀vs H Q E,sp vs H Q E->vs.length=ps.length)
  (hbody:∀(cdv:Value)(A:Around)(outer:List Env)(s:Shared)(H:Hp)(vs:List V)(Q:VK)(E:XK),jy k (A.deeper (envOfC qual (bA st) s.heap.objs.size f cdv))->sp vs H Q E->
   ∃t,xU (CK O6 P w K mg base N qual (bA st) f cdv A outer s H E).nox (eE st) t/\t {nx:=fun _ H'=>Q .non H',rt:=Q} (start N vs) H):pD P w K mg base O6 (k+1) f fd ps sp:=by
 obtain⟨oc,od,kV,doc,pm,an,cdv,ct,osl,rfl,lk,hcd⟩:=F.ex
 refine acG lk hcd S len fun A outer s H vs Q E hr hsp=>?_
 obtain⟨t,h,q⟩:=hbody cdv A outer s H vs Q E hr hsp
 exact⟨t,h.nox,q⟩
def Zc.binds{st:Stmt}{f:Addr}{ps:List Str}(F:Zc K x qual st f fd)
  (h:∀(kV doc pm:Value)(an:Option Addr)(cdv ct:Value)(us:List Value),us.length=ps.length->bindArgs (PySem.W.fnOf x qual (eF st) (eE st) (bA st) .none kV doc pm an cdv ct) ⟨us,[]⟩=pure (ps.zip us)):Binds K fd ps []:=by
 obtain⟨oc,od,kV,doc,pm,an,cdv,ct,osl,rfl,lk,hcd⟩:=F.ex
 exact .all (h kV doc pm an cdv ct)
def YH{st:Stmt}{f:Addr}{od an:Option Addr}{kV doc pm cdv ct:Value}(l:K.lookup f=some ⟨oc,od,.func (PySem.W.fnOf x qual (eF st) (eE st) (bA st) .none kV doc pm an cdv ct),osl⟩)
  (c:PySem.W.codeIn K cdv qual=true)(k:PySem.W.keepIn K (.ref f)=true):Zc K x qual st f (PySem.W.fnOf x qual (eF st) (eE st) (bA st) .none kV doc pm an cdv ct):=⟨⟨oc,od,kV,doc,pm,an,cdv,ct,osl,rfl,l,c⟩,k⟩
end
def GZ(h:n<=1000):n<sizeLine:=Nat.lt_of_le_of_lt h (by decide)
section
variable{X:Cx}
end
end L2
end
section
namespace Mini
open PySem L2 PySem.SeqAt
mutual
def cn:PyData->PyData
 |.bool b=>.int (if b then 1 else 0)
 |.tuple xs=>.tuple (cns xs)
 |d=>d
def cns:List PyData->List PyData
 |[]=>[]
 |x::xs=>cn x::cns xs
end
mutual
def hk:PyData->Bool
 |.int _=>true
 |.bool _=>true
 |.str x=>PyData.strOk x
 |.tuple xs=>hks xs
 |_=>false
def hks:List PyData->Bool
 |[]=>true
 |x::xs=>hk x&&hks xs
end
mutual
def dr:PyData->Nat
 |.tuple xs=>Cw xs+1
 |_=>1
def Cw:List PyData->Nat
 |[]=>0
 |x::xs=>dr x+Cw xs
end
mutual
theorem Ve:∀d,dr (cn d)=dr d
 |.tuple xs=>by simp only[cn,dr,Ng xs]
 |.bool _=>rfl
 |.none=>rfl
 |.int _=>rfl
 |.str _=>rfl
 |.list _=>rfl
 |.dict _=>rfl
theorem Ng:∀xs,Cw (cns xs)=Cw xs
 |[]=>rfl
 |x::xs=>by simp only[cns,Cw,Ve x,Ng xs]
end
mutual
theorem xK:∀d:PyData,hk d=true->d.canLay0=true
 |.int _=>fun _=>rfl
 |.bool _=>fun _=>rfl
 |.str x=>fun h=>h
 |.tuple xs=>fun h=>Gn xs h
 |.none=>fun h=>by cases h
 |.list _=>fun h=>by cases h
 |.dict _=>fun h=>by cases h
theorem Gn:∀xs:List PyData,hks xs=true->PyData.canLayAll0 xs=true
 |[]=>fun _=>rfl
 |x::xs=>fun h=>by
  simp only[hks,QUq]at h
  simp only[PyData.canLayAll0,xK x h.1,Gn xs h.2,Bool.and_self]
end
mutual
theorem Cr:∀a b:PyData,hk a=true->hk b=true->PyData.eqv a b=decide (cn a=cn b)
 |.int i,.int j=>fun _ _=>by rw[Bool.eq_iff_iff];simp[PyData.eqv,cn]
 |.int i,.bool b=>fun _ _=>by rw[Bool.eq_iff_iff];cases b<;>simp[PyData.eqv,cn]
 |.bool a,.int j=>fun _ _=>by rw[Bool.eq_iff_iff];cases a<;>simp[PyData.eqv,cn]
 |.bool a,.bool b=>fun _ _=>by cases a<;>cases b<;>simp[PyData.eqv,cn]
 |.str x,.str y=>fun _ _=>by rw[Bool.eq_iff_iff];simp[PyData.eqv,cn]
 |.tuple xs,.tuple ys=>fun h g=>by
  simp only[PyData.eqv,cn,PyData.tuple.injEq]
  exact FP xs ys h g
 |.int _,.str _=>fun _ _=>by simp[PyData.eqv,cn]
 |.int _,.tuple _=>fun _ _=>by simp[PyData.eqv,cn]
 |.bool b,.str _=>fun _ _=>by simp[PyData.eqv,cn]
 |.bool b,.tuple _=>fun _ _=>by simp[PyData.eqv,cn]
 |.str _,.int _=>fun _ _=>by simp[PyData.eqv,cn]
 |.str _,.bool b=>fun _ _=>by simp[PyData.eqv,cn]
 |.str _,.tuple _=>fun _ _=>by simp[PyData.eqv,cn]
 |.tuple _,.int _=>fun _ _=>by simp[PyData.eqv,cn]
 |.tuple _,.bool b=>fun _ _=>by simp[PyData.eqv,cn]
 |.tuple _,.str _=>fun _ _=>by simp[PyData.eqv,cn]
 |.none,_=>fun h _=>by cases h
 |.list _,_=>fun h _=>by cases h
 |.dict _,_=>fun h _=>by cases h
 |.int _,.none=>fun _ h=>by cases h
 |.int _,.list _=>fun _ h=>by cases h
 |.int _,.dict _=>fun _ h=>by cases h
 |.bool _,.none=>fun _ h=>by cases h
 |.bool _,.list _=>fun _ h=>by cases h
 |.bool _,.dict _=>fun _ h=>by cases h
 |.str _,.none=>fun _ h=>by cases h
 |.str _,.list _=>fun _ h=>by cases h
 |.str _,.dict _=>fun _ h=>by cases h
 |.tuple _,.none=>fun _ h=>by cases h
 |.tuple _,.list _=>fun _ h=>by cases h
 |.tuple _,.dict _=>fun _ h=>by cases h
theorem FP:∀xs ys:List PyData,hks xs=true->hks ys=true->PyData.eqvAll xs ys=decide (cns xs=cns ys)
 |[],[]=>fun _ _=>by simp[PyData.eqvAll,cns]
 |[],_::_=>fun _ _=>by simp[PyData.eqvAll,cns]
 |_::_,[]=>fun _ _=>by simp[PyData.eqvAll,cns]
 |x::xs,y::ys=>fun h g=>by
  simp only[hks,QUq]at h g
  simp only[PyData.eqvAll,cns,List.cons.injEq,Cr x y h.1 g.1,FP xs ys h.2 g.2]
  by_cases p:cn x=cn y<;>by_cases q:cns xs=cns ys<;>simp[p,q]
end
theorem xr:∀{xs:List PyData}{x:PyData},x∈xs->x.depth<=PyData.depthAll xs
 |y::ys,x,h=>by
  have e:PyData.depthAll (y::ys)=max y.depth (PyData.depthAll ys):=by simp[PyData.depthAll]
  rcases QCq.mp h with rfl|h
  ·omega
  ·have:=xr h;omega
theorem BZ:∀{xs:List PyData}{x:PyData},hks xs=true->x∈xs->hk x=true
 |y::ys,x,g,h=>by
  simp only[hks,QUq]at g
  rcases QCq.mp h with rfl|h
  ·exact g.1
  ·exact BZ g.2 h
mutual
theorem qY{h h':Heap}{a:Addr}{o:Obj}{es:Array DictEntry}{ep:Nat}(ho:h.get? a=some o)(hd:o.data=.dict es ep)(hs:Heap.SameBut a h h'):∀(d:PyData){v:Value}{as:List Addr},hk d=true->Reads h v d as->Reads h' v d as
 |.int _,_,_,_,r=>by cases r;exact .int _ _
 |.bool _,_,_,_,r=>by cases r;exact .bool _
 |.str _,_,_,_,r=>by cases r;exact .str _ _
 |.tuple xs,_,_,g,r=>by
  cases r with
  | @tuple b o' vs n xs as h1 h2 h3 h4=>
   have ne:b≠a:=fun z=>by
    subst z
    rw[ho]at h1
    cases h1
    rw[hd]at h3
    cases h3
   exact .tuple ((hs.2 b ne).trans h1) h2 h3 (pH ho hd hs xs g h4)
 |.none,_,_,g,_=>by cases g
 |.list _,_,_,g,_=>by cases g
 |.dict _,_,_,g,_=>by cases g
theorem pH{h h':Heap}{a:Addr}{o:Obj}{es:Array DictEntry}{ep:Nat}(ho:h.get? a=some o)(hd:o.data=.dict es ep)(hs:Heap.SameBut a h h'):∀(xs:List PyData){vs:List Value}{as:List Addr},hks xs=true->ReadsAll h vs xs as->ReadsAll h' vs xs as
 |[],_,_,_,r=>by cases r;exact .nil
 |x::xs,_,_,g,r=>by
  simp only[hks,QUq]at g
  cases r with
  |cons r1 r2=>exact .cons (qY ho hd hs x g.1 r1) (pH ho hd hs xs g.2 r2)
end
section
variable{prog:Program}{w:World}{E:QZq}
def vy{A:Around}{s:Shared}{b:Bool}{Q:Int->Shared->Prop}(h:Q (hashInt (if b then 1 else 0)) {s with toks:=s.toks+1}):wpAny (model prog w) A (pyHash (.bool b)) Q E s:=by
 refine PySem.W.pyHash_slot (T:="bool") rfl F.slot_bool_hash entry_int_hash (args_int_hash _) (beq_builtin_none _) (.inl rfl) ?_
 cases b
 ·exact(show wpAny _ _ (mkInt 0>>=fun x=>ret x) _ _ s from QKq (wpAny_mkInt (QKz ⟨_,_,rfl,h⟩)))
 ·exact(show wpAny _ _ (mkInt 1>>=fun x=>ret x) _ _ s from QKq (wpAny_mkInt (QKz ⟨_,_,rfl,h⟩)))
theorem Fw:∀xs ys:List PyData,hHs w (xs++ys)=hHs w xs++hHs w ys
 |[]=>fun _=>rfl
 |x::xs=>fun ys=>by simp only[QLz,hHs,Fw xs ys]
theorem Gh:∀xs ys:List PyData,cns (xs++ys)=cns xs++cns ys
 |[]=>fun _=>rfl
 |x::xs=>fun ys=>by simp only[QLz,cns,Gh xs ys]
theorem FZ:∀xs ys:List PyData,Cw (xs++ys)=Cw xs+Cw ys
 |[]=>fun _=>by simp[Cw]
 |x::xs=>fun ys=>by simp only[QLz,Cw,FZ xs ys];omega
def Rx:∀(n:Nat)(d:PyData){A:Around}{s:Shared}{v:Value}{as:List Addr}{Q:Int->Shared->Prop},d.depth<=n->hk d=true->Reads s.heap v d as->A.units+d.depth<cLine->Q (hH w (cn d)) {s with toks:=s.toks+dr d}->wpAny (model prog w) A (pyHash v) Q E s:=by
 intro n
 induction n with
 |zero=>
  intro d A s v as Q hn g r hu h
  cases d with
  |int i=>cases r;exact wpAny_pyHash_int h
  |bool b=>cases r;exact vy h
  |str x=>cases r;exact wpAny_pyHash_str h
  |tuple xs=>simp[PyData.depth]at hn
  |_=>cases g
 |succ n ih=>
  intro d A s v as Q hn g r hu h
  cases d with
  |int i=>cases r;exact wpAny_pyHash_int h
  |bool b=>cases r;exact vy h
  |str x=>cases r;exact wpAny_pyHash_str h
  |tuple xs=>
   have de:(PyData.tuple xs).depth=PyData.depthAll xs+1:=by simp[PyData.depth,Nat.add_comm]
   cases r with
   | @tuple a o vs m xs as ho hc hd h4=>
    have hu0:A.units<cLine:=by omega
    refine PySem.W.pyHash_slot (T:="tuple") ⟨o,ho,hc⟩ F.slot_tuple_hash F.entry_tuple_hash (F.args_tuple_hash_1 _) (beq_builtin_none _) (.inr hu0) ?_
    show wpAny _ A.in1 (Builtin.Tuple.tupleItemsOf (.ref a)>>=_) _ _ s
    refine QKq (wpAny_tupleItemsOf (n:=m) ho hd (QKq ?_))
    rw[<-Array.forIn_toList]
    refine wpAny_forIn_list _ (fun rest(b:Array Int)s'=>∃done left bs,xs=done++left/\ReadsAll s.heap rest left bs/\b.toList=hHs w (cns done)/\s'={s with toks:=s.toks+Cw done}) _ ?_ ?_ _ _ ⟨[],xs,as,rfl,h4,rfl,rfl⟩
    ·rintro x rest b s' ⟨done,left,bs,rfl,hl,hb,rfl⟩
     cases hl with
     | @cons _ _ k ks _ bs' h1 hl'=>
      have mk:k∈done++k::ks:=QVq _ QYz
      have dk:=xr mk
      have hu1:A.in1.units+k.depth<cLine:=by
       have:A.in1.units<=A.units+1:=by simp[Around.in1]
       omega
      refine QKq (ih k (s:={s with toks:=s.toks+Cw done}) (by omega) (BZ g mk) h1 hu1 ?_)
      have hb':(b.push (hH w (cn k))).toList=hHs w (cns (done++[k])):=by rw[Gh,Fw,Array.toList_push,hb];rfl
      have ht:(Cw done+dr k)=Cw (done++[k]):=by rw[FZ];simp[Cw]
      first
       |exact QKz ⟨done++[k],ks,bs',by simp,hl',hb',by rw[<-ht];simp[Nat.add_assoc]⟩
       |exact QKq (QKz (QKz ⟨done++[k],ks,bs',by simp,hl',hb',by rw[<-ht];simp[Nat.add_assoc]⟩))
    ·rintro b s' ⟨done,left,bs,rfl,hl,hb,rfl⟩
     cases hl
     rw[List.append_nil]at h
     show wpAny _ A.in1 (retInt (Builtin.Tuple.tupleHashOf b.toList)) _ E _
     rw[hb]
     refine(show wpAny _ A.in1 (mkInt (Builtin.Tuple.tupleHashOf (hHs w (cns done)))>>=fun x=>ret x) _ E _ from QKq (wpAny_mkInt (QKz ⟨_,_,rfl,?_⟩)))
     simpa[hH,cn,dr,Nat.add_assoc]using h
  |_=>cases g
def fZ{A:Around}{s:Shared}{v:Value}(d:Nat)(hv:carriedByValue v=true){R:Bool->Shared->Prop}(r:R true s):wpAny (model prog w) A (eqIsQuiet d v) R E s:=by
 rw[eqIsQuiet_byValue d hv]
 exact QKz r
def Hi{A:Around}{s:Shared}{d:Nat}{a:Addr}{o:Obj}{its:Array Value}{n:Nat}{Q:Bool->Shared->Prop}(ho:s.heap.get? a=some o)(hc:o.cls=.type "tuple")(hd:o.data=.seq its n)(hq:∀v∈its.toList,∀R:Bool->Shared->Prop,R true s->wpAny (model prog w) A (eqIsQuiet d v) R E s)(q:Q true s):
  wpAny (model prog w) A (eqIsQuiet (d+1) (.ref a)) Q E s:=by
 have hT:s.TypeIs (.ref a) "tuple":=⟨o,ho,hc⟩
 unfold eqIsQuiet
 refine QKq (wpAny_specialOf hT F.slot_tuple_eq.lookup (show wpAny _ A (isInstance (.ref a) (.type "tuple")>>=_) _ E s from QKq (wpAny_isInstance hT isSubtype_tuple_tuple ?_)))
 rw[if_neg (by decide)]
 refine QKq (wpAny_seqItems (n:=n) ho hd (QKq ?_))
 show wpAny _ A (forIn its _ _) _ E s
 rw[<-Array.forIn_toList]
 refine wpAny_forIn_list _ (fun rest r s'=>s'=s/\r=(none,())/\∀v∈rest,v∈its.toList) _ (fun v rest r s'=>?_) (fun r s'=>?_) _ _ ⟨rfl,rfl,fun v hv=>hv⟩
 ·rintro ⟨rfl,rfl,hm⟩
  exact QKq (hq v (hm v QYz) _ (QKz ⟨rfl,rfl,fun u hu=>hm u (QYq _ hu)⟩))
 ·rintro ⟨rfl,rfl,_⟩
  exact QKz q
theorem yG{h:Heap}:∀{xs:List PyData}{vs:List Value}{as:List Addr},ReadsAll h vs xs as->∀v∈vs,∃x∈xs,∃bs,Reads h v x bs
 |[],_,_,r,v,hv=>by cases r;cases hv
 |x::xs,_,_,r,v,hv=>by
  cases r with
  |cons r1 r2=>
   rcases QCq.mp hv with rfl|hv
   ·exact⟨x,QYz,_,r1⟩
   ·obtain⟨y,hy,q⟩:=yG r2 v hv
    exact⟨y,QYq _ hy,q⟩
def J9{A:Around}{s:Shared}:∀(n:Nat)(d:PyData){v:Value}{as:List Addr}{Q:Bool->Shared->Prop},d.depth<=n->hk d=true->Reads s.heap v d as->Q true s->wpAny (model prog w) A (eqIsQuiet (n+1) v) Q E s:=by
 intro n
 induction n with
 |zero=>
  intro d v as Q hn g r q
  cases d with
  |int i=>cases r;exact fZ _ rfl q
  |bool b=>cases r;exact fZ _ rfl q
  |str x=>cases r;exact fZ _ rfl q
  |tuple xs=>simp[PyData.depth]at hn
  |_=>cases g
 |succ n ih=>
  intro d v as Q hn g r q
  cases d with
  |int i=>cases r;exact fZ _ rfl q
  |bool b=>cases r;exact fZ _ rfl q
  |str x=>cases r;exact fZ _ rfl q
  |tuple xs=>
   have de:(PyData.tuple xs).depth=PyData.depthAll xs+1:=by simp[PyData.depth,Nat.add_comm]
   cases r with
   | @tuple a o vs m xs as ho hc hd h4=>
    refine Hi ho hc hd (fun v hv R r=>?_) q
    obtain⟨x,hx,bs,rx⟩:=yG h4 v hv
    have:=xr hx
    exact ih x (by omega) (BZ g hx) rx r
  |_=>cases g
def Jc(h:Heap)(k:SK)(a:Addr):Prop:=∃d as,hk d=true/\d.depth<=7/\cn d=k/\Reads h (.ref a) d as
def Jc.inj{h:Heap}{a:Addr}{x y:SK}(g:Jc h x a)(f:Jc h y a):x=y:=by
 obtain⟨d,as,h1,_,rfl,r⟩:=g
 obtain⟨e,bs,_,_,rfl,r'⟩:=f
 rw[SeqAt.Reads.unique d e _ as bs (xK d h1) r r']
noncomputable def eO(prog:Program)(w:World):HeapKind prog w SK where
 is:=Jc
 hash:=hH w
 draws:=dr
 room:=fun A=>A.units+8<cLine
 inj:=fun g f=>g.inj f
 keeps:=fun x ho hd hs=>let ⟨d,as,h1,h2,h3,r⟩:=x;⟨d,as,h1,h2,h3,qY ho hd hs d h1 r⟩
 pyHash:=fun hu x q=>by
  obtain⟨d,as,h1,h2,rfl,r⟩:=x
  rw[Ve]at q
  exact Rx 7 d h2 h1 r (by omega) q
 eqBool:=fun hu g f q=>by
  obtain⟨d,as,h1,h2,rfl,r⟩:=g
  obtain⟨e,bs,h3,h4,rfl,r'⟩:=f
  rw[<-Cr d e h1 h3]at q
  exact SeqAt.eqAt_reads d e _ _ _ _ as bs r r' (xK d h1) (xK e h3) (by have:min d.depth e.depth<=d.depth:=Nat.min_le_left _ _;omega) _ _ _ _ q
 quiet:=fun x q=>by
  obtain⟨d,as,h1,h2,_,r⟩:=x
  exact J9 7 d h2 h1 r q
end
end Mini
end
section
namespace Mini
open PySem L2
def qj(h:Heap)(d:Addr)(es:Array DictEntry)(ep:Nat):Prop:=∃o,h.get? d=some o/\o.ExactDict/\o.data=.dict es ep
section
def I8(y:(d==sysModules)=false)(B:qj s.heap d es ep)
  (q:Q (.ref s.heap.objs.size) {s with heap:=s.heap.push {cls:=.type "dict_keyiterator",data:=.fields #[.ref d,.int 0 0,.int es.size 0,.int ep 0]}}):wpAny (model prog w) A (pyIter (.ref d)) Q E s:=by
 obtain⟨o,h1,h2,h3⟩:=B
 have t:s.TypeIs (.ref d) "dict":=⟨o,h1,h2.1⟩
 refine wpAny_pyIter_slot t F.slot_dict_iter (Qzz F.slot_dict_iter t F.entry_dict_iter ?_ (F.args_dict_iter_1 _))
 refine QKq (QKq (wpAny_notOrdered_dict t (QKz ?_)))
 show wpAny _ _ (Builtin.Dict.showsAll d>>=_) _ _ s;unfold Builtin.Dict.showsAll;rw[if_neg (by rw[y];decide)]
 refine QKq (QKz (QKq (wpAny_dictEntries h1 h3 (QKq (wpAny_dictEpoch h1 h3 ?_)))))
 refine QKq (Qjq (QKz ⟨_,rfl,"dict_keyiterator",_,⟨_,Qzq _ rfl,rfl⟩,F.slot_dict_keyiterator_next.lookup,q⟩))
def I9{Q:Option Value->Shared->Prop}(st:s.heap.IsKeyIter it d i es.size ep)(B:qj s.heap d es ep)(x:es[i]? =some e)
  (q:∀h',h'.IsKeyIter it d (i+1) es.size ep->Heap.SameBut it s.heap h'->Q (some e.key) {s with heap:=h'}):wpAny (model prog w) A (pyNext (.ref it)) Q E s:=by
 obtain⟨o,g1,g2,g3⟩:=id st
 obtain⟨od,h1,h2,h3⟩:=B
 refine QKq (wpAny_attempt (wpAny_callSpecial?_slot st.typeIs F.slot_dict_keyiterator_next (Qzz F.slot_dict_keyiterator_next st.typeIs F.entry_dict_keyiterator_next ?_ (F.args_dict_keyiterator_next_1 _))))
 refine QKq (QKz (QKq (QKq ?_)))
 first|refine QKq (wpAny_typeNameOfWhole_keyiter st.typeIs (QKz ?_))|refine QKq _
 refine QKq (wpAny_fieldsOf g1 g3 ?_)
 refine QKq (QKz (QKq (wpAny_dictEntries h1 h3 ?_)))
 rw[if_neg (by simp)]
 refine QKq (QKz (QKq (wpAny_dictEpoch h1 h3 ?_)))
 rw[if_neg (by simp)]
 refine QKz ?_
 simp only[show¬(i<0) by omega,if_false,Int.toNat_natCast,x]
 refine QKq ?_
 first|refine QKq (wpAny_typeNameOfWhole_keyiter st.typeIs (QKz ?_))|refine QKq _
 refine QKq (wpAny_isOneOf_keyiter st.typeIs ?_)
 show wpAny _ _ (setField _ 1 (rawInt (i+1))>>=_) _ _ s;refine QKq (wpAny_setField g1 g3 (by simp) ?_)
 have st':(s.heap.update it (Obj.mapFields (·.setIfInBounds 1 (rawInt (i+1))))).IsKeyIter it d (i+1) es.size ep:=⟨_,Heap.get?_update_self _ g1 (Obj.isFreed_of_fields (Obj.data_mapFields g3 _)),(Obj.cls_mapFields ..).trans g2,by rw[Obj.data_mapFields g3];simp[rawInt]⟩
 exact QKq (Qqq (QKq (wpAny_isOneOf_keyiter (s:={s with heap:=s.heap.update it (Obj.mapFields (·.setIfInBounds 1 (rawInt (i+1))))}) st'.typeIs (QKz (QKz ⟨_,rfl,QKz (q _ st' (Heap.SameBut.update ..))⟩)))))
def Oc(hh:A.handled=none)(st:s.heap.IsKeyIter it d i es.size ep)(B:qj s.heap d es ep)(x:es.size<=i)
  (q:∀h',Heap.ExtBut it s.heap h'->Q none {s with heap:=h'}):wpAny (model prog w) A (pyNext (.ref it)) Q E s:=by
 obtain⟨o,g1,g2,g3⟩:=id st
 obtain⟨od,h1,h2,h3⟩:=B
 refine QKq (wpAny_attempt (wpAny_callSpecial?_slot st.typeIs F.slot_dict_keyiterator_next (Qzz F.slot_dict_keyiterator_next st.typeIs F.entry_dict_keyiterator_next ?_ (F.args_dict_keyiterator_next_1 _))))
 refine QKq (QKz (QKq (QKq ?_)))
 first|refine QKq (wpAny_typeNameOfWhole_keyiter st.typeIs (QKz ?_))|refine QKq _
 refine QKq (wpAny_fieldsOf g1 g3 ?_)
 refine QKq (QKz (QKq (wpAny_dictEntries h1 h3 ?_)))
 rw[if_neg (by simp)]
 refine QKq (QKz (QKq (wpAny_dictEpoch h1 h3 ?_)))
 rw[if_neg (by simp)]
 refine QKz ?_
 simp only[show¬(i<0) by omega,if_false,Int.toNat_natCast,Array.getElem?_eq_none x]
 refine QKq ?_
 first|refine QKq (wpAny_typeNameOfWhole_keyiter st.typeIs (QKz ?_))|refine QKq _
 show wpAny _ _ (setField _ 0 .none>>=_) _ _ s;refine QKq (wpAny_setField g1 g3 (by simp) ?_)
 show wpAny _ _ _ _ _ _;refine QKq ?_
 refine QKq (Qjq (QKq (wpAny_of_eq (by first|rfl|(simp only[firstArgMember];rfl)) ?_)) (by size_fits))
 refine Qjq ?_ (by size_fits);simp only[raiseNew]
 refine QKq (wpAny_handled ?_);rw[show A.in1.handled=none from hh]
 refine QKq (QKz (wpAny_throw ?_));refine QKq (wpAny_isInstance ⟨_,Qzq _ rfl,rfl⟩ isSubtype_stop ?_)
 exact QKz (q _ (((Heap.SameBut.update ..).extBut.push _).push _))
end
section
variable{s:Shared}
def qj.stay(B:qj h d es ep)(k:∀o,h.get? d=some o->h'.get? d=some o):qj h' d es ep:=let ⟨o,e,r⟩:=B;⟨o,k _ e,r⟩
def qj.lt(B:qj h d es ep):d<h.objs.size:=let ⟨_,e,_⟩:=B;Qqz e
def qj.type(B:qj s.heap d es ep):s.TypeIs (.ref d) "dict":=let ⟨o,e,c,_⟩:=B;⟨o,e,c.1⟩
theorem Dh(hh:A.handled=none)(ne:d≠it):Walks prog w A it [it,d] [it] es.size (fun i v=>∃e,es[i]? =some e/\v=e.key) (fun i h=>h.IsKeyIter it d i es.size ep/\qj h d es ep) where
 sub:=fun b hb=>QCq.mpr (.inl (QDz.mp hb))
 frame:=fun _ _ _ st k=>⟨st.1.at fun o e=>k it QYz o e,st.2.stay fun o e=>k d (QYq _ QYz) o e⟩
 item:=fun i s Q E hi st q=>I9 st.1 st.2 (Array.getElem?_eq_getElem hi) fun h' st' sb=>q _ h' s.toks ⟨es[i],Array.getElem?_eq_getElem hi,rfl⟩ ⟨st',st.2.stay fun o e=>(sb.2 d ne).trans e⟩ fun b o hb e=>(sb.2 b fun z=>hb (QDz.mpr z)).trans e
 done:=fun s Q E st q=>Oc hh st.1 st.2 (QVz _) fun h' eb=>q h' s.toks fun b o hb e=>eb b o (fun z=>hb (QDz.mpr z)) e
 self:=fun _ _ _ _ st q=>wpAny_pyIter_keyiter st.1 q
theorem Oa(y:(d==sysModules)=false):PySem.W.KdlSrc prog w "dict" d d es.size (fun i v=>∃e,es[i]? =some e/\v=e.key) (fun h=>qj h d es ep) where
 type:=fun _ B=>B.type
 there:=fun _ B=>⟨B.lt,B.lt⟩
 keep:=fun _ _ B k=>B.stay fun o e=>k d (.inl rfl) o e
 notList:=by decide
 notTuple:=by decide
 hint:=fun _ _ _ _ B q=>PySem.W.kdl_hint_dict B.type q
 iter:=fun _ _ hh B=>⟨_,_,(fun _ _ q=>I8 y B q),Dh hh (Qvz B.lt),⟨⟨_,Qzq _ rfl,rfl,rfl⟩,B.stay fun o e=>QWq _ e⟩⟩
end
end Mini
end
section
namespace Mini
open PySem L2 PyProof.Rows
def tZ(b:Bool)(h:Heap)(it l:Addr)(k:Nat):Prop:=match b with|true=>h.IsListIter it l k|false=>h.IsTupleIter it l k
def xY(b:Bool)(h:Heap)(l:Addr)(xs:Array Value):Prop:=match b with|true=>h.IsList l xs|false=>h.IsTuple l xs
def tZ.at{h h':Heap}{k:Nat}(x:tZ b h it l k)(e:∀o,h.get? it=some o->h'.get? it=some o):tZ b h' it l k:=by
 cases b<;>exact Exists.elim x fun o⟨h1,h2⟩=>⟨o,e o h1,h2⟩
def xY.at{h h':Heap}{xs:Array Value}(x:xY b h l xs)(e:∀o,h.get? l=some o->h'.get? l=some o):xY b h' l xs:=by
 cases b<;>exact Exists.elim x fun o⟨h1,h2⟩=>⟨o,e o h1,h2⟩
def tZ.obj{h:Heap}{k:Nat}(x:tZ b h it l k):∃o,h.get? it=some o/\∀v,o.data≠ .cell v:=by
 cases b<;>exact Exists.elim x fun o⟨h1,_,h2⟩=>⟨o,h1,fun v z=>by rw[h2]at z;cases z⟩
def tZ.lt{h:Heap}{k:Nat}(x:tZ b h it l k):it<h.objs.size:=let ⟨_,e,_⟩:=x.obj;Qqz e
section
def m5{i:Nat}{items}{Q:QZq}(hit:s.heap.IsTupleIter it l i)
  (hl:s.heap.IsTuple l items)(hx:items[i]? =some x)
  (hQ:∀h',h'.IsTupleIter it l (i+1)->Heap.SameBut it s.heap h'->Q x {s with heap:=h'}):
  wpAny (model prog w) A (Builtin.SmallTypes.nextOf (.ref it)) Q E s:=by
 obtain⟨o,ho,hc,hd⟩:=id hit
 obtain⟨ol,hol,_,nl,hdl⟩:=hl
 refine QKq (wpAny_callSpecial?_slot hit.typeIs PySem.F.slot_tuple_iterator_next
  (Qzz PySem.F.slot_tuple_iterator_next hit.typeIs PySem.F.entry_tuple_iterator_next ?_ (PySem.F.args_tuple_iterator_next_1 _)))
 show wpAny _ _ (field _ 0>>=_) _ _ s
 refine QKq (QGz ho hd rfl ?_)
 refine QKq (QGz ho hd rfl ?_)
 refine QKq (wpAny_seqItems hol hdl ?_)
 simp only[Int.toNat_natCast,hx]
 refine QKq (wpAny_setField ho hd (by simp) (QKz ⟨x,rfl,QKz (hQ _ ?_ (Heap.SameBut.update ..))⟩))
 exact⟨_,Heap.get?_update_self _ ho (Obj.isFreed_of_fields (Obj.data_mapFields hd _)),(Obj.cls_mapFields ..).trans hc,by
  rw[Obj.data_mapFields hd];simp[rawInt]⟩
def oO{i:Nat}{items}(hh:A.handled=none)
  (hit:s.heap.IsTupleIter it l i)(hl:s.heap.IsTuple l items)(hx:items[i]? =none)
  (hE:∀h' e,Heap.ExtBut it s.heap h'->(∃o,h'.get? e=some o/\o.cls=.type "StopIteration")->E (.ref e) {s with heap:=h'}):
  wpAny (model prog w) A (Builtin.SmallTypes.nextOf (.ref it)) Q E s:=by
 obtain⟨o,ho,hc,hd⟩:=id hit
 obtain⟨ol,hol,_,nl,hdl⟩:=hl
 refine QKq (wpAny_callSpecial?_slot hit.typeIs PySem.F.slot_tuple_iterator_next
  (Qzz PySem.F.slot_tuple_iterator_next hit.typeIs PySem.F.entry_tuple_iterator_next ?_ (PySem.F.args_tuple_iterator_next_1 _)))
 show wpAny _ _ (field _ 0>>=_) _ _ s
 refine QKq (QGz ho hd rfl ?_)
 refine QKq (QGz ho hd rfl ?_)
 refine QKq (wpAny_seqItems hol hdl ?_)
 simp only[Int.toNat_natCast,hx]
 refine QKq (wpAny_rule (QKq (wpAny_setField ho hd (by simp) ?_)))
 refine QKq ?_
 refine QKq (Qjq ?_ (by size_fits))
 refine QKq (wpAny_of_eq (by first|rfl|(simp only[firstArgMember];rfl)) ?_)
 refine Qjq ?_ (by size_fits)
 refine QKq (wpAny_handled ?_)
 first|rw[show A.in1.handled=none from hh]|rw[hh]
 refine QKq (QKz (wpAny_throw (hE _ _ (((Heap.SameBut.update ..).extBut.push _).push _) ⟨_,Qzq _ rfl,rfl⟩)))
theorem eV{it l:Addr}{items}{Q:QZq}(hit:tZ b s.heap it l i)
  (hl:xY b s.heap l items)(hx:items[i]? =some x)(hQ:∀h',tZ b h' it l (i+1)->Heap.SameBut it s.heap h'->Q x {s with heap:=h'}):
  wpAny (model prog w) A (Builtin.SmallTypes.nextOf (.ref it)) Q E s:=by
 cases b with
 |true=>exact wpAny_nextOf_list_item hit hl hx hQ
 |false=>exact m5 hit hl hx hQ
theorem kj{it l:Addr}{items}(hh:A.handled=none)
  (hit:tZ b s.heap it l i)(hl:xY b s.heap l items)(hx:items[i]? =none)
  (hE:∀h' e,Heap.ExtBut it s.heap h'->(∃o,h'.get? e=some o/\o.cls=.type "StopIteration")->E (.ref e) {s with heap:=h'}):
  wpAny (model prog w) A (Builtin.SmallTypes.nextOf (.ref it)) Q E s:=by
 cases b with
 |true=>exact wpAny_nextOf_list_end hh hit hl hx hE
 |false=>exact oO hh hit hl hx hE
end
def jq(h:Heap)(z TI TO:Addr)(f0 f1:Value):Prop:=
 h.get? z=some {cls:=.type "zip",dict:=none,data:=.fields #[f0,f1,.bool false,.ref TI,.ref TO],slots:= #[]}
def F0(f0:Value):Prop:=f0=.none\/∃T:Nat,f0=rawInt T
section
def mF{a:Addr}(h:Q (s.heap.get? a) s):wpAny M A (loadIfAlive a) Q E s:=fun Γ p hΓ=>by
 show Sem.wp M Γ _ _ _ p s
 exact(QKz (M:=M) (E:=E) h) Γ p hΓ
theorem yd{z TI TO:Addr}{f0 f1:Value}(hz:jq s.heap z TI TO f0 f1)(h0:F0 f0)(hQ1:Q true s)
  (hQ2:∀h' g1,jq h' z TI TO f0 g1->Heap.SameBut z s.heap h'->Q false {s with heap:=h'}):wpAny (model prog w) A (Builtin.SmallTypes.ownedTupleIsFree (.ref z)) Q E s:=by
 rcases h0 with rfl|⟨T,rfl⟩
 ·exact QKq (QGz hz rfl rfl (QKz hQ1))
 ·refine QKq (QGz hz rfl rfl ?_)
  refine QKq (mF ?_)
  cases hT:s.heap.get? _ with
  |none=>exact QKz hQ1
  |some o=>
   refine QKq (QGz hz rfl (x:=f1) rfl ?_)
   by_cases hf:(f1 != .bool true)=true
   ·rw[if_pos hf]
    refine QKq (wpAny_setField_rec hz (by simp) fun h' hz' hs'=>QKz (hQ2 h' _ hz' hs'))
   ·rw[if_neg hf]
    exact QKz (hQ2 s.heap f1 hz (Heap.SameBut.refl ..))
structure Ov(z TI TO i1 i2:Addr)(b1 b2:Bool)(l1 l2:Addr)(k1 k2:Nat)(T:Addr)(x y:Value)(h h':Heap):Prop where
 zr:∃f0 f1,jq h' z TI TO f0 f1/\F0 f0
 ti:IsPair h' TI (.ref i1) (.ref i2)
 to:∃a b,IsPair h' TO a b
 it1:tZ b1 h' i1 l1 k1
 it2:tZ b2 h' i2 l2 k2
 new:IsPair h' T x y
 size:h'.objs.size=T+1
 keep:∀c o,c≠z->c≠TO->c≠i1->c≠i2->h.get? c=some o->h'.get? c=some o
def Gv{z TI TO i1 i2 l1 l2:Addr}{k1 k2:Nat}{xs ys:Array Value}{Q:QZq}(D:ZipApart z TI TO i1 i2 l1 l2)
  (hz:jq s.heap z TI TO f0 f1)(h0:F0 f0)(hTI:IsPair s.heap TI (.ref i1) (.ref i2))(hTO:IsPair s.heap TO a b)
  (h1:tZ b1 s.heap i1 l1 k1)(h2:tZ b2 s.heap i2 l2 k2)(hl1:xY b1 s.heap l1 xs)(hl2:xY b2 s.heap l2 ys)(hx:xs[k1]? =some x)(hy:ys[k2]? =some y)
  (hQ:∀h',Ov z TI TO i1 i2 b1 b2 l1 l2 (k1+1) (k2+1) s.heap.objs.size x y s.heap h'->Q (.ref s.heap.objs.size) {s with heap:=h'}):
  wpAny (model prog w) A (Builtin.«zip.__next__» ⟨[.ref z],[]⟩) (fun fin s'=>∃v,fin=.done (.ret v)/\Q v s') E s:=by
 show wpAny _ _ (field (.ref z) 2>>=_) _ _ _
 refine QKq (QGz hz rfl rfl ?_)
 refine QKq (QGz hz rfl rfl ?_)
 refine QKq (wpAny_seqItems hTI rfl ?_)
 refine QKq (yd hz h0 ?_ ?_)
 ·--the tuple of its own is used again
  refine QKq (wpAny_rule ?_)
  refine QKq (QGz hz rfl rfl ?_)
  refine QKq (wpAny_setField_rec hz (by simp) fun ω ψ θ=>?_)
  replace ψ:jq ω z TI TO .ellipsis f1:=ψ
  refine QKq ?_
  refine QKq (QKq (wpAny_onRaise ?_))
  refine QKq (eV (h1.at fun o e=>θ.extBut _ _ D.i1z e) (hl1.at fun o e=>θ.extBut _ _ D.l1z e) hx fun h₂ h1₂ μ=>QKz ?_)
  have hTO₂:=μ.extBut _ _ D.TOi1 (θ.extBut _ _ D.TOz hTO)
  refine QKq (wpAny_seqItems hTO₂ rfl ?_)
  refine QKq (wpAny_updateSeq_pair hTO₂ fun h₃ hTO₃ χ=>?_)
  replace hTO₃:IsPair h₃ TO x b:=hTO₃
  refine QKq (wpAny_letGo (QKz ?_))
  refine QKq (QKq (wpAny_onRaise ?_))
  refine QKq (eV (h2.at fun o e=>χ.extBut _ _ D.TOi2.symm (μ.extBut _ _ D.i12.symm (θ.extBut _ _ D.i2z e)))
   (hl2.at fun o e=>χ.extBut _ _ D.l2TO (μ.extBut _ _ D.l2i1 (θ.extBut _ _ D.l2z e))) hy fun h₄ h2₄ φ=>QKz ?_)
  have hTO₄:=φ.extBut _ _ D.TOi2 hTO₃
  refine QKq (wpAny_seqItems hTO₄ rfl ?_)
  refine QKq (wpAny_updateSeq_pair hTO₄ fun h₅ hTO₅ Φ=>?_)
  replace hTO₅:IsPair h₅ TO x y:=hTO₅
  refine QKq (wpAny_letGo (QKz (QKz ?_)))
  refine QKq (wpAny_seqItems hTO₅ rfl ?_)
  refine QKq (wpAny_newTuple ?_)
  have hsz:h₅.objs.size=s.heap.objs.size:=by rw[Φ.1,φ.1,χ.1,μ.1,θ.1]
  have hz₅:=Φ.extBut _ _ D.TOz.symm (φ.extBut _ _ D.i2z.symm (χ.extBut _ _ D.TOz.symm (μ.extBut _ _ D.i1z.symm ψ)))
  have hk₅:∀c o,c≠z->c≠TO->c≠i1->c≠i2->s.heap.get? c=some o->h₅.get? c=some o:=fun c o c1 c2 c3 c4 e=>
   Φ.extBut _ _ c2 (φ.extBut _ _ c4 (χ.extBut _ _ c2 (μ.extBut _ _ c3 (θ.extBut _ _ c1 e))))
  have hzlt:=Qqz hz₅
  refine QKq ?_
  refine QKq (wpAny_setField_rec (QWq _ hz₅) (by simp) fun h₇ hz₇ hs₇=>?_)
  replace hz₇:jq h₇ z TI TO (rawInt h₅.objs.size) f1:=hz₇
  refine wpAny_setField_rec hz₇ (by simp) fun h₈ hz₈ hs₈=>?_
  replace hz₈:jq h₈ z TI TO (rawInt h₅.objs.size) (.bool false):=hz₈
  have up:∀c o,c≠z->h₅.get? c=some o->h₈.get? c=some o:=fun c o c1 e=>hs₈.extBut _ _ c1 (hs₇.extBut _ _ c1 (QWq _ e))
  have hT₈:=hs₈.extBut _ _ (Nat.ne_of_gt hzlt) (hs₇.extBut _ _ (Nat.ne_of_gt hzlt) (Qzq _ rfl))
  have hz8:h₈.objs.size=h₅.objs.size+1:=by rw[hs₈.1,hs₇.1,Heap.size_push]
  rw[hsz]at hz₈ hT₈ hz8
  refine QKz ⟨_,rfl,?_⟩
  rw[hsz]
  exact hQ h₈ ⟨⟨_,_,hz₈,.inr ⟨_,rfl⟩⟩,up _ _ D.TIz (hk₅ _ _ D.TIz D.TITO D.TIi1 D.TIi2 hTI),⟨_,_,up _ _ D.TOz hTO₅⟩,(h1₂.at fun o e=>Φ.extBut _ _ D.TOi1.symm (φ.extBut _ _ D.i12 (χ.extBut _ _ D.TOi1.symm e))).at fun o e=>up _ o D.i1z e,(h2₄.at fun o e=>Φ.extBut _ _ D.TOi2.symm e).at fun o e=>up _ o D.i2z e,hT₈,hz8,fun c o c1 c2 c3 c4 e=>up c o c1 (hk₅ c o c1 c2 c3 c4 e)⟩
 ·--it was kept:a new one
  intro ω g1 ψ θ
  refine QKq ?_
  refine QKq (QKq (Qqq ?_))
  refine QKq (eV (h1.at fun o e=>θ.extBut _ _ D.i1z e) (hl1.at fun o e=>θ.extBut _ _ D.l1z e) hx fun h₂ h1₂ μ=>QKz ?_)
  refine QKz ?_
  refine QKq (QKq (Qqq ?_))
  refine QKq (eV (h2.at fun o e=>μ.extBut _ _ D.i12.symm (θ.extBut _ _ D.i2z e))
   (hl2.at fun o e=>μ.extBut _ _ D.l2i1 (θ.extBut _ _ D.l2z e)) hy fun h₄ h2₄ φ=>QKz ?_)
  refine QKz (QKz ?_)
  have hsz:h₄.objs.size=s.heap.objs.size:=by rw[φ.1,μ.1,θ.1]
  have hk:∀c o,c≠z->c≠i1->c≠i2->s.heap.get? c=some o->h₄.get? c=some o:=fun c o c1 c3 c4 e=>φ.extBut _ _ c4 (μ.extBut _ _ c3 (θ.extBut _ _ c1 e))
  refine QKq (wpAny_newTuple (QKz ⟨_,rfl,?_⟩) (by show 2<=sizeLine;rw[sizeLine_eq];decide))
  have T:Ov z TI TO i1 i2 b1 b2 l1 l2 (k1+1) (k2+1) s.heap.objs.size x y s.heap (h₄.push {cls:=.type "tuple",data:=.seq #[x,y]}):=by
   refine⟨⟨f0,g1,QWq _ (φ.extBut _ _ D.i2z.symm (μ.extBut _ _ D.i1z.symm ψ)),h0⟩,QWq _ (hk _ _ D.TIz D.TIi1 D.TIi2 hTI),⟨a,b,QWq _ (hk _ _ D.TOz D.TOi1 D.TOi2 hTO)⟩,
    h1₂.at fun o e=>QWq _ (φ.extBut _ _ D.i12 e),h2₄.at fun o e=>QWq _ e,?_,by rw[Heap.size_push,hsz],fun c o c1 c2 c3 c4 e=>QWq _ (hk c o c1 c3 c4 e)⟩
   rw[<-hsz]
   exact Qzq _ rfl
  rw[hsz]
  exact hQ _ T
theorem Jk{z TI TO i1 i2 l1 l2:Addr}{k1 k2:Nat}{a b f0 f1:Value}(hh:A.handled=none)(D:ZipApart z TI TO i1 i2 l1 l2)
  (hz:jq s.heap z TI TO f0 f1)(h0:F0 f0)(hTI:IsPair s.heap TI (.ref i1) (.ref i2))(hTO:IsPair s.heap TO a b)
  (h1:tZ b1 s.heap i1 l1 k1)(h2:tZ b2 s.heap i2 l2 k2)(hl1:xY b1 s.heap l1 xs)(hl2:xY b2 s.heap l2 ys)(hend:xs[k1]? =none\/ys[k2]? =none)
  (hE:∀h' e,(∀c o,c≠z->c≠TO->c≠i1->c≠i2->s.heap.get? c=some o->h'.get? c=some o)->(∃o,h'.get? e=some o/\o.cls=.type "StopIteration")->E (.ref e) {s with heap:=h'}):
  wpAny (model prog w) A (Builtin.«zip.__next__» ⟨[.ref z],[]⟩) Q E s:=by
 show wpAny _ _ (field _ 2>>=_) _ _ _
 refine QKq (QGz hz rfl rfl ?_)
 refine QKq (QGz hz rfl rfl ?_)
 refine QKq (wpAny_seqItems hTI rfl ?_)
 refine QKq (yd hz h0 ?_ ?_)
 ·simp only[if_true]
  refine QKq (wpAny_rule ?_)
  refine QKq (QGz hz rfl rfl ?_)
  refine QKq (wpAny_setField_rec hz (by simp) fun ω ψ θ=>?_)
  replace ψ:jq ω z TI TO .ellipsis f1:=ψ
  refine QKq ?_
  refine QKq (QKq (wpAny_onRaise ?_))
  cases hx:xs[k1]? with
  |none=>
   refine QKq (kj hh (h1.at fun o e=>θ.extBut _ _ D.i1z e) (hl1.at fun o e=>θ.extBut _ _ D.l1z e) hx fun h₂ e μ he=>?_)
   obtain⟨oe,hoe,hce⟩:=he
   have hz₂:jq h₂ z TI TO .ellipsis f1:=μ _ _ D.i1z.symm ψ
   refine wpAny_setField_rec hz₂ (by simp) fun h₃ _ χ=>hE h₃ e (fun c o c1 _ c3 _ x=>χ.extBut _ _ c1 (μ _ _ c3 (θ.extBut _ _ c1 x))) ⟨oe,χ.extBut _ _ (fun x=>by subst x;unfold jq at hz₂;rw[hz₂]at hoe;cases hoe;simp at hce) hoe,hce⟩
  |some x=>
   have hy:ys[k2]? =none:=by
    rcases hend with h|h
    ·rw[hx]at h;cases h
    ·exact h
   refine QKq (eV (h1.at fun o e=>θ.extBut _ _ D.i1z e) (hl1.at fun o e=>θ.extBut _ _ D.l1z e) hx fun h₂ h1₂ μ=>QKz ?_)
   have hTO₂:=μ.extBut _ _ D.TOi1 (θ.extBut _ _ D.TOz hTO)
   refine QKq (wpAny_seqItems hTO₂ rfl ?_)
   refine QKq (wpAny_updateSeq_pair hTO₂ fun h₃ hTO₃ χ=>?_)
   refine QKq (wpAny_letGo (QKz ?_))
   refine QKq (QKq (wpAny_onRaise ?_))
   refine QKq (kj hh (h2.at fun o e=>χ.extBut _ _ D.TOi2.symm (μ.extBut _ _ D.i12.symm (θ.extBut _ _ D.i2z e)))
    (hl2.at fun o e=>χ.extBut _ _ D.l2TO (μ.extBut _ _ D.l2i1 (θ.extBut _ _ D.l2z e))) hy fun h₄ e φ he=>?_)
   obtain⟨oe,hoe,hce⟩:=he
   have hz₄:jq h₄ z TI TO .ellipsis f1:=φ _ _ D.i2z.symm (χ.extBut _ _ D.TOz.symm (μ.extBut _ _ D.i1z.symm ψ))
   refine wpAny_setField_rec hz₄ (by simp) fun h₅ _ Φ=>hE h₅ e (fun c o c1 c2 c3 c4 x=>Φ.extBut _ _ c1 (φ _ _ c4 (χ.extBut _ _ c2 (μ.extBut _ _ c3 (θ.extBut _ _ c1 x))))) ⟨oe,Φ.extBut _ _ (fun x=>by subst x;unfold jq at hz₄;rw[hz₄]at hoe;cases hoe;simp at hce) hoe,hce⟩
 ·intro ω g1 ψ θ
  refine QKq ?_
  refine QKq (QKq (Qqq ?_))
  cases hx:xs[k1]? with
  |none=>
   exact QKq (kj hh (h1.at fun o e=>θ.extBut _ _ D.i1z e) (hl1.at fun o e=>θ.extBut _ _ D.l1z e) hx fun h₂ e μ he=>hE h₂ e (fun c o c1 _ c3 _ x=>μ _ _ c3 (θ.extBut _ _ c1 x)) he)
  |some x=>
   have hy:ys[k2]? =none:=by
    rcases hend with h|h
    ·rw[hx]at h;cases h
    ·exact h
   refine QKq (eV (h1.at fun o e=>θ.extBut _ _ D.i1z e) (hl1.at fun o e=>θ.extBut _ _ D.l1z e) hx fun h₂ h1₂ μ=>QKz ?_)
   refine QKz ?_
   refine QKq (QKq (Qqq ?_))
   exact QKq (kj hh (h2.at fun o e=>μ.extBut _ _ D.i12.symm (θ.extBut _ _ D.i2z e))
    (hl2.at fun o e=>μ.extBut _ _ D.l2i1 (θ.extBut _ _ D.l2z e)) hy fun h₄ e φ he=>hE h₄ e (fun c o c1 _ c3 c4 x=>φ _ _ c4 (μ.extBut _ _ c3 (θ.extBut _ _ c1 x))) he)
def pZ{z TI TO i1 i2 l1 l2:Addr}{k1 k2:Nat}{x y a b f0 f1:Value}(D:ZipApart z TI TO i1 i2 l1 l2)
  (hz:jq s.heap z TI TO f0 f1)(h0:F0 f0)(hTI:IsPair s.heap TI (.ref i1) (.ref i2))(hTO:IsPair s.heap TO a b)
  (h1:tZ b1 s.heap i1 l1 k1)(h2:tZ b2 s.heap i2 l2 k2)(hl1:xY b1 s.heap l1 xs)(hl2:xY b2 s.heap l2 ys)(hx:xs[k1]? =some x)(hy:ys[k2]? =some y)
  (hQ:∀h',Ov z TI TO i1 i2 b1 b2 l1 l2 (k1+1) (k2+1) s.heap.objs.size x y s.heap h'->Q (some (.ref s.heap.objs.size)) {s with heap:=h'}):
  wpAny (model prog w) A (pyNext (.ref z)) Q E s:=by
 have hT:s.TypeIs (.ref z) "zip":=⟨_,hz,rfl⟩
 exact QKq (wpAny_attempt (wpAny_callSpecial?_slot hT PySem.F.slot_zip_next
  (Qzz PySem.F.slot_zip_next hT PySem.F.entry_zip_next
   (Gv D hz h0 hTI hTO h1 h2 hl1 hl2 hx hy fun h' T=>QKz (hQ h' T)) (PySem.F.args_zip_next_1 _))))
def rm{z TI TO i1 i2 l1 l2:Addr}{k1 k2:Nat}{a b f0 f1:Value}(hh:A.handled=none)(D:ZipApart z TI TO i1 i2 l1 l2)
  (hz:jq s.heap z TI TO f0 f1)(h0:F0 f0)(hTI:IsPair s.heap TI (.ref i1) (.ref i2))(hTO:IsPair s.heap TO a b)
  (h1:tZ b1 s.heap i1 l1 k1)(h2:tZ b2 s.heap i2 l2 k2)(hl1:xY b1 s.heap l1 xs)(hl2:xY b2 s.heap l2 ys)(hend:xs[k1]? =none\/ys[k2]? =none)
  (hQ:∀h',(∀c o,c≠z->c≠TO->c≠i1->c≠i2->s.heap.get? c=some o->h'.get? c=some o)->Q none {s with heap:=h'}):wpAny (model prog w) A (pyNext (.ref z)) Q E s:=by
 have hT:s.TypeIs (.ref z) "zip":=⟨_,hz,rfl⟩
 refine QKq (wpAny_attempt (wpAny_callSpecial?_slot hT PySem.F.slot_zip_next
  (Qzz PySem.F.slot_zip_next hT PySem.F.entry_zip_next (Jk hh D hz h0 hTI hTO h1 h2 hl1 hl2 hend fun h' e hk he=>?_) (PySem.F.args_zip_next_1 _))))
 obtain⟨o,ho,hc⟩:=he
 exact QKq (wpAny_isInstance ⟨o,ho,hc⟩ isSubtype_stop (QKz (hQ _ hk)))
end
section
theorem HB{z TI TO T:Addr}{f0 f1:Value}(hz:jq s.heap z TI TO f0 f1)(h0:F0 f0)
  (hQ:∀h' g0,jq h' z TI TO g0 f1->F0 g0->Heap.SameBut z s.heap h'->Q () {s with heap:=h'}):wpAny (model prog w) A (letOwnedTupleGo tg (.ref z) (.ref T)) Q E s:=by
 have same:=hQ s.heap f0 hz h0 (Heap.SameBut.refl ..)
 have go:wpAny (model prog w) A (do
   let o<-load z
   match o.cls,o.data with
   |.type n,.fields vs=>
    if ["enumerate","zip","dict_itemiterator","dict_reverseitemiterator","odict_iterator","itertools.zip_longest","itertools.pairwise"].contains n&&vs[0]? ==some (rawInt T)then
     rule "for.unpacks-the-owned-tuple"
     updateField z 0 .none
   |_,_=>pure ()) Q E s:=by
  refine QKq (wpAny_load hz ?_)
  show wpAny _ _ (if (["enumerate","zip","dict_itemiterator","dict_reverseitemiterator","odict_iterator","itertools.zip_longest","itertools.pairwise"].contains "zip"&&
   (#[f0,f1,.bool false,.ref TI,.ref TO])[0]? ==some _)=true then _ else _) Q E s
  split
  ·exact QKq (wpAny_rule (wpAny_setField_rec hz (by simp) fun h' hz' hs'=>hQ h' .none hz' (.inl rfl) hs'))
  ·exact QKz same
 cases tg<;>first
  |exact QKz same
  |exact go
def iU{z TI TO:Addr}{f0 f1:Value}(hz:jq s.heap z TI TO f0 f1)(h:Q (.ref z) s):wpAny (model prog w) A (pyIter (.ref z)) Q E s:=by
 have hT:s.TypeIs (.ref z) "zip":=⟨_,hz,rfl⟩
 exact wpAny_pyIter_slot hT PySem.F.slot_zip_iter (Qzz PySem.F.slot_zip_iter hT PySem.F.entry_zip_iter (QKz ⟨_,rfl,"zip",_,hT,PySem.F.slot_zip_next.lookup,h⟩) (PySem.F.args_zip_iter_1 _))
end
def itN(b:Bool):String:=if b then "list_iterator" else "tuple_iterator"
abbrev zH1(b1:Bool)(h:Heap)(l1:Addr):Heap:=h.push {cls:=.type (itN b1),data:=.fields #[.ref l1,.int 0 0]}
abbrev zH2(b1 b2:Bool)(h:Heap)(l1 l2:Addr):Heap:=(zH1 b1 h l1).push {cls:=.type (itN b2),data:=.fields #[.ref l2,.int 0 0]}
abbrev zH3(b1 b2:Bool)(h:Heap)(l1 l2:Addr):Heap:=(zH2 b1 b2 h l1 l2).push {cls:=.type "tuple",data:=.seq #[.ref h.objs.size,.ref (zH1 b1 h l1).objs.size]}
abbrev zH4(b1 b2:Bool)(h:Heap)(l1 l2:Addr):Heap:=(zH3 b1 b2 h l1 l2).push {cls:=.type "tuple",data:=.seq #[.none,.none]}
abbrev Ze(b1 b2:Bool)(h:Heap)(l1 l2:Addr):Heap:=(zH4 b1 b2 h l1 l2).push {cls:=.type "zip",data:=.fields #[.none,.bool false,.bool false,.ref (zH2 b1 b2 h l1 l2).objs.size,.ref (zH3 b1 b2 h l1 l2).objs.size]}
def Ji b1 b2 l1 l2 xs ys:
  Meets (Builtin.«zip.__new__» ⟨[.type "zip",.ref l1,.ref l2],[]⟩) (fun _ R s=>xY b1 s.heap l1 xs/\xY b2 s.heap l2 ys/\
   R (.ok (.ret (.ref (zH4 b1 b2 s.heap l1 l2).objs.size))) {s with heap:=Ze b1 b2 s.heap l1 l2}):=
 .of_wp fun prog w A R s h=>by
  obtain⟨hp,g,d,tk,os⟩:=s;obtain⟨hl1,hl2,h⟩:=h
  have hsub:=sub_zip
  cases b1<;>cases b2
  ·have hL1:Heap.IsTuple (Shared.heap ⟨hp,g,d,tk,os⟩) l1 xs:=hl1
   have hL2:Heap.IsTuple (Shared.heap ⟨hp.push {cls:=.type "tuple_iterator",data:=.fields #[.ref l1,.int 0 0]},g,d,tk,os⟩) l2 ys:=hl2.at (b:=false) fun o e=>QWq _ e
   wp_walk using wpAny_pyIter_tuple hL1,wpAny_pyIter_tuple hL2
   exact⟨_,rfl,h⟩
  ·have hL1:Heap.IsTuple (Shared.heap ⟨hp,g,d,tk,os⟩) l1 xs:=hl1
   have hL2:Heap.IsList (Shared.heap ⟨hp.push {cls:=.type "tuple_iterator",data:=.fields #[.ref l1,.int 0 0]},g,d,tk,os⟩) l2 ys:=hl2.at (b:=true) fun o e=>QWq _ e
   wp_walk using wpAny_pyIter_tuple hL1,wpAny_pyIter_list hL2
   exact⟨_,rfl,h⟩
  ·have hL1:Heap.IsList (Shared.heap ⟨hp,g,d,tk,os⟩) l1 xs:=hl1
   have hL2:Heap.IsTuple (Shared.heap ⟨hp.push {cls:=.type "list_iterator",data:=.fields #[.ref l1,.int 0 0]},g,d,tk,os⟩) l2 ys:=hl2.at (b:=false) fun o e=>QWq _ e
   wp_walk using wpAny_pyIter_list hL1,wpAny_pyIter_tuple hL2
   exact⟨_,rfl,h⟩
  ·have hL1:Heap.IsList (Shared.heap ⟨hp,g,d,tk,os⟩) l1 xs:=hl1
   have hL2:Heap.IsList (Shared.heap ⟨hp.push {cls:=.type "list_iterator",data:=.fields #[.ref l1,.int 0 0]},g,d,tk,os⟩) l2 ys:=hl2.at (b:=true) fun o e=>QWq _ e
   wp_walk using wpAny_pyIter_list hL1,wpAny_pyIter_list hL2
   exact⟨_,rfl,h⟩
end Mini
end
section
namespace Mini
open PySem
def rN{w:World}{E:QZq}{a:Addr}{k:Nat}
  (hx:s.heap.get? a=some {cls:=.type "list",dict:=none,data:=.seq xs k,slots:=sl})(hA:A.handled=none)
  (h:∀h' tk,(∀b o,s.heap.get? b=some o->h'.get? b=some o)->Q none {s with heap:=h',toks:=tk}):
  wpAny (model prog w) A (getAttr? (.ref a) "keys") Q E s:=by
 obtain⟨hp,g,d,tk,os⟩:=s
 have hT:∀tk',(⟨hp,g,d,tk',os⟩:Shared).TypeIs (.ref a) "list":=fun _=>⟨_,hx,rfl⟩
 have f1:=sub_AttributeError
 have f3:=F.slot_list_getattribute.lookup
 have f4:=F.slot_list_getattribute.bind (.ref a)
 have f5:=am_list_getattr_none
 repeat (any_goals (first|assumption|exact hT _|((with_reducible show wpAny _ _ (call (Value.builtin "list.__getattribute__") _ _) _ _ _);refine call_meets F.slot_list_getattribute (hT _) am_entry_list_getattribute (F.args_list_getattribute_2 _ _) (meets_getattribute_miss_list a xs k sl "keys" _ (am_miss_of_fast (by kernel_rfl)) (by decide+kernel) (by size_fits)) ⟨hx,hA,fun h' tk' e hx'=>?_⟩)|wp_step))
 obtain⟨t',u',he⟩:=hx'.there
 unfold getattributeRaised
 repeat (any_goals (first|assumption|wp_step))
 all_goals exact h _ _ hx'.keeps
def p7{w:World}{E:QZq}{a:Addr}{k:Nat}
  (hx:s.heap.get? a=some {cls:=.type "tuple",dict:=none,data:=.seq xs k,slots:=sl})(hA:A.handled=none)
  (h:∀h' tk,(∀b o,s.heap.get? b=some o->h'.get? b=some o)->Q none {s with heap:=h',toks:=tk}):
  wpAny (model prog w) A (getAttr? (.ref a) "keys") Q E s:=by
 obtain⟨hp,g,d,tk,os⟩:=s
 have hT:∀tk',(⟨hp,g,d,tk',os⟩:Shared).TypeIs (.ref a) "tuple":=fun _=>⟨_,hx,rfl⟩
 have f1:=sub_AttributeError
 have f3:=F.slot_tuple_getattribute.lookup
 have f4:=F.slot_tuple_getattribute.bind (.ref a)
 have f5:=am_tuple_getattr_none
 repeat (any_goals (first|assumption|exact hT _|((with_reducible show wpAny _ _ (call (Value.builtin "tuple.__getattribute__") _ _) _ _ _);refine call_meets F.slot_tuple_getattribute (hT _) am_entry_tuple_getattribute (F.args_tuple_getattribute_2 _ _) (meets_getattribute_miss_tuple a xs k sl "keys" _ (am_miss_of_fast (by kernel_rfl)) (by decide+kernel) (by size_fits)) ⟨hx,hA,fun h' tk' e hx'=>?_⟩)|wp_step))
 obtain⟨t',u',he⟩:=hx'.there
 unfold getattributeRaised
 repeat (any_goals (first|assumption|wp_step))
 all_goals exact h _ _ hx'.keeps
def lG:typeLookup (.type "zip") "__getattr__"=pure none:=by rw[typeLookup_type,builtinLookup_eq_fast];kernel_rfl
def cI:Slot "zip" "__getattribute__" "zip.__getattribute__":=
 .of (owner:="zip") (n:="__getattribute__") (by rw[typeLookup_type,builtinLookup_eq_fast];kernel_rfl) (by decide+kernel) (by decide+kernel) (by decide+kernel)
  (by first|exact .inl (by decide+kernel)|exact .inr (by decide+kernel)) (by rw[isSubtype_type];kernel_rfl)
def gJ:entryFor table "zip.__getattribute__"=some Builtin.«object.__getattribute__»:=
 entryFor_alias (id':="object.__getattribute__") (by kernel_rfl) (by decide+kernel) (by decide+kernel) (by kernel_rfl)
def iu a b:argsOk "zip.__getattribute__" ⟨[a,b],[]⟩:=by
 unfold argsOk;kernel_rfl
def fW(a:Addr)(xs:Array Value)(sl:Array (Option Value))(name:Str)(u:Tok)(hmiss:typeLookup (.type "zip") name=pure none)(hname:(["__module__","__name__","__qualname__","__doc__","__annotations__"]:List Str).contains name=false)(hsz:name.length+100<=sizeLine:=by size_fits):
  Meets (Builtin.«object.__getattribute__» ⟨[.ref a,.str name u],[]⟩) (fun A R s=>s.heap.get? a=some {cls:=.type "zip",dict:=none,data:=.fields xs,slots:=sl}/\raisesAttr (.ref a) name A R s):=
 Meets.of_wp fun prog w A R s hs=>by
  obtain⟨hp,g,d,tk,os⟩:=s
  obtain⟨hx,hs⟩:=hs
  repeat (any_goals (first|assumption|wp_step))
  simp only[hname,Qxq,if_false]
  repeat (any_goals (first|assumption|wp_step))
  exact wpAny_raiseAttrError hs.1 hs.2 (attrMsg_fits (by decide+kernel) hsz)
def uw{w:World}{E:QZq}{a:Addr}{sl:Array (Option Value)}
  (hx:s.heap.get? a=some {cls:=.type "zip",dict:=none,data:=.fields xs,slots:=sl})(hA:A.handled=none)
  (h:∀h' tk,(∀b o,s.heap.get? b=some o->h'.get? b=some o)->Q none {s with heap:=h',toks:=tk}):
  wpAny (model prog w) A (getAttr? (.ref a) "keys") Q E s:=by
 obtain⟨hp,g,d,tk,os⟩:=s
 have hT:∀tk',(⟨hp,g,d,tk',os⟩:Shared).TypeIs (.ref a) "zip":=fun _=>⟨_,hx,rfl⟩
 have f1:=sub_AttributeError
 have f3:=cI.lookup
 have f4:=cI.bind (.ref a)
 have f5:=lG
 repeat (any_goals (first|assumption|exact hT _|((with_reducible show wpAny _ _ (call (Value.builtin "zip.__getattribute__") _ _) _ _ _);refine call_meets cI (hT _) gJ (iu _ _) (fW a xs sl "keys" _ (am_miss_of_fast (by kernel_rfl)) (by decide+kernel) (by size_fits)) ⟨hx,hA,fun h' tk' e hx'=>?_⟩)|wp_step))
 obtain⟨t',u',he⟩:=hx'.there
 unfold getattributeRaised
 repeat (any_goals (first|assumption|wp_step))
 all_goals exact h _ _ hx'.keeps
inductive D where
 |non|bl (b:Bool)|int (i:Int)|str (x:Str)
 |tup (xs:List D)|lst (xs:List D)|cR (ks:List D) (vs:List D)|g8 (ks:List D) (vs:List D)
 deriving Inhabited
inductive Ob where
 |lst (xs:List D)|dct (ks vs:List D)|sdt (ks vs:List D)
 deriving Inhabited
noncomputable def Ob.d:Ob->D
 |.lst xs=>.lst xs
 |.dct ks vs=>.cR ks vs
 |.sdt ks vs=>.g8 ks vs
inductive Sl where
 |un|val (d:D)|own (o:Ob)|bor (o:Ob)
 deriving Inhabited
abbrev Ev:=List Sl
inductive Rv where
 |val (d:D)|new (o:Ob)|ref (i:Nat)
noncomputable def Rv.jA:Rv->Option D
 |.val d=>some d
 |.new o=>some o.d
 |_=>none
noncomputable def Rv.Aw:Rv->Option Sl
 |.val d=>some (.val d)
 |.new o=>some (.own o)
 |_=>none
def aV:List Rv->Option (List D)
 |[]=>some []
 |r::rs=>r.jA.bind fun d=>(aV rs).map (d:: ·)
inductive Out(α:Type)where
 |ok (a:α) (σ:Ev)|exc (c:Nat) (σ:Ev)|bad
noncomputable def Out.bind{α β:Type}:Out α->(α->Ev->Out β)->Out β
 |.ok a σ,f=>f a σ
 |.exc c σ,_=>.exc c σ
 |.bad,_=>.bad
noncomputable def Out.ao{β:Type}:Out Rv->(D->Ev->Out β)->Out β
 |.ok (.val d) σ,f=>f d σ
 |.ok (.new o) σ,f=>f o.d σ
 |.ok _ _,_=>.bad
 |.exc c σ,_=>.exc c σ
 |.bad,_=>.bad
noncomputable def Out.cH{β:Type}(tr:D->Option Bool)(r:Out Rv)(f:Bool->Ev->Out β):Out β:=
 r.ao fun d σ=>match tr d with|some b=>f b σ|none=>.bad
noncomputable def Out.map{α β:Type}(g:α->β):Out α->Out β
 |.ok a σ=>.ok (g a) σ
 |.exc c σ=>.exc c σ
 |.bad=>.bad
def lift{α:Type}(σ:Ev):Option α->Out α
 |some a=>.ok a σ
 |none=>.bad
inductive Y9 where
 |add|sub|mul|mod
 deriving DecidableEq
inductive Cm where
 |eq|ne|lt|le|gt|isin|notin|fQ|notN
 deriving DecidableEq
inductive Ty where
 |tup|lst|str|bool|int
 deriving DecidableEq
inductive Bi where
 |all|any|tuple|list|sorted|int|dict|len
 deriving DecidableEq
inductive Tg where
 |name (i:Nat)|tup (is:List Nat)
inductive E where
 |var (i:Nat)|con (d:D)|glob (k:Nat)
 |nil|cons (h t:E)
 |tup (es:E)|lis (es:E)
 |op (o:Y9) (a b:E)|neg (a:E)|cmp (o:Cm) (a b:E)|chain (π ρ:Cm) (a b c:E)
 |and (es:E)|or (es:E)|not (a:E)|ite (c a b:E)
 |idx (a i:E)|slc (a lo hi:E)|noneE
 |call (f:Nat) (args:E)|ref (i:Nat)|rd (e:E)
 |isi (a:E) (t:Ty)|bi (b:Bi) (a:E)
 |range1 (a:E)|zip (a b:E)
 |count (a b:E)|popAt (i:Nat) (a:E)|index (a b:E)
 |get2 (d k x:E)|dsp (es:E)|enum (a:E)|emp
 |comp (nl:Nat) (tg:Tg) (it:E) (cond:E) (elt:E)
inductive S where
 |nil|cons (h t:S)
 |set (i:Nat) (e:E)|setT (is:List Nat) (e:E)|setIx (i:Nat) (ix e:E)
 |expr (e:E)|append (i:Nat) (e:E)|extend (i:Nat) (e:E)
 |ret (e:E)|ite (c:E) (a b:S)|callx (f:Nat) (args:E)
 |for_ (tg:Tg) (it:E) (b:S)|while_ (c:E) (b:S)
 |raise (c:Nat)|brk|cont
abbrev AAG:E:=.con (.int 1)
abbrev AAH:E:=.con (.int 0)
abbrev AAL:E:=.con (.bl true)
abbrev AAP:E:=.con (.int 2)
abbrev AAQ:E:=.cons (.var 0) .nil
abbrev AAR:E:=.cons (.var 1) (.cons (.var 2) .nil)
abbrev AAS:S:=.cons (.ret (.con (.bl false))) .nil
abbrev AAT:E:=.cons (.var 3) .nil
abbrev AAV:E:=.cons (.var 1) .nil
abbrev AAX:E:=.con (.int 3)
abbrev AAZ:E:=.idx (.var 2) (.var 4)
abbrev AAa:E:=.cons (.var 5) .nil
abbrev AAb:E:=.idx (.var 0) AAH
abbrev AAc:E:=.idx (.var 0) AAG
abbrev AAd:E:=.call 40 (.cons (.var 0) (.cons (.ref 1) (.cons AAP .nil)))
abbrev AAe:E:=.idx (.var 2) AAG
abbrev AAf:E:=.idx (.var 1) AAG
abbrev AAg:S:=.cons (.append 3 (.tup (.cons AAZ (.cons (.tup (.cons (.con (.str "held")) (.cons (.tup (.cons (.con (.str "same")) (.cons (.idx (.var 2) (.op .sub (.var 4) AAG)) .nil))) (.cons (.idx (.var 2) (.op .mod (.op .add (.var 4) AAG) (.bi .len (.var 2)))) (.cons (.con (.bl false)) .nil))))) .nil)))) .nil
abbrev AAh:E:=.cmp .eq (.call 40 (.cons (.var 1) (.cons (.ref 2) (.cons AAP .nil)))) AAG
abbrev AAi:S:=.cons (.append 5 (.tup (.cons (.var 6) (.cons (.tup (.cons (.idx (.lis (.cons (.con (.str "same")) (.cons (.con (.str "not")) .nil))) (.var 7)) AAT)) .nil)))) (.cons (.append 4 (.cmp .eq (.idx (.var 4) (.neg AAG)) (.cmp .eq (.var 7) AAH))) (.cons (.set 3 (.var 6)) .nil))
abbrev AAj:E:=.idx (.var 1) AAH
abbrev AAk:E:=.and (.cons (.cmp .ne (.idx (.var 6) AAH) (.idx (.var 5) AAH)) (.cons (.call 33 (.cons (.idx (.var 6) AAH) (.cons (.idx (.var 2) (.var 5)) .nil))) (.cons (.call 33 (.cons (.idx (.var 5) AAH) (.cons (.idx (.var 2) (.var 6)) .nil))) .nil)))
abbrev AAl:E:=.cmp .ne (.call 15 (.cons (.var 1) (.cons (.idx (.var 4) (.var 0)) (.cons (.var 4) .nil)))) (.idx (.var 4) (.var 0))
abbrev AAm:E:=.idx (.var 2) AAH
abbrev AAn:E:=.idx (.var 0) AAP
abbrev AAo:E:=.call 26 (.cons (.call 30 (.cons (.var 0) (.cons (.tup AAT) .nil))) AAV)
abbrev AAp:E:=.cmp .ne (.call 52 (.cons AAc (.cons (.var 3) (.cons (.idx (.var 3) AAb) .nil)))) (.idx (.var 3) AAb)
abbrev AAq:S:=.cons (.ret (.con .non)) .nil
abbrev AAr:E:=.cons (.var 2) AAT
abbrev AAs:E:=.or (.cons (.not (.call 9 (.cons AAj (.cons (.var 2) (.cons AAH (.cons (.bi .len (.var 2)) .nil)))))) (.cons (.not (.call 3 (.cons AAf (.cons AAG (.cons (.glob 8) .nil))))) .nil))
abbrev AAt:E:=.cons (.var 3) (.cons (.var 6) AAQ)
abbrev AAu:E:=.idx (.var 3) AAH
abbrev AAv:E:=.cons (.con (.bl false)) (.cons AAL .nil)
abbrev AAw:E:=.call 3 (.cons (.var 0) (.cons AAP (.cons AAP .nil)))
abbrev AAx:E:=.or (.cons (.not (.call 3 (.cons AAb (.cons AAH (.cons (.glob 3) .nil))))) (.cons (.not (.call 3 (.cons AAc (.cons AAG (.cons (.glob 4) .nil))))) .nil))
abbrev AAy:E:=.and (.cons (.cmp .gt (.bi .len (.var 5)) (.var 3)) (.cons (.or (.cons (.cmp .gt (.bi .len (.var 5)) (.var 4)) (.cons (.cmp .eq AAd AAG) .nil))) .nil))
abbrev AAz:S:=.cons (.set 3 (.call 52 (.cons AAc AAR))) (.cons (.ret (.idx (.lis AAr) (.bi .int (.cmp .eq (.idx (.var 1) AAn) (.cmp .eq (.var 3) (.idx (.var 0) AAX)))))) .nil)
abbrev ABG:E:=.cmp .gt (.call 40 (.cons (.var 1) (.cons (.ref 2) (.cons AAX .nil)))) AAH
abbrev ABH:E:=.cons (.var 6) .nil
abbrev ABI:S:=.cons (.raise 0) .nil
abbrev ABJ:E:=.cons (.con (.str "p")) (.cons (.con (.str "q")) (.cons (.con (.str "rr")) (.cons (.con (.str "go")) (.cons (.con (.str "abcdef")) .nil))))
abbrev ABK:E:=.comp 2 (.tup [0,1]) AAc AAL (.tup (.cons (.var 0) (.cons (.ite (.cmp .eq (.var 0) AAu) (.call 37 (.cons (.var 1) AAT)) (.var 1)) .nil)))
abbrev ABL:E:=.con (.str "same")
abbrev ABM:E:=.con (.str "held")
abbrev ABN:S:=.cons (.set 3 (.op .add (.slc (.var 3) AAG .noneE) (.call 25 (.cons (.var 0) (.cons (.var 1) (.cons AAu (.cons (.ref 2) .nil))))))) .nil
abbrev ABO:E:=.cons AAH .nil
abbrev ABP:S:=.set 6 (.call 29 (.cons (.var 0) (.cons (.var 1) (.cons (.var 2) (.cons (.var 5) (.cons (.op .add (.var 3) (.lis AAa)) .nil))))))
abbrev ABQ:E:=.cons (.cmp .notin (.var 6) (.var 3)) .nil
abbrev ABR:E:=.cons (.var 0) (.cons AAm .nil)
abbrev ABS:S:=.cons (.ret (.or (.cons (.bi .all (.var 4)) (.cons (.and (.cons (.var 1) (.cons (.bi .any (.var 4)) .nil))) .nil)))) .nil
abbrev ABT:E:=.cons (.var 0) AAV
abbrev ABU:S:=.cons (.ret (.cmp .eq (.call 31 AAR) (.call 59 AAR))) .nil
abbrev ABV:E:=.con (.str "a")
abbrev ABW:E:=.bi .len (.var 2)
abbrev ABX:E:=.con (.non)
abbrev ABY:E:=.cons (.var 2) .nil
abbrev ABZ:E:=.or (.cons (.not (.call 3 (.cons (.var 0) (.cons AAX (.cons AAX .nil))))) (.cons (.not (.call 2 AAQ)) .nil))
abbrev ABa:S:=.cons (.expr (.popAt 5 (.call 40 (.cons (.var 0) (.cons (.ref 1) (.cons (.bi .len (.var 5)) .nil)))))) .nil
abbrev ABb:E:=.cons (.var 0) (.cons (.call 43 (.cons (.var 1) (.cons (.ref 2) (.cons (.var 7) (.cons AAG .nil))))) .nil)
abbrev ABc:S:=.cons (.setIx 3 (.var 6) (.op .add (.idx (.var 3) (.var 2)) (.lis AAa))) (.cons (.append 4 (.var 6)) .nil)
abbrev ABd:E:=.op .add (.var 4) AAG
abbrev ABe:S:=.cons (.setIx 3 (.var 6) (.op .add (.idx (.var 3) AAZ) (.lis AAa))) (.cons (.append 2 (.var 6)) .nil)
abbrev ABf:S:=.cons (.ret (.var 4)) .nil
abbrev ABg:E:=.cons (.con (.int 4)) .nil
abbrev ABh:E:=.comp 1 (.name 0) (.var 0) AAL (.call 4 (.cons AAc (.cons AAH (.cons (.op .sub (.var 3) AAG) .nil))))
abbrev ABi:E:=.call 13 AAQ
abbrev ABj:E:=.comp 1 (.name 0) AAf AAL (.call 19 (.cons (.var 0) (.cons (.var 4) (.cons (.bi .len AAe) .nil))))
abbrev ABk:E:=.con (.str "not")
abbrev ABl:E:=.con (.str "and")
abbrev ABm:E:=.comp 2 (.tup [0,1]) (.zip (.var 0) (.slc (.var 0) AAG .noneE)) AAL (.cmp .lt (.var 0) (.var 1))
abbrev ABn:S:=.set 4 (.call 27 (.cons (.var 0) (.cons (.var 1) (.cons AAu (.cons (.idx (.var 2) AAu) .nil)))))
abbrev ABo:E:=.and (.cons (.cmp .isin AAL (.var 4)) (.cons (.cmp .isin (.con (.bl false)) (.var 4)) .nil))
abbrev ABp:E:=.con (.str "table")
abbrev ABq:E:=.con (.str "or")
abbrev ABr:E:=.lis .nil
abbrev ABs:E:=.con .non
abbrev ABt:E:=.call 26 (.cons (.call 30 (.cons (.var 0) (.cons (.tup (.cons (.var 5) ABH)) .nil))) AAV)
abbrev ABu:E:=.cons (.bi .len (.var 1)) .nil
abbrev ABv:S:=.setT [1,2] (.call 50 (.cons (.var 0) ABO))
abbrev ABw:E:=.cons (.var 0) AAR
abbrev ABx:E:=.con (.str "both")
abbrev ABy:E:=.and (.cons (.cmp .ne (.var 6) (.var 3)) (.cons (.cmp .notin (.var 6) (.var 5)) .nil))
abbrev ABz:S:=.cons (.ret (.tup .nil)) .nil
abbrev ACG:E:=.comp 1 (.name 0) AAc AAL AAb
abbrev ACH:E:=.call 26 (.cons (.call 30 (.cons (.var 0) (.cons (.tup (.cons AAZ AAa)) .nil))) AAV)
abbrev ACI:S:=.cons (.ret (.tup (.cons AAb (.cons (.bi .tuple (.var 2)) (.cons AAn .nil))))) .nil
abbrev ACJ:E:=.cmp .eq (.idx (.var 5) (.var 0)) (.var 4)
abbrev ACL:S:=.cons (.ret (.tup AAT)) .nil
abbrev ACM:E:=.cmp .isin (.var 0) (.var 4)
abbrev ACN:S:=.cons (.append 1 (.tup (.cons AAm (.cons (.var 3) (.cons (.var 4) .nil))))) .nil
abbrev ACO:E:=.and (.cons (.cmp .notin (.var 3) AAb) (.cons (.cmp .notin (.var 3) AAj) .nil))
abbrev ACP:E:=.comp 2 (.tup [0,1]) AAc AAL (.call 11 (.cons (.var 1) (.cons (.var 3) ABO)))
abbrev ACQ:E:=.call 51 AAQ
abbrev ACR:E:=.cons (.var 0) (.cons (.call 40 (.cons (.var 1) (.cons (.ref 2) ABH))) .nil)
abbrev ACS:S:=.cons (.ret (.var 2)) .nil
abbrev ACT:E:=.idx (.var 2) (.call 40 (.cons (.var 0) (.cons (.ref 1) (.cons ABW .nil))))
abbrev ACU:E:=.cons (.var 1) (.cons (.tup AAt) .nil)
abbrev ACV:S:=.cons (.ret (.tup (.cons (.con (.str "taken")) (.cons (.var 4) ABH)))) .nil
abbrev ACW:E:=.cmp .eq (.call 40 (.cons (.var 0) (.cons (.ref 2) (.cons AAP .nil)))) AAG
abbrev ACX:S:=.set 6 (.call 23 (.cons (.var 0) (.cons (.var 1) (.cons (.var 2) AAa))))
abbrev ACY:E:=.comp 1 (.name 0) (.var 0) AAL (.cmp .eq (.count (.var 1) (.var 0)) AAG)
abbrev ACZ:E:=.cons (.var 0) (.cons (.ref 2) .nil)
abbrev ACa:E:=.con (.str "b")
abbrev ACb:S:=.set 6 (.call 55 (.cons (.var 0) (.cons (.var 1) (.cons AAZ AAa))))
abbrev ACc:E:=.idx AAf AAe
abbrev ACd:E:=.cons AAX .nil
abbrev ACe:S:=.cons (.ret (.tup (.cons (.var 5) (.cons (.var 7) .nil)))) .nil
abbrev ACf:E:=.op .add AAG (.call 40 (.cons (.var 0) (.cons (.ref 1) AAT)))
abbrev ACg:E:=.comp 1 (.name 0) (.var 0) AAL (.call 8 (.cons (.var 0) ABY))
abbrev ACh:E:=.comp 1 (.name 0) (.var 0) AAL (.call 7 (.cons (.var 0) ABY))
abbrev ACi:E:=.not (.call 3 (.cons (.var 1) (.cons AAP (.cons AAP .nil))))
abbrev ACj:S:=.cons (.ret (.cmp .notin (.con (.bl false)) (.var 4))) .nil
abbrev ACk:E:=.call 54 (.cons (.var 0) (.cons (.var 1) (.cons AAZ .nil)))
abbrev ACl:S:=.cons (.ret (.tup (.cons (.var 5) (.cons AAe .nil)))) .nil
abbrev ACm:E:=.con (.str "q")
abbrev ACn:E:=.con (.str "p")
abbrev ACo:S:=.cons (.ret (.cmp .isin (.bi .tuple (.var 4)) AAn)) .nil
abbrev ACp:E:=.bi .tuple (.var 5)
abbrev ACq:E:=.op .mul (.bi .len AAf) (.bi .len (.idx (.var 1) AAP))
abbrev ACr:S:=.set 3 (.bi .list (.var 2))
abbrev ACs:E:=.comp 1 (.name 0) (.var 0) AAL (.isi (.var 0) .bool)
abbrev ACt:E:=.cmp .isin AAb AAj
abbrev ACu:E:=.cons ABL (.cons ABk .nil)
abbrev ACv:S:=.cons (.ret (.var 1)) .nil
abbrev ACw:E:=.cmp .eq (.var 0) (.var 4)
abbrev ACx:S:=.set 2 (.bi .dict (.bi .list (.zip ACQ (.var 1))))
abbrev ACy:E:=.zip ABi (.var 1)
abbrev ACz:S:=.set 2 (.lis (.cons (.tup (.cons AAn ABO)) .nil))
abbrev ADG:E:=.idx (.var 2) AAc
abbrev ADH:E:=.idx (.var 1) AAc
abbrev ADJ:E:=.bi .len (.var 0)
abbrev ADK:S:=.cons (.ret (.op .add (.bi .list AAb) ACG)) .nil
abbrev ADL:E:=.cmp .eq AAd AAG
abbrev ADM:S:=.cons (.ret (.tup (.cons (.var 5) ABH))) .nil
abbrev ADN:E:=.cmp .notN (.var 6) ABs
abbrev ADP:E:=.cmp .notN (.var 6) ABX
abbrev ADQ:E:=.comp 1 (.name 0) (.var 1) AAL (.call 5 AAQ)
abbrev ADR:S:=.cons (.ret (.cmp .isin AAL (.var 4))) .nil
abbrev ADS:S:=.cons (.ret (.cmp .isin (.var 4) AAn)) .nil
abbrev ADT:E:=.cmp .ne (.idx (.var 5) AAH) (.idx AAZ AAH)
abbrev ADU:S:=.set 3 (.dsp (.cons AAm (.cons ABr .nil)))
abbrev ADV:S:=.set 3 (.op .add (.var 3) (.call 53 ABR))
abbrev ADW:E:=.op .add AAm (.var 4)
abbrev ADX:S:=.cons (.ret AAL) .nil
abbrev ADY:E:=.cmp .eq (.var 4) AAP
abbrev ADZ:E:=.cmp .eq (.var 3) ABp
abbrev ADa:E:=.cmp .eq (.var 3) ABM
abbrev ADb:E:=.cons AAG .nil
abbrev ADc:S:=.cons (.ret (.tup (.cons AAZ AAa))) .nil
abbrev ADd:E:=.cmp .lt (.call 58 (.cons AAe .nil)) AAX
abbrev ADe:S:=.expr (.call 17 ABT)
abbrev ADf:E:=.cons (.var 4) .nil
abbrev ADg:S:=.cons (.ret (.idx (.var 4) AAH)) .nil
abbrev ADh:S:=.cons (.ret (.bi .any (.var 4))) .nil
abbrev ADi:S:=.cons (.ret (.bi .all (.var 4))) .nil
abbrev ADj:E:=.con (.int 9)
abbrev ADk:E:=.cons (.call 7 (.cons AAn ABu)) .nil
abbrev ADl:S:=.set 6 (.op .add (.var 4) (.var 5))
abbrev ADm:E:=.cons (.var 1) AAr
abbrev ADn:S:=.cons (.set 2 (.call 36 AAr)) .nil
abbrev ADo:E:=.cons (.op .add (.var 2) AAG) .nil
abbrev ADp:E:=.comp 1 (.name 0) (.var 0) AAL AAw
abbrev ADq:E:=.call 26 ABT
abbrev ADr:E:=.bi .len (.idx (.call 56 AAR) AAH)
abbrev ADs:E:=.idx AAu (.var 0)
abbrev ADt:E:=.cmp .gt (.bi .len AAc) (.glob 9)
abbrev ADu:E:=.bi .len (.var 4)
abbrev ADv:S:=.cons (.ret (.call 32 ABw)) .nil
abbrev ADw:S:=.cons (.ret (.call 16 ABw)) .nil
abbrev ADx:E:=.cons (.not (.call 6 AAV)) .nil
def small(i:Int):Bool:=decide (-18446744073709551616<i/\i<18446744073709551616)
def Ag(i:Int):Bool:=decide (-4611686018427387904<=i/\i<4611686018427387904)
def fits(n:Nat):Bool:=decide (n<=16777216)
def b2i(b:Bool):Int:=if b then 1 else 0
noncomputable def ix?(n:Nat)(i:Int):Option Nat:=
 let j:=if i<0 then i+n else i
 if 0<=j/\j<n then some j.toNat else none
def at?(xs:List D)(i:Int):Option D:=(ix? xs.length i).bind fun k=>xs[k]?
noncomputable def clip(n:Nat)(i:Int):Nat:=
 let j:=if i<0 then i+n else i
 if j<0 then 0 else if j>n then n else j.toNat
noncomputable def cut(xs:List D)(lo hi:Option Int):List D:=
 let a:=match lo with|some i=>clip xs.length i|none=>0
 let b:=match hi with|some i=>clip xs.length i|none=>xs.length
 (xs.take b).drop a
mutual
def cQ:D->D->Bool
 |.non,.non=>true
 |.bl a,.bl b=>a==b
 |.bl a,.int j=>b2i a==j
 |.int i,.bl b=>i==b2i b
 |.int i,.int j=>i==j
 |.str x,.str y=>decide (x=y)
 |.tup xs,.tup ys=>qe xs ys
 |.lst xs,.lst ys=>qe xs ys
 |_,_=>false
def qe:List D->List D->Bool
 |[],[]=>true
 |x::xs,y::ys=>cQ x y&&qe xs ys
 |_,_=>false
end
mutual
def dep:D->Nat
 |.tup xs=>iD xs+1
 |.lst xs=>iD xs+1
 |_=>0
def iD:List D->Nat
 |[]=>0
 |x::xs=>max (dep x) (iD xs)
end
def Zy(x:Str):Bool:=x.cps.all fun c=>decide (c<128)
mutual
def nd:D->Bool
 |.str x=>Zy x
 |.tup xs=>mC xs
 |.lst xs=>mC xs
 |.cR _ _=>false
 |.g8 _ _=>false
 |_=>true
def mC:List D->Bool
 |[]=>true
 |x::xs=>nd x&&mC xs
end
noncomputable def flat:D->Bool
 |.non=>true
 |.bl _=>true
 |.int _=>true
 |.str _=>true
 |_=>false
def sU(a b:D):Bool:=(flat a&&flat b)||(nd a&&decide (dep a<=50)&&nd b)
def eX(a:D)(xs:List D):Bool:=(flat a&&xs.all flat)||(nd a&&decide (dep a<=50)&&mC xs)
def aJ(x:D):List D->Bool
 |[]=>false
 |y::ys=>cQ y x||aJ x ys
def Mi(x:D):List D->Nat
 |[]=>0
 |y::ys=>if cQ y x then 0 else Mi x ys+1
def gC(x:D):List D->Nat
 |[]=>0
 |y::ys=>(if cQ y x then 1 else 0)+gC x ys
noncomputable def lE:List Bool->List Bool->Bool
 |[],[]=>false
 |[],_::_=>true
 |_::_,[]=>false
 |x::xs,y::ys=>if x=y then lE xs ys else(!x&&y)
noncomputable def bools:List D->Option (List Bool)
 |[]=>some []
 |.bl b::r=>(bools r).map (b:: ·)
 |_=>none
mutual
def kA:D->Bool
 |.int _=>true
 |.bl _=>true
 |.str x=>Zy x
 |.tup xs=>Lz xs
 |_=>false
def Lz:List D->Bool
 |[]=>true
 |x::xs=>kA x&&Lz xs
end
def cN:D->Bool
 |.tup xs=>Lz xs&&decide (iD xs<=6)
 |_=>false
noncomputable def ltD:D->D->Option Bool
 |.int i,.int j=>some (decide (i<j))
 |.tup xs,.tup ys=>(bools xs).bind fun a=>(bools ys).map fun b=>lE a b
 |_,_=>none
noncomputable def iw:D->Option Bool
 |.non=>some false
 |.bl b=>some b
 |.int i=>some (i !=0)
 |.tup xs=>some (!xs.isEmpty)
 |.lst xs=>some (!xs.isEmpty)
 |_=>none
noncomputable def p8:Ty->D->Bool
 |.tup,.tup _=>true
 |.lst,.lst _=>true
 |.str,.str _=>true
 |.bool,.bl _=>true
 |.int,.int _=>true
 |.int,.bl _=>true
 |_,_=>false
noncomputable def bZ(k:D):List D->List D->Option D
 |k'::ks,v::vs=>if cQ k' k then some v else bZ k ks vs
 |_,_=>none
noncomputable def keyOk:D->Bool
 |.str _=>true
 |.int _=>true
 |_=>false
def signs(x:Str):List D:=x.cps.toList.map fun c=>D.str ⟨#[c]⟩
noncomputable def items:D->Option (List D)
 |.tup xs=>some xs
 |.lst xs=>some xs
 |.str x=>if fits x.length then some (signs x)else none
 |_=>none
noncomputable def binop:Y9->D->D->Option Rv
 |.add,.int i,.int j=>some (.val (.int (i+j)))
 |.sub,.int i,.int j=>some (.val (.int (i-j)))
 |.mul,.int i,.int j=>if small i||small j then some (.val (.int (i*j)))else none
 |.mod,.int i,.int j=>if 0<j then some (.val (.int (i%j)))else none
 |.add,.tup xs,.tup ys=>if fits (xs.length+ys.length)then some (.val (.tup (xs++ys)))else none
 |.add,.lst xs,.lst ys=>if fits (xs.length+ys.length)then some (.new (.lst (xs++ys)))else none
 |_,_,_=>none
def aP:D->Bool
 |.non=>true
 |_=>false
noncomputable def aQ:Cm->D->D->Option Bool
 |.eq,a,b=>if sU a b then some (cQ a b)else none
 |.ne,a,b=>if sU a b then some (!cQ a b)else none
 |.lt,a,b=>ltD a b
 |.gt,.int i,.int j=>some (decide (j<i))
 |.le,.int i,.int j=>some (decide (i<=j))
 |.isin,a,.tup xs=>if eX a xs then some (aJ a xs)else none
 |.isin,a,.lst xs=>if eX a xs then some (aJ a xs)else none
 |.isin,a,.cR ks _=>if keyOk a then some (aJ a ks)else if cN a&&ks.isEmpty then some false else none
 |.isin,a,.g8 ks _=>if cN a then some (aJ a ks)else none
 |.isin,.str x,.str y=>if x.length=1 then some (aJ (.str x) (signs y))else none
 |.notin,a,.tup xs=>if eX a xs then some (!aJ a xs)else none
 |.notin,a,.lst xs=>if eX a xs then some (!aJ a xs)else none
 |.notin,a,.cR ks _=>if keyOk a then some (!aJ a ks)else if cN a&&ks.isEmpty then some true else none
 |.notin,a,.g8 ks _=>if cN a then some (!aJ a ks)else none
 |.fQ,a,.non=>some (aP a)
 |.notN,a,.non=>some (!aP a)
 |_,_,_=>none
noncomputable def jr:List D->Option (List (List Bool))
 |[]=>some []
 |.tup ys::r=>match bools ys with
  |some (b::bs)=>(jr r).map ((b::bs):: ·)
  |_=>none
 |_=>none
noncomputable def JT{α:Type}(f:Nat->Nat->Option Bool):PySem.W.KasT α->Option α
 |.ret a=>some a
 |.ask i j k=>match f i j with
  |some b=>JT f (k b)
  |none=>none
noncomputable def acX(rs:List (List Bool))(i j:Nat):Option Bool:=(rs[i]?).bind fun a=>(rs[j]?).map fun b=>lE a b
noncomputable def rY(xs:List D):List Nat->Option (List D)
 |[]=>some []
 |i::is=>(xs[i]?).bind fun d=>(rY xs is).map (d:: ·)
noncomputable def acW(xs:List D):Option (Nat->Nat->Option Bool):=match jr xs with
 |some rs=>some (acX rs)
 |none=>none
noncomputable def pG(xs:List D):Option (List D):=
 if xs.length<2 then some xs
 else if xs.length<64 then(acW xs).bind fun f=>(JT f (PySem.W.kas_sort xs.length)).bind fun p=>if p.size=xs.length then rY xs p.toList else none
 else none
noncomputable def qW(k v:D):List D->List D->List D
 |k'::ks,v'::vs=>(if cQ k' k then v else v')::qW k v ks vs
 |_,_=>[]
noncomputable def putD(k v:D)(ks vs:List D):List D×List D:=if aJ k ks then(ks,qW k v ks vs)else(ks++[k],vs++[v])
noncomputable def dictOf:List D->List D->List D->Option (List D×List D)
 |ks,vs,[]=>some (ks,vs)
 |ks,vs,.tup [k,v]::r=>if keyOk k then let p:=putD k v ks vs;dictOf p.1 p.2 r else none
 |_,_,_=>none
noncomputable def jO:List D->List D->List D->Option (List D×List D)
 |ks,vs,[]=>some (ks,vs)
 |ks,vs,.tup [k,v]::r=>if cN k then let p:=putD k v ks vs;jO p.1 p.2 r else none
 |_,_,_=>none
def aO:List D->List D->List D
 |x::xs,y::ys=>.tup [x,y]::aO xs ys
 |_,_=>[]
def bF(lo:Int):Nat->List D
 |0=>[]
 |n+1=>.int lo::bF (lo+1) n
noncomputable def Sq:Bi->List D->Option Rv
 |.all,xs=>(bools xs).map fun bs=>.val (.bl (bs.all id))
 |.any,xs=>(bools xs).map fun bs=>.val (.bl (bs.any id))
 |.tuple,xs=>some (.val (.tup xs))
 |.list,xs=>some (.new (.lst xs))
 |.sorted,xs=>(pG xs).map fun ys=>.new (.lst ys)
 |.dict,xs=>((dictOf [] [] xs).map fun p=>Rv.new (.dct p.1 p.2)).or ((jO [] [] xs).map fun p=>.new (.sdt p.1 p.2))
 |.len,_=>none
 |.int,_=>none
def E.aB:E->Option Nat
 |.var i=>some i
 |_=>none
noncomputable def q8(i:Nat)(σ:Ev):Out Rv:=
 match σ[i]? with
 |some (.val d)=>.ok (.val d) σ
 |some (.own o)=>.ok (.val o.d) (σ.set i (.val o.d))
 |_=>.bad
noncomputable def bB(i:Nat)(σ:Ev):Option D:=
 match σ[i]? with
 |some (.val d)=>some d
 |some (.own o)=>some o.d
 |some (.bor o)=>some o.d
 |_=>none
noncomputable def HD:D->Option Nat
 |.tup xs=>some xs.length
 |.lst xs=>some xs.length
 |.str x=>if fits x.length then some x.length else none
 |.cR ks _=>some ks.length
 |.g8 ks _=>some ks.length
 |_=>none
noncomputable def getD(d:D)(i:D):Option D:=
 match d,i with
 |.tup xs,.int i=>at? xs i
 |.lst xs,.int i=>at? xs i
 |.cR ks vs,k=>if keyOk k then bZ k ks vs else none
 |.g8 ks vs,k=>if cN k then bZ k ks vs else none
 |_,_=>none
noncomputable def dO(d:D)(lo hi:Option Int):Option Rv:=
 match d with
 |.tup xs=>some (.val (.tup (cut xs lo hi)))
 |.lst xs=>some (.new (.lst (cut xs lo hi)))
 |_=>none
noncomputable def cC(fQ:Bool)(d:D):Option (Option Int):=
 match fQ,d with
 |true,_=>some none
 |false,.int i=>some (some i)
 |_,_=>none
def E.fQ:E->Bool
 |.noneE=>true
 |_=>false
noncomputable def bU(i:Nat)(s:Sl)(σ:Ev):Option Ev:=
 match σ[i]? with
 |some (.bor _)=>none
 |some _=>some (σ.set i s)
 |none=>none
noncomputable def iQ:List Nat->List D->Ev->Option Ev
 |[],[],σ=>some σ
 |i::is,d::ds,σ=>(bU i (.val d) σ).bind (iQ is ds)
 |_,_,_=>none
noncomputable def bj:Tg->D->Ev->Option Ev
 |.name i,d,σ=>bU i (.val d) σ
 |.tup is,.tup ds,σ=>iQ is ds σ
 |_,_,_=>none
noncomputable def cX(i:Nat)(f:Ob->Option Ob)(σ:Ev):Option Ev:=
 match σ[i]? with
 |some (.own o)=>(f o).map fun q=>σ.set i (.own q)
 |some (.bor o)=>(f o).map fun q=>σ.set i (.bor q)
 |_=>none
def uR(f:List D->Option (List D)):Ob->Option Ob
 |.lst xs=>(f xs).map .lst
 |_=>none
noncomputable def oK(i v:D):Ob->Option Ob
 |.lst xs=>match i with
  |.int i=>(ix? xs.length i).map fun j=>.lst (xs.set j v)
  |_=>none
 |.dct ks vs=>if keyOk i&&fits (ks.length+1)then let p:=putD i v ks vs;some (.dct p.1 p.2)else if cN i&&ks.isEmpty then some (.sdt [i] [v])else none
 |.sdt ks vs=>if cN i&&fits (ks.length+1)then let p:=putD i v ks vs;some (.sdt p.1 p.2)else none
inductive Res where
 |ok (r:Rv) (ps:List Sl)|exc (c:Nat) (ps:List Sl)|bad
structure Cf where
 fn:Nat->List Sl->Res
 gl:Nat->Option D
 turns:Nat
def kW(i:Nat):Rv->Bool
 |.ref j=>i==j
 |_=>false
def argv:Rv->Rv
 |.new o=>.val o.d
 |x=>x
noncomputable def enter:List Rv->Ev->Option (List Sl)
 |[],_=>some []
 |.val d::as,σ=>(enter as σ).map (.val d:: ·)
 |.new _::_,_=>none
 |.ref i::as,σ=>
  if as.any (kW i)then none else
  match σ[i]? with
  |some (.own o)=>(enter as σ).map (.bor o:: ·)
  |some (.bor o)=>(enter as σ).map (.bor o:: ·)
  |_=>none
noncomputable def giveBack:List Rv->List Sl->Ev->Option Ev
 |[],[],σ=>some σ
 |.ref i::as,.bor o::ps,σ=>(cX i (fun _=>some o) σ).bind (giveBack as ps)
 |.ref _::_,_::_,_=>none
 |_::as,_::ps,σ=>giveBack as ps σ
 |_,_,_=>none
noncomputable def tE(c:Cf)(f:Nat)(as:List Rv)(σ:Ev):Out Rv:=
 match enter as σ with
 |none=>.bad
 |some ps=>
  match c.fn f ps with
  |.ok r qs=>match giveBack as qs σ with|some ζ=>.ok r ζ|none=>.bad
  |_=>.bad
noncomputable def aY(tg:Tg)(cond elt:Ev->Out Rv):List D->List D->Ev->Out (List D)
 |[],acc,σ=>.ok acc σ
 |x::xs,acc,σ=>
  match bj tg x σ with
  |none=>.bad
  |some σ₁=>(cond σ₁).cH iw fun b σ₂=>
   if b then(elt σ₂).ao fun d σ₃=>aY tg cond elt xs (acc++[d]) σ₃
   else aY tg cond elt xs acc σ₂
def cZ:Option D->Bool
 |some (.lst _)=>true
 |_=>false
def gr:D->Option (List D)
 |.lst xs=>some xs
 |_=>none
noncomputable def rA(k:Nat)(y:D)(σ:Ev):Out Rv:=
 match y,bB k σ with
 |.int i,some (.lst xs)=>if !fits xs.length then .bad else match ix? xs.length i with
  |some j=>match xs[j]?,cX k (uR fun xs=>some (xs.eraseIdx j)) σ with
   |some d,some ζ=>.ok (.val d) ζ
   |_,_=>.bad
  |none=>.bad
 |_,_=>.bad
def rR:Option D->Bool
 |some (.cR _ _)=>true
 |_=>false
noncomputable def zW(x y:D):Option Rv:=
 match x with
 |.tup xs=>if flat y&&xs.all flat then some (.val (.int (gC y xs)))else none
 |.lst xs=>if flat y&&xs.all flat then some (.val (.int (gC y xs)))else none
 |_=>none
noncomputable def acs(x y:D):Option Rv:=
 match x with
 |.lst xs=>if flat y&&xs.all flat&&aJ y xs then some (.val (.int (Mi y xs)))else none
 |_=>none
noncomputable def rZ(d k x:D):Option D:=
 match d with
 |.cR ks vs=>if keyOk k then some ((bZ k ks vs).getD x)else none
 |_=>none
def Im:List D->Option Rv
 |[k,v]=>if cN k then some (.new (.sdt [k] [v]))else none
 |_=>none
def zP(ds:List D):Option Rv:=if ds.length<=30&& !ds.isEmpty then Im ds else none
noncomputable def bN:D->Option (List D)
 |.tup xs=>some xs
 |.lst xs=>some xs
 |_=>none
def JL:D->Option (List D)
 |.g8 ks _=>some ks
 |x=>bN x
noncomputable def b1(b:Bi)(x:D):Option Rv:=
 match b with
 |.list=>(JL x).bind (Sq .list)
 |.len=>(HD x).map fun n=>.val (.int n)
 |.int=>match x with|.bl b=>some (.val (.int (b2i b)))|.int i=>some (.val (.int i))|_=>none
 |.sorted=>(gr x).bind (Sq .sorted)
 |b=>(bN x).bind (Sq b)
mutual
noncomputable def ev(c:Cf):E->Ev->Out Rv
 |.var i,σ=>q8 i σ
 |.con d,σ=>.ok (.val d) σ
 |.glob k,σ=>match c.gl k with|some d=>.ok (.val d) σ|none=>.bad
 |.tup es,σ=>(evs c es σ).bind fun rs σ=>lift σ ((aV rs).bind fun ds=>if fits ds.length then some (.val (.tup ds))else none)
 |.lis es,σ=>(evs c es σ).bind fun rs σ=>lift σ ((aV rs).bind fun ds=>if fits ds.length then some (.new (.lst ds))else none)
 |.op o a b,σ=>(ev c a σ).ao fun x σ=>(ev c b σ).ao fun y σ=>lift σ (binop o x y)
 |.neg a,σ=>(ev c a σ).ao fun x σ=>lift σ (match x with|.int i=>some (.val (.int (-i)))|_=>none)
 |.cmp o a b,σ=>(ev c a σ).ao fun x σ=>match b.aB with
  |some k=>lift σ ((bB k σ).bind fun d=>(aQ o x d).map fun q=>.val (.bl q))
  |none=>(ev c b σ).ao fun y σ=>lift σ ((aQ o x y).map fun q=>.val (.bl q))
 |.chain π ρ a b d,σ=>(ev c a σ).ao fun x σ=>(ev c b σ).ao fun y σ=>(lift σ (aQ π x y)).bind fun q σ=>
   if q then(ev c d σ).ao fun z σ=>lift σ ((aQ ρ y z).map fun q=>.val (.bl q))else .ok (.val (.bl false)) σ
 |.and es,σ=>gW c es σ
 |.or es,σ=>nG c es σ
 |.not a,σ=>(ev c a σ).cH iw fun b σ=>.ok (.val (.bl (!b))) σ
 |.ite t a b,σ=>(ev c t σ).cH iw fun q σ=>if q then ev c a σ else ev c b σ
 |.idx a i,σ=>match a.aB with
  |some k=>if (bB k σ).isNone then .bad else(ev c i σ).ao fun y σ=>lift σ ((bB k σ).bind fun d=>(getD d y).map Rv.val)
  |none=>(ev c a σ).ao fun x σ=>(ev c i σ).ao fun y σ=>lift σ ((getD x y).map Rv.val)
 |.slc a lo hi,σ=>(ev c a σ).ao fun x σ=>(ev c lo σ).ao fun l σ=>match cC lo.fQ l with
  |none=>.bad
  |some l=>(ev c hi σ).ao fun h σ=>lift σ ((cC hi.fQ h).bind fun h=>dO x l h)
 |.noneE,σ=>.ok (.val .non) σ
 |.call f as,σ=>(evs c as σ).bind fun as σ=>tE c f as σ
 |.ref i,σ=>match σ[i]? with
  |some (.own _)=>.ok (.ref i) σ
  |some (.bor _)=>.ok (.ref i) σ
  |_=>.bad
 |.rd e,σ=>ev c e σ
 |.isi a t,σ=>(ev c a σ).ao fun x σ=>.ok (.val (.bl (p8 t x))) σ
 |.bi b a,σ=>match a.aB with
  |some k=>lift σ ((bB k σ).bind fun d=>b1 b d)
  |none=>(ev c a σ).ao fun x σ=>lift σ (b1 b x)
 |.range1 a,σ=>(ev c a σ).ao fun x σ=>lift σ (match x with|.int n=>if fits n.toNat&&Ag n then some (.val (.lst (bF 0 n.toNat)))else none|_=>none)
 |.zip a b,σ=>(ev c a σ).ao fun x σ=>(ev c b σ).ao fun y σ=>lift σ ((bN x).bind fun xs=>(bN y).map fun ys=>.val (.lst (aO xs ys)))
 |.count a b,σ=>(ev c a σ).ao fun x σ=>if (bN x).isNone then .bad else(ev c b σ).ao fun y σ=>lift σ (zW x y)
 |.popAt k a,σ=>if !cZ (bB k σ)then .bad else(ev c a σ).ao fun y σ=>rA k y σ
 |.index a b,σ=>(ev c a σ).ao fun x σ=>if (gr x).isNone then .bad else(ev c b σ).ao fun y σ=>lift σ (acs x y)
 |.get2 d k x,σ=>match d.aB with
  |some i=>if !rR (bB i σ)then .bad else(ev c k σ).ao fun k σ=>(ev c x σ).ao fun x σ=>lift σ ((bB i σ).bind fun y=>(rZ y k x).map Rv.val)
  |none=>.bad
 |.dsp es,σ=>(evs c es σ).bind fun rs σ=>lift σ ((aV rs).bind zP)
 |.emp,σ=>.ok (.new (.dct [] [])) σ
 |.enum a,σ=>(ev c a σ).ao fun x σ=>lift σ ((gr x).map fun xs=>.val (.lst (aO (bF 0 xs.length) xs)))
 |.comp nl tg it cond elt,σ=>(ev c it σ).ao fun x σ=>match items x with
  |some xs=>match aY tg (ev c cond) (ev c elt) xs [] (List.replicate nl .un++σ)with
   |.ok ys τ=>.ok (.new (.lst ys)) (τ.drop nl)
   |_=>.bad
  |none=>.bad
 |.nil,_=>.bad
 |.cons _ _,_=>.bad
noncomputable def gW(c:Cf):E->Ev->Out Rv
 |.cons h t,σ=>match t with
  |.nil=>ev c h σ
  |t=>(ev c h σ).ao fun x σ=>match x with|.bl true=>gW c t σ|.bl false=>.ok (.val (.bl false)) σ|_=>.bad
 |_,_=>.bad
noncomputable def nG(c:Cf):E->Ev->Out Rv
 |.cons h t,σ=>match t with
  |.nil=>ev c h σ
  |t=>(ev c h σ).ao fun x σ=>match x with|.bl true=>.ok (.val (.bl true)) σ|.bl false=>nG c t σ|_=>.bad
 |_,_=>.bad
noncomputable def evs(c:Cf):E->Ev->Out (List Rv)
 |.nil,σ=>.ok [] σ
 |.cons h t,σ=>(ev c h σ).bind fun x σ=>(evs c t σ).bind fun xs σ=>.ok (argv x::xs) σ
 |_,_=>.bad
end
inductive Fl where
 |next (σ:Ev)|ret (r:Rv) (σ:Ev)|brk (σ:Ev)|cont (σ:Ev)|exc (k:Nat) (σ:Ev)|bad
noncomputable def Out.fl{α:Type}:Out α->(α->Ev->Fl)->Fl
 |.ok a σ,f=>f a σ
 |.exc k σ,_=>.exc k σ
 |.bad,_=>.bad
noncomputable def Out.mD:Out Rv->(D->Ev->Fl)->Fl
 |.ok (.val d) σ,f=>f d σ
 |.ok (.new o) σ,f=>f o.d σ
 |.ok _ _,_=>.bad
 |.exc k σ,_=>.exc k σ
 |.bad,_=>.bad
noncomputable def Out.FN(r:Out Rv)(f:Bool->Ev->Fl):Fl:=r.mD fun d σ=>match iw d with|some b=>f b σ|none=>.bad
noncomputable def ug:Rv->Ev->Fl
 |.val d,σ=>.ret (.val d) σ
 |.new o,σ=>.ret (.new o) σ
 |_,_=>.bad
def Fl.seq:Fl->(Ev->Fl)->Fl
 |.next σ,f=>f σ
 |r,_=>r
noncomputable def Fl.turn:Fl->(Ev->Fl)->Fl
 |.next σ,f=>f σ
 |.cont σ,f=>f σ
 |.brk σ,_=>.next σ
 |r,_=>r
noncomputable def aG(tg:Tg)(b:Ev->Fl):List D->Ev->Fl
 |[],σ=>.next σ
 |x::xs,σ=>match bj tg x σ with
  |none=>.bad
  |some σ₁=>(b σ₁).turn (aG tg b xs)
noncomputable def cF(t:Ev->Out Rv)(b:Ev->Fl):Nat->Ev->Fl
 |0,_=>.bad
 |n+1,σ=>(t σ).FN fun q σ=>if q then(b σ).turn (cF t b n)else .next σ
def yZ:Option Ev->Fl
 |some σ=>.next σ
 |none=>.bad
noncomputable def acP(c:Cf)(f:Nat)(as:List Rv)(σ:Ev):Fl:=
 match enter as σ with
 |none=>.bad
 |some ps=>
  match c.fn f ps with
  |.ok _ qs=>yZ (giveBack as qs σ)
  |.exc k qs=>match giveBack as qs σ with|some ζ=>.exc k ζ|none=>.bad
  |.bad=>.bad
noncomputable def ex(c:Cf):S->Ev->Fl
 |.nil,σ=>.next σ
 |.cons h t,σ=>(ex c h σ).seq (ex c t)
 |.brk,σ=>.brk σ
 |.cont,σ=>.cont σ
 |.set i e,σ=>(ev c e σ).fl fun x σ=>yZ (x.Aw.bind fun s=>bU i s σ)
 |.setT is e,σ=>(ev c e σ).mD fun x σ=>yZ (bj (.tup is) x σ)
 |.setIx k ix e,σ=>(ev c e σ).mD fun x σ=>if (bB k σ).isNone then .bad else(ev c ix σ).mD fun y σ=>yZ (cX k (oK y x) σ)
 |.expr e,σ=>(ev c e σ).mD fun _ σ=>.next σ
 |.append k e,σ=>if !cZ (bB k σ)then .bad else(ev c e σ).mD fun x σ=>yZ (cX k (uR fun xs=>if fits (xs.length+1)then some (xs++[x])else none) σ)
 |.extend k e,σ=>if !cZ (bB k σ)then .bad else(ev c e σ).mD fun x σ=>yZ ((gr x).bind fun ys=>cX k (uR fun xs=>if fits (xs.length+ys.length)then some (xs++ys)else none) σ)
 |.ret e,σ=>match e.aB with
  |some i=>match σ[i]? with
   |some (.own o)=>.ret (.new o) (σ.set i .un)
   |_=>(ev c e σ).fl ug
  |none=>(ev c e σ).fl ug
 |.ite t a b,σ=>(ev c t σ).FN fun q σ=>if q then ex c a σ else ex c b σ
 |.for_ tg it b,σ=>(ev c it σ).mD fun x σ=>match items x with
  |some xs=>aG tg (ex c b) xs σ
  |none=>.bad
 |.while_ t b,σ=>cF (ev c t) (ex c b) c.turns σ
 |.raise k,σ=>.exc k σ
 |.callx f as,σ=>(evs c as σ).fl fun as σ=>acP c f as σ
structure Fn where
 pars:Nat
 names:Nat
 body:S
noncomputable def iz(c:Cf)(f:Fn)(ps:List Sl):Res:=
 if ps.length=f.pars then
  match ex c f.body (ps++List.replicate (f.names-f.pars) .un)with
  |.next σ=>.ok (.val .non) (σ.take f.pars)
  |.ret r σ=>.ok r (σ.take f.pars)
  |.exc k σ=>.exc k (σ.take f.pars)
  |_=>.bad
 else .bad
structure Pg where
 fns:List Fn
 gl:Nat->Option D
 turns:Nat
 pf:Cf->Nat->List Sl->Res:=fun _ _ _=>.bad
noncomputable def Pg.fn(p:Pg):Nat->Nat->List Sl->Res
 |0,_,_=>.bad
 |n+1,f,ps=>match p.fns[f]? with
  |some g=>iz ⟨p.fn n,p.gl,p.turns⟩ g ps
  |none=>p.pf ⟨p.fn n,p.gl,p.turns⟩ f ps
def Pg.cf(p:Pg)(n:Nat):Cf:=⟨p.fn n,p.gl,p.turns⟩
def v_0 c(i σ):ev c (.var i) σ=q8 i σ:=rfl
def v_1 c(d σ):ev c (.con d) σ=.ok (.val d) σ:=rfl
def v_2 c(k σ):ev c (.glob k) σ=match c.gl k with|some d=>.ok (.val d) σ|none=>.bad:=rfl
def v_3 c(es σ):ev c (.tup es) σ=(evs c es σ).bind fun rs σ=>lift σ ((aV rs).bind fun ds=>if fits ds.length then some (.val (.tup ds))else none):=rfl
def v_4 c(es σ):ev c (.lis es) σ=(evs c es σ).bind fun rs σ=>lift σ ((aV rs).bind fun ds=>if fits ds.length then some (.new (.lst ds))else none):=rfl
def v_5 c(o a b σ):ev c (.op o a b) σ=(ev c a σ).ao fun x σ=>(ev c b σ).ao fun y σ=>lift σ (binop o x y):=rfl
def v_6 c(a σ):ev c (.neg a) σ=(ev c a σ).ao fun x σ=>lift σ (match x with|.int i=>some (.val (.int (-i)))|_=>none):=rfl
theorem v_7 c(o a b σ):ev c (.cmp o a b) σ=(ev c a σ).ao fun x σ=>match b.aB with
  |some k=>lift σ ((bB k σ).bind fun d=>(aQ o x d).map fun q=>.val (.bl q))
  |none=>(ev c b σ).ao fun y σ=>lift σ ((aQ o x y).map fun q=>.val (.bl q)):=rfl
def v_8 c(π ρ a b d σ):ev c (.chain π ρ a b d) σ=(ev c a σ).ao fun x σ=>(ev c b σ).ao fun y σ=>(lift σ (aQ π x y)).bind fun q σ=>
   if q then(ev c d σ).ao fun z σ=>lift σ ((aQ ρ y z).map fun q=>.val (.bl q))else .ok (.val (.bl false)) σ:=rfl
def Zr c(es σ):ev c (.and es) σ=gW c es σ:=rfl
def Gx c(es σ):ev c (.or es) σ=nG c es σ:=rfl
def PB c(a σ):ev c (.not a) σ=(ev c a σ).cH iw fun b σ=>.ok (.val (.bl (!b))) σ:=rfl
def aaB c(t a b σ):ev c (.ite t a b) σ=(ev c t σ).cH iw fun q σ=>if q then ev c a σ else ev c b σ:=rfl
theorem Jq c(a i σ):ev c (.idx a i) σ=match a.aB with
  |some k=>if (bB k σ).isNone then .bad else(ev c i σ).ao fun y σ=>lift σ ((bB k σ).bind fun d=>(getD d y).map Rv.val)
  |none=>(ev c a σ).ao fun x σ=>(ev c i σ).ao fun y σ=>lift σ ((getD x y).map Rv.val):=rfl
theorem aaA c(a lo hi σ):ev c (.slc a lo hi) σ=(ev c a σ).ao fun x σ=>(ev c lo σ).ao fun l σ=>match cC lo.fQ l with
  |none=>.bad
  |some l=>(ev c hi σ).ao fun h σ=>lift σ ((cC hi.fQ h).bind fun h=>dO x l h):=rfl
def aaz c(σ):ev c .noneE σ=.ok (.val .non) σ:=rfl
def VM c(f as σ):ev c (.call f as) σ=(evs c as σ).bind fun as σ=>tE c f as σ:=rfl
theorem Pz c(i σ):ev c (.ref i) σ=match σ[i]? with
  |some (.own _)=>.ok (.ref i) σ
  |some (.bor _)=>.ok (.ref i) σ
  |_=>.bad:=rfl
def Py c(e σ):ev c (.rd e) σ=ev c e σ:=rfl
def aay c(a t σ):ev c (.isi a t) σ=(ev c a σ).ao fun x σ=>.ok (.val (.bl (p8 t x))) σ:=rfl
theorem pU c(b a σ):ev c (.bi b a) σ=match a.aB with
  |some k=>lift σ ((bB k σ).bind fun d=>b1 b d)
  |none=>(ev c a σ).ao fun x σ=>lift σ (b1 b x):=rfl
def VL c(a σ):ev c (.range1 a) σ=(ev c a σ).ao fun x σ=>lift σ (match x with|.int n=>if fits n.toNat&&Ag n then some (.val (.lst (bF 0 n.toNat)))else none|_=>none):=rfl
def VJ c(a b σ):ev c (.zip a b) σ=(ev c a σ).ao fun x σ=>(ev c b σ).ao fun y σ=>lift σ ((bN x).bind fun xs=>(bN y).map fun ys=>.val (.lst (aO xs ys))):=rfl
def aax c(a b σ):ev c (.count a b) σ=(ev c a σ).ao fun x σ=>if (bN x).isNone then .bad else(ev c b σ).ao fun y σ=>lift σ (zW x y):=rfl
def VH c(k a σ):ev c (.popAt k a) σ=if !cZ (bB k σ)then .bad else(ev c a σ).ao fun y σ=>rA k y σ:=rfl
theorem mJ c(nl tg it cond elt σ):ev c (.comp nl tg it cond elt) σ=(ev c it σ).ao fun x σ=>match items x with
  |some xs=>match aY tg (ev c cond) (ev c elt) xs [] (List.replicate nl .un++σ)with
   |.ok ys τ=>.ok (.new (.lst ys)) (τ.drop nl)
   |_=>.bad
  |none=>.bad:=rfl
theorem VG c(d k x σ):ev c (.get2 d k x) σ=match d.aB with
  |some i=>if !rR (bB i σ)then .bad else(ev c k σ).ao fun k σ=>(ev c x σ).ao fun x σ=>lift σ ((bB i σ).bind fun y=>(rZ y k x).map Rv.val)
  |none=>.bad:=rfl
def ad7 c(es σ):ev c (.dsp es) σ=(evs c es σ).bind fun rs σ=>lift σ ((aV rs).bind zP):=rfl
def x_0 c(σ):ex c .nil σ=.next σ:=rfl
def x_1 c(h t σ):ex c (.cons h t) σ=(ex c h σ).seq (ex c t):=rfl
def x_5 c(i e σ):ex c (.set i e) σ=(ev c e σ).fl fun x σ=>yZ (x.Aw.bind fun s=>bU i s σ):=rfl
def x_7 c(k ix e σ):ex c (.setIx k ix e) σ=(ev c e σ).mD fun x σ=>if (bB k σ).isNone then .bad else(ev c ix σ).mD fun y σ=>yZ (cX k (oK y x) σ):=rfl
def x_9 c(k e σ):ex c (.append k e) σ=if !cZ (bB k σ)then .bad else(ev c e σ).mD fun x σ=>yZ (cX k (uR fun xs=>if fits (xs.length+1)then some (xs++[x])else none) σ):=rfl
def ad4(c:Cf)(k e σ):ex c (.extend k e) σ=if !cZ (bB k σ)then .bad else(ev c e σ).mD fun x σ=>yZ ((gr x).bind fun ys=>cX k (uR fun xs=>if fits (xs.length+ys.length)then some (xs++ys)else none) σ):=rfl
theorem Ai c(e σ):ex c (.ret e) σ=match e.aB with
  |some i=>match σ[i]? with
   |some (.own o)=>.ret (.new o) (σ.set i .un)
   |_=>(ev c e σ).fl ug
  |none=>(ev c e σ).fl ug:=rfl
theorem ad3 c(tg it b σ):ex c (.for_ tg it b) σ=(ev c it σ).mD fun x σ=>match items x with
  |some xs=>aG tg (ex c b) xs σ
  |none=>.bad:=rfl
end Mini
end
section
namespace Mini
open PySem L2
def Gs(K:QQq)(H:Hp)(a:Addr)(xs:List V):Prop:=
 (∃o,H a=some (.frz o (.lst xs)))\/
  ∃(o:Obj)(its:Array Value)(n:Nat),K.lookup a=some o/\o.cls=.type "list"/\o.dict=none/\o.data=.seq its n/\its.size<=sizeLine/\Vals xs its.toList
def Gs.sq{H:Hp}{xs:List V}(h:Gs K H a xs):jB K H a xs:=by
 rcases h with ⟨o,h⟩|h
 ·exact .inl (.inr ⟨o,h⟩)
 ·exact .inr h
def dW:Key->D
 |.inl i=>.int i
 |.inr x=>.str x
mutual
def py:D->PyData
 |.non=>.none
 |.bl b=>.bool b
 |.int i=>.int i
 |.str x=>.str x
 |.tup xs=>.tuple (xW xs)
 |.lst xs=>.list (xW xs)
 |.cR _ _=>.none
 |.g8 _ _=>.none
def xW:List D->List PyData
 |[]=>[]
 |x::xs=>py x::xW xs
end
def kC(d:D):SK:=cn (py d)
mutual
def bI(K:QQq)(H:Hp):D->V->Prop
 |.non,v=>v=.non
 |.bl b,v=>v=.bl b
 |.int i,v=>v=.int i
 |.str x,v=>v=.str x
 |.tup ds,v=>∃a vs,v=.ref a/\ju K H a vs/\aq K H ds vs
 |.lst ds,v=>∃a vs,v=.ref a/\Gs K H a vs/\aq K H ds vs
 |.cR ks ds,v=>∃a o kvs,v=.ref a/\H a=some (.frz o (.dK kvs))/\ks=kvs.map (fun p=>dW p.1)/\aq K H ds (kvs.map (·.2))
 |.g8 ks ds,v=>∃a o xs,v=.ref a/\H a=some (.frz o (.dS xs))/\ks.map kC=xs.map (·.1)/\ks.all cN=true/\aq K H ks (xs.map fun x=>.ref x.2.1)/\aq K H ds (xs.map (·.2.2))
def aq(K:QQq)(H:Hp):List D->List V->Prop
 |[],vs=>vs=[]
 |d::ds,vs=>∃v r,vs=v::r/\bI K H d v/\aq K H ds r
end
structure bR(H H':Hp):Prop where
 tups:∀b xs,H b=some (.tup xs)->H' b=some (.tup xs)
 frzs:∀b o u,H b=some (.frz o u)->H' b=some (.frz o u)
def bR.refl H:bR H H:=⟨fun _ _ h=>h,fun _ _ _ h=>h⟩
def bR.trans(a:bR H H1)(b:bR H1 H2):bR H H2:=⟨fun c xs h=>b.tups c xs (a.tups c xs h),fun c o u h=>b.frzs c o u (a.frzs c o u h)⟩
section
def bR.Wj(p:bR H H')(h:ju K H a xs):ju K H' a xs:=by
 rcases h with (h|⟨o,h⟩)|h
 ·exact .inl (.inl (p.tups _ _ h))
 ·exact .inl (.inr ⟨o,p.frzs _ _ _ h⟩)
 ·exact .inr h
def bR.RQ(p:bR H H')(h:Gs K H a xs):Gs K H' a xs:=by
 rcases h with ⟨o,h⟩|h
 ·exact .inl ⟨o,p.frzs _ _ _ h⟩
 ·exact .inr h
mutual
theorem bI.mono(p:bR H H'):∀{d:D}{v:V},bI K H d v->bI K H' d v
 |.non,_,h=>h
 |.bl _,_,h=>h
 |.int _,_,h=>h
 |.str _,_,h=>h
 |.tup ds,v,h=>by
  unfold bI at h⊢
  obtain⟨a,vs,e,s,l⟩:=h
  exact⟨a,vs,e,p.Wj s,aq.mono p l⟩
 |.lst ds,v,h=>by
  unfold bI at h⊢
  obtain⟨a,vs,e,s,l⟩:=h
  exact⟨a,vs,e,p.RQ s,aq.mono p l⟩
 |.cR ks ds,v,h=>by
  unfold bI at h⊢
  obtain⟨a,o,kvs,e,s,k,l⟩:=h
  exact⟨a,o,kvs,e,p.frzs _ _ _ s,k,aq.mono p l⟩
 |.g8 ks ds,v,h=>by
  unfold bI at h⊢
  obtain⟨a,o,xs,e,s,k,ka,l1,l⟩:=h
  exact⟨a,o,xs,e,p.frzs _ _ _ s,k,ka,aq.mono p l1,aq.mono p l⟩
theorem aq.mono(p:bR H H'):∀{ds:List D}{vs:List V},aq K H ds vs->aq K H' ds vs
 |[],_,h=>by unfold aq at h⊢;exact h
 |d::ds,vs,h=>by
  obtain⟨v,r,e,s,l⟩:=h
  exact⟨v,r,e,bI.mono p s,aq.mono p l⟩
end
def aq.bO:aq K H [] vs↔vs=[]:=by unfold aq;exact Iff.rfl
def aq.aN{ds:List D}:aq K H (d::ds) vs↔ ∃v r,vs=v::r/\bI K H d v/\aq K H ds r:=by
 constructor
 ·intro h;unfold aq at h;exact h
 ·intro h;unfold aq;exact h
def aq.dg{ds:List D}{vs:List V}(h:bI K H d v)(t:aq K H ds vs):aq K H (d::ds) (v::vs):=aq.aN.mpr ⟨v,vs,rfl,h,t⟩
def aq.gk:aq K H [] []:=aq.bO.mpr rfl
theorem aq.length:∀{ds:List D}{vs:List V},aq K H ds vs->ds.length=vs.length
 |[],_,h=>by rw[aq.bO.mp h];rfl
 |d::ds,vs,h=>by
  obtain⟨v,r,rfl,_,t⟩:=aq.aN.mp h
  simp[aq.length t]
theorem aq.get:∀{ds:List D}{vs:List V}{i:Nat}{d:D},aq K H ds vs->ds[i]? =some d->∃v,vs[i]? =some v/\bI K H d v
 |[],_,_,_,_,e=>by simp at e
 |d::ds,vs,i,d',h,e=>by
  obtain⟨v,r,rfl,hd,t⟩:=aq.aN.mp h
  cases i with
  |zero=>simp at e;subst e;exact⟨v,rfl,hd⟩
  |succ i=>obtain⟨w,q,z⟩:=aq.get t (by simpa using e);exact⟨w,by simpa using q,z⟩
theorem aq.append:∀{ds es:List D}{vs ws:List V},aq K H ds vs->aq K H es ws->aq K H (ds++es) (vs++ws)
 |[],_,_,_,h,t=>by rw[aq.bO.mp h];exact t
 |d::ds,es,vs,ws,h,t=>by
  obtain⟨v,r,rfl,hd,q⟩:=aq.aN.mp h
  exact aq.dg hd (aq.append q t)
theorem aq.take:∀{ds:List D}{vs:List V}(n:Nat),aq K H ds vs->aq K H (ds.take n) (vs.take n)
 |_,_,0=>fun _=>aq.gk
 |[],_,_+1=>fun h=>by rw[aq.bO.mp h];exact aq.gk
 |d::ds,vs,n+1=>fun h=>by
  obtain⟨v,r,rfl,hd,q⟩:=aq.aN.mp h
  exact aq.dg hd (aq.take n q)
theorem aq.drop:∀{ds:List D}{vs:List V}(n:Nat),aq K H ds vs->aq K H (ds.drop n) (vs.drop n)
 |_,_,0=>fun h=>h
 |[],_,_+1=>fun h=>by rw[aq.bO.mp h];exact aq.gk
 |d::ds,vs,n+1=>fun h=>by
  obtain⟨v,r,rfl,hd,q⟩:=aq.aN.mp h
  exact aq.drop n q
theorem aq.eraseIdx:∀{ds:List D}{vs:List V}(n:Nat),aq K H ds vs->aq K H (ds.eraseIdx n) (vs.eraseIdx n)
 |[],_,_=>fun h=>by rw[aq.bO.mp h];exact aq.gk
 |d::ds,vs,0=>fun h=>by
  obtain⟨v,r,rfl,hd,q⟩:=aq.aN.mp h
  exact q
 |d::ds,vs,n+1=>fun h=>by
  obtain⟨v,r,rfl,hd,q⟩:=aq.aN.mp h
  exact aq.dg hd (aq.eraseIdx n q)
theorem aq.set{v:V}(hd:bI K H d v):∀{ds:List D}{vs:List V}(n:Nat),aq K H ds vs->aq K H (ds.set n d) (vs.set n v)
 |[],_,_=>fun h=>by rw[aq.bO.mp h];exact aq.gk
 |e::ds,vs,0=>fun h=>by
  obtain⟨w,r,rfl,he,q⟩:=aq.aN.mp h
  exact aq.dg hd q
 |e::ds,vs,n+1=>fun h=>by
  obtain⟨w,r,rfl,he,q⟩:=aq.aN.mp h
  exact aq.dg he (aq.set hd n q)
end
def isOwn:Sl->Option Ob
 |.own o=>some o
 |.bor o=>some o
 |_=>none
def gH(K:QQq)(H:Hp)(ks ds:List D)(xs:List SV):Prop:=ks.map kC=xs.map (·.1)/\ks.all cN=true/\aq K H ks (xs.map fun x=>.ref x.2.1)/\aq K H ds (xs.map (·.2.2))
theorem gH.mono{K:QQq}{H H':Hp}{ks ds:List D}{xs:List SV}(p:bR H H')(h:gH K H ks ds xs):gH K H' ks ds xs:=⟨h.1,h.2.1,h.2.2.1.mono p,h.2.2.2.mono p⟩
noncomputable def Jg(K:QQq)(H:Hp):Ob->HO->Prop
 |.lst xs,u=>∃vs,u=.lst vs/\aq K H xs vs
 |.dct ks ds,u=>∃kvs,u=.dK kvs/\ks=kvs.map (fun p=>dW p.1)/\aq K H ds (kvs.map (·.2))
 |.sdt ks ds,u=>∃xs,u=.dS xs/\gH K H ks ds xs
theorem Jg.mono{K:QQq}{H H':Hp}(p:bR H H'):∀{o:Ob}{u:HO},Jg K H o u->Jg K H' o u
 |.lst _,_,⟨vs,e,l⟩=>⟨vs,e,l.mono p⟩
 |.dct _ _,_,⟨kvs,e,k,l⟩=>⟨kvs,e,k,l.mono p⟩
 |.sdt _ _,_,⟨xs,e,l⟩=>⟨xs,e,l.mono p⟩
structure O3(u:HO):Prop where
 tup:∀xs,u≠ .tup xs
 frz:∀q w,u≠ .frz q w
 tbl:∀ps,u≠ .tbl ps
 own:∀x,u≠ .own x
theorem Jg.uT{H:Hp}:∀{o:Ob}{u:HO},Jg K H o u->O3 u
 |.lst _,_,⟨vs,e,_⟩=>by
  subst e
  constructor
  all_goals (intros;intro z;cases z)
 |.dct _ _,_,⟨kvs,e,_⟩=>by
  subst e
  constructor
  all_goals (intros;intro z;cases z)
 |.sdt _ _,_,⟨xs,e,_⟩=>by
  subst e
  constructor
  all_goals (intros;intro z;cases z)
def jz(K:QQq)(H:Hp)(o:Ob)(a:Addr):Prop:=∃u,H a=some u/\Jg K H o u
noncomputable def SX(K:QQq)(H:Hp):Sl->Option V->Prop
 |.un,_=>True
 |.val d,o=>∃v,o=some v/\bI K H d v
 |.own q,o=>∃a,o=some (.ref a)/\jz K H q a
 |.bor q,o=>∃a,o=some (.ref a)/\jz K H q a
def aW(env:Ev)(σ:St)(i:Nat)(a:Addr):Prop:=(∃s xs,env[i]? =some s/\isOwn s=some xs)/\σ[i]? =some (some (.ref a))
structure Sat(K:QQq)(env:Ev)(σ:St)(H:Hp):Prop where
 len:env.length=σ.length
 sl:∀(i:Nat)s,env[i]? =some s->SX K H s (σ[i]?).join
 ne:∀(i j:Nat)a,aW env σ i a->aW env σ j a->i=j
structure Nx(K:QQq)(env:Ev)(σ:St)(H:Hp)(env':Ev)(H':Hp):Prop where
 eZ:Sat K env' σ H'
 sub:∀(i:Nat)a,aW env' σ i a->aW env σ i a
 pers:bR H H'
 keep:∀b u,H b=some u->(∀i,¬aW env σ i b)->H' b=some u
 dom:∀b,H' b=none->H b=none
 bors:∀(i:Nat)xs,env[i]? =some (.bor xs)->∃ys,env'[i]? =some (.bor ys)
section
theorem Nx.refl(h:Sat K env σ H):Nx K env σ H env H:=⟨h,fun _ _ z=>z,bR.refl H,fun _ _ z _=>z,fun _ z=>z,fun _ xs e=>⟨xs,e⟩⟩
theorem Nx.trans(a:Nx K env σ H δ H1)(b:Nx K δ σ H1 ε H2):Nx K env σ H ε H2:=
 ⟨b.eZ,fun i c z=>a.sub i c (b.sub i c z),a.pers.trans b.pers,fun c vs z n=>b.keep c vs (a.keep c vs z n) fun i w=>n i (a.sub i c w),fun c z=>a.dom c (b.dom c z),fun i xs e=>let ⟨ys,e1⟩:=a.bors i xs e;b.bors i ys e1⟩
theorem Sat.own(h:Sat K env σ H){a:Addr}(o:aW env σ i a):∃q,jz K H q a:=by
 obtain⟨⟨s,xs,e1,e2⟩,e3⟩:=o
 have q:=h.sl i s e1
 rw[e3]at q
 cases s with
 |un=>simp[isOwn]at e2
 |val d=>simp[isOwn]at e2
 |own ys=>obtain⟨b,e,z⟩:=q;cases e;exact⟨ys,z⟩
 |bor ys=>obtain⟨b,e,z⟩:=q;cases e;exact⟨ys,z⟩
def Sat.rF(h:Sat K env σ H)(hn:H a=none)i:¬aW env σ i a:=fun o=>by
 obtain⟨q,u,z,_⟩:=h.own o
 rw[hn]at z;cases z
end
noncomputable def gK(K:QQq)(σ:St)(H₀ H:Hp):Rv->V->Prop
 |.val d,v=>bI K H d v
 |.new q,v=>∃a,v=.ref a/\jz K H q a/\H₀ a=none
 |.ref i,v=>σ[i]? =some (some v)
abbrev Wi:=Nat->Ev->St->Hp->Prop
noncomputable def tM(K:QQq)(W:Wi)(env:Ev)(r:Out Rv):TE:=fun σ H Q=>Sat K env σ H/\match r with
 |.ok x env'=>∀v H',Nx K env σ H env' H'->gK K σ H H' x v->Q v H'
 |.exc c env'=>∀H',Nx K env σ H env' H'->W c env' σ H'
 |.bad=>False
noncomputable def tD(K:QQq)(W:Wi)(env:Ev)(r:Out Rv):TE:=fun σ H Q=>Sat K env σ H/\match r with
 |.ok (.val d) env'=>∀v H',Nx K env σ H env' H'->bI K H' d v->Q v H'
 |.ok (.new q) env'=>∀v H',Nx K env σ H env' H'->bI K H' q.d v->Q v H'
 |.ok _ _=>False
 |.exc c env'=>∀H',Nx K env σ H env' H'->W c env' σ H'
 |.bad=>False
noncomputable def tT(K:QQq)(W:Wi)(env:Ev)(r:Out Rv):TT:=fun σ H Q=>Sat K env σ H/\match r with
 |.ok x env'=>∃d b,x.jA=some d/\iw d=some b/\∀H',Nx K env σ H env' H'->Q b H'
 |.exc c env'=>∀H',Nx K env σ H env' H'->W c env' σ H'
 |.bad=>False
def PE.imp{e:Expr}(h:PE X e t)(i:∀σ H Q,t' σ H Q->t σ H Q):PE X e t':=fun γ s σ H Q I q=>h γ s σ H Q I (i σ H Q q)
def PT.imp{e:Expr}(h:PT X e t)(i:∀σ H Q,t' σ H Q->t σ H Q):PT X e t':=fun γ s σ H Q I q=>h γ s σ H Q I (i σ H Q q)
def _root_.L2.cu.there{w:World}{h:Heap}{o:HO}(x:cu P w H h a o):∃u,h.get? a=some u:=by
 cases o with
 |lst xs=>obtain⟨_,_,_,_,e⟩:=x;exact⟨_,e⟩
 |tup xs=>obtain⟨_,_,_,p⟩:=x;obtain⟨o,e,_⟩:=p;exact⟨_,e⟩
 |dK kvs=>obtain⟨_,_,_,_,o,_,_,e,_⟩:=x;exact⟨_,e⟩
 |dS xs=>obtain⟨_,_,_,_,o,_,_,_,e,_⟩:=x;exact⟨_,e⟩
 |ins C dx fs=>obtain⟨_,_,_,e,_⟩:=x;exact⟨_,e⟩
 |own y=>obtain⟨_,e⟩:=x;exact⟨_,e⟩
 |frz ob u=>obtain⟨e,_⟩:=x;exact⟨_,e⟩
 |tbl ps=>exact⟨_,show h.get? a=some _ from x⟩
 |met f y=>exact⟨_,show h.get? a=some _ from x⟩
def Inv.freeze{X:Cx}{σ:St}{H:Hp}{a:Addr}(I:Inv X γ σ H s)(h:H a=some u)(hu:O3 u):
  ∃o,Inv X γ σ (upd H a (.frz o u)) s:=by
 obtain⟨o,ho⟩:=(I.hok a _ h).there
 refine⟨o,?_⟩
 have ne:∀b w,H b=some w->w≠u->b≠a:=fun b w q n z=>by subst z;rw[h]at q;cases q;exact n rfl
 have stay:∀b w,b≠a->H b=some w->upd H a (.frz o u) b=some w:=fun b w n q=>by rw[aC n];exact q
 have hok:pC X.prog X.w (upd H a (.frz o u)) s.heap:=fun b w q=>by
  have st:∀c v,cu X.prog X.w H s.heap c v->cu X.prog X.w _ s.heap c v:=fun c v z=>
   z.stay (fun c v _ q=>q) (fun e q=>stay e _ (ne e _ q (hu.own c).symm) q) fun e xs q=>stay e _ (ne e _ q (hu.tup xs).symm) q
  by_cases hb:b=a
  ·subst hb
   rw[aU]at q
   cases q
   exact⟨ho,st _ _ (I.hok b _ h)⟩
  ·rw[aC hb]at q
   exact st _ _ (I.hok b w q)
 have J:=I.step (t':=s.toks) (d':=s.drawn) (ch:=[]) (fun _ z=>nomatch z)
  (fun b o _ _ _ q _=>q) (fun b o _ _ _ q _=>⟨o.slots,q⟩) (fun b o _ q n=>by
   rw[aC (fun z=>by subst z;rw[h]at n;cases n)];exact n) (fun b o _ q=>⟨o,q⟩)
  (fun b xs q=>stay b _ (ne b _ q (hu.tup xs).symm) q) (fun b o w q=>stay b _ (ne b _ q (hu.frz o w).symm) q) (fun b ps q=>⟨#[],by rw[stay b _ (ne b _ q (hu.tbl ps).symm) q];simp⟩) (fun m q=>q) hok I.bare
 exact J
section
def gP(h:H a=some u)(hu:O3 u):bR H (upd H a (.frz o u)):=by
 refine⟨fun b xs q=>?_,fun b o' w q=>?_⟩
 ·rw[aC (fun z=>by subst z;rw[h]at q;cases q;exact hu.tup xs rfl)];exact q
 ·rw[aC (fun z=>by subst z;rw[h]at q;cases q;exact hu.frz o' w rfl)];exact q
def Jg.den{H':Hp}(h:Jg K H' q u)(e:H' a=some (.frz o u)):bI K H' q.d (.ref a):=by
 cases q with
 |lst xs=>
  obtain⟨vs,rfl,l⟩:=h
  show bI K H' (.lst xs) (.ref a)
  unfold bI
  exact⟨a,vs,rfl,.inl ⟨o,e⟩,l⟩
 |dct ks ds=>
  obtain⟨kvs,rfl,k,l⟩:=h
  show bI K H' (.cR ks ds) (.ref a)
  unfold bI
  exact⟨a,o,kvs,rfl,e,k,l⟩
 |sdt ks ds=>
  obtain⟨xs,rfl,l⟩:=h
  show bI K H' (.g8 ks ds) (.ref a)
  unfold bI
  exact⟨a,o,xs,rfl,e,l⟩
def SX.keep{sl:Sl}(p:bR H H')(h:SX K H sl v)(k:∀b u,isOwn sl≠none->v=some (.ref b)->H b=some u->H' b=some u):SX K H' sl v:=by
 cases sl with
 |un=>trivial
 |val d=>obtain⟨v,e1,e2⟩:=h;exact⟨v,e1,e2.mono p⟩
 |own q=>
  obtain⟨b,e1,w,e2,e3⟩:=h
  exact⟨b,e1,w,k b w (by simp[isOwn]) e1 e2,e3.mono p⟩
 |bor q=>
  obtain⟨b,e1,w,e2,e3⟩:=h
  exact⟨b,e1,w,k b w (by simp[isOwn]) e1 e2,e3.mono p⟩
def wG{sl:Sl}(e:env[i]? =some sl)(ho:isOwn sl≠none)(ev:(σ[i]?).join=some (.ref b)):aW env σ i b:=by
 refine⟨?_,?_⟩
 ·cases q:isOwn sl with
  |none=>exact absurd q ho
  |some o=>exact⟨sl,o,e,q⟩
 ·cases w:σ[i]? with
  |none=>rw[w]at ev;cases ev
  |some y=>rw[w]at ev;simp at ev;rw[ev]
theorem Sat.keep(S:Sat K env σ H)(p:bR H H')(k:∀i b u,aW env σ i b->H b=some u->H' b=some u):Sat K env σ H':=
 ⟨S.len,fun i sl e=>(S.sl i sl e).keep p fun b u ho ev hb=>k i b u (wG e ho ev) hb,S.ne⟩
def Sat.freeze(S:Sat K env σ H)(h:H a=some u)(hu:O3 u)(no:∀i,¬aW env σ i a):Sat K env σ (upd H a (.frz o u)):=
 S.keep (gP h hu) fun i b w ow hb=>by
  rw[aC (fun z=>by subst z;exact no i ow)];exact hb
end
def Ku{W:Wi}{env:Ev}(h:PE X e (tM X.K W env r)):PE X e (tD X.K W env r):=by
 intro γ s σ H Q I q
 obtain⟨S,q⟩:=q
 cases r with
 |bad=>exact q.elim
 |exc c env'=>exact h γ s σ H Q I ⟨S,q⟩
 |ok x env'=>
  cases x with
  |val d=>exact h γ s σ H Q I ⟨S,q⟩
  |ref i=>exact False.elim q
  |new xs=>
   refine cB (h γ s σ H (fun v H'=>Nx X.K env σ H env' H'/\gK X.K σ H H' _ v) I ⟨S,fun v H' n k=>⟨n,k⟩⟩) fun u s1⟨v,H1,I1,r1,N,k⟩=>?_
   obtain⟨a,rfl,⟨u,ha,hl⟩,h0⟩:=k
   have hu:=hl.uT
   obtain⟨o,I2⟩:=Inv.freeze I1 ha hu
   have p:=gP (o:=o) ha hu
   refine⟨.ref a,_,I2,r1,q _ _ ⟨N.eZ.freeze ha hu (fun i z=>S.rF h0 i (N.sub i a z)),N.sub,N.pers.trans p,fun b ws z n=>?_,fun b z=>?_,N.bors⟩ ((hl.mono p).den aU)⟩
   ·rw[aC (fun w=>by subst w;rw[h0]at z;cases z)];exact N.keep b ws z n
   ·refine N.dom b ?_
    by_cases hb:b=a
    ·subst hb;rw[aU]at z;cases z
    ·rw[aC hb]at z;exact z
def gK.weaken{σ:St}{x:Rv}(h:gK K σ H1 H x v)(d:∀b,H1 b=none->H0 b=none):gK K σ H0 H x v:=by
 cases x with
 |val d=>exact h
 |ref i=>exact h
 |new xs=>obtain⟨a,e,p,z⟩:=h;exact⟨a,e,p,d a z⟩
section
def TV{H1:Hp}(S:tM K W env r σ H Q)(N:Nx K env σ H δ H1):tM K W δ r σ H1 Q:=by
 obtain⟨_,h⟩:=S
 refine⟨N.eZ,?_⟩
 cases r with
 |bad=>exact h
 |exc c ε=>exact fun H' N'=>h H' (N.trans N')
 |ok x ε=>exact fun v H' N' z=>h v H' (N.trans N') (z.weaken N.dom)
theorem aZ{f:D->Ev->Out Rv}(h:tM K W env (r.ao f) σ H Q)
  (k:∀d δ v H1,Nx K env σ H δ H1->bI K H1 d v->tM K W δ (f d δ) σ H1 Q->R v H1):tD K W env r σ H R:=by
 have step:∀d δ,r.ao f=f d δ->∀v H1,Nx K env σ H δ H1->bI K H1 d v->R v H1:=fun d δ e v H1 N D=>by
  rw[e]at h
  exact k d δ v H1 N D (TV h N)
 obtain⟨S,h⟩:=h
 refine⟨S,?_⟩
 cases r with
 |bad=>exact h
 |exc c δ=>exact h
 |ok x δ=>
  cases x with
  |val d=>exact fun v H1 N D=>step d δ rfl v H1 N D
  |new xs=>exact fun v H1 N D=>step xs.d δ rfl v H1 N D
  |ref i=>exact h
theorem yq{f:Bool->Ev->Out Rv}(h:tM K W env (r.cH iw f) σ H Q)
  (k:∀b δ H1,Nx K env σ H δ H1->tM K W δ (f b δ) σ H1 Q->R b H1):tT K W env r σ H R:=by
 have step:∀d δ x,x.jA=some d->r=.ok x δ->∃b,iw d=some b/\∀H1,Nx K env σ H δ H1->R b H1:=fun d δ x ex er=>by
  subst er
  cases q:iw d with
  |none=>
   cases x with
   |val d'=>cases ex;simp only[Out.cH,Out.ao,q]at h;exact h.2.elim
   |new xs=>cases ex;simp only[Out.cH,Out.ao,q]at h;exact h.2.elim
   |ref i=>cases ex
  |some b=>
   refine⟨b,rfl,fun H1 N=>k b δ H1 N (TV ?_ N)⟩
   cases x with
   |val d'=>cases ex;simp only[Out.cH,Out.ao,q]at h;exact h
   |new xs=>cases ex;simp only[Out.cH,Out.ao,q]at h;exact h
   |ref i=>cases ex
 refine⟨h.1,?_⟩
 cases r with
 |bad=>exact h.2
 |exc c δ=>exact h.2
 |ok x δ=>
  cases x with
  |val d=>obtain⟨b,e,q⟩:=step d δ _ rfl rfl;exact⟨d,b,rfl,e,q⟩
  |new xs=>obtain⟨b,e,q⟩:=step xs.d δ _ rfl rfl;exact⟨xs.d,b,rfl,e,q⟩
  |ref i=>exact h.2.elim
def cJ(h:tM K W env (lift env o) σ H Q):∃z,o=some z/\Sat K env σ H/\∀v H',Nx K env σ H env H'->gK K σ H H' z v->Q v H':=by
 obtain⟨S,h⟩:=h
 cases o with
 |none=>exact h.elim
 |some z=>exact⟨z,rfl,S,h⟩
def dY{v:V}(h:tM K W env (.ok (.val d) env) σ H Q)(e:bI K H d v):Q v H:=h.2 v H (Nx.refl h.1) e
def Nx.laid{o:HO}(S:Sat K env σ H)(hp:H p=none):Nx K env σ H env (upd H p o):=by
 have ne:∀b u,H b=some u->b≠p:=fun b u q z=>by subst z;rw[hp]at q;cases q
 have pe:bR H (upd H p o):=⟨fun b xs q=>by rw[aC (ne b _ q)];exact q,fun b o' u q=>by rw[aC (ne b _ q)];exact q⟩
 refine⟨S.keep pe fun i b u _ q=>by rw[aC (ne b _ q)];exact q,fun _ _ z=>z,pe,fun b vs q _=>by rw[aC (ne b _ q)];exact q,fun b q=>?_,fun _ xs e=>⟨xs,e⟩⟩
 ·by_cases hb:b=p
  ·subst hb;exact hp
  ·rw[aC hb]at q;exact q
end
def GE(X:Cx)(W:Wi)(c:Cf)(m:E)(e:Expr):Prop:=∀env,PE X e (tM X.K W env (ev c m env))
def aD(X:Cx)(W:Wi)(c:Cf)(m:E):TE:=fun σ H Q=>∃env,tD X.K W env (ev c m env) σ H Q
def aT(X:Cx)(W:Wi)(c:Cf)(m:E):TT:=fun σ H Q=>∃env,tT X.K W env (ev c m env) σ H Q
def GT(X:Cx)(W:Wi)(c:Cf)(m:E)(e:Expr):Prop:=PT X e (aT X W c m)
section
def GE.d(h:GE X W c m e):PE X e (aD X W c m):=fun γ s σ H Q I⟨env,q⟩=>Ku (h env) γ s σ H Q I q
theorem bI.iw{H:Hp}{v:V}(h:bI K H x v)(e:iw x=some k):Ow K v H k:=by
 cases x with
 |non=>cases h;simp[Mini.iw]at e;subst e;rfl
 |bl b=>cases h;simp[Mini.iw]at e;subst e;rfl
 |int i=>cases h;simp[Mini.iw]at e;subst e;rfl
 |str y=>simp[Mini.iw]at e
 |tup xs=>
  obtain⟨p,vs,rfl,hq,l⟩:=h
  have e':=QEq e
  refine .inr (.inl ⟨vs,hq,?_⟩)
  have:=l.length
  cases xs<;>cases vs<;>simp_all
 |lst xs=>
  obtain⟨p,vs,rfl,hq,l⟩:=h
  have e':=QEq e
  refine .inl ⟨vs,hq.sq,?_⟩
  have:=l.length
  cases xs<;>cases vs<;>simp_all
 |cR ks vs=>simp[Mini.iw]at e
 |g8 ks vs=>simp[Mini.iw]at e
def yr{env:Ev}{σ:St}{Q:Bool->Hp->Prop}(h:tT K W env r σ H Q):tD K W env r σ H (fun v H'=>∃k,Ow K v H' k/\Q k H'):=by
 obtain⟨S,h⟩:=h
 refine⟨S,?_⟩
 cases r with
 |bad=>exact h
 |exc c δ=>exact h
 |ok x δ=>
  obtain⟨d,b,e1,e2,q⟩:=h
  cases x with
  |val d'=>cases e1;exact fun v H' N D=>⟨b,D.iw e2,q H' N⟩
  |new xs=>cases e1;exact fun v H' N D=>⟨b,D.iw e2,q H' N⟩
  |ref i=>cases e1
def GE.t(h:GE X W c m e)(he:∀whole,isTrue e X.env whole=(do let v<-whole;standAt e.pos;holding [v] (truthy v))):GT X W c m e:=
 PT.imp (Kc h.d he) fun σ H Q⟨env,q⟩=>⟨env,yr q⟩
noncomputable def Ej:D->Const->Bool
 |.non,.none=>true
 |.bl b,.bool b'=>b==b'
 |.int i,.int j=>i==j
 |.str x,.str y=>decide (x=y)
 |_,_=>false
def YD{k:Const}(h:Ej x k=true):GE X W c (.con x) (.Constant k i pos):=by
 intro env
 cases x with
 |non=>cases k<;>first|exact PE.imp W4 (fun σ H Q q=>dY q rfl)|simp[Ej]at h
 |bl y=>cases k<;>first|(simp[Ej]at h;subst h;exact PE.imp abM (fun σ H Q q=>dY q rfl))|simp[Ej]at h
 |int y=>cases k<;>first|(simp[Ej]at h;subst h;exact PE.imp W6 (fun σ H Q q=>dY q rfl))|simp[Ej]at h
 |str y=>cases k<;>first|(simp[Ej]at h;subst h;exact PE.imp W3 (fun σ H Q q=>dY q rfl))|simp[Ej]at h
 |tup _=>cases k<;>simp[Ej]at h
 |lst _=>cases k<;>simp[Ej]at h
 |cR _ _=>cases k<;>simp[Ej]at h
 |g8 _ _=>cases k<;>simp[Ej]at h
def cg{σ:St}{i:Nat}(h:(σ[i]?).join=some v):σ[i]? =some (some v):=by
 cases w:σ[i]? with
 |none=>rw[w]at h;cases h
 |some y=>rw[w]at h;simp at h;rw[h]
def Nx.give{env:Ev}{H:Hp}{q:Ob}{a:Addr}{u:HO}(S:Sat K env σ H)(e:env[i]? =some (.own q))(es:σ[i]? =some (some (.ref a)))
  (ha:H a=some u)(l:Jg K H q u):Nx K env σ H (env.set i (.val q.d)) (upd H a (.frz o u)):=by
 have p:=gP (o:=o) ha l.uT
 have oa:aW env σ i a:=⟨⟨_,q,e,rfl⟩,es⟩
 have hi:=(QCz.mp e).1
 have sub:∀j b,aW (env.set i (.val q.d)) σ j b->aW env σ j b/\j≠i:=fun j b z=>by
  obtain⟨⟨s,ys,e1,e2⟩,e3⟩:=z
  by_cases hj:i=j
  ·subst hj;rw[Qwq hi]at e1;cases e1;simp[isOwn]at e2
  ·rw[Qxz hj]at e1;exact⟨⟨⟨s,ys,e1,e2⟩,e3⟩,fun z=>hj z.symm⟩
 have ne:∀j b,aW env σ j b->j≠i->b≠a:=fun j b z hj q=>hj (S.ne j i a (q▸z) oa)
 refine⟨⟨by simpa using S.len,fun j s ej=>?_,fun j k b z w=>S.ne j k b (sub j b z).1 (sub k b w).1⟩,fun j b z=>(sub j b z).1,p,fun b ws q n=>?_,fun b q=>?_,fun j ys ej=>?_⟩
 ·by_cases hj:i=j
  ·subst hj
   rw[Qwq hi]at ej
   cases ej
   exact⟨.ref a,by rw[es];rfl,(l.mono p).den aU⟩
  ·rw[Qxz hj]at ej
   refine(S.sl j s ej).keep p fun b w ho ev hb=>?_
   rw[aC (ne j b (wG ej ho ev) fun z=>hj z.symm)];exact hb
 ·rw[aC (fun z=>by subst z;exact n i oa)];exact q
 ·by_cases hb:b=a
  ·subst hb;rw[aU]at q;cases q
  ·rw[aC hb]at q;exact q
 ·by_cases hj:i=j
  ·subst hj;rw[e]at ej;cases ej
  ·exact⟨ys,by rw[Qxz hj];exact ej⟩
def Yp{x:Str}(hN:X.N[i]? =some x)(hv:Vis X.env.scope x)(hd:(x==("__debug__":Str))=false)(hcd:(x==("__classdict__":Str))=false):GE X W c (.var i) (.Name x pos):=by
 intro env γ s σ H Q I q
 have B:=Ks (pos:=pos) hN hv hd hcd
 simp only[v_0,q8]at q
 cases e:env[i]? with
 |none=>rw[e]at q;exact q.2.elim
 |some sl=>
  rw[e]at q
  cases sl with
  |un=>exact q.2.elim
  |bor xs=>exact q.2.elim
  |val d=>
   obtain⟨v,e1,e2⟩:=q.1.sl i _ e
   exact B γ s σ H Q I ⟨v,cg e1,dY q e2⟩
  |own xs=>
   obtain⟨a,e1,w,e2,e3⟩:=q.1.sl i _ e
   refine cB (B γ s σ H (fun v H'=>v=.ref a/\H'=H) I ⟨.ref a,cg e1,rfl,rfl⟩) fun u s1⟨v,H1,I1,r1,k1,k2⟩=>?_
   subst k1 k2
   obtain⟨o,I2⟩:=Inv.freeze I1 e2 e3.uT
   exact⟨.ref a,_,I2,r1,q.2 _ _ (Nx.give q.1 e (cg e1) e2 e3) ((e3.mono (gP e2 e3.uT)).den aU)⟩
end
section
end
noncomputable def iG(K:QQq)(σ:St)(H₀ H:Hp):List Rv->List V->Prop
 |[],vs=>vs=[]
 |x::xs,vs=>∃v r,vs=v::r/\gK K σ H₀ H x v/\iG K σ H₀ H xs r
noncomputable def TQ(K:QQq)(W:Wi)(env:Ev)(r:Out (List Rv)):TA:=fun σ H Q=>Sat K env σ H/\match r with
 |.ok xs env'=>∀vs H',Nx K env σ H env' H'->iG K σ H H' xs vs->Q vs H'
 |.exc c env'=>∀H',Nx K env σ H env' H'->W c env' σ H'
 |.bad=>False
noncomputable def tA(K:QQq)(W:Wi)(env:Ev)(r:Out Rv):TE:=fun σ H Q=>Sat K env σ H/\match r with
 |.ok x env'=>∀v H',Nx K env σ H env' H'->gK K σ H H' (argv x) v->Q v H'
 |.exc c env'=>∀H',Nx K env σ H env' H'->W c env' σ H'
 |.bad=>False
def GA(X:Cx)(W:Wi)(c:Cf)(m:E)(es:List Expr):Prop:=∀env,PA X es (TQ X.K W env (evs c m env))
def gK.on{env δ ε:Ev}{H H1 H2:Hp}{v:V}(S:Sat K env σ H)(N:Nx K env σ H δ H1)(N2:Nx K δ σ H1 ε H2)(h:gK K σ H H1 x v):gK K σ H H2 x v:=by
 have no:=fun a h0 i z=>S.rF h0 i (N.sub i a z)
 cases x with
 |val d=>exact bI.mono N2.pers h
 |ref i=>exact h
 |new xs=>obtain⟨a,e,⟨u,p,l⟩,z⟩:=h;exact⟨a,e,⟨u,N2.keep a u p (no a z),l.mono N2.pers⟩,z⟩
def km{env:Ev}{H:Hp}{xs:List D}(S:Sat K env σ H)(l:aq K H xs vs)(hp:H p=none):gK K σ H (upd H p (.lst vs)) (.new (.lst xs)) (.ref p):=
 ⟨p,rfl,⟨_,aU,vs,rfl,l.mono (Nx.laid S hp).pers⟩,hp⟩
theorem iG.weaken{K:QQq}{σ:St}{H0 H1 H:Hp}:∀{xs:List Rv}{vs:List V},iG K σ H1 H xs vs->(∀b,H1 b=none->H0 b=none)->iG K σ H0 H xs vs
 |[],_,h,_=>h
 |x::xs,vs,h,d=>by
  obtain⟨v,r,e,h1,h2⟩:=h
  exact⟨v,r,e,h1.weaken d,iG.weaken h2 d⟩
section
def PA.imp(h:PA X es t)(i:∀σ H Q,t' σ H Q->t σ H Q):PA X es t':=fun p γ s σ H Q I q=>h p γ s σ H Q I (i σ H Q q)
def GE.ag(h:GE X W c m e)env:PE X e (tA X.K W env (ev c m env)):=by
 intro γ s σ H Q I q
 obtain⟨S,q⟩:=q
 cases r:ev c m env with
 |bad=>rw[r]at q;exact q.elim
 |exc k env'=>rw[r]at q;exact h env γ s σ H Q I ⟨S,by rw[r];exact q⟩
 |ok x env'=>
  rw[r]at q
  cases x with
  |new xs=>exact Ku (h env) γ s σ H Q I ⟨S,by rw[r];exact q⟩
  |val d=>exact h env γ s σ H Q I ⟨S,by rw[r];exact q⟩
  |ref i=>exact h env γ s σ H Q I ⟨S,by rw[r];exact q⟩
def M3:GA X W c .nil []:=fun env=>PA.imp eU fun σ H Q q=>by
 obtain⟨S,q⟩:=q
 exact q [] H (Nx.refl S) rfl
def Fy(h:GE X W c m1 e)(t:GA X W c m2 es)(hs:starEach (e::es) X.env=(false,eval e X.env)::starEach es X.env):GA X W c (.cons m1 m2) (e::es):=by
 intro env
 have B:PA X _ (JD (fun σ H Q=>∃env,tA X.K W env _ σ H Q) (fun σ H Q=>∃env,TQ X.K W env _ σ H Q)):=
  cL (fun γ s σ H Q I⟨env,q⟩=>h.ag env γ s σ H Q I q) (fun p γ s σ H Q I⟨env,q⟩=>t env p γ s σ H Q I q) hs
 refine PA.imp B fun σ H Q q=>?_
 obtain⟨S,q⟩:=q
 refine⟨env,S,?_⟩
 simp only[evs]at q
 cases r:ev c m1 env with
 |bad=>rw[r]at q;exact q.elim
 |exc k δ=>rw[r]at q;exact q
 |ok x δ=>
  rw[r]at q
  intro v H1 N1 k1
  refine⟨δ,N1.eZ,?_⟩
  simp only[Out.bind]at q
  cases r2:evs c m2 δ with
  |bad=>rw[r2]at q;exact q.elim
  |exc k ε=>rw[r2]at q;exact fun H2 N2=>q H2 (N1.trans N2)
  |ok xs ε=>
   rw[r2]at q
   intro vs H2 N2 k2
   exact q _ H2 (N1.trans N2) ⟨v,vs,rfl,k1.on S N1 N2,k2.weaken N1.dom⟩
theorem iG.ds{K:QQq}{σ:St}{H₀ H:Hp}:∀{xs:List Rv}{vs:List V}{ds:List D},iG K σ H₀ H (xs.map argv) vs->aV xs=some ds->aq K H ds vs
 |[],vs,ds,h,e=>by
  simp[aV]at e
  subst e
  cases h
  exact aq.gk
 |x::xs,vs,ds,h,e=>by
  obtain⟨v,r,rfl,h1,h2⟩:=h
  cases x with
  |ref i=>simp[aV,Rv.jA]at e
  |val d=>
   simp[aV,Rv.jA]at e
   obtain⟨ds',e1,e2⟩:=e
   subst e2
   exact aq.dg h1 (iG.ds h2 e1)
  |new ys=>
   simp[aV,Rv.jA]at e
   obtain⟨ds',e1,e2⟩:=e
   subst e2
   exact aq.dg h1 (iG.ds h2 e1)
def zN:∀(m:E)(env:Ev){xs:List Rv}{env':Ev},evs c m env=.ok xs env'->xs.map argv=xs:=by
 have aa:∀x:Rv,argv (argv x)=argv x:=fun x=>by cases x<;>rfl
 intro m
 induction m with
 |nil=>intro env xs env' h;simp only[evs]at h;cases h;rfl
 |cons h t _ ih=>
  intro env xs env' q
  simp only[evs]at q
  cases r:ev c h env with
  |bad=>rw[r]at q;cases q
  |exc k e1=>rw[r]at q;cases q
  |ok x e1=>
   rw[r]at q
   simp only[Out.bind]at q
   cases r2:evs c t e1 with
   |bad=>rw[r2]at q;cases q
   |exc k e2=>rw[r2]at q;cases q
   |ok ys e2=>
    rw[r2]at q
    cases q
    rw[Qyz,aa,ih e1 r2]
 |_=>intro env xs env' h;simp only[evs]at h;cases h
def dJ(h:fits n=true):n<=sizeLine:=by
 rw[sizeLine_eq]
 simpa[fits]using h
theorem yo{env:Ev}{H:Hp}{f:List D->Option Rv}
  (h:tM K W env ((evs c m env).bind fun rs σ=>lift σ ((aV rs).bind f)) σ H Q)
  (k:∀δ H1 ds vs z,Nx K env σ H δ H1->aq K H1 ds vs->f ds=some z->(∀v H',Nx K δ σ H1 δ H'->gK K σ H1 H' z v->Q v H')->R vs H1):TQ K W env (evs c m env) σ H R:=by
 obtain⟨S,q⟩:=h
 refine⟨S,?_⟩
 cases r:evs c m env with
 |bad=>rw[r]at q;exact q.elim
 |exc k δ=>rw[r]at q;exact q
 |ok xs δ=>
  rw[r]at q
  simp only[Out.bind]at q
  intro vs H1 N1 k1
  cases e:aV xs with
  |none=>rw[e]at q;exact q.elim
  |some ds=>
   rw[e]at q
   simp only[Option.bind]at q
   cases e2:f ds with
   |none=>rw[e2]at q;exact q.elim
   |some z=>
    rw[e2]at q
    have k2:=k1
    rw[<-zN m env r]at k2
    exact k δ H1 ds vs z N1 (iG.ds k2 e) e2 fun v H' N' w=>q v H' (N1.trans N') (w.weaken N1.dom)
def Yq(h:GA X W c m es):GE X W c (.tup m) (.Tuple es k pos):=by
 intro env
 refine PE.imp (W2 (h env)) fun σ H Q q=>?_
 refine yo q fun δ H1 ds vs z N1 l e q=>?_
 split at e
 ·rename_i hf
  cases e
  refine⟨by rw[<-l.length];exact dJ hf,fun p hp=>q _ _ (Nx.laid N1.eZ hp) ?_⟩
  show bI _ _ _ _
  exact⟨p,vs,rfl,.inl (.inl aU),l.mono (Nx.laid N1.eZ hp).pers⟩
 ·cases e
def Yw(h:GA X W c m es):GE X W c (.lis m) (.List es pos):=by
 intro env
 refine PE.imp (W5 (h env)) fun σ H Q q=>?_
 refine yo q fun δ H1 ds vs z N1 l e q=>?_
 split at e
 ·rename_i hf
  cases e
  exact⟨by rw[<-l.length];exact dJ hf,fun p hp=>q _ _ (Nx.laid N1.eZ hp) (km N1.eZ l hp)⟩
 ·cases e
def Rul(X:Cx)(r:R2)(f:D->D->Option Rv):Prop:=
 ∀(env:Ev)(σ:St)(H:Hp)(x y:D)(z:Rv)(v u:V)(Q:VK),Sat X.K env σ H->bI X.K H x v->bI X.K H y u->f x y=some z->(∀w H',Nx X.K env σ H env H'->gK X.K σ H H' z w->Q w H')->r v u H Q
def Rul.bin{f:D->D->Option Rv}(R:Rul X r f)(h:PE X e (Zw r (aD X W c m1) (aD X W c m2))):
  ∀env,PE X e (tM X.K W env ((ev c m1 env).ao fun x σ=>(ev c m2 σ).ao fun y σ=>lift σ (f x y))):=fun env=>
 PE.imp h fun σ H Q q=>⟨env,aZ q fun d δ v H1 N1 D1 q1=>⟨δ,aZ q1 fun d2 ε v2 H2 N2 D2 q2=>by
  obtain⟨z,ez,S,q3⟩:=cJ q2
  exact R ε σ H2 d d2 z v v2 Q S (D1.mono N2.pers) D2 ez q3⟩⟩
def abT:Y9->Operator
 |.add=>.Add
 |.sub=>.Sub
 |.mul=>.Mult
 |.mod=>.Mod
noncomputable def Ue(K:QQq):R2:=fun x y H Q=>∃a b xs ys,x=.ref a/\y=.ref b/\ju K H a xs/\ju K H b ys/\xs.length+ys.length<=sizeLine/\
 (xs=[]->Q (.ref b) H)/\(xs≠[]->ys=[]->Q (.ref a) H)/\(xs≠[]->ys≠[]->∀p,H p=none->Q (.ref p) (upd H p (.tup (xs++ys))))
def Q7:fX X (binaryOp .Add) (Ue X.K):=by
 intro γ s σ H x y v u Q I rx ry h
 obtain⟨a,b,xs,ys,rfl,rfl,ha,hb,hz,q0,q1,q2⟩:=h
 by_cases hx:xs=[]
 ·cases rx
  cases ry
  obtain⟨its,r1,p1,_⟩:=I.tuple ha
  obtain⟨its2,r2,p2,_⟩:=I.tuple hb
  obtain⟨⟨cls,dd,data,sl⟩,ho,hc,n,hd⟩:=id p1
  obtain⟨⟨cls2,dd2,data2,sl2⟩,ho2,hc2,n2,hd2⟩:=id p2
  subst hc hd hc2 hd2
  have e0:its.toArray.isEmpty=true:=by
   have:=r1.bO.mpr hx
   rw[this];rfl
  exact concat_meets ⟨_,ho,rfl⟩ ⟨_,ho2,rfl⟩ noFill_tuple_add seq_tuple_add PySem.F.slot_tuple_add PySem.F.entry_tuple_add (PySem.F.args_tuple_add_2 _ _)
   (PyProof.Rows.tuple_addW0 a b its.toArray its2.toArray n n2 dd dd2 sl sl2 e0) ⟨ho,ho2,⟨.ref b,H,I,rfl,q0 hx⟩⟩
 ·exact Q5 γ s σ H _ _ v u Q I rx ry ⟨a,b,xs,ys,rfl,rfl,ha,hb,hx,hz,q1 hx,q2 hx⟩
noncomputable def Ud(K:QQq):R2:=fun x y H Q=>∃l b xs zs,x=.ref l/\y=.ref b/\jB K H l xs/\jB K H b zs/\xs.length+zs.length<=sizeLine/\∀p,H p=none->Q (.ref p) (upd H p (.lst (xs++zs)))
def Q6:fX X (binaryOp .Add) (Ud X.K):=by
 intro γ s σ H x y v u Q I rx ry h
 obtain⟨l,b,xs,zs,rfl,rfl,hH,hB,hz,q⟩:=h
 cases rx
 cases ry
 obtain⟨its,r1,pl,_⟩:=I.list hH
 obtain⟨its2,r2,pl2,_⟩:=I.list hB
 obtain⟨⟨cls,dd,data,sl⟩,n,ho,hc,_,hd⟩:=id pl
 obtain⟨⟨cls2,dd2,data2,sl2⟩,n2,ho2,hc2,_,hd2⟩:=id pl2
 subst hc hd hc2 hd2
 have hl:=r1.length
 have hl2:=r2.length
 have ea:its.toArray++its2.toArray=(its++its2).toArray:=by simp
 refine concat_meets ⟨_,ho,rfl⟩ ⟨_,ho2,rfl⟩ noFill_list_add seq_list_add F.slot_list_add F.entry_list_add (F.args_list_add_2 _ _) (PyProof.Rows.list_addW l b its.toArray its2.toArray n n2 dd dd2 sl sl2 (by rw[Qyq,Qyq];omega)) ⟨ho,ho2,?_⟩
 rw[ea]
 exact⟨.ref _,_,I.afu (r1.append r2) (by rw[QTq];omega),rfl,q _ I.fresh⟩
def Ug(K:QQq):R2:=fun x y H Q=>O9 (fun i j=>.int (i+j)) x y H Q\/Ue K x y H Q\/Ud K x y H Q
def Q8:fX X (binaryOp .Add) (Ug X.K):=Xk.or (Q7.or Q6)
def cA{H:Hp}{v:V}(h:bI K H (.tup ds) v):∃a vs,v=.ref a/\ju K H a vs/\aq K H ds vs:=by unfold bI at h;exact h
def cU{H:Hp}{v:V}(h:bI K H (.lst ds) v):∃a vs,v=.ref a/\Gs K H a vs/\aq K H ds vs:=by unfold bI at h;exact h
def dG{H:Hp}{a:Addr}(h:ju K H a vs)(l:aq K H ds vs):bI K H (.tup ds) (.ref a):=by unfold bI;exact⟨a,vs,rfl,h,l⟩
def yC(h:small i=true): -(2 ^64)<i/\i<2 ^64:=by
 simp only[small,QUz]at h
 exact⟨by omega,by omega⟩
def Qs:Rul X (Ug X.K) (binop .add):=by
 intro env σ H x y z v u Q S Dx Dy e q
 cases x with
 |int i=>
  cases y with
  |int j=>cases e;exact .inl ⟨i,j,Dx,Dy,q _ H (Nx.refl S) rfl⟩
  |_=>cases e
 |tup xs=>
  cases y with
  |tup ys=>
   unfold binop at e;dsimp only at e
   split at e
   ·rename_i hf
    cases e
    obtain⟨a,vs,rfl,ha,la⟩:=cA Dx
    obtain⟨b,ws,rfl,hb,lb⟩:=cA Dy
    refine .inr (.inl ⟨a,b,vs,ws,rfl,rfl,ha,hb,by rw[<-la.length,<-lb.length];exact dJ hf,fun e0=>?_,fun _ e0=>?_,fun _ _ p hp=>?_⟩)
    ·subst e0
     have:xs=[]:=by have:=la.length;cases xs<;>simp_all
     subst this
     exact q _ H (Nx.refl S) (dG hb lb)
    ·subst e0
     have:ys=[]:=by have:=lb.length;cases ys<;>simp_all
     subst this
     exact q _ H (Nx.refl S) (by rw[List.append_nil];exact dG ha la)
    ·have N:=Nx.laid (o:=.tup (vs++ws)) S hp
     exact q _ _ N (dG (.inl (.inl aU)) ((la.append lb).mono N.pers))
   ·cases e
  |_=>cases e
 |lst xs=>
  cases y with
  |lst ys=>
   unfold binop at e;dsimp only at e
   split at e
   ·rename_i hf
    cases e
    obtain⟨a,vs,rfl,ha,la⟩:=cU Dx
    obtain⟨b,ws,rfl,hb,lb⟩:=cU Dy
    exact .inr (.inr ⟨a,b,vs,ws,rfl,rfl,ha.sq,hb.sq,by rw[<-la.length,<-lb.length];exact dJ hf,fun p hp=>q _ _ (Nx.laid (o:=.lst (vs++ws)) S hp) (km S (la.append lb) hp)⟩)
   ·cases e
  |_=>cases e
 |_=>cases y<;>cases e
def zZ(ho:o≠ .add)(hm:o≠ .mul){z:Rv}(e:binop o x y=some z):(∃i,x=.int i)/\∃j,y=.int j:=by
 cases x with
 |int i=>exact⟨⟨i,rfl⟩,by cases y with
  |int j=>exact⟨j,rfl⟩
  |_=>cases o<;>cases e⟩
 |tup _=>cases o<;>first|exact absurd rfl ho|exact absurd rfl hm|cases e
 |lst _=>cases o<;>first|exact absurd rfl ho|cases e
 |_=>cases o<;>cases e
def Qk:Rul X (O9 fun i j=>.int (i-j)) (binop .sub):=by
 intro env σ H x y z v u Q S Dx Dy e q
 obtain⟨⟨i,rfl⟩,j,rfl⟩:=zZ (by intro h;cases h) (by intro h;cases h) e
 cases e
 exact⟨_,_,Dx,Dy,q _ H (Nx.refl S) rfl⟩
def Ub(K:QQq):R2:=fun x y H Q=>rI S6 (fun i j=>.int (i*j)) x y H Q
def Q4:fX X (binaryOp .Mult) (Ub X.K):=Xc
def Ql:Rul X (Ub X.K) (binop .mul):=by
 intro env σ H x y z v u Q S Dx Dy e q
 cases x with
 |int i=>
  cases y with
  |int j=>
   unfold binop at e;dsimp only at e
   split at e
   ·rename_i hs
    cases e
    simp only[Bool.or_eq_true]at hs
    exact⟨i,j,Dx,Dy,hs.imp yC yC,q _ H (Nx.refl S) rfl⟩
   ·cases e
  |_=>cases e
 |_=>cases y<;>cases e
def Qm:Rul X (rI (fun _ j=>0<j) fun i j=>.int (i%j)) (binop .mod):=by
 intro env σ H x y z v u Q S Dx Dy e q
 obtain⟨⟨i,rfl⟩,j,rfl⟩:=zZ (by intro h;cases h) (by intro h;cases h) e
 unfold binop at e;dsimp only at e
 split at e
 ·rename_i hs
  cases e
  exact⟨i,j,Dx,Dy,hs,q _ H (Nx.refl S) rfl⟩
 ·cases e
def acE(ha:GE X W c m1 a)(hb:GE X W c m2 b):GE X W c (.op o m1 m2) (.BinOp a (abT o) b pos):=by
 intro env
 cases o with
 |add=>exact Qs.bin (Ei Q8 ha.d hb.d) env
 |sub=>exact Qk.bin (Ei Xa ha.d hb.d) env
 |mul=>exact Ql.bin (Ei Q4 ha.d hb.d) env
 |mod=>exact Qm.bin (Ei Xd ha.d hb.d) env
def Yv(ha:GE X W c m1 a):GE X W c (.neg m1) (.UnaryOp .USub a pos):=by
 intro env
 refine PE.imp (abJ VP ha.d) fun σ H Q q=>?_
 refine⟨env,aZ q fun d δ v H1 N1 D1 q1=>?_⟩
 obtain⟨z,ez,S,q3⟩:=cJ q1
 cases d<;>first
  |(cases ez;done)
  |(cases ez;exact⟨_,D1,q3 _ H1 (Nx.refl S) rfl⟩)
end
mutual
theorem sJ:∀a b:D,nd a=true->nd b=true->PyData.eqv (py a) (py b)=cQ a b
 |.cR _ _,_=>fun h _=>by simp[nd]at h
 |.g8 _ _,_=>fun h _=>by simp[nd]at h
 |.non,.cR _ _=>fun _ h=>by simp[nd]at h
 |.non,.g8 _ _=>fun _ h=>by simp[nd]at h
 |.bl _,.cR _ _=>fun _ h=>by simp[nd]at h
 |.bl _,.g8 _ _=>fun _ h=>by simp[nd]at h
 |.int _,.cR _ _=>fun _ h=>by simp[nd]at h
 |.int _,.g8 _ _=>fun _ h=>by simp[nd]at h
 |.str _,.cR _ _=>fun _ h=>by simp[nd]at h
 |.str _,.g8 _ _=>fun _ h=>by simp[nd]at h
 |.tup _,.cR _ _=>fun _ h=>by simp[nd]at h
 |.tup _,.g8 _ _=>fun _ h=>by simp[nd]at h
 |.lst _,.cR _ _=>fun _ h=>by simp[nd]at h
 |.lst _,.g8 _ _=>fun _ h=>by simp[nd]at h
 |.tup xs,.tup ys=>fun h h'=>by simp only[py,PyData.eqv,cQ];exact xj xs ys (by simpa[nd]using h) (by simpa[nd]using h')
 |.lst xs,.lst ys=>fun h h'=>by simp only[py,PyData.eqv,cQ];exact xj xs ys (by simpa[nd]using h) (by simpa[nd]using h')
 |.non,.non=>fun _ _=>rfl
 |.non,.bl _=>fun _ _=>rfl
 |.non,.int _=>fun _ _=>rfl
 |.non,.str _=>fun _ _=>rfl
 |.non,.tup _=>fun _ _=>rfl
 |.non,.lst _=>fun _ _=>rfl
 |.bl _,.non=>fun _ _=>rfl
 |.bl _,.bl _=>fun _ _=>rfl
 |.bl a,.int j=>fun _ _=>rfl
 |.bl _,.str _=>fun _ _=>rfl
 |.bl _,.tup _=>fun _ _=>rfl
 |.bl _,.lst _=>fun _ _=>rfl
 |.int _,.non=>fun _ _=>rfl
 |.int i,.bl b=>fun _ _=>rfl
 |.int _,.int _=>fun _ _=>rfl
 |.int _,.str _=>fun _ _=>rfl
 |.int _,.tup _=>fun _ _=>rfl
 |.int _,.lst _=>fun _ _=>rfl
 |.str _,.non=>fun _ _=>rfl
 |.str _,.bl _=>fun _ _=>rfl
 |.str _,.int _=>fun _ _=>rfl
 |.str x,.str y=>fun _ _=>by simp only[py,PyData.eqv,cQ];rw[Bool.beq_eq_decide_eq]
 |.str _,.tup _=>fun _ _=>rfl
 |.str _,.lst _=>fun _ _=>rfl
 |.tup _,.non=>fun _ _=>rfl
 |.tup _,.bl _=>fun _ _=>rfl
 |.tup _,.int _=>fun _ _=>rfl
 |.tup _,.str _=>fun _ _=>rfl
 |.tup _,.lst _=>fun _ _=>rfl
 |.lst _,.non=>fun _ _=>rfl
 |.lst _,.bl _=>fun _ _=>rfl
 |.lst _,.int _=>fun _ _=>rfl
 |.lst _,.str _=>fun _ _=>rfl
 |.lst _,.tup _=>fun _ _=>rfl
theorem xj:∀xs ys:List D,mC xs=true->mC ys=true->PyData.eqvAll (xW xs) (xW ys)=qe xs ys
 |[],[]=>fun _ _=>rfl
 |[],_::_=>fun _ _=>rfl
 |_::_,[]=>fun _ _=>rfl
 |x::xs,y::ys=>fun h h'=>by
  simp only[mC,QUq]at h h'
  simp only[xW,PyData.eqvAll,qe]
  rw[sJ x y h.1 h'.1,xj xs ys h.2 h'.2]
end
def yu(h:Zy x=true):PyData.strOk x=true:=by
 unfold Zy at h
 unfold PyData.strOk
 rw[Array.all_eq_true]at h⊢
 intro i hi
 have:=h i hi
 simp only[QUz]at this⊢
 omega
mutual
theorem ji:∀a:D,nd a=true->(py a).canLay0=true
 |.non=>fun _=>rfl
 |.bl _=>fun _=>rfl
 |.int _=>fun _=>rfl
 |.str x=>fun h=>yu h
 |.tup xs=>fun h=>by simp only[py,PyData.canLay0];exact jg xs (by simpa[nd]using h)
 |.lst xs=>fun h=>by simp only[py,PyData.canLay0];exact jg xs (by simpa[nd]using h)
 |.cR _ _=>fun h=>by simp[nd]at h
 |.g8 _ _=>fun h=>by simp[nd]at h
theorem jg:∀xs:List D,mC xs=true->PyData.canLayAll0 (xW xs)=true
 |[]=>fun _=>rfl
 |x::xs=>fun h=>by
  simp only[mC,QUq]at h
  simp only[xW,PyData.canLayAll0,QUq]
  exact⟨ji x h.1,jg xs h.2⟩
end
mutual
theorem sW:∀a:D,nd a=true->(py a).depth=dep a
 |.non=>fun _=>rfl
 |.bl _=>fun _=>rfl
 |.int _=>fun _=>rfl
 |.str _=>fun _=>rfl
 |.tup xs=>fun h=>by simp only[py,PyData.depth,dep];rw[xq xs (by simpa[nd]using h)]
 |.lst xs=>fun h=>by simp only[py,PyData.depth,dep];rw[xq xs (by simpa[nd]using h)]
 |.cR _ _=>fun h=>by simp[nd]at h
 |.g8 _ _=>fun h=>by simp[nd]at h
theorem xq:∀xs:List D,mC xs=true->PyData.depthAll (xW xs)=iD xs
 |[]=>fun _=>rfl
 |x::xs=>fun h=>by
  simp only[mC,QUq]at h
  simp only[xW,PyData.depthAll,iD]
  rw[sW x h.1,xq xs h.2]
end
def cW(K:QQq)(H:Hp)(d:D)(v:V):Prop:=bI K H d v\/∃q a,d=Ob.d q/\v=.ref a/\jz K H q a
section
mutual
theorem bI.reads(I:Inv X γ σ H s):∀{d:D}{v:V}{u:Value},nd d=true->bI X.K H d v->RelV v u->∃as,Reads s.heap u (py d) as
 |.non,v,u,_,h,r=>by cases h;cases r;exact⟨_,.none⟩
 |.bl b,v,u,_,h,r=>by cases h;cases r;exact⟨_,.bool b⟩
 |.int i,v,u,_,h,r=>by cases h;obtain⟨t,rfl⟩:=r;exact⟨_,.int i t⟩
 |.str x,v,u,_,h,r=>by cases h;obtain⟨t,rfl⟩:=r;exact⟨_,.str x t⟩
 |.tup ds,v,u,hn,h,r=>by
  obtain⟨a,vs,rfl,hq,l⟩:=cA h
  cases r
  obtain⟨its,rv,⟨o,e,c,n,dt⟩,_⟩:=I.tuple hq
  obtain⟨as,q⟩:=aq.reads I (by simpa[nd]using hn) l rv
  exact⟨as,by rw[py];exact .tuple e c dt (by simpa using q)⟩
 |.lst ds,v,u,hn,h,r=>by
  obtain⟨a,vs,rfl,hq,l⟩:=cU h
  cases r
  obtain⟨its,rv,⟨o,n,e,c,_,dt⟩,_⟩:=I.list hq.sq
  obtain⟨as,q⟩:=aq.reads I (by simpa[nd]using hn) l rv
  exact⟨a::as,by rw[py];exact .list e c dt (by simpa using q)⟩
 |.cR _ _,_,_,h,_,_=>by simp[nd]at h
theorem aq.reads(I:Inv X γ σ H s):∀{ds:List D}{vs:List V}{us:List Value},mC ds=true->aq X.K H ds vs->Vals vs us->∃as,ReadsAll s.heap us (xW ds) as
 |[],vs,us,_,h,r=>by rw[aq.bO.mp h]at r;cases r;exact⟨_,.nil⟩
 |d::ds,vs,us,hn,h,r=>by
  obtain⟨v,rs,rfl,h1,h2⟩:=aq.aN.mp h
  simp only[mC,QUq]at hn
  cases r with
  |cons r1 r2=>
   obtain⟨as,q1⟩:=bI.reads I hn.1 h1 r1
   obtain⟨bs,q2⟩:=aq.reads I hn.2 h2 r2
   exact⟨as++bs,.cons q1 q2⟩
end
theorem cW.reads(I:Inv X γ σ H s){v:V}(hn:nd d=true)(h:cW X.K H d v)(r:RelV v u):∃as,Reads s.heap u (py d) as:=by
 rcases h with h|⟨q,a,rfl,rfl,u',ha,hq⟩
 ·exact bI.reads I hn h r
 ·cases r
  cases q with
  |dct ks ds=>simp[Ob.d,nd]at hn
  |sdt ks ds=>simp[Ob.d,nd]at hn
  |lst ds=>
  obtain⟨vs,rfl,l⟩:=hq
  obtain⟨its,rv,⟨o,n,e,c,_,dt⟩,_⟩:=I.list (.inl (.inl ha))
  obtain⟨as,q⟩:=aq.reads I (by simpa[Ob.d,nd]using hn) l rv
  exact⟨a::as,by rw[Ob.d,py];exact .list e c dt (by simpa using q)⟩
end
abbrev sD(xs:List SV):HO:=.dS xs
mutual
theorem ab0:∀d:D,kA d=true->nd d=true
 |.int _=>fun _=>rfl
 |.bl _=>fun _=>rfl
 |.str _=>fun h=>h
 |.tup xs=>fun h=>By xs h
 |.non=>fun h=>by cases h
 |.lst _=>fun h=>by cases h
 |.cR _ _=>fun h=>by cases h
 |.g8 _ _=>fun h=>by cases h
theorem By:∀xs:List D,Lz xs=true->mC xs=true
 |[]=>fun _=>rfl
 |x::xs=>fun h=>by
  simp only[Lz,QUq]at h
  simp only[mC,ab0 x h.1,By xs h.2,Bool.and_self]
end
mutual
theorem acx:∀d:D,kA d=true->hk (py d)=true
 |.int _=>fun _=>rfl
 |.bl _=>fun _=>rfl
 |.str _=>fun h=>yu h
 |.tup xs=>fun h=>BX xs h
 |.non=>fun h=>by cases h
 |.lst _=>fun h=>by cases h
 |.cR _ _=>fun h=>by cases h
 |.g8 _ _=>fun h=>by cases h
theorem BX:∀xs:List D,Lz xs=true->hks (xW xs)=true
 |[]=>fun _=>rfl
 |x::xs=>fun h=>by
  simp only[Lz,QUq]at h
  simp only[xW,hks,acx x h.1,BX xs h.2,Bool.and_self]
end
def nA{d:D}(h:cN d=true):∃xs,d=.tup xs/\nd d=true/\hk (py d)=true/\(py d).depth<=7:=by
 unfold cN at h
 split at h
 ·rename_i xs
  simp only[QUq,QUz]at h
  have n:nd (.tup xs)=true:=By xs h.1
  exact⟨xs,rfl,n,BX xs h.1,by rw[sW _ n];show iD xs+1<=7;omega⟩
 ·cases h
def Cu{d e:D}(h:cN d=true)(g:cN e=true):cQ d e=decide (kC d=kC e):=by
 obtain⟨_,_,n1,k1,_⟩:=nA h
 obtain⟨_,_,n2,k2,_⟩:=nA g
 rw[<-sJ d e n1 n2]
 exact Cr _ _ k1 k2
def Wu{A:Around}(hu:A.units+9<cLine):A.in1.units+8<cLine:=by
 have:A.in1.units<=A.units+1:=by simp[Around.in1]
 omega
def cM(K:QQq)(H:Hp)(k:SK)(a:Addr):Prop:=∃d,cN d=true/\kC d=k/\bI K H d (.ref a)
noncomputable def wK(k:SK):List SV->Option V
 |[]=>none
 |x::xs=>if x.1=k then some x.2.2 else wK k xs
noncomputable def oJ(k:SK)(a:Addr)(v:V)(xs:List SV):List SV:=if (wK k xs).isSome then xs.map (fun x=>if x.1=k then(x.1,x.2.1,v)else x)else xs++[(k,a,v)]
theorem kO:∀{xs:List SV}{ys:List (SK×Addr×Value)},Paired Pb xs ys->ys.map (·.1)=xs.map (·.1)
 |_,_,.nil=>rfl
 |_,_,.cons h t=>by simp[kO t,h.1]
theorem zp:∀{xs:List SV}{ys:List (SK×Addr×Value)},Paired Pb xs ys->tX (wK k xs) ((atKey ys k).map (·.2))
 |_,_,.nil=>trivial
 |x::xs,y::ys,.cons h t=>by
  simp only[wK,atKey,List.find?_cons]
  rw[h.1]
  by_cases c:y.1=k
  ·simp only[c,if_true,decide_true,Option.map_some]
   exact h.2.2
  ·simp only[c,if_false,decide_false]
   exact zp (k:=k) t
section
def il(I:L2.Inv X γ σ H s)(h:cM X.K H k a):Jc s.heap k a:=by
 obtain⟨d,h1,rfl,h2⟩:=h
 obtain⟨_,_,n,k,l⟩:=nA h1
 obtain⟨as,r⟩:=bI.reads I n h2 (show RelV (.ref a) (.ref a)from rfl)
 exact⟨py d,as,k,l,rfl,r⟩
def lq(I:L2.Inv X γ σ H s)(hd:Rd H d (sD xs))(hk:∀x∈xs,cM X.K H x.1 x.2.1):∃ys,Paired Pb xs ys/\s.heap.DictOfH (eO X.prog X.w) d ys/\(d==sysModules)=false/\xs.length<=sizeLine:=by
 obtain⟨z,y,nd,ys,o,es,ep,pr,h1,h2,h3,h4⟩:=(show cu X.prog X.w H s.heap d (.dS xs)from Eb I.hok hd)
 refine⟨ys,pr,⟨o,es,ep,h1,h2,h3,h4,?_,by rw[kO pr];exact nd⟩,y,z⟩
 have go:∀{xs:List SV}{ys:List (SK×Addr×Value)},Paired Pb xs ys->(∀x∈xs,cM X.K H x.1 x.2.1)->∀y∈ys,Jc s.heap y.1 y.2.1:=by
  intro xs ys pr
  induction pr with
  |nil=>intro _ y hy;cases hy
  | @cons x y xs ys h t ih=>
   intro hk q hq
   rcases QCq.mp hq with rfl|hq
   ·rw[<-h.1,<-h.2.1];exact il I (hk x QYz)
   ·exact ih (fun z hz=>hk z (QYq _ hz)) q hq
 exact go pr hk
def aer{Q:QZq}(hu:A.units+9<cLine)(I:L2.Inv X γ σ H s)(hd:Rd H d (sD xs))(hk:∀x∈xs,cM X.K H x.1 x.2.1)(ha:cM X.K H k a)(h:∀s',L2.Inv X γ σ H s'->Q (.bool (wK k xs).isSome) s'):
  wpAny (model X.prog X.w) A (compareOp .In (.ref a) (.ref d)) Q E1 s:=by
 obtain⟨ys,pr,dd,y,z⟩:=lq I hd hk
 refine wpAny_in_heap (knd:=eO X.prog X.w) (Wu hu) (il I ha) y dd ?_
 have e:(atKey ys k).isSome=(wK k xs).isSome:=by rw[(zp (k:=k) pr).iC];simp
 rw[e]
 exact h _ (I.tok _)
def Qi{Q:QZq}(hu:A.units+9<cLine)(I:L2.Inv X γ σ H s)(hd:Rd H d (sD xs))(hk:∀x∈xs,cM X.K H x.1 x.2.1)(ha:cM X.K H k a)(h:∀s',L2.Inv X γ σ H s'->Q (.bool (!(wK k xs).isSome)) s'):
  wpAny (model X.prog X.w) A (compareOp .NotIn (.ref a) (.ref d)) Q E1 s:=by
 obtain⟨ys,pr,dd,y,z⟩:=lq I hd hk
 refine PyProof.Rows.wpAny_notIn_heap (knd:=eO X.prog X.w) (Wu hu) (il I ha) y dd ?_
 have e:(atKey ys k).isSome=(wK k xs).isSome:=by rw[(zp (k:=k) pr).iC];simp
 rw[e]
 exact h _ (I.tok _)
def G5{v:V}{Q:QZq}(hu:A.units+9<cLine)(I:L2.Inv X γ σ H s)(hd:Rd H d (sD xs))(hk:∀x∈xs,cM X.K H x.1 x.2.1)(ha:cM X.K H k a)(hv:wK k xs=some v)(h:∀u s',L2.Inv X γ σ H s'->RelV v u->Q u s'):
  wpAny (model X.prog X.w) A (getItem (.ref d) (.ref a)) Q E1 s:=by
 obtain⟨ys,pr,dd,y,z⟩:=lq I hd hk
 obtain⟨u,hw,ru⟩:=tX.some_of (v:=v) (o:=(atKey ys k).map (·.2)) (by rw[<-hv];exact zp pr)
 obtain⟨p,hp,rfl⟩:=QJz.mp hw
 exact wpAny_getItem_heap (knd:=eO X.prog X.w) (Wu hu) (il I ha) dd hp (h _ _ (I.tok _) ru)
def mW{r:Value}(rv:RelV v r)(pr:Paired Pb xs ys):Paired Pb (oJ k a v xs) (storedH ys k a r):=by
 have e:(atKey ys k).isSome=(wK k xs).isSome:=by rw[(zp pr).iC];simp
 unfold oJ storedH
 rw[e]
 split
 ·rename_i z
  clear e z
  induction pr with
  |nil=>exact .nil
  | @cons x y xs ys h t ih=>
   refine .cons ?_ ih
   show Pb (if x.1=k then(x.1,x.2.1,v)else x) _
   unfold putAt
   by_cases c:y.1=k
   ·rw[if_pos c,if_pos (h.1.trans c)];exact⟨h.1,h.2.1,rv⟩
   ·rw[if_neg c,if_neg fun q=>c (h.1.symm.trans q)];exact h
 ·exact Paired.snoc pr ⟨rfl,rfl,rv⟩
def Ec v:(oJ k a v xs).length<=xs.length+1:=by
 unfold oJ
 split<;>simp
def DX{w:World}{h':Heap}(z:xs.length<=sizeLine)(y:(d==sysModules)=false)(pr:Paired Pb xs ys)(dd:h'.DictOfH (eO P w) d ys):cu P w H' h' d (sD xs):=by
 obtain⟨o,es,ep,h1,h2,h3,h4,h5,h6⟩:=dd
 exact⟨z,y,by rw[<-kO pr];exact h6,ys,o,es,ep,pr,h1,h2,h3,h4⟩
def G4{v:V}{r:Value}{Q:Unit->Shared->Prop}(hu:A.units+9<cLine)(I:L2.Inv X γ σ H s)(hd:H d=some (sD xs))(hk:∀x∈xs,cM X.K H x.1 x.2.1)(ha:cM X.K H k a)(hl:xs.length<sizeLine)(rv:RelV v r)
  (h:∀s',L2.Inv X γ σ (upd H d (sD (oJ k a v xs))) s'->Q () s'):wpAny (model X.prog X.w) A (setItem (.ref d) (.ref a) r) Q E1 s:=by
 obtain⟨ys,pr,dd,y,z⟩:=lq I (.inl hd) hk
 have hz:ys.length<=sizeLine:=by
  have:=congrArg List.length (kO pr)
  simp at this
  omega
 refine wpAny_setItem_heap (knd:=eO X.prog X.w) (hsz:=hz) (Wu hu) (il I ha) dd fun h' dd' hs=>h _ ?_
 have he:∃q,h'.get? d=some q:=let ⟨q,_,_,hq,_⟩:=dd';⟨q,hq⟩
 have pl:=Ec (k:=k) (a:=a) (xs:=xs) v
 exact lA I (by rw[hd];exact True.intro) hs he (DX (by omega) y (mW rv pr) dd')
end
section
variable{K:QQq}{H:Hp}{ks ds:List D}{xs:List SV}{d z:D}{a:Addr}{v:V}
def iM(h:cN d=true)(Dd:bI K H d v):∃a,v=.ref a/\cM K H (kC d) a:=by
 obtain⟨ys,rfl,_⟩:=nA h
 obtain⟨a,vs,rfl,_⟩:=cA Dd
 exact⟨a,rfl,_,h,rfl,Dd⟩
def gH.nil:gH K H [] [] []:=⟨rfl,rfl,aq.gk,aq.gk⟩
theorem gH.aN{k:D}:gH K H (k::ks) (z::ds) xs↔ ∃x r,xs=x::r/\kC k=x.1/\cN k=true/\bI K H k (.ref x.2.1)/\bI K H z x.2.2/\gH K H ks ds r:=by
 constructor
 ·rintro ⟨h1,h2,h3,h4⟩
  cases xs with
  |nil=>simp at h1
  |cons x r=>
   rw[Qyz,Qyz,List.cons.injEq]at h1
   rw[List.all_cons,QUq]at h2
   obtain⟨_,_,e,d1,l1⟩:=aq.aN.mp h3
   cases e
   obtain⟨_,_,e,d2,l2⟩:=aq.aN.mp h4
   cases e
   exact⟨x,r,rfl,h1.1,h2.1,d1,d2,h1.2,h2.2,l1,l2⟩
 ·rintro ⟨x,r,rfl,e,h,d1,d2,h1,h2,h3,h4⟩
  exact⟨by simp[e,h1],by simp[h,h2],aq.dg d1 h3,aq.dg d2 h4⟩
def gH.len(h:gH K H ks ds xs):ks.length=xs.length/\ds.length=xs.length:=by
 have a:=h.2.2.1.length
 have b:=h.2.2.2.length
 rw[QAq]at a b
 exact⟨a,b⟩
theorem gH.ind{P:List D->List D->List SV->Prop}(p0:P [] [] [])(p1:∀k ks z ds x r,kC k=x.1->cN k=true->bI K H k (.ref x.2.1)->bI K H z x.2.2->gH K H ks ds r->P ks ds r->P (k::ks) (z::ds) (x::r)):∀{ks ds:List D}{xs:List SV},gH K H ks ds xs->P ks ds xs
 |[],ds,xs,h=>by
  have:=h.len
  cases xs with
  |nil=>cases ds with
   |nil=>exact p0
   |cons=>simp at this
  |cons=>simp at this
 |k::ks,[],xs,h=>by have:=h.len;simp at this;omega
 |k::ks,z::ds,xs,h=>by
  obtain⟨x,r,rfl,e,h1,d1,d2,t⟩:=gH.aN.mp h
  exact p1 k ks z ds x r e h1 d1 d2 t (gH.ind p0 p1 t)
def gH.zy(h:gH K H ks ds xs):∀x∈xs,cM K H x.1 x.2.1:=h.ind (P:=fun _ _ xs=>∀x∈xs,cM K H x.1 x.2.1) (fun _ h=>nomatch h) fun k ks z ds x r e h1 d1 _ _ ih y hy=>by
 rcases QCq.mp hy with rfl|hy
 ·exact⟨k,h1,e,d1⟩
 ·exact ih y hy
def gH.inD(g:cN d=true)(h:gH K H ks ds xs):aJ d ks=(wK (kC d) xs).isSome:=h.ind (P:=fun ks _ xs=>aJ d ks=(wK (kC d) xs).isSome) rfl fun k ks z ds x r e h1 _ _ _ ih=>by
 rw[aJ,Cu h1 g,ih,e,wK]
 by_cases c:x.1=kC d<;>simp[c]
def gH.look(g:cN d=true)(h:gH K H ks ds xs):bZ d ks ds=some z->∃w,wK (kC d) xs=some w/\bI K H z w:=h.ind (P:=fun ks ds xs=>bZ d ks ds=some z->∃w,wK (kC d) xs=some w/\bI K H z w) (fun e=>by cases e) fun k ks y ds x r e h1 _ d2 _ ih q=>by
 rw[bZ,Cu h1 g,e]at q
 rw[wK]
 by_cases c:x.1=kC d
 ·rw[if_pos (QFq c)]at q
  cases q
  exact⟨_,if_pos c,d2⟩
 ·rw[if_neg (by simp[c])]at q
  rw[if_neg c]
  exact ih q
def gH.repl(g:cN d=true)(dz:bI K H z v)(h:gH K H ks ds xs):gH K H ks (qW d z ks ds) (xs.map fun x=>if x.1=kC d then(x.1,x.2.1,v)else x):=h.ind (P:=fun ks ds xs=>gH K H ks (qW d z ks ds) (xs.map fun x=>if x.1=kC d then(x.1,x.2.1,v)else x)) gH.nil fun k ks y ds x r e h1 d1 d2 _ ih=>by
 rw[qW,Qyz]
 refine gH.aN.mpr ⟨_,_,rfl,?_,h1,?_,?_,ih⟩
 ·split<;>exact e
 ·split<;>exact d1
 ·rw[Cu h1 g,e]
  by_cases c:x.1=kC d
  ·rw[if_pos (QFq c),if_pos c];exact dz
  ·rw[if_neg (by simp[c]),if_neg c];exact d2
def gH.snoc(g:cN d=true)(dd:bI K H d (.ref a))(dz:bI K H z v)(h:gH K H ks ds xs):gH K H (ks++[d]) (ds++[z]) (xs++[(kC d,a,v)]):=h.ind (P:=fun ks ds xs=>gH K H (ks++[d]) (ds++[z]) (xs++[(kC d,a,v)])) (gH.aN.mpr ⟨_,_,rfl,rfl,g,dd,dz,gH.nil⟩) fun k ks y ds x r e h1 d1 d2 _ ih=>gH.aN.mpr ⟨_,_,rfl,e,h1,d1,d2,ih⟩
def gH.put(g:cN d=true)(dd:bI K H d (.ref a))(dz:bI K H z v)(h:gH K H ks ds xs):gH K H (putD d z ks ds).1 (putD d z ks ds).2 (oJ (kC d) a v xs):=by
 unfold putD oJ
 rw[h.inD g]
 split
 ·exact h.repl g dz
 ·exact h.snoc g dd dz
end
section
variable{X:Cx}{γ:QQz}{σ:L2.St}{H:Hp}{s:Shared}{A:Around}{E1:QZq}{d:Addr}{xs:List SV}
def abe{Q:QZq}(I:L2.Inv X γ σ H s)(e:Rd H d (sD xs))(h:∀t s',L2.Inv X γ σ H s'->Q (.int xs.length t) s'):wpAny (model X.prog X.w) A (call (.builtin "len") [.ref d]) Q E1 s:=by
 obtain⟨z,y,_,ys,o,es,ep,pr,h1,h2,h3,h4⟩:=(show cu X.prog X.w H s.heap d (.dS xs)from Eb I.hok e)
 have hn:es.size=xs.length:=by
  have q1:=congrArg List.length h4
  have q2:=congrArg List.length (kO pr)
  simp at q1 q2
  omega
 have hl:sizeLine=16777216:=sizeLine_eq
 have t:s.TypeIs (.ref d) "dict":=⟨o,h1,h2.1⟩
 refine Calls.call_function_entry kind_len plain_len entry_len (args_len1 _) ?_
 unfold Builtin.«len»
 refine QKq (m:=oneArg "len" _) (QKz ?_)
 refine QKq (m:=callSpecial? (.ref d) (Str.ofString "__len__")) (wpAny_callSpecial?_slot (name:=Str.ofString "__len__") t F.slot_dict_len (Qzz F.slot_dict_len t F.entry_dict_len ?_ (F.args_dict_len_1 _)))
 show wpAny _ _ (dictSize d>>=_) _ _ s
 unfold dictSize
 refine QKq (QKq (wpAny_dictEntries h1 h3 (QKz ?_)))
 show wpAny _ _ (Builtin.Dict.pendingCount d>>=_) _ _ s
 refine QKq (wpAny_pendingCount_other y ?_)
 refine wpAny_ret_mkInt ?_
 rw[hn]
 show wpAny _ _ (holding [Value.int ((xs.length:Int)+((0:Nat):Int)) s.toks] (asIndex (Value.int ((xs.length:Int)+((0:Nat):Int)) s.toks))>>=_) _ _ _
 rw[show((xs.length:Int)+((0:Nat):Int))=(xs.length:Int) by simp]
 refine QKq (Qqq (QKz ?_))
 refine QKq (wpAny_letGo ?_)
 show wpAny _ _ (if ((xs.length:Nat):Int)<0 then _ else _) _ _ _
 rw[if_neg (by omega)]
 show wpAny _ _ (if ((xs.length:Nat):Int)>=2 ^63 then _ else _) _ _ _
 rw[if_neg (by omega)]
 exact QKq (wpAny_mkInt (QKz ⟨_,rfl,h _ _ (I.tok _)⟩))
def xx(I:L2.Inv X γ σ H s)(e:Rd H d (.dK [])):s.heap.DictOfH (eO X.prog X.w) d []/\(d==sysModules)=false:=by
 obtain⟨z,hd,vs,rel,o,es,ep,q1,q2,q3,q4,q5,q6⟩:=nJ I.hok e
 cases rel
 have e0:es.toList=[]:=by cases hq:es.toList with
  |nil=>rfl
  |cons=>rw[hq]at q5;cases q5
 exact⟨⟨o,es,ep,q1,q2,q3,by rw[e0];rfl,fun x hx=>(nomatch hx),List.nodup_nil⟩,hd⟩
def abf{k:SK}{a:Addr}{Q:QZq}(hu:A.units+9<cLine)(I:L2.Inv X γ σ H s)(e:Rd H d (.dK []))(ha:cM X.K H k a)(h:∀s',L2.Inv X γ σ H s'->Q (.bool false) s'):
  wpAny (model X.prog X.w) A (compareOp .In (.ref a) (.ref d)) Q E1 s:=by
 obtain⟨dd,hd⟩:=xx I e
 exact wpAny_in_heap (knd:=eO X.prog X.w) (Wu hu) (il I ha) hd dd (h _ (I.tok _))
def JR{k:SK}{a:Addr}{Q:QZq}(hu:A.units+9<cLine)(I:L2.Inv X γ σ H s)(e:Rd H d (.dK []))(ha:cM X.K H k a)(h:∀s',L2.Inv X γ σ H s'->Q (.bool true) s'):
  wpAny (model X.prog X.w) A (compareOp .NotIn (.ref a) (.ref d)) Q E1 s:=by
 obtain⟨dd,hd⟩:=xx I e
 exact PyProof.Rows.wpAny_notIn_heap (knd:=eO X.prog X.w) (Wu hu) (il I ha) hd dd (h _ (I.tok _))
def Ax{k:SK}{a:Addr}{v:V}{r:Value}{Q:Unit->Shared->Prop}(hu:A.units+9<cLine)(I:L2.Inv X γ σ H s)(hd:H d=some (.dK []))(ha:cM X.K H k a)(rv:RelV v r)
  (h:∀s',L2.Inv X γ σ (upd H d (sD [(k,a,v)])) s'->Q () s'):wpAny (model X.prog X.w) A (setItem (.ref d) (.ref a) r) Q E1 s:=by
 obtain⟨dd,y⟩:=xx I (.inl hd)
 refine wpAny_setItem_heap (knd:=eO X.prog X.w) (hsz:=QIq _) (Wu hu) (il I ha) dd fun h' dd' hs=>h _ ?_
 have he:∃q,h'.get? d=some q:=let ⟨q,_,_,hq,_⟩:=dd';⟨q,hq⟩
 exact lA I (by rw[hd];exact True.intro) hs he (DX (by rw[sizeLine_eq];show 1<=16777216;decide) y (mW rv .nil) dd')
end
def GK{x y:Value}{W:World}{E:QZq}{Q:PUnit->Shared->Prop}(h:wpAny (model P W) A (dictSet d x y) (fun _ s'=>Q PUnit.unit s') E s):wpAny (model P W) A (storeAll d [(x,y)]) Q E s:=by
 unfold storeAll
 rw[List.forIn_cons]
 refine QKq (QKq (cB h fun _ s' q=>QKz ?_))
 show wpAny _ _ (forIn ([]) PUnit.unit _) _ _ _
 exact QKz q
noncomputable def aaV(K:QQq)(nT:List (TE×TE)):TE:=fun σ H Q=>∀p,H p=none->v6 nT σ (upd H p (.dK [])) fun ps H2=>H2 p=some (.dK [])/\∃k a v,ps=[(.ref a,v)]/\cM K H2 k a/\Q (.ref p) (upd H2 p (sD [(k,a,v)]))
def bare{w:World}{h:Heap}(d:h.DictOf (fV P w) a []):h.DictOfH (eO P w) a []:=by
 obtain⟨o,es,ep,h1,h2,h3,h4,h5,h6⟩:=d
 have e:es.toList=[]:=by
  cases q:es.toList with
  |nil=>rfl
  |cons x y=>rw[q]at h5;cases h5
 exact⟨o,es,ep,h1,h2,h3,by simp[e],fun x hx=>(nomatch hx),List.nodup_nil⟩
theorem QS{pos:Pos}{values:List Expr}(hu:X.A.units+9<cLine)(h:PPs X pos keys values nT)(hall:keys.all (·.isSome)=true)(hl:keys.length=values.length)(h0:keys≠[])
  (h15:keys.length<=15):PE X (.Dict keys values pos) (aaV X.K nT):=by
 intro γ s σ H Q I q
 refine wpAny_Dict_any hall hl h0 h15 (cB (h γ _ σ _ _ (I.laid (t':=s.toks) (fun _ _ q=>QWq _ q) (QVz _) (sV s.heap I.big)) (q _ (I.hok.fresh (QVz s.heap.objs.size)))) fun ws s2⟨ps,H2,I2,rel,e,z⟩=>?_)
 obtain⟨_,hd,vs0,r0,dd⟩:=Nh I2.hok e
 cases r0
 obtain⟨k,a,v,ep,ka,q2⟩:=z
 ·subst ep
  cases rel with
  | @cons _ b _ bs rv t=>
   cases t
   obtain⟨b1,b2⟩:=b
   obtain⟨r1,r2⟩:=rv
   cases r1
   refine GK (wpAny_dictSet_heap (show X.A.units+8<cLine by omega) (il I2 ka) (bare dd) fun h' dd' hs=>?_)
   refine⟨.ref s.heap.objs.size,_,lA I2 (by rw[e];exact True.intro) hs (let ⟨q,_,_,hq,_⟩:=dd';⟨q,hq⟩) (DX (by rw[sizeLine_eq];show 1<=_;decide) hd (mW r2 .nil) dd'),rfl,q2⟩
section
def Qu{P:Program}{w:World}:∀{xs:List SV}{ys:List (SK×Addr×Value)}{vs:List Value},Paired Pb xs ys->vs=ys.map (fun y=>Value.ref y.2.1)->Vals (xs.map fun x=>V.ref x.2.1) vs:=by
 intro xs ys vs pr e
 subst e
 induction pr with
 |nil=>exact .nil
 |cons h t ih=>exact .cons (by show Value.ref _=Value.ref _;rw[h.2.1]) ih
def Dc(hc:X.calm=true):fU X (.type "list") (fun xs H Q=>(∃p ys,xs=[.ref p]/\(jB X.K H p ys\/ju X.K H p ys)/\∀l,H l=none->Q (.ref l) (upd H l (.lst ys)))\/
  ∃a ks,xs=[.ref a]/\Rd H a (sD ks)/\∀l,H l=none->Q (.ref l) (upd H l (.lst (ks.map fun x=>.ref x.2.1)))):=by
 intro γ s σ H xs us Q I r h
 rcases h with h|⟨a,ks,rfl,e,q⟩
 ·exact xN γ s σ H xs us Q I r h
 obtain⟨u,rfl,rx⟩:=vals1 r
 cases rx
 obtain⟨z,y,nd,ys,o,es,ep,pr,h1,h2,h3,h4⟩:=(Eb I.hok e)
 have le:es.size=ys.length:=by rw[<-Array.length_toList,h4,QAq]
 have lk:=Paired.length pr
 refine PySem.W.kdl_call (Oa y) (I.ok.hd hc) ⟨o,h1,h2,h3⟩ (by omega) fun h' tk acc c' kp g it=>?_
 have ev:acc.toList=ys.map fun y=>Value.ref y.2.1:=by
  refine List.ext_getElem? fun i=>?_
  rw[Array.getElem?_toList,QFz]
  by_cases hi:i<acc.size
  ·obtain⟨e,e1,e2⟩:=it.2 i acc[i] (Array.getElem?_eq_getElem hi)
   rw[<-Array.getElem?_toList,h4,QFz]at e1
   obtain⟨p,p1,p2⟩:=QJz.mp e1
   rw[Array.getElem?_eq_getElem hi,p1,e2,<-p2]
   rfl
  ·have:acc.size=ys.length:=by rw[it.1,le]
   rw[Array.getElem?_eq_none (by omega),List.getElem?_eq_none (by omega)]
   rfl
 refine⟨.ref s.heap.objs.size,_,I.laid kp (QVz _) (show cu X.prog X.w _ h' _ (.lst _)from⟨by rw[QAq];omega,acc.toList,c',Qu (P:=X.prog) (w:=X.w) pr ev,by simpa using g⟩),rfl,q _ (I.hok.fresh (QVz _))⟩
end
section
theorem cW.flat{H:Hp}{v:V}(h:cW K H x v)(f:flat x=true):bI K H x v:=by
 rcases h with h|⟨q,a,rfl,_⟩
 ·exact h
 ·cases q<;>simp[Ob.d,Mini.flat]at f
def FJ(f:flat x=true)(hs:∀y,x≠ .str y):nd x=true/\dep x=0:=by
 cases x<;>simp_all[flat,nd,dep]
noncomputable def afn(K:QQq):R2:=fun x y H Q=>∃p q,cW K H p x/\cW K H q y/\sU p q=true/\Q (.bl (cQ p q)) H
noncomputable def afk(K:QQq):R2:=fun x y H Q=>∃p q,cW K H p x/\cW K H q y/\sU p q=true/\Q (.bl (!cQ p q)) H
def FT{H:Hp}{x y:V}(Dp:bI K H p x)(Dq:bI K H q y)(fp:flat p=true)(fq:flat q=true)(hs:(∃z,p=.str z)\/∃z,q=.str z):Qh x y=true/\decide (x=y)=cQ p q:=by
 cases p<;>cases q<;>simp_all[flat]<;>(cases Dp;cases Dq;unfold Qh cQ;simp)
def FQ{p q:D}(hu:u+60<cLine)(hp:nd p=true)(hq:nd q=true)(hd:dep p<=50):u+min (py p).depth (py q).depth<cLine:=by
 rw[sW p hp,sW q hq]
 omega
def sS(h:sU p q=true):(nd p=true/\nd q=true/\dep p<=50)\/(flat p=true/\flat q=true/\((∃z,p=.str z)\/∃z,q=.str z)):=by
 simp only[sU,Bool.or_eq_true,QUq,QUz]at h
 rcases h with ⟨h1,h2⟩|⟨⟨h1,h2⟩,h3⟩
 ·by_cases hs:(∃z,p=.str z)\/∃z,q=.str z
  ·exact .inr ⟨h1,h2,hs⟩
  ·have k1:=FJ h1 (fun y e=>hs (.inl ⟨y,e⟩))
   exact .inl ⟨k1.1,(FJ h2 (fun y e=>hs (.inr ⟨y,e⟩))).1,by omega⟩
 ·exact .inl ⟨h1,h3,h2⟩
def Xj(hu:X.A.units+60<cLine):fX X (compareOp .Eq) (afn X.K):=by
 intro γ s σ H x y v u Q I rx ry h
 obtain⟨p,q,Dp,Dq,ok,k⟩:=h
 rcases sS ok with ⟨h1,h2,h3⟩|⟨h1,h2,h3⟩
 ·obtain⟨as,ra⟩:=Dp.reads I h1 rx
  obtain⟨bs,rb⟩:=Dq.reads I h2 ry
  exact SeqAt.compareEq_reads ra rb (ji p h1) (ji q h2) (FQ hu h1 h2 h3) (by rw[sJ p q h1 h2];exact⟨.bl _,H,I,rfl,k⟩)
 ·obtain⟨e1,e2⟩:=FT (Dp.flat h1) (Dq.flat h2) h1 h2 h3
  exact abS γ s σ H x y v u Q I rx ry ⟨e1,by rw[e2];exact k⟩
def Xb(hu:X.A.units+60<cLine):fX X (compareOp .NotEq) (afk X.K):=by
 intro γ s σ H x y v u Q I rx ry h
 obtain⟨p,q,Dp,Dq,ok,k⟩:=h
 rcases sS ok with ⟨h1,h2,h3⟩|⟨h1,h2,h3⟩
 ·obtain⟨as,ra⟩:=Dp.reads I h1 rx
  obtain⟨bs,rb⟩:=Dq.reads I h2 ry
  exact SeqAt.compareNe_reads ra rb (ji p h1) (ji q h2) (FQ hu h1 h2 h3) (by rw[sJ p q h1 h2];exact⟨.bl _,H,I,rfl,k⟩)
 ·obtain⟨e1,e2⟩:=FT (Dp.flat h1) (Dq.flat h2) h1 h2 h3
  exact abO γ s σ H x y v u Q I rx ry ⟨e1,by rw[e2];exact k⟩
theorem wY{K:QQq}{H:Hp}{p:D}{x:V}(Dp:bI K H p x)(fp:flat p=true):∀{ds:List D}{vs:List V},aq K H ds vs->ds.all flat=true->vs.all jt=true/\inV x vs=aJ p ds
 |[],vs,h,_=>by rw[aq.bO.mp h];exact⟨rfl,rfl⟩
 |d::ds,vs,h,f=>by
  obtain⟨v,r,rfl,h1,h2⟩:=aq.aN.mp h
  rw[List.all_cons,QUq]at f
  obtain⟨k1,k2⟩:=wY Dp fp h2 f.2
  have fv:jt v=true/\M9 v x=cQ d p:=by
   obtain⟨f1,_⟩:=f
   cases d<;>cases p<;>simp_all[flat]<;>(cases h1;cases Dp;first|exact⟨rfl,rfl⟩|(refine⟨rfl,?_⟩;simp[M9,cQ];try (rw[Bool.beq_eq_decide_eq])))
  refine⟨by rw[List.all_cons,fv.1,k1];rfl,?_⟩
  unfold inV at k2⊢
  rw[List.any_cons,fv.2,k2]
  rfl
theorem tU(hp:nd p=true):∀{ds:List D},mC ds=true->((xW ds).any fun y=>PyData.eqv y (py p))=aJ p ds
 |[]=>fun _=>rfl
 |d::ds=>fun h=>by
  simp only[mC,QUq]at h
  rw[xW,List.any_cons,sJ d p h.1 hp,tU hp h.2]
  rfl
def Oz(K:QQq)(H:Hp)(xs:List D)(y:V):Prop:=∃a vs,y=.ref a/\(jB K H a vs\/ju K H a vs)/\aq K H xs vs
noncomputable def abz(K:QQq)(neg:Bool):R2:=fun x y H Q=>∃p xs,bI K H p x/\Oz K H xs y/\eX p xs=true/\Q (.bl (if neg then !aJ p xs else aJ p xs)) H
def qt{p:D}(hu:u+60<cLine)(hp:nd p=true)(hd:dep p<=50):u+1+min (PyData.depthAll (xW xs)) (py p).depth<cLine:=by
 rw[sW p hp]
 omega
theorem Oz.reads{s:Shared}{σ:St}{H:Hp}{y:V}(I:Inv X γ σ H s)(h:Oz X.K H xs y)(hn:mC xs=true)(r:RelV y u):
  ∃as,Reads s.heap u (.list (xW xs)) as\/Reads s.heap u (.tuple (xW xs)) as:=by
 obtain⟨a,vs,rfl,hq,l⟩:=h
 cases r
 rcases hq with hq|hq
 ·obtain⟨its,rv,⟨o,n,e,c,_,dt⟩,_⟩:=I.list hq
  obtain⟨as,q⟩:=aq.reads I hn l rv
  exact⟨a::as,.inl (.list e c dt (by simpa using q))⟩
 ·obtain⟨its,rv,⟨o,e,c,n,dt⟩,_⟩:=I.tuple hq
  obtain⟨as,q⟩:=aq.reads I hn l rv
  exact⟨as,.inr (.tuple e c dt (by simpa using q))⟩
def Xh(hu:X.A.units+60<cLine):fX X (compareOp .In) (abz X.K false):=by
 intro γ s σ H x y v u Q I rx ry h
 obtain⟨p,xs,Dp,hS,ok,k⟩:=h
 simp only[eX,Bool.or_eq_true,QUq,QUz]at ok
 rcases ok with ⟨h1,h2⟩|⟨⟨h1,h2⟩,h3⟩
 ·obtain⟨a,vs,rfl,hq,l⟩:=hS
  obtain⟨k1,k2⟩:=wY Dp h1 l h2
  exact Hq γ s σ H x _ v u Q I rx ry ⟨a,vs,rfl,hq,(by cases p<;>simp_all[flat]<;>(cases Dp;rfl)),k1,by simpa[k2]using k⟩
 ·obtain⟨bs,rb⟩:=bI.reads I h1 Dp rx
  obtain⟨as,ra|ra⟩:=hS.reads I h3 ry
  ·exact SeqAt.in_list_reads ra rb (jg xs h3) (ji p h1) (qt hu h1 h2) (by rw[tU h1 h3];exact⟨.bl _,H,I,rfl,k⟩)
  ·exact SeqAt.in_tuple_reads ra rb (jg xs h3) (ji p h1) (qt hu h1 h2) (by rw[tU h1 h3];exact⟨.bl _,H,I,rfl,k⟩)
def Hn(hu:X.A.units+60<cLine):fX X (compareOp .NotIn) (abz X.K true):=by
 intro γ s σ H x y v u Q I rx ry h
 obtain⟨p,xs,Dp,hS,ok,k⟩:=h
 simp only[eX,Bool.or_eq_true,QUq,QUz]at ok
 rcases ok with ⟨h1,h2⟩|⟨⟨h1,h2⟩,h3⟩
 ·obtain⟨a,vs,rfl,hq,l⟩:=hS
  obtain⟨k1,k2⟩:=wY Dp h1 l h2
  exact wH γ s σ H x _ v u Q I rx ry ⟨a,vs,rfl,hq,(by cases p<;>simp_all[flat]<;>(cases Dp;rfl)),k1,by simpa[k2]using k⟩
 ·obtain⟨bs,rb⟩:=bI.reads I h1 Dp rx
  obtain⟨as,ra|ra⟩:=hS.reads I h3 ry
  ·exact SeqAt.notIn_list_reads ra rb (jg xs h3) (ji p h1) (qt hu h1 h2) (by rw[tU h1 h3];exact⟨.bl _,H,I,rfl,k⟩)
  ·exact SeqAt.notIn_tuple_reads ra rb (jg xs h3) (ji p h1) (qt hu h1 h2) (by rw[tU h1 h3];exact⟨.bl _,H,I,rfl,k⟩)
end
structure Gives(K:QQq)(J:It)(xs:List D)(H:Hp):Prop where
 go:∀H1,bR H H1->∀(i:Nat)d,xs[i]? =some d->J.go i H1
 yld:∀H1,bR H H1->∀(i:Nat)d,xs[i]? =some d->∀x H2,J.yld i H1 x H2->bI K H2 d x/\(H2=H1\/∃p vs,H1 p=none/\H2=upd H1 p (.tup vs))
 stop:∀H1,bR H H1->∀(i:Nat),xs.length<=i->J.stop i H1
 len:xs.length<=sizeLine
noncomputable def tI(K:QQq)(W:Wi)(env:Ev)(r:Out Rv):TI:=fun σ H R=>Sat K env σ H/\match r with
 |.ok x env'=>∃d xs,x.jA=some d/\items d=some xs/\∀J H',Nx K env σ H env' H'->Gives K J xs H'->R J H'
 |.exc c env'=>∀H',Nx K env σ H env' H'->W c env' σ H'
 |.bad=>False
def GI(X:Cx)(W:Wi)(c:Cf)(m:E)(tg e:Expr):Prop:=∀env,PI X tg e (tI X.K W env (ev c m env))
section
theorem xH{ifs:List Expr}{pos:Pos}{env:Env}(I:Nat->Shared->Prop)
  (turn:∀n s,I n s->wpAny (model prog w) A (pyNext it) (fun r ι=>match r with
   |none=>R (.ok .next) ι
   |some v=>wpAny (model prog w) A (letOwnedTupleGo target it v) (fun _ s₁'=>wpAny (model prog w) A (assign target env v) (fun _ s₂=>
     wpAny (model prog w) A (forIn ifs true fun c r=>if r=true then do let ok<-isTrue c env (eval c env);pure (ForInStep.yield ok)else pure (ForInStep.yield r)) (fun ok s₃=>
      if ok=true then wpAny (model prog w) A (eval elt env) (fun x s₄=>
       wpAny (model prog w) A (call (.builtin "list.append") [acc,x]) (fun _ s₅=>∃m,m<n/\I m s₅) (fun _ _=>False) s₄) (fun _ _=>False) s₃
      else∃m,m<n/\I m s₃) (fun _ _=>False) s₂) (fun _ _=>False) s₁') (fun _ _=>False) ι) (fun _ _=>False) s)
  n(h:I n s):
  codeAny (model prog w) A (.compLoop (.ListComp elt [⟨target,iter,ifs,0⟩] scope pos) 0 it acc env) R s:=by
 refine codeAny_loop rfl I (fun n s hI=>?_) n h
 refine wpAny_noted ?_
 refine QKq (wpAny_standAt (QKq (QGq (turn n s hI) (fun r ι ω=>?_) fun _ _ h'=>h'.elim)))
 cases r with
 |none=>exact QKz ω
 |some v=>
  refine QKq (QGq ω (fun _ s₁' h₁'=>?_) fun _ _ h'=>h'.elim)
  refine QKq (QGq h₁' (fun _ s₂ h₂=>QKq (QGq h₂ (fun ok s₃ h₃=>?_) fun _ _ h'=>h'.elim)) fun _ _ h'=>h'.elim)
  cases ok with
  |false=>exact QKz ⟨rfl,h₃⟩
  |true=>
   exact QKq (QKq (QGq h₃ (fun x s₄ h₄=>QKq (QGq h₄ (fun _ s₅ h₅=>QKz (QKz ⟨rfl,h₅⟩)) fun _ _ h'=>h'.elim)) fun _ _ h'=>h'.elim))
end
noncomputable def blk(X:Cx)(scope:Scope)(cl:List (Str×Addr))(N:List Str)(fp:List Addr)(s₀:Shared)(H₀:Hp):Cx where
 prog:=X.prog
 w:=X.w
 K:=X.K
 mg:=X.mg
 base:=X.base
 A:=X.A
 N:=N
 s₀:=s₀
 H₀:=H₀
 env:=compEnvC scope cl s₀.heap.objs.size X.env
 outer:=X.stack
 stack:=X.stack
 ex:=fp
 fn:=fun _=>false
 calm:=X.calm
 pn:=[]
 xe:=fun _ _=>False
def bY(η N:List Str):List Str:=η++N.map fun x=>if η.contains x then(".":Str)++x else x
structure Ja(sc inner:Scope)(η N:List Str):Prop where
 kind:inner.kind=.function
 nd:(bY η N).Nodup
 loc:∀x,inner.names.lookup x=some .local->x∈η\/x=(".0":Str)
 locs:∀x∈inner.names,x.2=.local->inner.names.lookup x.1=some .local
 tg:∀x∈η,inner.names.lookup x=some .local
 nocell:∀x∈inner.names,x.2≠ .cell
 fre:∀x∈inner.names,x.2=.free->sc.names.lookup x.1=some .cell\/sc.names.lookup x.1=some .free
 dot:∀x∈N,η.contains x=true->inner.names.lookup ((".":Str)++x)=none
 dot0:(".0":Str)∉N
structure O2(scope:Scope)(env:Env)(cl:List (Str×Addr)):Prop where
 eq:closureFor scope env=pure cl
 to:∀x c,cl.lookup x=some c->env.cells.lookup x=some c
 has:∀x,scope.names.lookup x=some .free->∃c,cl.lookup x=some c
theorem bT{env:Env}:∀{names:List (Str×NameKind)}{x:Str}{k:NameKind},
  (names.map fun(n,k)=>if (k==NameKind.free&&env.scope.kind== .function&&env.kindOf n==some .cell)then(n,NameKind.cell)else(n,k)).lookup x=some k->
   names.lookup x=some k\/(k=.cell/\names.lookup x=some .free)
 |[],_,_,h=>by simp at h
 |(n,k')::r,x,k,h=>by
  rw[Qyz]at h
  cases hx:x==n with
  |true=>
   by_cases hc:(k'==NameKind.free&&env.scope.kind== .function&&env.kindOf n==some .cell)=true
   ·simp only[hc,if_true,QHz,hx]at h
    cases h
    simp only[QUq,beq_iff_eq]at hc
    exact .inr ⟨rfl,by simp[QHz,hx,hc.1.1]⟩
   ·simp only[eq_false_of_ne_true hc,Qxq,if_false,QHz,hx]at h
    exact .inl (by simpa[QHz,hx]using h)
  |false=>
   have h':(r.map fun(n,k)=>if (k==NameKind.free&&env.scope.kind== .function&&env.kindOf n==some .cell)then(n,NameKind.cell)else(n,k)).lookup x=some k:=by
    by_cases hc:(k'==NameKind.free&&env.scope.kind== .function&&env.kindOf n==some .cell)=true
    ·simpa only[hc,if_true,QHz,hx]using h
    ·simpa only[eq_false_of_ne_true hc,Qxq,if_false,QHz,hx]using h
   rcases (@bT env r x k) h' with q|⟨q1,q2⟩
   ·exact .inl (by simpa[QHz,hx]using q)
   ·exact .inr ⟨q1,by simpa[QHz,hx]using q2⟩
theorem NZ{scope:Scope}{η:List Str}{fp:List Addr}{σ:St}
  (I:Inv X γ σ H s)(sc:Ja X.env.scope scope η X.N)(co:O2 scope X.env cl)(hf:∀b∈fp,fY X γ H b)(hlt:∀b∈fp,b<s.heap.objs.size):
  (blk X scope cl (bY η X.N) fp s H).Ok where
 mod:=I.ok.mod
 kind:=sc.kind
 glob:=I.ok.glob
 blt:=I.ok.blt
 above:=QVz _
 inj:=fun x y c h1 h2=>I.ok.inj x y c (co.to x c h1) (co.to y c h2)
 has:=fun x h=>by
  have z:scope.names.lookup x=some .free:=by
   rcases h with h|h
   ·rcases bT h with q|⟨_,q⟩
    ·exact absurd rfl (sc.nocell _ (PySem.mem_of_lookup q))
    ·exact q
   ·rcases bT h with q|⟨q,_⟩
    ·exact q
    ·cases q
  exact co.has x z
 cab:=fun x c h=>by cases h
 hd:=I.ok.hd
 frames:=I.ok.frames
 stk:=.inl rfl
 exf:=fun b hb=>⟨Qvz (hlt b hb),fun x c h=>(hf b hb).2.2.2.2.1 x c (co.to x c h)⟩
 bs:=I.bs
 bsz:=Nat.le_trans I.ok.bsz I.sz
 noex:=fun b o e hb=>by
  rcases (hf b hb).2.2.2.1 with z|z
  ·exact I.ok.noex b o e z
  ·exact absurd (Qvq (Qqz e) (Nat.le_trans I.ok.bsz z)) (Nat.lt_irrefl _)
 exfs:=fun b hb hs=>by
  obtain⟨_,h1,h2,_⟩:=hf b hb
  rcases QCq.mp (I.Aq b hs)with z|z
  ·exact h1 z
  ·exact h2 z
 lO:=I.stack
 frf:=I.DK
theorem Sh{scope:Scope}{η:List Str}{fp:List Addr}{σ:St}{H:Hp}{h':Heap}
  (I:Inv X γ σ H s)(sc:Ja X.env.scope scope η X.N)(co:O2 scope X.env cl)(hf:∀b∈fp,fY X γ H b)(hlt:∀b∈fp,b<s.heap.objs.size)
  (hn:h'.Ns s.heap.objs.size fun _=>none)(hk:∀b o,s.heap.get? b=some o->h'.get? b=some o):
  Inv (blk X scope cl (bY η X.N) fp s H) [] (List.replicate η.length none++σ) H {s with heap:=h',toks:=t}:=by
 have cellK:∀c v,s.heap.IsCell c v->h'.IsCell c v:=fun c v⟨o,e,d⟩=>⟨o,hk c o e,d⟩
 refine⟨NZ I sc co hf hlt,rfl,I.bare,Un.kept hk,⟨_,hn,fun i x v e1 e2 e3=>?_⟩,fun x c e=>?_,I.hok.fresh (QVz _),fun x c e=>I.freeC x c (co.to x c e),fun p hp=>absurd (show p∈([])from hp) (by simp),I.hok.kept hk,?_⟩
 ·--an outer name that is seen within
  have hi:η.length<=i:=by
   refine Nat.le_of_not_lt fun q=>?_
   rw[Qwz (by simpa using q),List.getElem?_replicate]at e2
   split at e2<;>cases e2
  rw[QIz (by simpa using hi)]at e2
  simp only[List.length_replicate]at e2
  have e1':(bY η X.N)[i]? =some x:=e1
  unfold bY at e1'
  rw[QIz hi,QFz]at e1'
  cases ey:X.N[i-η.length]? with
  |none=>rw[ey]at e1';cases e1'
  |some y=>
   rw[ey]at e1'
   have e1'':(if η.contains y=true then(".")++y else y)=x:=QEq e1'
   have e3':=e3
   by_cases hy:η.contains y=true
   ·rw[if_pos hy]at e1''
    subst e1''
    have no:=sc.dot y (QBz ey) hy
    rcases e3' with q|q|q
    ·rcases bT q with z|⟨z,_⟩
     ·rw[no]at z;cases z
     ·cases z
    ·rcases bT q with z|⟨_,z⟩
     ·rw[no]at z;cases z
     ·rw[no]at z;cases z
    ·rcases bT q with z|⟨z,_⟩
     ·rw[no]at z;cases z
     ·cases z
   ·rw[if_neg hy]at e1''
    subst e1''
    have fr:scope.names.lookup y=some .free:=by
     rcases e3' with q|q|q
     ·rcases bT q with z|⟨z,_⟩
      ·rcases sc.loc y z with w|w
       ·exact absurd (by simpa using w) hy
       ·exact absurd (w▸QBz ey) sc.dot0
      ·cases z
     ·rcases bT q with z|⟨_,z⟩
      ·exact absurd rfl (sc.nocell _ (PySem.mem_of_lookup z))
      ·exact z
     ·rcases bT q with z|⟨z,_⟩
      ·exact z
      ·cases z
    have ou:=sc.fre _ (PySem.mem_of_lookup fr) rfl
    obtain⟨m,hm,hl⟩:=I.loc
    obtain⟨u,r,l⟩:=hl _ y v ey e2 (.inr ou)
    obtain⟨c,hc⟩:=co.has y fr
    refine⟨u,r,.inr ⟨?_,c,hc,?_⟩⟩
    ·have z:=e3'
     rcases z with z|z|z
     ·rcases bT z with w|⟨w,_⟩
      ·rw[fr]at w;cases w
      ·cases w
     ·exact .inl z
     ·exact .inr z
    ·rcases l with ⟨k,_⟩|⟨_,c',hc',z⟩
     ·have k':X.env.scope.names.lookup y=some .local:=k
      rcases ou with w|w
      ·rw[k']at w;cases w
      ·rw[k']at w;cases w
     ·rw[co.to y c hc]at hc'
      cases hc'
      exact cellK c _ z
 ·obtain⟨v,z⟩:=I.cell x c (co.to x c e)
  exact⟨v,cellK c v z⟩
 ·show(List.replicate η.length none++σ).length=(bY η X.N).length
  unfold bY
  simp only[QTq,List.length_replicate,QAq,I.len]
def slots:Tg->List Nat
 |.name i=>[i]
 |.tup is=>is
structure jw(K:QQq)(tg:Tg)(env:Ev)(σ:St)(env':Ev)(ζ:St)(H:Hp):Prop where
 eZ:Sat K env' ζ H
 same:∀(i:Nat),i∉slots tg->env'[i]? =env[i]? /\ζ[i]? =σ[i]?
 vals:∀(i:Nat),i∈slots tg->∃d,env'[i]? =some (.val d)
 bors:∀(i:Nat)xs,env[i]? =some (.bor xs)->i∉slots tg
 len:ζ.length=σ.length
noncomputable def tG(K:QQq)(tg:Tg):TG:=fun v σ H Q=>∃env d env',Sat K env σ H/\bI K H d v/\bj tg d env=some env'/\∀ζ,jw K tg env σ env' ζ H->Q ζ H
def GG(X:Cx)(tg:Tg)(e:Expr):Prop:=PG X e (tG X.K tg)
section
def jw.sub(h:jw K tg env σ env' ζ H){a:Addr}(o:aW env' ζ i a):aW env σ i a:=by
 obtain⟨⟨s,xs,e1,e2⟩,e3⟩:=o
 by_cases hi:i∈slots tg
 ·obtain⟨d,e⟩:=h.vals i hi
  rw[e]at e1;cases e1;cases e2
 ·obtain⟨q1,q2⟩:=h.same i hi
  exact⟨⟨s,xs,by rw[<-q1];exact e1,e2⟩,by rw[<-q2];exact e3⟩
def qT{s:Sl}(h:bU i s env=some env'):env'=env.set i s/\i<env.length/\∀xs,env[i]? ≠some (.bor xs):=by
 unfold bU at h
 cases e:env[i]? with
 |none=>rw[e]at h;cases h
 |some t=>
  rw[e]at h
  have hi:=(QCz.mp e).1
  cases t with
  |bor xs=>cases h
  |un=>cases h;exact⟨rfl,hi,fun xs q=>by cases q⟩
  |val d=>cases h;exact⟨rfl,hi,fun xs q=>by cases q⟩
  |own ys=>cases h;exact⟨rfl,hi,fun xs q=>by cases q⟩
def Sat.put{d:D}(S:Sat K env σ H)(hi:i<env.length)(hd:bI K H d v):Sat K (env.set i (.val d)) (σ.set i (some v)) H:=by
 have own:∀j a,aW (env.set i (.val d)) (σ.set i (some v)) j a->aW env σ j a:=fun j a⟨⟨s,xs,e1,e2⟩,e3⟩=>by
  by_cases hj:i=j
  ·subst hj;rw[Qwq hi]at e1;cases e1;cases e2
  ·rw[Qxz hj]at e1 e3;exact⟨⟨s,xs,e1,e2⟩,e3⟩
 refine⟨by simpa using S.len,fun j s e=>?_,fun j k a h1 h2=>S.ne j k a (own j a h1) (own k a h2)⟩
 by_cases hj:i=j
 ·subst hj
  rw[Qwq hi]at e
  cases e
  rw[Qwq (by rw[<-S.len];exact hi)]
  exact⟨v,rfl,hd⟩
 ·rw[Qxz hj]at e⊢
  exact S.sl j s e
def Qc{d:D}(S:Sat K env σ H)(hd:bI K H d v)(h:bU i (.val d) env=some env'):jw K (.name i) env σ env' (σ.set i (some v)) H:=by
 obtain⟨rfl,hi,hb⟩:=qT h
 refine⟨S.put hi hd,fun j hj=>?_,fun j hj=>?_,fun j xs e hj=>?_,by simp⟩
 ·have:i≠j:=fun z=>hj (by simp[slots,z])
  exact⟨Qxz this,Qxz this⟩
 ·have e:j=i:=by simpa[slots]using hj
  subst e
  exact⟨d,Qwq hi⟩
 ·have e':j=i:=by simpa[slots]using hj
  subst e'
  exact hb xs e
end
section
def w6{x:Str}(hN:X.N.Nodup)(hi:X.N[i]? =some x)(hx:Loc X.env.scope x)(hf:X.fn x=true\/X.env.scope.names.lookup x=some .local):GG X (.name i) (.Name x pos):=by
 intro γ s σ H v u Q I r q
 obtain⟨env,d,env',S,hd,e,k⟩:=q
 exact QM hN hi hx hf γ s σ H v u Q I r (k _ (Qc S hd e))
noncomputable def gQ(sc:Scope)(N:List Str):List Nat->List Expr->Bool
 |[],[]=>true
 |i::is,.Name x _::es=>(N[i]? ==some x)&&(sc.names.lookup x==some .local)&&gQ sc N is es
 |_,_=>false
inductive tY(X:Cx):List Nat->List Expr->Prop
 |nil:tY X [] []
 |cons {i:Nat} {is:List Nat} {x:Str} {p:Pos} {es:List Expr}:X.N[i]? =some x->Loc X.env.scope x->(X.fn x=true\/X.env.scope.names.lookup x=some .local)->tY X is es->tY X (i::is) (.Name x p::es)
theorem K3:∀{is:List Nat}{es:List Expr},gQ X.env.scope X.N is es=true->tY X is es
 |[],[]=>fun _=>.nil
 |[],_::_=>fun h=>by simp[gQ]at h
 |_::_,[]=>fun h=>by simp[gQ]at h
 |i::is,e::es=>fun h=>by
  cases e with
  |Name x p=>
   simp only[gQ,QUq,beq_iff_eq]at h
   exact .cons h.1.1 (.inl h.1.2) (.inr h.1.2) (K3 h.2)
  |_=>simp[gQ]at h
theorem zG(hN:X.N.Nodup):∀(is:List Nat)(es:List Expr),tY X is es->
  PGs X es (fun vs σ H Q=>∃env ds env',Sat X.K env σ H/\aq X.K H ds vs/\iQ is ds env=some env'/\∀ζ,jw X.K (.tup is) env σ env' ζ H->Q ζ H)
 |[],[],_=>fun γ s σ H vs us Q I r⟨env,ds,env',S,l,e,k⟩=>by
  cases ds with
  |nil=>
   cases e
   refine QL γ s σ H vs us Q I r ⟨aq.bO.mp l,k σ ⟨S,fun i _=>⟨rfl,rfl⟩,fun i hi=>?_,fun i xs _=>?_,rfl⟩⟩
   ·simp[slots]at hi
   ·simp[slots]
  |cons d ds=>cases e
 |i::is,_,.cons (x:=x) (p:=p) (es:=es) h1 h2 h3 h4=>by
   intro γ s σ H vs us Q I r q
   refine Kq (w6 hN h1 h2 h3) (zG hN is es h4) (by rfl) γ s σ H vs us Q I r ?_
   obtain⟨env,ds,env',S,l,e,k⟩:=q
   cases ds with
   |nil=>cases e
   |cons d ds=>
    obtain⟨v,vr,rfl,hd,l'⟩:=aq.aN.mp l
    have e':(bU i _ env).bind _=some env':=e
    cases e1:bU i _ env with
    |none=>rw[e1]at e';cases e'
    |some δ=>
     rw[e1]at e'
     refine⟨v,vr,rfl,env,d,δ,S,hd,e1,fun ξ s1=>⟨δ,ds,env',s1.eZ,l',e',fun υ s2=>k υ ⟨s2.eZ,fun j hj=>?_,fun j hj=>?_,fun j xs q hj=>?_,s2.len.trans s1.len⟩⟩⟩
     ·have h1:j∉slots (.name i):=fun z=>hj (by simp[slots]at z⊢;exact .inl z)
      have h2:=fun z=>hj (by simp[slots]at z⊢;exact .inr z)
      exact⟨(s2.same j h2).1.trans (s1.same j h1).1,(s2.same j h2).2.trans (s1.same j h1).2⟩
     ·by_cases h2:j∈slots (.tup is)
      ·exact s2.vals j h2
      ·obtain⟨d',q⟩:=s1.vals j (by simp[slots]at hj h2⊢;exact hj.resolve_right h2)
       exact⟨d',(s2.same j h2).1.trans q⟩
     ·by_cases h1:j∈slots (.name i)
      ·exact s1.bors j xs q h1
      ·exact s2.bors j xs ((s1.same j h1).1.trans q) (by simp[slots]at hj h1⊢;exact hj.resolve_left h1)
def Cg{is:List Nat}{k:Nat}(hN:X.N.Nodup)(hc:X.calm=true)(h:tY X is es)(hl:(assignEach es X.env).length=is.length)(hst:(assignEach es X.env).findIdx? (·.1)=none):GG X (.tup is) (.Tuple es k pos):=by
 intro γ s σ H v u Q I r q
 obtain⟨env,d,env',S,hd,e,k⟩:=q
 cases d with
 |tup ds=>
  obtain⟨a,vs,rfl,hq,l⟩:=cA hd
  refine WX hc (zG hN is es h) hl hst γ s σ H _ u Q I r ⟨a,vs,rfl,hq,?_,env,ds,env',S,l,e,k⟩
  have lens:∀is ds env env',iQ is ds env=some env'->ds.length=is.length:=by
   intro is
   induction is with
   |nil=>intro ds env env' e;cases ds with|nil=>rfl|cons _ _=>cases e
   |cons i is ih=>
    intro ds env env' e
    cases ds with
    |nil=>cases e
    |cons d ds=>
     have e':(bU i _ env).bind _=some env':=e
     cases e1:bU i _ env with
     |none=>rw[e1]at e';cases e'
     |some δ=>rw[e1]at e';simp[ih ds δ env' e']
  rw[<-l.length]
  exact lens is ds env env' e
 |_=>cases e
end
def W0:Wi:=fun _ _ _ _=>False
def Sat.lay{env:Ev}{H H2:Hp}(S:Sat K env σ H)(h:H2=H\/∃p vs,H p=none/\H2=upd H p (.tup vs)):Nx K env σ H env H2:=by
 rcases h with rfl|⟨p,vs,hp,rfl⟩
 ·exact Nx.refl S
 ·exact Nx.laid S hp
def rD{σ:St}{a:Addr}:aW (env.drop nl) (σ.drop nl) i a↔aW env σ (nl+i) a:=by
 unfold aW
 rw[List.getElem?_drop,List.getElem?_drop]
theorem Sat.drop{env:Ev}{H:Hp}(S:Sat K env σ H):Sat K (env.drop nl) (σ.drop nl) H:=by
 refine⟨by rw[List.length_drop,List.length_drop,S.len],fun i s e=>?_,fun i j a h1 h2=>?_⟩
 ·rw[List.getElem?_drop]at e⊢
  exact S.sl _ s e
 ·have:=S.ne _ _ a (rD.mp h1) (rD.mp h2)
  omega
def iB{σ:St}{i:Nat}(h:aW (List.replicate nl .un++env) (List.replicate nl none++σ) i a):∃j,i=nl+j/\aW env σ j a:=by
 obtain⟨⟨s,xs,e1,e2⟩,e3⟩:=h
 by_cases hi:i<nl
 ·rw[Qwz (by simpa using hi),List.getElem?_replicate,if_pos hi]at e1
  cases e1;cases e2
 ·refine⟨i-nl,by omega,?_⟩
  rw[QIz (by simp;omega)]at e1 e3
  simp only[List.length_replicate]at e1 e3
  exact⟨⟨s,xs,e1,e2⟩,e3⟩
def Sat.front{env:Ev}{H:Hp}(S:Sat K env σ H)nl:Sat K (List.replicate nl .un++env) (List.replicate nl none++σ) H:=by
 refine⟨by simp[S.len],fun i s e=>?_,fun i j a h1 h2=>?_⟩
 ·by_cases hi:i<nl
  ·rw[Qwz (by simpa using hi),List.getElem?_replicate,if_pos hi]at e
   cases e;trivial
  ·rw[QIz (by simp;omega)]at e⊢
   simp only[List.length_replicate]at e⊢
   exact S.sl _ s e
 ·obtain⟨i',rfl,o1⟩:=iB h1
  obtain⟨j',rfl,o2⟩:=iB h2
  rw[S.ne i' j' a o1 o2]
structure Ac(X:Cx)(c:Cf)(scope:Scope)(η:List Str)(tg:Tg)(cond elt:E)(Ψ Δ:Expr)(ifs:List Expr):Prop where
 sc:Ja X.env.scope scope η X.N
 small:∀i∈slots tg,i<η.length
 tgt:∀cl fp s₀ H₀,(blk X scope cl (bY η X.N) fp s₀ H₀).Ok->GG (blk X scope cl (bY η X.N) fp s₀ H₀) tg Ψ
 tests:(ifs=[]/\cond=.con (.bl true))\/∃ce,ifs=[ce]/\∀cl fp s₀ H₀,(blk X scope cl (bY η X.N) fp s₀ H₀).Ok->GT (blk X scope cl (bY η X.N) fp s₀ H₀) W0 c cond ce
 elts:∀cl fp s₀ H₀,(blk X scope cl (bY η X.N) fp s₀ H₀).Ok->GE (blk X scope cl (bY η X.N) fp s₀ H₀) W0 c elt Δ
structure LI(X:Cx)(c:Cf)(tg:Tg)(cond elt:E)(xs ys:List D)(τ env0:Ev)(σ σ0:St)(H3:Hp)(D:Addr)(nl i:Nat)(acc:List Mini.D)(vs:List V)(Ω:Ev)(ξ:St)(H1:Hp):Prop where
 le:i<=xs.length
 go:aY tg (ev c cond) (ev c elt) (xs.drop i) acc Ω=.ok ys τ
 eZ:Sat X.K Ω ξ H1
 out:ξ.drop nl=σ
 acl:acc.length<=i
 cur:H1 D=some (.lst vs)
 den:aq X.K H1 acc vs
 sub:∀k a,aW Ω ξ k a->aW env0 σ0 k a
 pers:bR H3 H1
 keep:∀b u,H3 b=some u->b≠D->(∀k,¬aW env0 σ0 k b)->H1 b=some u
 dom:∀b,H1 b=none->H3 b=none
 bors:∀(k:Nat)ws,env0[k]? =some (.bor ws)->∃ws',Ω[k]? =some (.bor ws')
section
variable{cond elt:E}{D:Addr}
def LI.no(L:LI X c tg cond elt xs ys τ env0 σ σ0 H3 D nl i acc vs Ω ξ H1)(hD:∀k,¬aW env0 σ0 k D):∀k,¬aW Ω ξ k D:=fun k z=>hD k (L.sub k D z)
end
structure Ch(K:QQq)(env:Ev)(σ:St)(H:Hp)(env':Ev)(ζ:St)(H':Hp):Prop where
 eZ:Sat K env' ζ H'
 sub:∀(i:Nat)a,aW env' ζ i a->aW env σ i a
 pers:bR H H'
 keep:∀b u,H b=some u->(∀i,¬aW env σ i b)->H' b=some u
 dom:∀b,H' b=none->H b=none
 bors:∀(i:Nat)xs,env[i]? =some (.bor xs)->∃ys,env'[i]? =some (.bor ys)
section
def Nx.ch(N:Nx K env σ H δ H1):Ch K env σ H δ σ H1:=⟨N.eZ,N.sub,N.pers,N.keep,N.dom,N.bors⟩
def jw.ch(h:jw K tg env σ δ ξ H):Ch K env σ H δ ξ H:=⟨h.eZ,fun _ _ z=>h.sub z,bR.refl H,fun _ _ z _=>z,fun _ z=>z,fun i xs e=>⟨xs,(h.same i (h.bors i xs e)).1.trans e⟩⟩
theorem Ch.trans(a:Ch K env σ H δ ξ H1)(b:Ch K δ ξ H1 ε υ H2):Ch K env σ H ε υ H2:=
 ⟨b.eZ,fun i c z=>a.sub i c (b.sub i c z),a.pers.trans b.pers,fun c vs z n=>b.keep c vs (a.keep c vs z n) fun i w=>n i (a.sub i c w),fun c z=>a.dom c (b.dom c z),fun i xs e=>let ⟨ys,e1⟩:=a.bors i xs e;b.bors i ys e1⟩
end
def jw.out{tg:Tg}{σ ξ:St}{nl:Nat}(h:jw K tg env σ δ ξ H)(hs:∀i∈slots tg,i<nl):ξ.drop nl=σ.drop nl:=by
 apply List.ext_getElem?
 intro i
 rw[List.getElem?_drop,List.getElem?_drop]
 exact(h.same _ fun z=>by have:=hs _ z;omega).2
section
variable{cond elt:E}{D:Addr}
theorem LI.skip(L:LI X c tg cond elt xs ys τ env0 σ σ0 H3 D nl i acc vs Ω ξ H1)(hD:∀k,¬aW env0 σ0 k D)(C:Ch X.K Ω ξ H1 τ2 υ H2)(hi:i<xs.length)(ho:υ.drop nl=σ)
  (go:aY tg (ev c cond) (ev c elt) (xs.drop (i+1)) acc τ2=.ok ys τ):LI X c tg cond elt xs ys τ env0 σ σ0 H3 D nl (i+1) acc vs τ2 υ H2 where
 le:=hi
 go:=go
 eZ:=C.eZ
 out:=ho
 acl:=Nat.le_succ_of_le L.acl
 cur:=C.keep D _ L.cur (L.no hD)
 den:=L.den.mono C.pers
 sub:=fun k a z=>L.sub k a (C.sub k a z)
 pers:=L.pers.trans C.pers
 keep:=fun b ws z n1 n2=>C.keep b ws (L.keep b ws z n1 n2) fun k o=>n2 k (L.sub k b o)
 dom:=fun b z=>L.dom b (C.dom b z)
 bors:=fun k ws e=>let ⟨w1,e1⟩:=L.bors k ws e;C.bors k w1 e1
def LI.push{v:V}(L:LI X c tg cond elt xs ys τ env0 σ σ0 H3 D nl i acc vs Ω ξ H1)(hD:∀k,¬aW env0 σ0 k D)(C:Ch X.K Ω ξ H1 τ2 υ H2)(hi:i<xs.length)(ho:υ.drop nl=σ)
  (go:aY tg (ev c cond) (ev c elt) (xs.drop (i+1)) (acc++[d]) τ2=.ok ys τ)(hd:bI X.K H2 d v):LI X c tg cond elt xs ys τ env0 σ σ0 H3 D nl (i+1) (acc++[d]) (vs++[v]) τ2 υ (upd H2 D (.lst (vs++[v]))):=by
 have cur:=C.keep D _ L.cur (L.no hD)
 have ne:∀b u,H2 b=some u->(∀ws,u≠ .lst ws)->b≠D:=fun b u q n z=>by subst z;rw[cur]at q;cases q;exact n vs rfl
 have p:bR H2 (upd H2 D (.lst (vs++[v]))):=⟨fun b ws q=>by rw[aC (ne b _ q (by intro ws z;cases z))];exact q,fun b o u q=>by rw[aC (ne b _ q (by intro ws z;cases z))];exact q⟩
 have no2:=fun k z=>L.no hD k (C.sub k D z)
 refine⟨hi,go,C.eZ.keep p fun k b u ow hb=>?_,ho,by rw[QTq];exact Nat.succ_le_succ L.acl,aU,((L.den.mono C.pers).append (aq.dg hd aq.gk)).mono p,fun k a z=>L.sub k a (C.sub k a z),
  (L.pers.trans C.pers).trans p,fun b ws z n1 n2=>?_,fun b z=>L.dom b (C.dom b ?_),fun k ws e=>let ⟨w1,e1⟩:=L.bors k ws e;C.bors k w1 e1⟩
 ·rw[aC (fun z=>by subst z;exact no2 k ow)];exact hb
 ·rw[aC n1]
  exact C.keep b ws (L.keep b ws z n1 n2) fun k o=>n2 k (L.sub k b o)
 ·by_cases hb:b=D
  ·subst hb;rw[aU]at z;cases z
  ·rw[aC hb]at z;exact z
end
def vK{α:Type}{xs:List α}{d:α}(h:xs[i]? =some d):xs.drop i=d::xs.drop (i+1):=by
 obtain⟨hi,e⟩:=QCz.mp h
 rw[List.drop_eq_getElem_cons hi,e]
def vL{X:Cx}{c:Cf}{scope:Scope}{η:List Str}{tg:Tg}{cond elt:E}{Ψ ο Δ:Expr}{ifs:List Expr}{pos:Pos}{cl:List (Str×Addr)}
  {γ:QQz}{σ:St}{H:Hp}{s:Shared}{env τ:Ev}{J:It}{fp:List Addr}{it:Addr}{tn:Nat->Heap->Prop}{xs ys:List D}{RR:Value->Addr->Result->Shared->Prop}{E:QZq}
  (B:Ac X c scope η tg cond elt Ψ Δ ifs)(hc:X.calm=true)(co:O2 scope X.env cl)
  (I:Inv X γ σ H s)(S:Sat X.K env σ H)(T:Turn X.prog X.w X.K Ψ J fp it tn)(t0:tn 0 s.heap)(hf:∀b∈fp,fY X γ H b)(G:Gives X.K J xs H)
  (hgo:aY tg (ev c cond) (ev c elt) xs [] (List.replicate η.length .un++env)=.ok ys τ)
  (hRR:∀(D C:Addr)(s':Shared)(H':Hp)(vs:List V)(m:QZz),Inv X γ σ H' s'->Nx X.K env σ H (τ.drop η.length) H'->H' D=some (.lst vs)->aq X.K H' ys vs->H D=none->
   s'.heap.Ns C m->fY X γ H' C->RR (.ref D) C (.ok .next) s'):
  wpAny (model X.prog X.w) X.A (newList []) (fun acc s₃=>wpAny (model X.prog X.w) X.A (newFunctionEnv scope X.env.globals cl [] X.env.qual none .none (some X.env)) (fun cenv s₄=>
   codeAny (model X.prog X.w) X.A (.compStart (.ListComp Δ [⟨Ψ,ο,ifs,0⟩] scope pos) 0 (.ref it) acc {cenv with scope:=relabel scope X.env}) (RR acc cenv.locals) s₄) E s₃) E s:=by
 have hlt:∀b∈fp,b<s.heap.objs.size:=fun b hb=>by
  obtain⟨o,e,_⟩:=T.obj 0 _ t0 b hb
  exact Qqz e
 refine Qjq (wpAny_newFunctionEnv B.sc.nocell (by intro y hy;simp at hy) (fun ω hns₁ hsb₁=>?_) B.sc.kind)
 dsimp only at hns₁ hsb₁⊢
 generalize hDd:s.heap.objs.size=D at*
 have hDn:H D=none:=by rw[<-hDd];exact I.hok.fresh (QVz _)
 have I3:Inv X γ σ (upd H D (.lst [])) {s with heap:=s.heap.push {cls:=.type "list",dict:=none,data:=.seq ([]:List Value).toArray}}:=by
  have:=I.laid (a:=s.heap.objs.size) (o:=.lst []) (t':=s.toks) (h':=s.heap.push {cls:=.type "list",dict:=none,data:=.seq ([]:List Value).toArray}) (fun b o e=>QWq _ e) (QVz _) ⟨QIq _,[],0,.nil,Qzq _ rfl⟩
  rw[hDd]at this
  exact this
 obtain⟨s3,hs3⟩:∃s3:Shared,s3={s with heap:=s.heap.push {cls:=.type "list",dict:=none,data:=.seq ([]:List Value).toArray}}:=⟨_,rfl⟩
 rw[<-hs3]at I3
 have hs3h:s.heap.push {cls:=.type "list",dict:=none,data:=.seq ([]:List Value).toArray}=s3.heap:=by rw[hs3]
 rw[hs3h]at hns₁ hsb₁⊢
 have hsz:s3.heap.objs.size=D+1:=by rw[<-hs3h,Heap.size_push,hDd]
 have hk3:∀b o,s3.heap.get? b=some o->ω.get? b=some o:=fun b o e=>hsb₁.extBut b o (Qvz (Qqz e)) (QWq _ e)
 have hk:∀b o,s.heap.get? b=some o->s3.heap.get? b=some o:=fun b o e=>by rw[<-hs3h];exact QWq _ e
 have hf3:∀b∈fp,fY X γ (upd H D (.lst [])) b:=fun b hb=>⟨by
  rw[aC (Qvz (hlt b hb))];exact(hf b hb).1,(hf b hb).2⟩
 have hlt3:∀b∈fp,b<s3.heap.objs.size:=fun b hb=>Qvq (hlt b hb) (by rw[hsz];exact Nat.le_succ _)
 have N3:Nx X.K env σ H env (upd H D (.lst [])):=Nx.laid S hDn
 generalize hH3:upd H D (.lst [])=H3 at I3 hf3 N3
 have hD3:H3 D=some (.lst []):=by rw[<-hH3];exact aU
 have noD:∀k,¬aW (List.replicate η.length .un++env) (List.replicate η.length none++σ) k D:=fun k z=>by
  obtain⟨j,_,o⟩:=iB z
  obtain⟨_,_,q,_⟩:=S.own o
  rw[hDn]at q;cases q
 have ok':(blk X scope cl (bY η X.N) fp s3 H3).Ok:=NZ I3 B.sc co hf3 hlt3
 have hns':ω.Ns s3.heap.objs.size fun _=>none:=by simpa using hns₁
 have fpk:∀{H1:Hp},(∀b∈fp,H1 b=none)->∀b∈fp,fY (blk X scope cl (bY η X.N) fp s3 H3) [] H1 b:=fun{H1}hn b hb=>
  ⟨hn b hb,(ok'.exf b hb).1,ok'.exfs b hb,.inl hb,fun x q e=>(ok'.exf b hb).2 x q e,fun p hp=>absurd (show p∈([]:QQz)from hp) (by simp)⟩
 have loop:∀s4:Shared,s4={s with heap:=ω,toks:=s.toks+([]:List (Str×Value)).length}->
   codeAny (model X.prog X.w) X.A (.compLoop (.ListComp Δ [⟨Ψ,ο,ifs,0⟩] scope pos) 0 (.ref it) (.ref D) (compEnvC scope cl s3.heap.objs.size X.env)) (RR (.ref D) s3.heap.objs.size) s4:=by
  rintro s4 rfl
  have I4:Inv (blk X scope cl (bY η X.N) fp s3 H3) [] (List.replicate η.length none++σ) H3 {s with heap:=ω,toks:=s.toks+([]:List (Str×Value)).length}:=by
   have:=Sh (t:=s.toks+([]:List (Str×Value)).length) I3 B.sc co hf3 hlt3 hns' hk3
   rw[hs3]at this⊢
   exact this
  refine xH (fun n s'=>∃i acc vs Ω ξ H1,n=xs.length-i/\Inv (blk X scope cl (bY η X.N) fp s3 H3) [] ξ H1 s'/\tn i s'.heap/\(∀b∈fp,H1 b=none)/\
   LI X c tg cond elt xs ys τ (List.replicate η.length .un++env) σ (List.replicate η.length none++σ) H3 D η.length i acc vs Ω ξ H1) ?_ xs.length ?_
  ·rintro n s1 ⟨i,acc,vs,Ω,ξ,H1,rfl,I1,t1,f1,L⟩
   by_cases hi:i<xs.length
   ·--one more turn
    obtain⟨d,hd⟩:∃d,xs[i]? =some d:=⟨xs[i],by simp[hi]⟩
    have q0:=L.go
    rw[vK hd,aY]at q0
    cases hset:bj tg d Ω with
    |none=>rw[hset]at q0;cases q0
    |some τ2=>
     rw[hset]at q0
     simp only at q0
     have p1:bR H H1:=N3.pers.trans L.pers
     refine cB (T.item (blk X scope cl (bY η X.N) fp s3 H3) rfl rfl rfl hc i [] s1 ξ H1 _ I1 (fpk f1) t1 (G.go H1 p1 i d hd)) fun r s2⟨u,hr,h2⟩=>?_
     subst hr
     refine cB h2 fun _ s3'⟨x,H2,I2,r2,y2,t2,f2⟩=>?_
     obtain⟨Dx,lay⟩:=G.yld H1 p1 i d hd x H2 y2
     have N2:=L.eZ.lay lay
     have D2:H2 D=some (.lst vs):=N2.keep D _ L.cur (L.no noD)
     have I2':=I2.pinned (fpk f2) (T.obj _ _ t2)
     refine cB (B.tgt cl fp s3 H3 ok' _ s3' ξ H2 x u (fun υ H'=>H'=H2/\jw X.K tg Ω ξ τ2 υ H2) I2' r2 ⟨Ω,d,τ2,N2.eZ,Dx,hset,fun υ st=>⟨rfl,st⟩⟩) fun _ s4'⟨υ,H2',I3',hH,st⟩=>?_
     subst hH
     have ho:υ.drop η.length=σ:=(st.out B.small).trans L.out
     have C2:Ch X.K Ω ξ H1 τ2 υ H2':=N2.ch.trans st.ch
     have again:∀{s7:Shared}{H7:Hp}{acc':List Mini.D}{vs':List V}{τ7:Ev},Inv (blk X scope cl (bY η X.N) fp s3 H3) ([]++rB fp s3'.heap) υ H7 s7->
       LI X c tg cond elt xs ys τ (List.replicate η.length .un++env) σ (List.replicate η.length none++σ) H3 D η.length (i+1) acc' vs' τ7 υ H7->
       ∃k,k<xs.length-i/\∃i acc vs Ω ξ H1,k=xs.length-i/\Inv (blk X scope cl (bY η X.N) fp s3 H3) [] ξ H1 s7/\tn i s7.heap/\(∀b∈fp,H1 b=none)/\
        LI X c tg cond elt xs ys τ (List.replicate η.length .un++env) σ (List.replicate η.length none++σ) H3 D η.length i acc vs Ω ξ H1:=fun{s7 H7 acc' vs' τ7}I7 L7=>by
      refine⟨xs.length- (i+1),by omega,i+1,acc',vs',τ7,υ,H7,rfl,I7.mK,T.keep _ _ _ t2 fun b hb o e=>(I7.pin (b,o) (QVq _ (QVq _ (iY hb e)))).1,fun b hb=>?_,L7⟩
      obtain⟨o,e,_⟩:=T.obj _ _ t2 b hb
      exact(I7.pin (b,o) (QVq _ (QVq _ (iY hb e)))).2.1
     obtain⟨xc,dc,bc,τ3,e1,e2,e3,q1⟩:∃xc dc bc τ3,ev c cond τ2=.ok xc τ3/\xc.jA=some dc/\iw dc=some bc/\
       (if bc then(ev c elt τ3).ao fun d σ₃=>aY tg (ev c cond) (ev c elt) (xs.drop (i+1)) (acc++[d]) σ₃ else aY tg (ev c cond) (ev c elt) (xs.drop (i+1)) acc τ3)=.ok ys τ:=by
      cases r:ev c cond τ2 with
      |bad=>rw[r]at q0;cases q0
      |exc k τ3=>rw[r]at q0;cases q0
      |ok xc τ3=>
       rw[r]at q0
       cases xc with
       |ref k=>cases q0
       |val dc=>
        simp only[Out.cH,Out.ao]at q0
        cases q:iw dc with
        |none=>rw[q]at q0;cases q0
        |some bc=>rw[q]at q0;exact⟨_,dc,bc,τ3,rfl,rfl,q,q0⟩
       |new zs=>
        simp only[Out.cH,Out.ao]at q0
        cases q:iw zs.d with
        |none=>rw[q]at q0;cases q0
        |some bc=>rw[q]at q0;exact⟨_,zs.d,bc,τ3,rfl,rfl,q,q0⟩
     have after:∀(s5:Shared)(H5:Hp),Inv (blk X scope cl (bY η X.N) fp s3 H3) ([]++rB fp s3'.heap) υ H5 s5->Nx X.K τ2 υ H2' τ3 H5->
       (if bc=true then wpAny (model X.prog X.w) X.A (eval Δ (compEnvC scope cl s3.heap.objs.size X.env)) (fun x s₄=>
        wpAny (model X.prog X.w) X.A (call (.builtin "list.append") [.ref D,x]) (fun _ s₅=>∃m,m<xs.length-i/\∃i acc vs Ω ξ H1,m=xs.length-i/\Inv (blk X scope cl (bY η X.N) fp s3 H3) [] ξ H1 s₅/\tn i s₅.heap/\(∀b∈fp,H1 b=none)/\
        LI X c tg cond elt xs ys τ (List.replicate η.length .un++env) σ (List.replicate η.length none++σ) H3 D η.length i acc vs Ω ξ H1) (fun _ _=>False) s₄) (fun _ _=>False) s5
       else∃m,m<xs.length-i/\∃i acc vs Ω ξ H1,m=xs.length-i/\Inv (blk X scope cl (bY η X.N) fp s3 H3) [] ξ H1 s5/\tn i s5.heap/\(∀b∈fp,H1 b=none)/\
        LI X c tg cond elt xs ys τ (List.replicate η.length .un++env) σ (List.replicate η.length none++σ) H3 D η.length i acc vs Ω ξ H1):=fun s5 H5 I5 N5=>by
      have C5:=C2.trans N5.ch
      cases bc with
      |false=>
       rw[if_neg Qjz]at q1⊢
       exact again I5 (L.skip noD C5 hi ho q1)
      |true=>
       rw[if_pos rfl]at q1⊢
       obtain⟨xe,de,τ4,e4,e5,q2⟩:∃xe de τ4,ev c elt τ3=.ok xe τ4/\xe.jA=some de/\aY tg (ev c cond) (ev c elt) (xs.drop (i+1)) (acc++[de]) τ4=.ok ys τ:=by
        cases r:ev c elt τ3 with
        |bad=>rw[r]at q1;cases q1
        |exc k τ3=>rw[r]at q1;cases q1
        |ok xe τ4=>
         rw[r]at q1
         cases xe with
         |ref k=>cases q1
         |val de=>exact⟨_,de,τ4,rfl,rfl,q1⟩
         |new zs=>exact⟨_,zs.d,τ4,rfl,rfl,q1⟩
       refine cB ((B.elts cl fp s3 H3 ok').d _ s5 υ H5 (fun v H6=>Nx X.K τ3 υ H5 τ4 H6/\bI X.K H6 de v) I5 ⟨τ3,N5.eZ,?_⟩) fun u s6⟨v,H6,I6,r6,N6,D6⟩=>?_
       ·rw[e4]
        cases xe with
        |ref k=>cases e5
        |val d'=>cases e5;exact fun v H' N Dv=>⟨N,Dv⟩
        |new zs=>cases e5;exact fun v H' N Dv=>⟨N,Dv⟩
       ·have C6:=C5.trans N6.ch
        have cur:=C6.keep D _ L.cur (L.no noD)
        have lenv:vs.length<sizeLine:=by
         have h1:=L.den.length
         have h2:=L.acl
         have h3:=G.len
         omega
        refine cB (uX (X:=blk X scope cl (bY η X.N) fp s3 H3) _ s6 υ H6 (.ref D) [v] (.ref D) [u] (fun _ H7=>H7=upd H6 D (.lst (vs++[v]))) I6 rfl (.cons r6 .nil) ⟨D,vs,v,rfl,rfl,cur,lenv,rfl⟩) fun _ s7⟨_,H7,I7,_,e7⟩=>?_
        subst e7
        exact again I7 (L.push noD C6 hi ho q2 D6)
     rcases B.tests with ⟨ei,ec⟩|⟨ce,ei,hC⟩
     ·subst ei ec
      simp only[v_0,v_1,v_2,v_3,v_4,v_5,v_6,v_7,v_8,Zr,Gx,PB,aaB,Jq,aaA,aaz,VM,Pz,Py,aay,pU,VL,VJ,aax,VH,mJ]at e1
      cases e1
      cases e2
      cases e3
      exact QKz (after s4' H2' I3' (Nx.refl st.eZ))
     ·subst ei
      refine wpAny_tests_one (cB (hC cl fp s3 H3 ok' _ s4' υ H2' (fun k H'=>k=bc/\Nx X.K τ2 υ H2' τ3 H') I3' ⟨τ2,st.eZ,by rw[e1];exact⟨dc,bc,e2,e3,fun H' N=>⟨rfl,N⟩⟩⟩) fun k s5⟨H5,I5,hk',N5⟩=>?_)
      subst hk'
      exact after s5 H5 I5 N5
   ·--the end
    have e:i=xs.length:=Nat.le_antisymm L.le (Nat.le_of_not_lt hi)
    have q0:=L.go
    rw[e,List.drop_length,aY]at q0
    cases q0
    refine cB (T.done (blk X scope cl (bY η X.N) fp s3 H3) rfl rfl rfl hc i [] s1 ξ H1 _ I1 (fpk f1) t1 (G.stop H1 (N3.pers.trans L.pers) i (by omega))) fun r s2⟨hr,I2⟩=>?_
    subst hr
    obtain⟨m,hm,_⟩:=I2.loc
    have IX:Inv X γ σ H1 s2:=Inv.call' I3 I2.os I2.base I2.hok I2.bare fun b hb=>⟨(hf3 b hb).2.2.2.1,(hf3 b hb).2.1,(hf3 b hb).2.2.2.2.1,(hf3 b hb).2.2.2.2.2⟩
    refine hRR D s3.heap.objs.size s2 H1 vs m IX ⟨?_,fun k a z=>?_,N3.pers.trans L.pers,fun b ws z w=>?_,fun b z=>N3.dom b (L.dom b z),fun k ws z=>?_⟩ L.cur L.den hDn hm (I3.zJ (QVz _) I2.free)
    ·have:=L.eZ.drop (nl:=η.length)
     rw[L.out]at this
     exact this
    ·have z':aW (τ.drop η.length) (ξ.drop η.length) k a:=by rw[L.out];exact z
     obtain⟨j,ej,o⟩:=iB (L.sub _ a (rD.mp z'))
     have:k=j:=by omega
     subst this
     exact o
    ·refine L.keep b ws (N3.keep b ws z w) (fun q=>?_) fun k o=>?_
     ·subst q;rw[hDn]at z;cases z
     ·obtain⟨j,_,o'⟩:=iB o
      exact w j o'
    ·obtain⟨ws',q⟩:=L.bors (η.length+k) ws (by rw[QIz (by simp)];simpa using z)
     exact⟨ws',by rw[List.getElem?_drop];exact q⟩
  ·refine⟨0,[],[],_,_,H3,rfl,I4,T.keep _ _ _ t0 fun b _ o e=>hk3 b o (hk b o e),fun b hb=>(hf3 b hb).1,⟨QIq _,hgo,N3.eZ.front _,by simp,QVz _,hD3,aq.gk,fun _ _ z=>z,bR.refl _,fun _ _ z _ _=>z,fun _ z=>z,fun _ ws z=>⟨ws,z⟩⟩⟩
 exact codeAny_compStart_list (loop _ rfl) (T.self _ 0 _ _ _ (T.keep _ _ _ t0 fun b _ o e=>hk3 b o (hk b o e)) (loop _ rfl))
section
noncomputable def eG:Cm->CmpOp
 |.eq=>.Eq
 |.ne=>.NotEq
 |.lt=>.Lt
 |.le=>.LtE
 |.gt=>.Gt
 |.isin=>.In
 |.notin=>.NotIn
 |.fQ=>.Is
 |.notN=>.IsNot
def iH(X:Cx)(op:CmpOp)(f:D->D->Option Bool):Prop:=
 ∃r,fX X (compareOp op) r/\∀(H:Hp)(x y:D)(k:Bool)(v u:V)(Q:VK),bI X.K H x v->cW X.K H y u->f x y=some k->Q (.bl k) H->r v u H Q
theorem cW.int{H:Hp}{v:V}(h:cW K H (.int i) v):v=.int i:=by
 rcases h with h|⟨o,a,q,_⟩
 ·exact h
 ·cases o<;>cases q
def JX{g:Int->Int->Bool}(ho:fX X (compareOp op) (O9 fun i j=>.bl (g i j)))(hf:∀x y k,f x y=some k->∃i j,x=.int i/\y=.int j/\k=g i j):iH X op f:=
 ⟨_,ho,fun H x y k v u Q Dx Dy e q=>by
  obtain⟨i,j,rfl,rfl,rfl⟩:=hf x y k e
  exact⟨i,j,Dx,Dy.int,q⟩⟩
def abp(hu:X.A.units+60<cLine):iH X .Eq (aQ .eq):=⟨_,Xj hu,fun H x y k v u Q Dx Dy e q=>by
 unfold aQ at e;dsimp only at e
 split at e
 ·rename_i h;cases e;exact⟨x,y,.inl Dx,Dy,h,q⟩
 ·cases e⟩
def abk(hu:X.A.units+60<cLine):iH X .NotEq (aQ .ne):=⟨_,Xb hu,fun H x y k v u Q Dx Dy e q=>by
 unfold aQ at e;dsimp only at e
 split at e
 ·rename_i h;cases e;exact⟨x,y,.inl Dx,Dy,h,q⟩
 ·cases e⟩
def abm:iH X .LtE (aQ .le):=JX abQ fun x y k e=>by
 cases x<;>cases y<;>(unfold aQ at e;simp at e)
 exact⟨_,_,rfl,rfl,e.symm⟩
def cW.Qf{H:Hp}{v:V}(h:cW K H (.tup xs) v):Oz K H xs v:=by
 rcases h with h|⟨o,a,q,_⟩
 ·obtain⟨a,vs,rfl,hq,l⟩:=cA h
  exact⟨a,vs,rfl,.inr hq,l⟩
 ·cases o<;>cases q
def cW.JM{H:Hp}{v:V}(h:cW K H (.lst xs) v):Oz K H xs v:=by
 rcases h with h|⟨o,a,q,rfl,u,ha,hq⟩
 ·obtain⟨a,vs,rfl,hq,l⟩:=cU h
  exact⟨a,vs,rfl,.inl hq.sq,l⟩
 ·cases o<;>cases q
  obtain⟨vs,rfl,l⟩:=hq
  exact⟨a,vs,rfl,.inl (.inl (.inl ha)),l⟩
theorem cW.str{H:Hp}{v:V}(h:cW K H (.str x) v):v=.str x:=by
 rcases h with h|⟨o,a,q,_⟩
 ·exact h
 ·cases o<;>cases q
def Mj(x y:Str)(h:x.length=1):(!(Builtin.Str.occurrences y x 0 y.length 1).isEmpty)=aJ (.str x) (signs y):=by
 obtain⟨cps⟩:=x
 obtain⟨l⟩:=cps
 have hl:=h
 match l,hl with
 |[k],_=>
  have:=PySem.StrLaws.found_one y k
  rw[this]
  unfold signs
  generalize y.cps.toList=cs
  induction cs with
  |nil=>rfl
  |cons z zs ih=>
   show decide _=(cQ _ _||aJ _ _)
   rw[<-ih]
   have e:cQ (.str ⟨#[z]⟩) (.str ⟨#[k]⟩)=decide (k=z):=by
    simp only[cQ]
    by_cases q:k=z
    ·subst q;simp
    ·have q':¬z=k:=fun e=>q e.symm
     simp[q,q']
   rw[e]
   by_cases q:k=z
   ·simp[q]
   ·simp[q]
def j7{kvs:List (Key×V)}(k:Key):(jF kvs k).isSome=aJ (dW k) (kvs.map fun p=>dW p.1):=by
 induction kvs with
 |nil=>rfl
 |cons p r ih=>
  obtain⟨k',v⟩:=p
  show _=(cQ _ _||aJ _ _)
  rw[<-ih]
  have e:cQ (dW k') (dW k)=decide (k'=k):=by
   cases k'<;>cases k<;>simp[dW,cQ,Bool.beq_eq_decide_eq]
  rw[e]
  by_cases q:k'=k
  ·subst q;simp[mG]
  ·simp[q,mH]
def f9(h:keyOk x=true):∃k:Key,x=dW k:=by
 cases x<;>simp[keyOk]at h
 ·exact⟨.inl _,rfl⟩
 ·exact⟨.inr _,rfl⟩
def lu{H:Hp}{v:V}(h:bI K H (dW k) v):v=kV k:=by
 cases k<;>exact h
noncomputable def J8(neg:Bool):R2:=fun x y H Q=>∃a k kvs,y=.ref a/\x=kV k/\Rd H a (.dK kvs)/\Q (.bl (if neg then !(jF kvs k).isSome else(jF kvs k).isSome)) H
def KN(hu:X.A.units+1<cLine):fX X (compareOp .In) (J8 false):=by
 intro γ s σ H x y v u Q I rx ry h
 obtain⟨a,k,kvs,rfl,rfl,hd,q⟩:=h
 cases ry
 exact ags hu I ⟨kvs,k,hd,rfl,rfl⟩ rx fun s3 I3=>⟨.bl _,H,I3,rfl,q⟩
def yW(hu:X.A.units+1<cLine):fX X (compareOp .NotIn) (J8 true):=by
 intro γ s σ H x y v u Q I rx ry h
 obtain⟨a,k,kvs,rfl,rfl,hd,q⟩:=h
 cases ry
 exact R4 hu I ⟨kvs,k,hd,rfl,rfl⟩ rx fun s3 I3=>⟨.bl _,H,I3,rfl,q⟩
def jf{H:Hp}{v:V}(h:cW K H (.cR ks ds) v):∃a kvs,v=.ref a/\Rd H a (.dK kvs)/\ks=kvs.map (fun p=>dW p.1)/\aq K H ds (kvs.map (·.2)):=by
 rcases h with h|⟨o,a,q,rfl,u,ha,hq⟩
 ·unfold bI at h;obtain⟨a,o,kvs,e,r,k⟩:=h;exact⟨a,kvs,e,.inr ⟨o,r⟩,k⟩
 ·cases o<;>cases q
  obtain⟨kvs,rfl,k,l⟩:=hq
  exact⟨a,kvs,rfl,.inl ha,k,l⟩
noncomputable def aby(K:QQq)(neg:Bool):R2:=fun x y H Q=>∃a d k xs,x=.ref a/\y=.ref d/\Rd H d (.dS xs)/\(∀x∈xs,cM K H x.1 x.2.1)/\cM K H k a/\Q (.bl (if neg then !(wK k xs).isSome else(wK k xs).isSome)) H
def Xg(hu:X.A.units+9<cLine):fX X (compareOp .In) (aby X.K false):=by
 intro γ s σ H x y v u Q I rx ry h
 obtain⟨a,d,k,xs,rfl,rfl,hd,hk,ha,q⟩:=h
 cases rx
 cases ry
 exact aer hu I hd hk ha fun s3 I3=>⟨.bl _,H,I3,rfl,q⟩
def Hm(hu:X.A.units+9<cLine):fX X (compareOp .NotIn) (aby X.K true):=by
 intro γ s σ H x y v u Q I rx ry h
 obtain⟨a,d,k,xs,rfl,rfl,hd,hk,ha,q⟩:=h
 cases rx
 cases ry
 exact Qi hu I hd hk ha fun s3 I3=>⟨.bl _,H,I3,rfl,q⟩
def xu{K:QQq}{H:Hp}{ks ds:List D}{v:V}(h:cW K H (.g8 ks ds) v):∃a xs,v=.ref a/\Rd H a (.dS xs)/\gH K H ks ds xs:=by
 rcases h with h|⟨o,a,q,rfl,u,ha,hq⟩
 ·unfold bI at h;obtain⟨a,o,xs,e,r,k⟩:=h;exact⟨a,xs,e,.inr ⟨o,r⟩,k⟩
 ·cases o<;>cases q
  obtain⟨xs,rfl,k⟩:=hq
  exact⟨a,xs,rfl,.inl ha,k⟩
noncomputable def abB(K:QQq)(b:Bool):R2:=fun x y H Q=>∃a d k,x=.ref a/\y=.ref d/\Rd H d (.dK [])/\cM K H k a/\Q (.bl b) H
def Xi(hu:X.A.units+9<cLine):fX X (compareOp .In) (abB X.K false):=by
 intro γ s σ H x y v u Q I rx ry h
 obtain⟨a,d,k,rfl,rfl,hd,ha,q⟩:=h
 cases rx
 cases ry
 exact abf hu I hd ha fun s3 I3=>⟨.bl _,H,I3,rfl,q⟩
def Q3(hu:X.A.units+9<cLine):fX X (compareOp .NotIn) (abB X.K true):=by
 intro γ s σ H x y v u Q I rx ry h
 obtain⟨a,d,k,rfl,rfl,hd,ha,q⟩:=h
 cases rx
 cases ry
 exact JR hu I hd ha fun s3 I3=>⟨.bl _,H,I3,rfl,q⟩
def abn(hu:X.A.units+60<cLine):iH X .In (aQ .isin):=
 ⟨_,(Xh hu).or ((KN (by omega)).or (Ho.or ((Xg (by omega)).or (Xi (by omega))))),fun H x y k v u Q Dx Dy e q=>by
  cases y with
  |tup xs=>
   unfold aQ at e;dsimp only at e
   split at e
   ·rename_i h;cases e;exact .inl ⟨x,xs,Dx,Dy.Qf,h,q⟩
   ·cases e
  |lst xs=>
   unfold aQ at e;dsimp only at e
   split at e
   ·rename_i h;cases e;exact .inl ⟨x,xs,Dx,Dy.JM,h,q⟩
   ·cases e
  |cR ks vs=>
   unfold aQ at e;dsimp only at e
   split at e
   ·rename_i h
    cases e
    obtain⟨k,rfl⟩:=f9 h
    obtain⟨a,kvs,rfl,ha,rfl,l⟩:=jf Dy
    exact .inr (.inl ⟨a,k,kvs,rfl,lu Dx,ha,by simpa[j7]using q⟩)
   ·split at e
    ·rename_i h
     rw[QUq,List.isEmpty_iff]at h
     cases e
     obtain⟨a,rfl,ka⟩:=iM h.1 Dx
     obtain⟨d,kvs,rfl,ha,hk,l⟩:=jf Dy
     rw[h.2]at hk
     cases kvs with
     |nil=>exact .inr (.inr (.inr (.inr ⟨a,d,_,rfl,rfl,ha,ka,q⟩)))
     |cons=>cases hk
    ·cases e
  |g8 ks vs=>
   unfold aQ at e;dsimp only at e
   split at e
   ·rename_i h
    cases e
    obtain⟨a,rfl,ka⟩:=iM h Dx
    obtain⟨d,xs,rfl,hd,l⟩:=xu Dy
    exact .inr (.inr (.inr (.inl ⟨a,d,kC x,xs,rfl,rfl,hd,l.zy,ka,by rw[l.inD h]at q;simpa using q⟩)))
   ·cases e
  |str y=>
   cases x with
   |str x=>
    unfold aQ at e;dsimp only at e
    split at e
    ·rename_i h;cases e;exact .inr (.inr (.inl ⟨x,y,Dx,Dy.str,by rw[Mj x y h];exact q⟩))
    ·cases e
   |_=>unfold aQ at e;simp at e
  |_=>unfold aQ at e;simp at e⟩
def JZ(hu:X.A.units+60<cLine):iH X .NotIn (aQ .notin):=
 ⟨_,(Hn hu).or ((yW (by omega)).or ((Hm (by omega)).or (Q3 (by omega)))),fun H x y k v u Q Dx Dy e q=>by
  cases y with
  |tup xs=>
   unfold aQ at e;dsimp only at e
   split at e
   ·rename_i h;cases e;exact .inl ⟨x,xs,Dx,Dy.Qf,h,q⟩
   ·cases e
  |lst xs=>
   unfold aQ at e;dsimp only at e
   split at e
   ·rename_i h;cases e;exact .inl ⟨x,xs,Dx,Dy.JM,h,q⟩
   ·cases e
  |cR ks vs=>
   unfold aQ at e;dsimp only at e
   split at e
   ·rename_i h
    cases e
    obtain⟨k,rfl⟩:=f9 h
    obtain⟨a,kvs,rfl,ha,rfl,l⟩:=jf Dy
    exact .inr (.inl ⟨a,k,kvs,rfl,lu Dx,ha,by simpa[j7]using q⟩)
   ·split at e
    ·rename_i h
     rw[QUq,List.isEmpty_iff]at h
     cases e
     obtain⟨a,rfl,ka⟩:=iM h.1 Dx
     obtain⟨d,kvs,rfl,ha,hk,l⟩:=jf Dy
     rw[h.2]at hk
     cases kvs with
     |nil=>exact .inr (.inr (.inr ⟨a,d,_,rfl,rfl,ha,ka,q⟩))
     |cons=>cases hk
    ·cases e
  |g8 ks vs=>
   unfold aQ at e;dsimp only at e
   split at e
   ·rename_i h
    cases e
    obtain⟨a,rfl,ka⟩:=iM h Dx
    obtain⟨d,xs,rfl,hd,l⟩:=xu Dy
    exact .inr (.inr (.inl ⟨a,d,kC x,xs,rfl,rfl,hd,l.zy,ka,by rw[l.inD h]at q;simpa using q⟩))
   ·cases e
  |_=>unfold aQ at e;simp at e⟩
end
section
open PySem.SeqAt
open PySem.AutoSeq1 (wpAny_loadPart')
open PySem.MeetsSeq PySem.MeetsSeq2 PySem.MeetsSeq3
inductive BoolsAre:List Value->List Bool->Prop
 |nil:BoolsAre [] []
 |cons (b:Bool) {vs:List Value} {bs:List Bool}:BoolsAre vs bs->BoolsAre (.bool b::vs) (b::bs)
theorem BoolsAre.length{bs:List Bool}(h:BoolsAre vs bs):vs.length=bs.length:=by
 induction h with
 |nil=>rfl
 |cons b _ ih=>simp[ih]
def u5 x y xs ys:lE (x::xs) (y::ys)=if x=y then lE xs ys else(!x&&y):=rfl
def Ey:lE [] []=false:=rfl
def Ez y ys:lE [] (y::ys)=true:=rfl
def Rj x xs:lE (x::xs) []=false:=rfl
def uN(A:Around)(s:Shared)(a c:Bool)(prog:Program)(w:World)(E:QZq)(Q:QZq)(h:Q (.bool (!a&&c)) s):
  wpAny (model prog w) A (richCompare .Lt (.bool a) (.bool c)) Q E s:=
 (PyProof.Rows.lt_bool (by cases a<;>cases c<;>exact h))
def qI l b items items2 n n2 dd dd2 sl sl2 ns ms(hi:BoolsAre items.toList ns)(hj:BoolsAre items2.toList ms):
  Meets (Builtin.«tuple.__lt__» ⟨[.ref l,.ref b],[]⟩)
   (fun _ R s=>s.heap.get? l=some {cls:=.type "tuple",dict:=dd,data:=.seq items n,slots:=sl}/\s.heap.get? b=some {cls:=.type "tuple",dict:=dd2,data:=.seq items2 n2,slots:=sl2}/\
    R (.ok (.ret (.bool (lE ns ms)))) s):=
 .of_wp fun prog w A R s h=>by
  obtain⟨hp,g,d,tk,os⟩:=s;obtain⟨hl,hb,h⟩:=h
  have f2:=AutoSeq1.sub_tuple_tuple
  have z1:items.size=ns.length:=by rw[<-hi.length];simp
  have z2:items2.size=ms.length:=by rw[<-hj.length];simp
  wp_walk using wpAny_loadPart' hl,wpAny_loadPart' hb,wpAny_forIn_list _ (fun rest b s'=>b.1=none/\s'=⟨hp,g,d,tk,os⟩/\∃(vs ws:List Value)(ns' ms':List Bool),rest=vs.zip ws/\
   BoolsAre vs ns'/\BoolsAre ws ms'/\ns'.length+items2.size=ms'.length+items.size/\R (.ok (.ret (.bool (lE ns' ms')))) ⟨hp,g,d,tk,os⟩) _
  case turn=>
   rintro ⟨y,x⟩ rest b s' ⟨hb',rfl,vs,ws,ns',ms',hz,hvi,hwi,hlen,hR⟩
   cases hvi with
   |nil=>rw[List.zip_nil_left]at hz;cases hz
   |cons a hvi'=>
    cases hwi with
    |nil=>rw[List.zip_nil_right]at hz;cases hz
    |cons c hwi'=>
     rw[List.zip_cons_cons]at hz
     injection hz with hyx hrest
     injection hyx with hy hx
     subst hy hx
     rw[u5]at hR
     simp only[QBq]at hlen
     refine QKq ((SeqAt.EqAt.bool_bool (A:=A.in1) (s:=⟨hp,g,d,tk,os⟩) a c) prog w _ _ ?_)
     by_cases hac:a=c
     ·subst hac
      rw[if_pos rfl]at hR
      rw[beq_self_eq_true]
      wp_walk
      exact⟨rfl,rfl,_,_,_,_,hrest,hvi',hwi',by omega,hR⟩
     ·rw[if_neg hac]at hR
      wp_walk using (uN A.in1 ⟨hp,g,d,tk,os⟩ a c prog w)
      exact⟨_,rfl,by simpa using hR⟩
  case fin=>
   rintro ⟨b1,b2⟩ s' ⟨hb',rfl,vs,ws,ns',ms',hz,hvi,hwi,hlen,hR⟩
   simp only at hb'
   subst hb'
   have hv:lE ns' ms'=decide (items.size<items2.size):=by
    cases hvi with
    |nil=>
     cases hwi with
     |nil=>
      rw[Ey]
      exact(QEz (by omega)).symm
     |cons c hw=>
      simp only[List.length_nil,QBq]at hlen
      rw[Ez]
      exact(QFq (by omega)).symm
    |cons a hv=>
     cases hwi with
     |nil=>
      simp only[List.length_nil,QBq]at hlen
      rw[Rj]
      exact(QEz (by omega)).symm
     |cons c hw=>
      rw[List.zip_cons_cons]at hz
      cases hz
   rw[hv]at hR
   wp_walk
   exact⟨_,rfl,by simpa[Builtin.Tuple.tupleCompareSizes]using hR⟩
  case h=>
   exact⟨rfl,rfl,items.toList,items2.toList,ns,ms,rfl,hi,hj,by omega,h⟩
end
theorem gb{K:QQq}{H:Hp}:∀{ds:List D}{vs:List V}{us:List Value}{bs:List Bool},bools ds=some bs->aq K H ds vs->Vals vs us->BoolsAre us bs
 |[],vs,us,bs,e,l,r=>by
  cases e
  rw[aq.bO.mp l]at r
  cases r
  exact .nil
 |d::ds,vs,us,bs,e,l,r=>by
  obtain⟨v,w,rfl,h1,h2⟩:=aq.aN.mp l
  cases d with
  |bl b=>
   simp only[bools,QJz]at e
   obtain⟨bs',e1,rfl⟩:=e
   cases h1
   cases r with
   |cons r1 r2=>cases r1;exact .cons b (gb e1 h2 r2)
  |_=>cases e
section
variable{m m1 m2 m3:E}
noncomputable def afl(K:QQq):R2:=fun x y H Q=>∃xs ys bs cs,bI K H (.tup xs) x/\bI K H (.tup ys) y/\bools xs=some bs/\bools ys=some cs/\Q (.bl (lE bs cs)) H
def Xe(hu:X.A.units<cLine):fX X (compareOp .Lt) (afl X.K):=by
 intro γ s σ H x y v u Q I rx ry h
 obtain⟨xs,ys,bs,cs,Dx,Dy,e1,e2,q⟩:=h
 obtain⟨a,vs,rfl,ha,la⟩:=cA Dx
 obtain⟨b,ws,rfl,hb,lb⟩:=cA Dy
 cases rx
 cases ry
 obtain⟨its,r1,p1,_⟩:=I.tuple ha
 obtain⟨its2,r2,p2,_⟩:=I.tuple hb
 obtain⟨⟨cls,dd,data,sl⟩,ho,hc,n,hd⟩:=id p1
 obtain⟨⟨cls2,dd2,data2,sl2⟩,ho2,hc2,n2,hd2⟩:=id p2
 subst hc hd hc2 hd2
 exact richCompare_meets_room (op:=.Lt) ⟨_,ho,rfl⟩ ⟨_,ho2,rfl⟩ PySem.F.slot_tuple_lt PySem.F.entry_tuple_lt (PySem.F.args_tuple_lt_2 _ _)
  (qI a b its.toArray its2.toArray n n2 dd dd2 sl sl2 bs cs (by simpa using gb e1 la r1) (by simpa using gb e2 lb r2))
  ⟨ho,ho2,show Value.bool _≠Value.notImplemented/\EP X γ σ Q _ s from⟨(fun x=>nomatch x),⟨.bl _,H,I,rfl,q⟩⟩⟩ hu
theorem cW.tup{K:QQq}{H:Hp}{xs:List D}{v:V}(h:cW K H (.tup xs) v):bI K H (.tup xs) v:=by
 rcases h with h|⟨o,a,q,_⟩
 ·exact h
 ·cases o<;>cases q
def abl(hu:X.A.units+60<cLine):iH X .Lt (aQ .lt):=
 ⟨_,abP.or (Xe (by omega)),fun H x y k v u Q Dx Dy e q=>by
  cases x with
  |int i=>
   cases y with
   |int j=>cases e;exact .inl ⟨i,j,Dx,Dy.int,q⟩
   |_=>cases e
  |tup xs=>
   cases y with
   |tup ys=>
    unfold aQ at e;dsimp only[ltD]at e
    cases e1:bools xs with
    |none=>rw[e1]at e;cases e
    |some bs=>
     cases e2:bools ys with
     |none=>rw[e1,e2]at e;cases e
     |some cs=>
      rw[e1,e2]at e
      cases e
      exact .inr ⟨xs,ys,bs,cs,Dx,Dy.tup,e1,e2,q⟩
   |_=>cases e
  |_=>cases y<;>cases e⟩
def abo:iH X .Gt (aQ .gt):=JX abR fun x y k e=>by
 cases x<;>cases y<;>(unfold aQ at e;simp at e)
 exact⟨_,_,rfl,rfl,e.symm⟩
def Gd{H:Hp}{v:V}(h:bI K H d v):decide (v=.non)=aP d:=by
 cases d<;>unfold bI at h<;>first
  |(obtain⟨a,_,rfl,_⟩:=h;rfl)
  |(obtain⟨a,_,_,rfl,_⟩:=h;rfl)
  |(subst h;rfl)
def Ww:iH X .Is (aQ .fQ):=⟨_,Xf,fun H x y k v u Q Dx Dy e q=>by
 cases y<;>(unfold aQ at e;dsimp only at e;cases e)
 rcases Dy with h|⟨o,a,z,_⟩
 ·exact⟨h,by rw[Gd Dx];exact q⟩
 ·cases o<;>cases z⟩
def Qv:iH X .IsNot (aQ .notN):=⟨_,Q0,fun H x y k v u Q Dx Dy e q=>by
 cases y<;>(unfold aQ at e;dsimp only at e;cases e)
 rcases Dy with h|⟨o,a,z,_⟩
 ·exact⟨h,by rw[Gd Dx];exact q⟩
 ·cases o<;>cases z⟩
def oG(hu:X.A.units+60<cLine)o:iH X (eG o) (aQ o):=by
 cases o with
 |eq=>exact abp hu
 |ne=>exact abk hu
 |lt=>exact abl hu
 |le=>exact abm
 |gt=>exact abo
 |isin=>exact abn hu
 |notin=>exact JZ hu
 |fQ=>exact Ww
 |notN=>exact Qv
def dD{env:Ev}{H:Hp}{d:D}(S:Sat K env σ H)(h:bB k env=some d):∃v,σ[k]? =some (some v)/\cW K H d v:=by
 unfold bB at h
 cases e:env[k]? with
 |none=>rw[e]at h;cases h
 |some s=>
  rw[e]at h
  have q:=S.sl k s e
  cases s with
  |un=>cases h
  |val d'=>cases h;obtain⟨v,e1,e2⟩:=q;exact⟨v,cg e1,.inl e2⟩
  |own xs=>cases h;obtain⟨a,e1,e2⟩:=q;exact⟨.ref a,cg e1,.inr ⟨xs,a,rfl,rfl,e2⟩⟩
  |bor xs=>cases h;obtain⟨a,e1,e2⟩:=q;exact⟨.ref a,cg e1,.inr ⟨xs,a,rfl,rfl,e2⟩⟩
structure iI(X:Cx)(i:Nat)(x:Str):Prop where
 at_:X.N[i]? =some x
 vis:Vis X.env.scope x
 nd:(x==("__debug__":Str))=false
 nc:(x==("__classdict__":Str))=false
def iI.pe{x:Str}(h:iI X i x):PE X (.Name x pos) (Jz i):=Ks h.at_ h.vis h.nd h.nc
def iI.ge{x:Str}(h:iI X i x):GE X W c (.var i) (.Name x pos):=Yp h.at_ h.vis h.nd h.nc
theorem Gi(R:iH X (eG o) (aQ o))(hb:GE X W c m2 b)(hv:∀k,m2.aB=some k->∃x p,b=.Name x p/\iI X k x):
  ∃r tb,fX X (compareOp (eG o)) r/\PE X b tb/\∀env σ H Q,tM X.K W env (ev c (.cmp o m1 m2) env) σ H Q->Zw r (aD X W c m1) tb σ H Q:=by
 obtain⟨r,ho,rule⟩:=R
 cases q:m2.aB with
 |some k=>
  obtain⟨x,p,rfl,nm⟩:=hv k q
  refine⟨r,Jz k,ho,nm.pe,fun env σ H Q h=>?_⟩
  simp only[v_7,q]at h
  refine⟨env,aZ h fun d δ v H1 N1 D1 h1=>?_⟩
  obtain⟨z,ez,S,q3⟩:=cJ h1
  cases e1:bB k δ with
  |none=>rw[e1]at ez;cases ez
  |some d2=>
   rw[e1]at ez
   simp only[Option.bind]at ez
   obtain⟨u,eu,D2⟩:=dD S e1
   cases e2:aQ o d d2 with
   |none=>rw[e2]at ez;cases ez
   |some k2=>
    rw[e2]at ez
    cases ez
    exact⟨u,eu,rule H1 d d2 k2 v u Q D1 D2 e2 (q3 _ H1 (Nx.refl S) rfl)⟩
 |none=>
  refine⟨r,aD X W c m2,ho,hb.d,fun env σ H Q h=>?_⟩
  simp only[v_7,q]at h
  refine⟨env,aZ h fun d δ v H1 N1 D1 h1=>⟨δ,aZ h1 fun d2 ε u H2 N2 D2 h2=>?_⟩⟩
  obtain⟨z,ez,S,q3⟩:=cJ h2
  cases e2:aQ o d d2 with
  |none=>rw[e2]at ez;cases ez
  |some k2=>
   rw[e2]at ez
   cases ez
   exact rule H2 d d2 k2 v u Q (D1.mono N2.pers) (.inl D2) e2 (q3 _ H2 (Nx.refl S) rfl)
def YF(R:iH X (eG o) (aQ o))(ha:GE X W c m1 a)(hb:GE X W c m2 b)(hv:∀k,m2.aB=some k->∃x p,b=.Name x p/\iI X k x)
  (hm:behindInMarks (eG o) b=false):GE X W c (.cmp o m1 m2) (.Compare a [eG o] [b] pos):=by
 intro env
 obtain⟨r,tb,ho,pb,imp⟩:=Gi R hb hv
 exact PE.imp (QT ho ha.d pb hm) fun σ H Q h=>imp env σ H Q h
theorem yj{env:Ev}{σ:St}{Q:Bool->Hp->Prop}(h:tT K W env r σ H Q)(hb:∀x env',r=.ok x env'->∃b,x=.val (.bl b)):
  tM K W env r σ H (fun v H'=>∃k,v=.bl k/\Q k H'):=by
 obtain⟨S,h⟩:=h
 refine⟨S,?_⟩
 cases r with
 |bad=>exact h
 |exc c δ=>exact h
 |ok x δ=>
  obtain⟨b,rfl⟩:=hb x δ rfl
  obtain⟨d,k,e1,e2,q⟩:=h
  cases e1
  cases e2
  exact fun v H' N z=>⟨b,z,q H' N⟩
def kI{o:Option Bool}(h:lift env (o.map fun q=>Rv.val (.bl q))=.ok x env'):∃b,x=.val (.bl b):=by
 cases o with
 |none=>cases h
 |some b=>cases h;exact⟨b,rfl⟩
def zO{env env':Ev}(h:ev c (.cmp o m1 m2) env=.ok x env'):∃b,x=.val (.bl b):=by
 simp only[v_7]at h
 cases r:ev c m1 env with
 |bad=>rw[r]at h;cases h
 |exc k δ=>rw[r]at h;cases h
 |ok x1 δ=>
  rw[r]at h
  have go:∀d,(match m2.aB with
    |some k=>lift δ ((bB k δ).bind fun d'=>(aQ o d d').map fun q=>Rv.val (.bl q))
    |none=>(ev c m2 δ).ao fun y σ=>lift σ ((aQ o d y).map fun q=>Rv.val (.bl q)))=.ok x env'->∃b,x=.val _:=fun d h=>by
   cases q:m2.aB with
   |some k=>
    simp only[q]at h
    cases e:bB k δ with
    |none=>simp only[e,Option.bind]at h;cases h
    |some d'=>simp only[e,Option.bind]at h;exact kI h
   |none=>
    simp only[q]at h
    cases r2:ev c m2 δ with
    |bad=>rw[r2]at h;cases h
    |exc k ε=>rw[r2]at h;cases h
    |ok x2 ε=>
     rw[r2]at h
     cases x2 with
     |val d2=>exact kI h
     |new xs=>exact kI h
     |ref i=>cases h
  cases x1 with
  |val d=>exact go d h
  |new xs=>exact go xs.d h
  |ref i=>cases h
def Yi(R:iH X (eG o) (aQ o))(ha:GE X W c m1 a)(hb:GE X W c m2 b)(hv:∀k,m2.aB=some k->∃x p,b=.Name x p/\iI X k x)
  (hm:behindInMarks (eG o) b=false):GT X W c (.cmp o m1 m2) (.Compare a [eG o] [b] pos):=by
 obtain⟨r,tb,ho,pb,imp⟩:=Gi R hb hv
 exact PT.imp (QC ho ha.d pb hm) fun σ H Q⟨env,h⟩=>imp env σ H _ (yj h fun x env' e=>zO e)
theorem vM(R1:iH X (eG π) (aQ π))(R2:iH X (eG ρ) (aQ ρ)):
  ∃r r',fX X (compareOp (eG π)) r/\fX X (compareOp (eG ρ)) r'/\∀env σ H Q,tM X.K W env (ev c (.chain π ρ m1 m2 m3) env) σ H Q->An r r' (aD X W c m1) (aD X W c m2) (aD X W c m3) σ H Q:=by
 obtain⟨r,ho,rule⟩:=R1
 obtain⟨r',ho',rule'⟩:=R2
 refine⟨r,r',ho,ho',fun env σ H Q h=>?_⟩
 refine⟨env,aZ h fun d δ v H1 N1 D1 h1=>⟨δ,aZ h1 fun d2 ε u H2 N2 D2 h2=>?_⟩⟩
 cases e2:aQ π d d2 with
 |none=>rw[e2]at h2;exact h2.2.elim
 |some k=>
  rw[e2]at h2
  simp only[lift,Out.bind]at h2
  refine rule H2 d d2 k v u _ (D1.mono N2.pers) (.inl D2) e2 ⟨k,rfl,?_⟩
  cases k with
  |false=>
   exact dY h2 rfl
  |true=>
   refine⟨ε,aZ h2 fun d3 env3 w H3 N3 D3 h3=>?_⟩
   obtain⟨z,ez,S,q3⟩:=cJ h3
   cases e3:aQ ρ d2 d3 with
   |none=>rw[e3]at ez;cases ez
   |some k2=>
    rw[e3]at ez
    cases ez
    exact rule' H3 d2 d3 k2 u w Q (D2.mono N3.pers) (.inl D3) e3 (q3 _ H3 (Nx.refl S) rfl)
def ux{env env':Ev}(h:ev c (.chain π ρ m1 m2 m3) env=.ok x env'):∃b,x=.val (.bl b):=by
 have val:∀{r:Out Rv}{f:D->Ev->Out Rv},r.ao f=.ok x env'->∃d σ,f d σ=.ok x env':=fun{r f}q=>by
  cases r with
  |bad=>cases q
  |exc k e1=>cases q
  |ok y e1=>
   cases y with
   |val d=>exact⟨d,e1,q⟩
   |new xs=>exact⟨_,e1,q⟩
   |ref i=>cases q
 obtain⟨d1,ξ,h⟩:=val h
 obtain⟨d2,υ,h⟩:=val h
 cases e:aQ π d1 d2 with
 |none=>rw[e]at h;cases h
 |some k=>
  rw[e]at h
  simp only[lift,Out.bind]at h
  cases k with
  |false=>cases h;exact⟨false,rfl⟩
  |true=>
   obtain⟨d3,σ3,h⟩:=val h
   exact kI h
def MT{d:Expr}(R1:iH X (eG π) (aQ π))(R2:iH X (eG ρ) (aQ ρ))(ha:GE X W c m1 a)(hb:GE X W c m2 b)(hd:GE X W c m3 d)(hm:lastMarks [eG π,eG ρ] [b,d]=false):
  GE X W c (.chain π ρ m1 m2 m3) (.Compare a [eG π,eG ρ] [b,d] pos):=by
 obtain⟨r,r',ho,ho',imp⟩:=vM R1 R2
 exact fun env=>PE.imp (KJ ho ho' ha.d hb.d hd.d hm) fun σ H Q h=>imp env σ H Q h
def Mu{d:Expr}(R1:iH X (eG π) (aQ π))(R2:iH X (eG ρ) (aQ ρ))(ha:GE X W c m1 a)(hb:GE X W c m2 b)(hd:GE X W c m3 d)(hm:lastMarks [eG π,eG ρ] [b,d]=false):
  GT X W c (.chain π ρ m1 m2 m3) (.Compare a [eG π,eG ρ] [b,d] pos):=by
 obtain⟨r,r',ho,ho',imp⟩:=vM R1 R2
 exact PT.imp (Kd ho ho' ha.d hb.d hd.d hm) fun σ H Q⟨env,h⟩=>imp env σ H _ (yj h fun x env' e=>ux e)
def aaR(K:QQq)(ta:TE):TE:=fun σ H Q=>ta σ H fun x H1=>∃k,Ow K x H1 k/\Q (.bl (!k)) H1
def QQ(ha:PE X a ta):PE X (.UnaryOp .Not a pos) (aaR X.K ta):=by
 intro γ s σ H Q I h
 exact PyProof.Rows.UnaryOp_ (cB (ha γ s σ H _ I h) fun v s1⟨x,H1,I1,r1,k,t,q1⟩=>PyProof.Rows.not_of (cB (Ju γ s1 σ H1 x v _ I1 r1 ⟨k,t,q1⟩) fun b s2⟨H2,I2,q2⟩=>⟨.bl (!b),H2,I2,rfl,q2⟩))
def Yu(ha:GE X W c m1 a):GE X W c (.not m1) (.UnaryOp .Not a pos):=fun env=>
 PE.imp (QQ ha.d) fun σ H Q q=>⟨env,yr (yq (by simpa only[PB]using q) fun k δ H1 N q1=>dY (d:=.bl (!k)) q1 rfl)⟩
def Yg(ha:GT X W c m1 a):GT X W c (.not m1) (.UnaryOp .Not a pos):=by
 refine PT.imp (WR ha) fun σ H Q⟨env,q⟩=>⟨env,q.1,?_⟩
 have q2:=q.2
 simp only[PB]at q2
 cases r:ev c m1 env with
 |bad=>rw[r]at q2;exact q2
 |exc k δ=>rw[r]at q2;exact q2
 |ok x δ=>
  rw[r]at q2
  have go:∀d,x.jA=some d->(match (match iw d with|some b=>Out.ok (Rv.val (.bl (!b))) δ|none=>.bad)with
    |.ok x env'=>∃d b,x.jA=some d/\iw d=some b/\∀H',Nx X.K env σ H env' H'->Q b H'
    |.exc c env'=>∀H',Nx X.K env σ H env' H'->W c env' σ H'
    |.bad=>False)->∃d b,x.jA=some d/\iw d=some b/\∀H',Nx X.K env σ H δ H'->Q (!b) H':=fun d ed z=>by
   cases t:iw d with
   |none=>rw[t]at z;exact z.elim
   |some b=>
    rw[t]at z
    obtain⟨d',b',e1,e2,z⟩:=z
    cases e1
    cases e2
    exact⟨d,b,ed,t,z⟩
  cases x with
  |val d=>exact go d rfl q2
  |new o=>exact go o.d rfl q2
  |ref i=>exact q2.elim
def RP(ha:GE X W c m1 a):GE X W c (.and (.cons m1 .nil)) (.BoolOp .And [a] pos):=fun env=>by
 have:=Ky (op:=.And) (pos:=pos) (ha env)
 simpa only[Zr,gW]using this
def Yt(ha:GE X W c m1 a):GE X W c (.or (.cons m1 .nil)) (.BoolOp .Or [a] pos):=fun env=>by
 have:=Ky (op:=.Or) (pos:=pos) (ha env)
 simpa only[Gx,nG]using this
end
def aM(X:Cx)(W:Wi)(c:Cf)(m:E):TE:=fun σ H Q=>∃env,tM X.K W env (ev c m env) σ H Q
def TF{W:Wi}{σ:St}{r:Out Rv}(h:tT K W env r σ H Q)(N:Nx K env σ H δ H1):tT K W δ r σ H1 Q:=by
 obtain⟨_,h⟩:=h
 refine⟨N.eZ,?_⟩
 cases r with
 |bad=>exact h
 |exc c ε=>exact fun H' N'=>h H' (N.trans N')
 |ok x ε=>
  obtain⟨d,b,e1,e2,q⟩:=h
  exact⟨d,b,e1,e2,fun H' N'=>q H' (N.trans N')⟩
section
variable{es rest:List Expr}
def GE.am(h:GE X W c m e):PE X e (aM X W c m):=fun γ s σ H Q I⟨env,q⟩=>h env γ s σ H Q I q
def YG(ha:GE X W c m1 a)(hb:GE X W c (.and (.cons m2 m3)) (.BoolOp .And (b::rest) pos)):GE X W c (.and (.cons m1 (.cons m2 m3))) (.BoolOp .And (a::b::rest) pos):=by
 intro env
 refine PE.imp (W8 ha.d hb.am) fun σ H Q q=>?_
 refine⟨env,aZ q fun d δ v H1 N1 D1 q1=>?_⟩
 cases d with
 |bl k=>
  refine⟨k,D1,?_⟩
  cases k with
  |true=>rw[if_pos rfl];exact⟨δ,by simpa only[Zr,gW]using q1⟩
  |false=>rw[if_neg Qjz];exact dY q1 rfl
 |_=>exact q1.2.elim
def acD(ha:GE X W c m1 a)(hb:GE X W c (.or (.cons m2 m3)) (.BoolOp .Or (b::rest) pos)):GE X W c (.or (.cons m1 (.cons m2 m3))) (.BoolOp .Or (a::b::rest) pos):=by
 intro env
 refine PE.imp (abK ha.d hb.am) fun σ H Q q=>?_
 refine⟨env,aZ q fun d δ v H1 N1 D1 q1=>?_⟩
 cases d with
 |bl k=>
  refine⟨k,D1,?_⟩
  cases k with
  |true=>rw[if_pos rfl];exact dY q1 rfl
  |false=>rw[if_neg Qjz];exact⟨δ,by simpa only[Gx,nG]using q1⟩
 |_=>exact q1.2.elim
def GW(X:Cx)(W:Wi)(c:Cf)(m:E)(e:Expr):Prop:=PW X e (aT X W c m)
def PW.imp(h:PW X e t)(i:∀σ H Q,t' σ H Q->t σ H Q):PW X e t':=fun wh γ s σ H Q I q=>h wh γ s σ H Q I (i σ H Q q)
def GW.t(h:GW X W c m e):GT X W c m e:=PW.pt h
theorem ym{env:Ev}{σ:St}{Q R:Bool->Hp->Prop}(h:tT K W env (r.ao f) σ H Q)
  (hf:∀d δ,(∀k,d≠ .bl k)->f d δ=.bad)
  (k:∀b δ H1,Nx K env σ H δ H1->tT K W δ (f (.bl b) δ) σ H1 Q->R b H1):tT K W env r σ H R:=by
 have step:∀d δ x,x.jA=some d->r=.ok x δ->∃b,iw d=some b/\∀H1,Nx K env σ H δ H1->R b H1:=fun d δ x ex er=>by
  subst er
  have h':tT K W env (f d δ) σ H Q:=by
   cases x with
   |val d'=>cases ex;exact h
   |new xs=>cases ex;exact h
   |ref i=>cases ex
  by_cases hb:∃b,d=.bl b
  ·obtain⟨b,rfl⟩:=hb
   exact⟨b,rfl,fun H1 N=>k b δ H1 N (TF h' N)⟩
  ·rw[hf d δ fun b e=>hb ⟨b,e⟩]at h'
   exact h'.2.elim
 refine⟨h.1,?_⟩
 cases r with
 |bad=>exact h.2
 |exc c δ=>exact h.2
 |ok x δ=>
  cases x with
  |val d=>obtain⟨b,e,q⟩:=step d δ _ rfl rfl;exact⟨d,b,rfl,e,q⟩
  |new xs=>obtain⟨b,e,q⟩:=step (xs.d) δ _ rfl rfl;exact⟨xs.d,b,rfl,e,q⟩
  |ref i=>exact h.2.elim
def Ry(ha:GT X W c m1 a):GW X W c (.and (.cons m1 .nil)) (.BoolOp .And [a] pos):=PW.imp (QB ha) fun σ H Q⟨env,q⟩=>⟨env,by simpa only[Zr,gW]using q⟩
def Ye(ha:GT X W c m1 a):GW X W c (.or (.cons m1 .nil)) (.BoolOp .Or [a] pos):=PW.imp (WL ha) fun σ H Q⟨env,q⟩=>⟨env,by simpa only[Gx,nG]using q⟩
def Yj(ha:GT X W c m1 a)(hb:GW X W c (.and (.cons m2 m3)) (.BoolOp .And (b::rest) pos)):GW X W c (.and (.cons m1 (.cons m2 m3))) (.BoolOp .And (a::b::rest) pos):=by
 refine PW.imp (WM ha hb) fun σ H Q⟨env,q⟩=>⟨env,?_⟩
 refine ym q (fun d δ hd=>?_) fun k δ H1 N q1=>?_
 ·cases d with
  |bl k=>exact absurd rfl (hd k)
  |_=>rfl
 ·cases k with
  |true=>rw[if_pos rfl];exact⟨δ,by simpa only[Zr,gW]using q1⟩
  |false=>
   obtain⟨d,k',e1,e2,q3⟩:=q1.2
   cases e1
   cases e2
   exact q3 H1 (Nx.refl q1.1)
def acy(ha:GT X W c m1 a)(hb:GW X W c (.or (.cons m2 m3)) (.BoolOp .Or (b::rest) pos)):GW X W c (.or (.cons m1 (.cons m2 m3))) (.BoolOp .Or (a::b::rest) pos):=by
 refine PW.imp (abD ha hb) fun σ H Q⟨env,q⟩=>⟨env,?_⟩
 refine ym q (fun d δ hd=>?_) fun k δ H1 N q1=>?_
 ·cases d with
  |bl k=>exact absurd rfl (hd k)
  |_=>rfl
 ·cases k with
  |false=>rw[if_neg Qjz];exact⟨δ,by simpa only[Gx,nG]using q1⟩
  |true=>
   obtain⟨d,k',e1,e2,q3⟩:=q1.2
   cases e1
   cases e2
   exact q3 H1 (Nx.refl q1.1)
def Yx(ht:GT X W c m1 t)(ha:GE X W c m2 a)(hb:GE X W c m3 b):GE X W c (.ite m1 m2 m3) (.IfExp t a b pos):=by
 intro env
 refine PE.imp (KC ht ha.am hb.am) fun σ H Q q=>?_
 refine⟨env,yq q fun k δ H1 N q1=>?_⟩
 cases k with
 |true=>rw[if_pos rfl]at q1⊢;exact⟨δ,q1⟩
 |false=>rw[if_neg Qjz]at q1⊢;exact⟨δ,q1⟩
def Dl{i:Int}{K:QQq}{vs:List V}(h:at? xs i=some d)(l:aq K H xs vs):∃v,Y5 vs i=some v/\bI K H d v:=by
 unfold at? at h
 cases e:ix? xs.length i with
 |none=>rw[e]at h;cases h
 |some j=>
  rw[e]at h
  obtain⟨v,q1,q2⟩:=l.get (h)
  refine⟨v,?_,q2⟩
  unfold Y5
  have:Rp vs.length i=some j:=by
   unfold ix? at e
   unfold Rp
   rw[<-l.length]
   by_cases h0:i<0
   ·simp only[h0,if_true]at e
    split at e
    ·rename_i hc
     cases e
     rw[if_neg (by omega),if_pos (by omega)]
    ·cases e
   ·simp only[h0,if_false]at e
    split at e
    ·rename_i hc
     cases e
     rw[if_pos (by omega),if_pos (by omega)]
    ·cases e
  rw[this]
  exact q1
theorem oU{K:QQq}{H:Hp}(k:Key):∀{kvs:List (Key×V)}{ds:List D}{d:D},bZ (dW k) (kvs.map fun p=>dW p.1) ds=some d->aq K H ds (kvs.map (·.2))->∃v,jF kvs k=some v/\bI K H d v
 |[],ds,d,h,_=>by cases h
 |(k',v)::r,ds,d,h,l=>by
  rw[Qyz]at h l
  cases ds with
  |nil=>obtain⟨⟩:=aq.bO.mp l
  |cons d' ds=>
   obtain⟨w,ws,e,h1,h2⟩:=aq.aN.mp l
   cases e
   have e:cQ (dW k') (dW k)=decide (k'=k):=by
    cases k'<;>cases k<;>simp[dW,cQ,Bool.beq_eq_decide_eq]
   simp only[bZ,e]at h
   by_cases q:k'=k
   ·simp only[q,decide_true,if_true]at h
    cases h
    exact⟨v,mG q,h1⟩
   ·simp only[q,decide_false,Qxq,if_false]at h
    obtain⟨u,q1,q2⟩:=oU k h h2
    exact⟨u,by rw[mH q];exact q1,q2⟩
noncomputable def abw:R2:=fun x y H Q=>∃a k kvs v,x=.ref a/\y=kV k/\Rd H a (.dK kvs)/\jF kvs k=some v/\Q v H
def X5(hu:X.A.units+1<cLine):Jh X abw:=by
 intro value slice γ s σ H x y v u Q I rx ry h hs
 obtain⟨a,k,kvs,w,rfl,rfl,hd,hv,q⟩:=h
 cases rx
 have g:uz H a (kV k) _:=⟨kvs,k,hd,rfl,hv.symm⟩
 exact PyProof.Rows.tail_any (zR I g) PySem.F.slot_dict_getitem.lookup (Iu hu I g ry fun w' s3 I3 rw'=>⟨w,H,I3,rw',q⟩) hs
noncomputable def J7(K:QQq):R2:=fun x y H Q=>∃d a k xs v,x=.ref d/\y=.ref a/\Rd H d (.dS xs)/\(∀x∈xs,cM K H x.1 x.2.1)/\cM K H k a/\wK k xs=some v/\Q v H
def acr(hu:X.A.units+9<cLine):Jh X (J7 X.K):=by
 intro value slice γ s σ H x y v u Q I rx ry h hs
 obtain⟨d,a,k,xs,w,rfl,rfl,hd,hk,ka,hv,q⟩:=h
 cases rx
 cases ry
 obtain⟨ys,_,dd,_⟩:=lq I hd hk
 exact PyProof.Rows.tail_any dd.typeIs PySem.F.slot_dict_getitem.lookup (G5 hu I hd hk ka hv fun u s3 I3 ru=>⟨w,H,I3,ru,q⟩) hs
def abx(K:QQq):R2:=fun x y H Q=>WF K x y H Q\/WD K x y H Q\/abw x y H Q\/J7 K x y H Q
def LQ(hu:X.A.units+9<cLine):Jh X (abx X.K):=Fo.or (LC.or ((X5 (by omega)).or (acr hu)))
def vB{K:QQq}{H:Hp}{d y z:D}{v u:V}{Q:VK}(D1:cW K H d v)(D2:bI K H y u)(e:getD d y=some z)(q:∀w,bI K H z w->Q w H):abx K v u H Q:=by
 cases d with
 |tup xs=>
  cases y with
  |int i=>
   obtain⟨a,vs,rfl,hq,l⟩:=cA D1.tup
   obtain⟨w,e1,e2⟩:=Dl e l
   exact .inr (.inl ⟨a,vs,i,w,rfl,D2,hq,e1,q w e2⟩)
  |_=>cases e
 |lst xs=>
  cases y with
  |int i=>
   obtain⟨a,vs,rfl,hq,l⟩:=D1.JM
   rcases hq with hq|hq
   ·obtain⟨w,e1,e2⟩:=Dl e l
    exact .inl ⟨a,vs,i,w,rfl,D2,hq,e1,q w e2⟩
   ·obtain⟨w,e1,e2⟩:=Dl e l
    exact .inr (.inl ⟨a,vs,i,w,rfl,D2,hq,e1,q w e2⟩)
  |_=>cases e
 |cR ks ds=>
  have e':(if keyOk y=true then bZ y ks ds else none)=some z:=by cases y<;>exact e
  split at e'
  ·rename_i hk
   obtain⟨k,rfl⟩:=f9 hk
   obtain⟨a,kvs,rfl,ha,rfl,l⟩:=jf D1
   obtain⟨w,e1,e2⟩:=oU k e' l
   exact .inr (.inr (.inl ⟨a,k,kvs,w,rfl,lu D2,ha,e1,q w e2⟩))
  ·cases e'
 |g8 ks ds=>
  have e':(if cN y=true then bZ y ks ds else none)=some z:=by cases y<;>exact e
  split at e'
  ·rename_i hk
   obtain⟨a,rfl,ka⟩:=iM hk D2
   obtain⟨d,xs,rfl,hd,l⟩:=xu D1
   obtain⟨w,e1,e2⟩:=l.look hk e'
   exact .inr (.inr (.inr ⟨d,a,kC y,xs,w,rfl,rfl,hd,l.zy,ka,e1,q w e2⟩))
  ·cases e'
 |_=>cases y<;>cases e
def Yz(hu:X.A.units+9<cLine)(ha:GE X W c m1 a)(hb:GE X W c m2 b)(hv:∀k,m1.aB=some k->∃x p,a=.Name x p/\iI X k x)(hs:xT b):GE X W c (.idx m1 m2) (.Subscript a b pos):=by
 intro env
 cases q:m1.aB with
 |some k=>
  obtain⟨x,p,rfl,nm⟩:=hv k q
  refine PE.imp (Uk (LQ hu) nm.pe hb.d hs) fun σ H Q h=>?_
  simp only[Jq,q]at h
  cases e0:bB k env with
  |none=>rw[e0]at h;exact h.2.elim
  |some d0=>
   rw[e0]at h
   obtain⟨u,eu,_⟩:=dD h.1 e0
   refine⟨u,eu,env,aZ h fun d δ v H1 N1 D1 h1=>?_⟩
   obtain⟨z,ez,S,q3⟩:=cJ h1
   cases e1:bB k δ with
   |none=>rw[e1]at ez;cases ez
   |some d2=>
    rw[e1]at ez
    simp only[Option.bind]at ez
    obtain⟨u',eu',D2⟩:=dD S e1
    rw[eu]at eu'
    cases eu'
    cases e2:getD d2 d with
    |none=>rw[e2]at ez;cases ez
    |some w=>
     rw[e2]at ez
     cases ez
     exact vB D2 D1 e2 fun w' hw=>q3 w' H1 (Nx.refl S) hw
 |none=>
  refine PE.imp (Uk (LQ hu) ha.d hb.d hs) fun σ H Q h=>?_
  simp only[Jq,q]at h
  refine⟨env,aZ h fun d δ v H1 N1 D1 h1=>⟨δ,aZ h1 fun d2 ε u H2 N2 D2 h2=>?_⟩⟩
  obtain⟨z,ez,S,q3⟩:=cJ h2
  cases e2:getD d d2 with
  |none=>rw[e2]at ez;cases ez
  |some w=>
   rw[e2]at ez
   cases ez
   exact vB (.inl (D1.mono N2.pers)) D2 e2 fun w' hw=>q3 w' H2 (Nx.refl S) hw
end
structure Nz(K:QQq)(env:Ev)(σ:St)(H:Hp)(env':Ev)(ζ:St)(H':Hp):Prop where
 eZ:Sat K env' ζ H'
 sub:∀(i:Nat)a,aW env' ζ i a->aW env σ i a\/H a=none
 pers:bR H H'
 keep:∀b u,H b=some u->(∀i,¬aW env σ i b)->H' b=some u
 dom:∀b,H' b=none->H b=none
 bors:∀(i:Nat)xs,env[i]? =some (.bor xs)->(∃ys,env'[i]? =some (.bor ys))/\ζ[i]? =σ[i]?
section
theorem Nx.z(N:Nx K env σ H δ H1):Nz K env σ H δ σ H1:=⟨N.eZ,fun i a z=>.inl (N.sub i a z),N.pers,N.keep,N.dom,fun i xs e=>⟨N.bors i xs e,rfl⟩⟩
theorem Nz.refl(S:Sat K env σ H):Nz K env σ H env σ H:=(Nx.refl S).z
theorem Nz.trans(a:Nz K env σ H δ ξ H1)(b:Nz K δ ξ H1 ε υ H2):Nz K env σ H ε υ H2 where
 eZ:=b.eZ
 sub:=fun i c z=>by
  rcases b.sub i c z with q|q
  ·exact a.sub i c q
  ·exact .inr (a.dom c q)
 pers:=a.pers.trans b.pers
 keep:=fun c vs z n=>b.keep c vs (a.keep c vs z n) fun i w=>by
  rcases a.sub i c w with q|q
  ·exact n i q
  ·rw[q]at z;cases z
 dom:=fun c z=>a.dom c (b.dom c z)
 bors:=fun i xs e=>by
  obtain⟨⟨ys,e1⟩,s1⟩:=a.bors i xs e
  obtain⟨q,s2⟩:=b.bors i ys e1
  exact⟨q,s2.trans s1⟩
noncomputable def OD(K:QQq)(env:Ev)(σ:St)(H H':Hp):Rv->V->Prop
 |.val d,v=>bI K H' d v
 |.new q,v=>∃a,v=.ref a/\jz K H' q a/\(H a=none\/∃(i:Nat)(ys:Ob),env[i]? =some (.own ys)/\σ[i]? =some (some (.ref a)))
 |_,_=>False
def OD.back{v:V}(N:Nz K env σ H δ ξ H1)(h:OD K δ ξ H1 H2 r v):OD K env σ H H2 r v:=by
 cases r with
 |val d=>exact h
 |new xs=>
  obtain⟨a,e,p,z⟩:=h
  refine⟨a,e,p,?_⟩
  rcases z with z|⟨i,ys,z1,z2⟩
  ·exact .inl (N.dom a z)
  ·rcases N.sub i a ⟨⟨_,ys,z1,rfl⟩,z2⟩with ⟨⟨s,xs',q1,q2⟩,q3⟩|q
   ·cases s with
    |own w=>exact .inr ⟨i,w,q1,q3⟩
    |bor w=>
     obtain⟨⟨w',q⟩,_⟩:=N.bors i w q1
     rw[z1]at q;cases q
    |un=>cases q2
    |val d=>cases q2
   ·exact .inl q
 |ref i=>exact h.elim
end
noncomputable def tS(K:QQq)(W:Wi)(env:Ev)(f:Fl):TS:=fun D σ H=>Sat K env σ H/\match f with
 |.next env'=>∀ζ H',Nz K env σ H env' ζ H'->D.nx ζ H'
 |.ret r env'=>∀v ζ H',Nz K env σ H env' ζ H'->OD K env σ H H' r v->D.rt v H'
 |.brk env'=>∀ζ H',Nz K env σ H env' ζ H'->D.bk ζ H'
 |.cont env'=>∀ζ H',Nz K env σ H env' ζ H'->D.ct ζ H'
 |.exc c env'=>∀ζ H',Nz K env σ H env' ζ H'->W c env' ζ H'
 |.bad=>False
def GS(X:Cx)(W:Wi)(c:Cf)(m:S)(st:Stmt):Prop:=∀env,PS X st (tS X.K W env (ex c m env))
def Ph(X:Cx)(W:Wi)(c:Cf)(m:S)(st:List Stmt):Prop:=∀env,xU X st (tS X.K W env (ex c m env))
section
def PS.imp(h:PS X st t)(i:∀D σ H,t' D σ H->t D σ H):PS X st t':=fun γ s σ H D I q=>h γ s σ H D I (i D σ H q)
def xU.imp(h:xU X sts t)(i:∀D σ H,t' D σ H->t D σ H):xU X sts t':=fun γ s σ H D I q=>h γ s σ H D I (i D σ H q)
def qK{env δ:Ev}{H H1:Hp}{D:Ends}(h:tS K W env f D σ H)(N:Nz K env σ H δ ξ H1):tS K W δ f D ξ H1:=by
 obtain⟨_,h⟩:=h
 refine⟨N.eZ,?_⟩
 cases f with
 |next ε=>exact fun ζ H' N'=>h ζ H' (N.trans N')
 |ret r ε=>exact fun v ζ H' N' k=>h v ζ H' (N.trans N') (k.back N)
 |brk ε=>exact fun ζ H' N'=>h ζ H' (N.trans N')
 |cont ε=>exact fun ζ H' N'=>h ζ H' (N.trans N')
 |exc k ε=>exact fun ζ H' N'=>h ζ H' (N.trans N')
 |bad=>exact h
def Rz:Ph X W c .nil []:=fun env=>xU.imp QF fun D σ H q=>by
 exact q.2 σ H (Nz.refl q.1)
def Mv(h:GS X W c m1 st)(t:Ph X W c m2 sts):Ph X W c (.cons m1 m2) (st::sts):=by
 intro env
 have B:xU X _ (aaN (fun D σ H=>∃env,tS X.K W env _ D σ H) (fun D σ H=>∃env,tS X.K W env _ D σ H)):=
  Kg (fun γ s σ H D I⟨env,q⟩=>h env γ s σ H D I q) (fun γ s σ H D I⟨env,q⟩=>t env γ s σ H D I q)
 refine xU.imp B fun D σ H q=>?_
 simp only[x_1]at q
 refine⟨env,q.1,?_⟩
 cases r:ex c m1 env with
 |next δ=>
  rw[r]at q
  exact fun ξ H1 N1=>⟨δ,qK q N1⟩
 |_=>rw[r]at q;exact q.2
theorem n8{env:Ev}{H:Hp}{D:Ends}{r:Out Rv}{R:VK}(h:tS K W env (r.mD f) D σ H)
  (k:∀d δ v H1,Nx K env σ H δ H1->bI K H1 d v->tS K W δ (f d δ) D σ H1->R v H1):tD K W env r σ H R:=by
 have step:∀d δ,r.mD f=f d δ->∀v H1,Nx K env σ H δ H1->bI K H1 d v->R v H1:=fun d δ e v H1 N Dv=>by
  rw[e]at h
  exact k d δ v H1 N Dv (qK h N.z)
 obtain⟨S,h⟩:=h
 refine⟨S,?_⟩
 cases r with
 |bad=>exact h
 |exc c δ=>exact fun H' N=>h σ H' N.z
 |ok x δ=>
  cases x with
  |val d=>exact fun v H1 N Dv=>step d δ rfl v H1 N Dv
  |new xs=>exact fun v H1 N Dv=>step xs.d δ rfl v H1 N Dv
  |ref i=>exact h
theorem JC{env:Ev}{H:Hp}{D:Ends}{f:Bool->Ev->Fl}(h:tS K W env (r.FN f) D σ H)
  (k:∀b δ H1,Nx K env σ H δ H1->tS K W δ (f b δ) D σ H1->R b H1):tT K W env r σ H R:=by
 have step:∀d δ x,x.jA=some d->r=.ok x δ->∃b,iw d=some b/\∀H1,Nx K env σ H δ H1->R b H1:=fun d δ x ex er=>by
  subst er
  cases q:iw d with
  |none=>
   cases x with
   |val d'=>cases ex;simp only[Out.FN,Out.mD,q]at h;exact h.2.elim
   |new xs=>cases ex;simp only[Out.FN,Out.mD,q]at h;exact h.2.elim
   |ref i=>cases ex
  |some b=>
   refine⟨b,rfl,fun H1 N=>k b δ H1 N (qK ?_ N.z)⟩
   cases x with
   |val d'=>cases ex;simp only[Out.FN,Out.mD,q]at h;exact h
   |new xs=>cases ex;simp only[Out.FN,Out.mD,q]at h;exact h
   |ref i=>cases ex
 refine⟨h.1,?_⟩
 cases r with
 |bad=>exact h.2
 |exc c δ=>exact fun H' N=>h.2 σ H' N.z
 |ok x δ=>
  cases x with
  |val d=>obtain⟨b,e,q⟩:=step d δ _ rfl rfl;exact⟨d,b,rfl,e,q⟩
  |new xs=>obtain⟨b,e,q⟩:=step xs.d δ _ rfl rfl;exact⟨xs.d,b,rfl,e,q⟩
  |ref i=>exact h.2.elim
def acz{te:Expr}(ht:GT X W c t te)(h1:Ph X W c m1 s1)(h2:Ph X W c m2 s2):GS X W c (.ite t m1 m2) (.If te s1 s2 pos):=by
 intro env
 refine PS.imp (abG ht (t:=fun D σ H=>∃env,tS X.K W env _ D σ H) (u:=fun D σ H=>∃env,tS X.K W env _ D σ H)
  (fun γ s σ H D I⟨env,q⟩=>h1 env γ s σ H D I q) (fun γ s σ H D I⟨env,q⟩=>h2 env γ s σ H D I q)) fun D σ H q=>?_
 refine⟨env,JC q fun b δ H1 N q1=>?_⟩
 cases b with
 |true=>rw[if_pos rfl]at q1⊢;exact⟨δ,q1⟩
 |false=>rw[if_neg Qjz]at q1⊢;exact⟨δ,q1⟩
def RD{m:E}(h:GE X W c m e)(hs:swapsWith e none pos.line X.env=pure false):GS X W c (.expr m) (.Expr e pos):=by
 intro env
 exact PS.imp (wD h.d hs) fun D σ H q=>⟨env,n8 q fun d δ v H1 N Dv q1=>q1.2 σ H1 (Nz.refl q1.1)⟩
def Mz:GS X W0 c (.raise k) st:=fun env γ s σ H D I q=>by
 exact(q.2 σ H (Nz.refl q.1)).elim
end
section
variable{env δ ε:Ev}{σ ξ υ:St}
def j9{s:Sl}{a:Addr}(h:aW (env.set i s) (σ.set i (some v)) j a)(hj:i≠j):aW env σ j a:=by
 obtain⟨⟨t,xs,e1,e2⟩,e3⟩:=h
 rw[Qxz hj]at e1 e3
 exact⟨⟨t,xs,e1,e2⟩,e3⟩
def mY{s:Sl}{a:Addr}(hi:i<env.length)(hs:i<σ.length)(h:aW (env.set i s) (σ.set i (some v)) i a):isOwn s≠none/\v=.ref a:=by
 obtain⟨⟨t,xs,e1,e2⟩,e3⟩:=h
 rw[Qwq hi]at e1
 rw[Qwq hs]at e3
 cases e1
 cases e3
 exact⟨by rw[e2];simp,rfl⟩
def Sat.Bq{q:Ob}(S:Sat K env σ H)(hi:i<env.length)(ha:jz K H q a)(no:∀k,¬aW env σ k a):Sat K (env.set i (.own q)) (σ.set i (some (.ref a))) H:=by
 have hs:i<σ.length:=by rw[<-S.len];exact hi
 refine⟨by simpa using S.len,fun j s e=>?_,fun j k b h1 h2=>?_⟩
 ·by_cases hj:i=j
  ·subst hj
   rw[Qwq hi]at e
   cases e
   exact⟨a,by rw[Qwq hs];rfl,ha⟩
  ·rw[Qxz hj]at e⊢
   exact S.sl j s e
 ·by_cases hj:i=j
  ·subst hj
   by_cases hk:i=k
   ·exact hk
   ·obtain⟨_,z⟩:=mY hi hs h1
    cases z
    exact absurd (j9 h2 hk) (no k)
  ·by_cases hk:i=k
   ·subst hk
    obtain⟨_,z⟩:=mY hi hs h2
    cases z
    exact absurd (j9 h1 hj) (no j)
   ·exact S.ne j k b (j9 h1 hj) (j9 h2 hk)
theorem Nz.put{x:Rv}{v:V}(S:Sat K env σ H)(N:Nx K env σ H δ H1)(hx:gK K σ H H1 x v)(hs:x.Aw=some s)(h:bU i s δ=some ε):Nz K env σ H ε (σ.set i (some v)) H1:=by
 obtain⟨rfl,hi,nb⟩:=qT h
 have hsl:i<σ.length:=by rw[<-N.eZ.len];exact hi
 have bors:∀(j:Nat)xs,env[j]? =some _->(∃ys,(δ.set i s)[j]? =some _)/\(σ.set i (some v))[j]? =σ[j]? :=fun j xs e=>by
  obtain⟨ys,e1⟩:=N.bors j xs e
  have hj:i≠j:=fun z=>by subst z;exact nb ys e1
  exact⟨⟨ys,by rw[Qxz hj];exact e1⟩,by rw[Qxz hj]⟩
 cases x with
 |val d=>
  cases hs
  refine⟨N.eZ.put hi hx,fun j a z=>.inl ?_,N.pers,N.keep,N.dom,bors⟩
  by_cases hj:i=j
  ·subst hj
   exact absurd rfl (mY hi hsl z).1
  ·exact N.sub j a (j9 z hj)
 |new q=>
  cases hs
  obtain⟨a,rfl,oa,h0⟩:=hx
  refine⟨N.eZ.Bq hi oa fun k z=>S.rF h0 k (N.sub k a z),fun j b z=>?_,N.pers,N.keep,N.dom,bors⟩
  by_cases hj:i=j
  ·subst hj
   obtain⟨_,z⟩:=mY hi hsl z
   cases z
   exact .inr h0
  ·exact .inl (N.sub j b (j9 z hj))
 |ref j=>cases hs
end
section
theorem TJ{env:Ev}{H:Hp}{D:Ends}{r:Out Rv}{R:VK}(h:tS K W env (r.fl f) D σ H)
  (k:∀x δ v H1,Nx K env σ H δ H1->gK K σ H H1 x v->tS K W env (f x δ) D σ H->R v H1):tM K W env r σ H R:=by
 obtain⟨S,h⟩:=h
 refine⟨S,?_⟩
 cases r with
 |bad=>exact h
 |exc c δ=>exact fun H' N=>h σ H' N.z
 |ok x δ=>exact fun v H1 N z=>k x δ v H1 N z ⟨S,h⟩
def DR{i:Nat}{D:Ends}{H:Hp}(q:tS K W env (ex c (.set i m) env) D σ H):tM K W env (ev c m env) σ H fun v H1=>D.nx (σ.set i (some v)) H1:=by
 refine TJ q fun x δ v H1 N z q1=>?_
 cases e1:x.Aw with
 |none=>rw[e1]at q1;exact q1.2.elim
 |some s=>
  rw[e1]at q1
  simp only[Option.bind]at q1
  cases e2:bU i s δ with
  |none=>rw[e2]at q1;exact q1.2.elim
  |some ε=>
   rw[e2]at q1
   exact q1.2 _ _ (Nz.put q1.1 N z e1 e2)
def My{x:Str}(h:GE X W c m e)(hN:X.N.Nodup)(hi:X.N[i]? =some x)(hx:Loc X.env.scope x)(hf:X.fn x=true\/X.env.scope.names.lookup x=some .local)
  (hs:swapsWith e (some (.Name x pos')) pos.line X.env=pure false):GS X W c (.set i m) (.Assign [.Name x pos'] e pos):=fun env=>
 PS.imp (WT hN hi hx h.am hs hf) fun D σ H q=>⟨env,DR q⟩
def JK{env:Ev}{D:Ends}{H:Hp}(q:tS K W env (ex c (.setT is m) env) D σ H):tD K W env (ev c m env) σ H fun v H1=>tG K (.tup is) v σ H1 D.nx:=by
 refine n8 q fun d δ v H1 N Dv q1=>?_
 cases e2:bj _ d δ with
 |none=>rw[e2]at q1;exact q1.2.elim
 |some ε=>
  rw[e2]at q1
  exact⟨δ,d,ε,q1.1,Dv,e2,fun ζ st=>q1.2 ζ H1 ⟨st.eZ,fun i a z=>.inl (st.sub z),bR.refl _,fun _ _ z _=>z,fun _ z=>z,fun i xs e=>⟨⟨xs,(st.same i (st.bors i xs e)).1.trans e⟩,(st.same i (st.bors i xs e)).2⟩⟩⟩
def RB{tg:Expr}(h:GE X W c m e)(hg:GG X (.tup is) tg)(hs:swapsWithSole [tg] e pos.line X.env=pure false)(hw:swappedStores [tg] e X.env=pure none)
  (h1:(assignEach [tg] X.env).map (·.2)=[assign tg X.env]):GS X W c (.setT is m) (.Assign [tg] e pos):=fun env=>
 PS.imp (Km h.d hg hs hw h1) fun D σ H q=>⟨env,JK q⟩
end
theorem CT(env:Env):∀(names:List (Str×NameKind))(cs:List (Str×Addr)),(∀x∈names,x.2=.free->∃c,env.cells.lookup x.1=some c)->(∀x c,cs.lookup x=some c->env.cells.lookup x=some c)->
  ∃cl,(do
   let s<-forIn names cs (fun(x:Str×NameKind)cs=>match x with
    |(name,kind)=>if (kind==NameKind.free)=true then do
      let a<-cellOf env name
      pure (ForInStep.yield ((name,a)::cs))
     else pure (ForInStep.yield cs))
   pure s:Sem (List (Str×Addr)))=(pure cl:Sem _)/\
   (∀x c,cl.lookup x=some c->env.cells.lookup x=some c)/\(∀x,(x,NameKind.free)∈names->∃c,cl.lookup x=some c)/\∀x c,cs.lookup x=some c->∃c,cl.lookup x=some c:=by
 intro names
 induction names with
 |nil=>intro cs h1 h2;exact⟨cs,rfl,h2,by simp,fun x c e=>⟨c,e⟩⟩
 |cons p r ih=>
  intro cs h1 h2
  obtain⟨n,k⟩:=p
  by_cases hk:k=.free
  ·subst hk
   obtain⟨c,hc⟩:=h1 _ QYz rfl
   have q2:∀x d,((n,c)::cs).lookup x=some d->env.cells.lookup x=some d:=fun x d e=>by
    rw[QHz]at e
    cases hx:x==n with
    |true=>rw[hx]at e;cases e;rw[eq_of_beq hx];exact hc
    |false=>rw[hx]at e;exact h2 x d e
   obtain⟨cl,e1,e2,e3,e4⟩:=ih _ (fun x hx=>h1 x (QYq _ hx)) q2
   have own:=e4 n c (by simp[QHz])
   refine⟨cl,?_,e2,fun x hx=>?_,fun x d e=>?_⟩
   ·rw[<-e1]
    have:cellOf env n=pure c:=by unfold cellOf;rw[hc]
    simp only[List.forIn_cons]
    rw[if_pos (show(NameKind.free==NameKind.free)=true from rfl),this]
    rfl
   ·rcases QCq.mp hx with z|z
    ·cases z;exact own
    ·exact e3 x z
   ·cases hx:x==n with
    |true=>rw[eq_of_beq hx];exact own
    |false=>exact e4 x d (by rw[QHz,hx];exact e)
  ·obtain⟨cl,e1,e2,e3,e4⟩:=ih cs (fun x hx=>h1 x (QYq _ hx)) h2
   refine⟨cl,?_,e2,fun x hx=>?_,e4⟩
   ·rw[<-e1]
    simp only[List.forIn_cons]
    rw[if_neg (fun z=>hk (eq_of_beq z))]
    rfl
   ·rcases QCq.mp hx with z|z
    ·cases z;exact absurd rfl hk
    ·exact e3 x z
def agv{env:Env}(h:∀x∈scope.names,x.2=.free->∃c,env.cells.lookup x.1=some c):∃cl,O2 scope env cl:=by
 obtain⟨cl,e1,e2,e3,_⟩:=CT env scope.names [] h (by simp)
 refine⟨cl,?_,e2,fun x hx=>e3 x (PySem.mem_of_lookup hx)⟩
 have q:closureFor scope env=(forIn scope.names [] (fun(x:Str×NameKind)cs=>match x with
    |(name,kind)=>if (kind==NameKind.free)=true then do
      let a<-cellOf env name
      pure (ForInStep.yield ((name,a)::cs))
     else pure (ForInStep.yield cs)))>>=pure:=rfl
 rw[q,e1]
 rfl
section
variable{it cond elt:E}{pos spos py:Pos}
theorem Gg{env:Ev}{H:Hp}{Q:VK}
  (q:tM K W env (ev c (.comp nl tg it cond elt) env) σ H Q)
  (k:∀J H1 δ xs ys τ,Nx K env σ H δ H1->Gives K J xs H1->aY tg (ev c cond) (ev c elt) xs [] (List.replicate nl Sl.un++δ)=.ok ys τ->
   (∀v H2,Nx K env σ H (τ.drop nl) H2->gK K σ H H2 (.new (.lst ys)) v->Q v H2)->R J H1):tI K W env (ev c it env) σ H R:=by
 simp only[mJ]at q
 obtain⟨S,q⟩:=q
 refine⟨S,?_⟩
 cases r:ev c it env with
 |bad=>rw[r]at q;exact q
 |exc k δ=>rw[r]at q;exact q
 |ok x δ=>
  rw[r]at q
  have go:∀d,x.jA=some d->(match (match items d with
    |some xs=>match aY tg (ev c cond) (ev c elt) xs [] (List.replicate nl Sl.un++δ)with
     |.ok ys τ=>Out.ok (Rv.new (.lst ys)) (τ.drop nl)
     |_=>.bad
    |none=>.bad)with
   |.ok x env'=>∀v H',Nx K env σ H env' H'->gK K σ H H' x v->Q v H'
   |.exc c env'=>∀H',Nx K env σ H env' H'->W c env' σ H'
   |.bad=>False)->∃d xs,x.jA=some d/\items d=some xs/\∀J H',Nx K env σ H δ H'->Gives K J xs H'->R J H':=fun d ed z=>by
   cases e1:items d with
   |none=>rw[e1]at z;exact z.elim
   |some xs=>
    rw[e1]at z
    simp only at z
    cases e2:aY tg _ _ xs [] _ with
    |bad=>rw[e2]at z;exact z.elim
    |exc k τ=>rw[e2]at z;exact z.elim
    |ok ys τ=>
     rw[e2]at z
     exact⟨d,xs,ed,e1,fun J H1 N G=>k J H1 δ xs ys τ N G e2 z⟩
  cases x with
  |val d=>exact go d rfl q
  |new o=>exact go o.d rfl q
  |ref i=>exact q.elim
def Inv.letGo{σ:St}{H:Hp}{C:Addr}(I:Inv X γ σ H s)(f:fY X γ H C)(hs:Heap.SameBut C s.heap h'):Inv X γ σ H {s with heap:=h'}:=by
 exact I.turned (fun b o hb e=>(hs.2 b hb).trans e) f.1 f.2.1 f.2.2.2.1 f.2.2.2.2.1 f.2.2.2.2.2
theorem Ja.cl{σ:St}{H:Hp}(sc:Ja X.env.scope scope η X.N)(I:Inv X γ σ H s):∃cl,O2 scope X.env cl:=
 agv fun x hx hf=>I.ok.has x.1 (sc.fre x hx hf)
def RM(B:Ac X c scope η tg cond elt Ψ Δ ifs)(hi:GI X W c it Ψ ο)(hc:X.calm=true)(hs:∀x,foldedSetIterable ο X.env x=pure x):
  GE X W c (.comp η.length tg it cond elt) (.ListComp Δ [⟨Ψ,ο,ifs,0⟩] scope pos):=by
 intro env γ s σ H Q I q
 obtain⟨cl,co⟩:=B.sc.cl I
 refine wpAny_comprehension_free rfl hs co.eq B.sc.kind B.sc.locs (cB (hi env γ s σ H _ I (Gg q (R:=fun J H1=>∃δ xs ys τ,Nx X.K env σ H δ H1/\Gives X.K J xs H1/\aY tg _ _ xs [] _=.ok ys τ/\
  (∀v H2,Nx X.K env σ H _ H2->gK X.K σ H H2 _ v->Q v H2)) fun J H1 δ xs ys τ N G e z=>⟨δ,xs,ys,τ,N,G,e,z⟩)) fun v s1 h1=>cB h1 fun itv s2 h2=>?_)
 obtain⟨ita,fp,tn,J,H1,rfl,I1,T,t0,hf,δ,xs,ys,τ,N,G,e,z⟩:=h2
 refine vL B hc co I1 N.eZ T t0 hf G e fun D C s' H' vs m I' N' hD hl hn hC fC=>?_
 refine⟨m,hC,fun h' hs'=>⟨.ref D,H',Inv.letGo I' fC hs',rfl,z _ _ (N.trans N') ⟨D,rfl,⟨_,hD,vs,rfl,hl⟩,N.dom D hn⟩⟩⟩
def Cd{x:Str}(B:Ac X c scope η tg cond elt Ψ Δ ifs)(hi:GI X W c it Ψ ο)(hc:X.calm=true)(hs:∀x,foldedSetIterable ο X.env x=pure x)
  (hN:X.N.Nodup)(hx:X.N[i]? =some x)(hl:Loc X.env.scope x)(hf:X.fn x=true\/X.env.scope.names.lookup x=some .local)
  (hsw:swapsWith (.ListComp Δ [⟨Ψ,ο,ifs,0⟩] scope pos) (some (.Name x py)) spos.line X.env=pure true):
  GS X W c (.set i (.comp η.length tg it cond elt)) (.Assign [.Name x py] (.ListComp Δ [⟨Ψ,ο,ifs,0⟩] scope pos) spos):=by
 intro env γ s σ H D I q
 obtain⟨cl,co⟩:=B.sc.cl I
 rw[exec_Assign_Name_used _ _ _ _ hsw]
 refine QKq (wpAny_standAt (QKq ?_))
 refine QKq (QGq (wpAny_comprehension_free rfl hs co.eq B.sc.kind B.sc.locs
  (cB (hi env γ s σ H _ I (Gg (DR q) (R:=fun J H1=>∃δ xs ys τ,Nx X.K env σ H δ H1/\Gives X.K J xs H1/\aY tg _ _ xs [] _=.ok ys τ/\
  (∀v H2,Nx X.K env σ H _ H2->gK X.K σ H H2 _ v->D.nx _ H2)) fun J H1 δ xs ys τ N G e z=>⟨δ,xs,ys,τ,N,G,e,z⟩)) fun v s1 h1=>cB h1 fun itv s2 h2=>?_))
  (fun _ s' hq=>QKz (QKz hq)) fun _ _ e=>e)
 obtain⟨ita,fp,tn,J,H1,rfl,I1,T,t0,hf',δ,xs,ys,τ,N,G,e,z⟩:=h2
 refine vL B hc co I1 N.eZ T t0 hf' G e fun A C s' H' vs m I' N' hD hl' hn hC fC=>?_
 refine wpAny_assign_Name (uF (v:=.ref A) I' hN hx hl rfl (fun s'' I''⟨a,ha,hor⟩=>?_) hf)
 have hCa:C≠a:=by
  rcases hor with rfl|hor
  ·exact fC.2.1
  ·exact fun z=>fC.2.2.2.2.1 x a hor z.symm
 refine⟨m,hC.sameBut ha hCa,fun h' hs'=>⟨_,H',Inv.letGo I'' fC hs',z _ _ (N.trans N') ⟨A,rfl,⟨_,hD,vs,rfl,hl'⟩,N.dom A hn⟩⟩⟩
end
section
theorem Ii(hq:ju K H a vs)(l:aq K H xs vs)(hz:vs.length<=sizeLine):Gives K (Itt K a) xs H where
 go:=fun H1 p i d e=>by
  obtain⟨v,ev,_⟩:=l.get e
  exact⟨vs,v,p.Wj hq,ev⟩
 yld:=fun H1 p i d e x H2 y=>by
  obtain⟨rfl,y⟩:=y
  obtain⟨v,ev,dv⟩:=l.get e
  have:=y vs (p.Wj hq)
  rw[ev]at this
  cases this
  exact⟨dv.mono p,.inl rfl⟩
 stop:=fun H1 p i hi=>⟨vs,p.Wj hq,by rw[<-l.length];exact hi⟩
 len:=by rw[l.length];exact hz
theorem Ij(hq:Gs K H a vs)(l:aq K H xs vs)(hz:vs.length<=sizeLine):Gives K (Itl K a) xs H where
 go:=fun H1 p i d e=>by
  obtain⟨v,ev,_⟩:=l.get e
  exact⟨vs,v,(p.RQ hq).sq,ev⟩
 yld:=fun H1 p i d e x H2 y=>by
  obtain⟨rfl,y⟩:=y
  obtain⟨v,ev,dv⟩:=l.get e
  have:=y vs (p.RQ hq).sq
  rw[ev]at this
  cases this
  exact⟨dv.mono p,.inl rfl⟩
 stop:=fun H1 p i hi=>⟨vs,(p.RQ hq).sq,by rw[<-l.length];exact hi⟩
 len:=by rw[l.length];exact hz
noncomputable def Its(x:Str):It:=⟨fun i _=>i<x.cps.size,fun i H v H'=>H'=H/\∃c,x.cps[i]? =some c/\v=.str ⟨#[c]⟩,fun i _=>x.cps.size<=i⟩
def signs_get{i:Nat}(h:(signs x)[i]? =some d):∃c,x.cps[i]? =some c/\d=.str ⟨#[c]⟩:=by
 unfold signs at h
 rw[QFz]at h
 cases e:x.cps.toList[i]? with
 |none=>rw[e]at h;cases h
 |some c=>rw[e]at h;cases h;exact⟨c,by simpa using e,rfl⟩
def oA x:(signs x).length=x.cps.size:=by simp[signs]
theorem vA(hz:x.cps.size<=sizeLine):Gives K (Its x) (signs x) H where
 go:=fun H1 p i d e=>by
  have:=(QCz.mp e).1
  rw[oA]at this
  exact this
 yld:=fun H1 p i d e v H2 y=>by
  obtain⟨rfl,c,e1,rfl⟩:=y
  obtain⟨c',e2,rfl⟩:=signs_get e
  rw[e1]at e2
  cases e2
  exact⟨rfl,.inl rfl⟩
 stop:=fun H1 p i hi=>by rw[oA]at hi;exact hi
 len:=by rw[oA];exact hz
end
section
theorem yf it x t ty(W:∀A':Around,A'.handled=none->Walks P w A' it [it] [it] x.cps.size (SignAt x) (fun i h=>h.IsStrIter it ty x t i))
  (hn:["enumerate","zip","dict_itemiterator","dict_reverseitemiterator","odict_iterator","itertools.zip_longest","itertools.pairwise"].contains ty=false)
  (hself:∀(A:Around)(i:Nat)(s:Shared)(Q:QZq)(E:QZq),s.heap.IsStrIter it ty x t i->Q (.ref it) s->wpAny (model P w) A (pyIter (.ref it)) Q E s):
  Turn P w K tg (Its x) [it] it (fun i h=>h.IsStrIter it ty x t i/\i<=x.cps.size) where
 mem:=by simp
 obj:=fun i h st b hb=>by
  have e:b=it:=by simpa using hb
  subst e
  obtain⟨⟨o,e,_,d⟩,_⟩:=st
  exact⟨o,e,fun v z=>by rw[d]at z;cases z⟩
 keep:=fun i h h' st k=>⟨let ⟨o,e,r⟩:=st.1;⟨o,k it (by simp) o e,r⟩,st.2⟩
 item:=by
  intro X hP hw hK hc i γ s σ H E I hf st hg
  obtain⟨f0,f1,f2,f3,f4,f5⟩:=hf it (by simp)
  refine(W X.A (I.ok.hd hc)).item i s _ _ hg st.1 fun v h' tk hv st' kk=>?_
  obtain⟨c,t,hx,rfl⟩:=hv
  obtain⟨o,e,cl,d⟩:=id st'
  exact⟨_,rfl,Fx e cl d hn ⟨.str ⟨#[c]⟩,H,(I.turned (fun b o hb e=>kk b o (by simpa using hb) e) f0 f1 f3 f4 f5),⟨t,rfl⟩,⟨rfl,c,hx,rfl⟩,⟨st',hg⟩,fun b hb=>(hf b hb).1⟩⟩
 done:=by
  intro X hP hw hK hc i γ s σ H E I hf st hg
  obtain⟨f0,f1,f2,f3,f4,f5⟩:=hf it (by simp)
  have e:=Nat.le_antisymm st.2 hg
  subst e
  exact(W X.A (I.ok.hd hc)).done s _ _ st.1 fun h' tk kk=>⟨rfl,I.turned (fun b o hb e=>kk b o (by simpa using hb) e) f0 f1 f3 f4 f5⟩
 self:=fun A i s Q E st h=>hself A i s Q E st.1 h
end
section
end
section
end
section
theorem LR{σ:St}{s:Shared}{d:D}{v:V}(I:Inv X γ σ H s)(rv:RelV v u)(hd:bI X.K H d v)(hi:items d=some xs)(q:∀J,Gives X.K J xs H->R J H):
  wpAny (model X.prog X.w) X.A (pyIter u) (PIE X γ σ tg R) X.xe s:=by
 cases d with
 |tup ds=>
  cases hi
  obtain⟨a,vs,rfl,hq,l⟩:=cA hd
  cases rv
  obtain⟨its,r,p,hz⟩:=I.tuple hq
  refine wpAny_pyIter_tuple (p) ?_
  refine⟨s.heap.objs.size,[s.heap.objs.size],_,_,H,rfl,I.kept fun b o e=>QWq _ e,Aj a _,⟨_,Qzq _ rfl,rfl,rfl⟩,fun b hb=>?_,q _ (Ii hq l hz)⟩
  have e:b=s.heap.objs.size:=by simpa using hb
  subst e
  exact I.zJ (QVz _) (I.hok.fresh (QVz _))
 |lst ds=>
  cases hi
  obtain⟨a,vs,rfl,hq,l⟩:=cU hd
  cases rv
  obtain⟨its,r,p,hz⟩:=I.list hq.sq
  refine wpAny_pyIter_list p.isList ?_
  refine⟨s.heap.objs.size,[s.heap.objs.size],_,_,H,rfl,I.kept fun b o e=>QWq _ e,Gz a _,⟨_,Qzq _ rfl,rfl,rfl⟩,fun b hb=>?_,q _ (Ij hq l hz)⟩
  have e:b=s.heap.objs.size:=by simpa using hb
  subst e
  exact I.zJ (QVz _) (I.hok.fresh (QVz _))
 |str x=>
  simp only[items]at hi
  split at hi
  ·rename_i hf
   cases hi
   cases hd
   obtain⟨t,rfl⟩:=rv
   have hz:=dJ hf
   have fin:∀b∈[s.heap.objs.size],fY X γ H b:=fun b hb=>by
    have e:b=s.heap.objs.size:=by simpa using hb
    subst e
    exact I.zJ (QVz _) (I.hok.fresh (QVz _))
   cases ha:x.cps.all _
   ·exact wpAny_pyIter_wide ha ⟨s.heap.objs.size,[s.heap.objs.size],_,_,H,rfl,I.kept fun b o e=>QWq _ e,yf _ x t "str_iterator" (fun A' hA=>Walks.strWide hA _ x t) (by decide) (fun A i s Q E st h=>wpAny_pyIter_striter_wide st h),⟨⟨_,Qzq _ rfl,rfl,rfl⟩,QIq _⟩,fin,q _ (vA hz)⟩
   ·exact wpAny_pyIter_ascii ha ⟨s.heap.objs.size,[s.heap.objs.size],_,_,H,rfl,I.kept fun b o e=>QWq _ e,yf _ x t "str_ascii_iterator" (fun A' hA=>Walks.strAscii hA _ x t) (by decide) (fun A i s Q E st h=>wpAny_pyIter_striter_ascii st h),⟨⟨_,Qzq _ rfl,rfl,rfl⟩,QIq _⟩,fin,q _ (vA hz)⟩
  ·cases hi
 |_=>cases hi
def acC(h:GE X W c m e):GI X W c m tg e:=by
 intro env γ s σ H R I q
 refine cB (h.d γ s σ H (fun v H'=>∃d xs,bI X.K H' d v/\items d=some xs/\∀J,Gives X.K J xs H'->R J H') I ⟨env,q.1,?_⟩) fun u s1⟨v,H1,I1,r1,d,xs,hd,hi,q1⟩=>LR I1 r1 hd hi q1
 have q2:=q.2
 cases r:ev c m env with
 |bad=>rw[r]at q2;exact q2
 |exc k δ=>rw[r]at q2;exact q2
 |ok x δ=>
  rw[r]at q2
  obtain⟨d,xs,ed,ei,q3⟩:=q2
  cases x with
  |val d'=>cases ed;exact fun v H' N Dv=>⟨d,xs,Dv,ei,fun J G=>q3 J H' N G⟩
  |new o=>cases ed;exact fun v H' N Dv=>⟨o.d,xs,Dv,ei,fun J G=>q3 J H' N G⟩
  |ref i=>cases ed
end
noncomputable def tyN:Ty->String
 |.tup=>"tuple"
 |.lst=>"list"
 |.str=>"str"
 |.bool=>"bool"
 |.int=>"int"
section
noncomputable def afm(K:QQq):List V->Hp->VK->Prop:=fun xs H Q=>∃d v t,xs=[v,.ty (tyN t)]/\bI K H d v/\Q (.bl (p8 t d)) H
def NT:fU X (.builtin "isinstance") (afm X.K):=by
 intro γ s σ H xs us Q I r h
 obtain⟨d,v,t,rfl,hd,q⟩:=h
 obtain⟨u,u',rfl,ru,rt⟩:=Vals.two r
 cases rt
 have fin:∀k,Q _ H->EP X γ σ Q _ {s with toks:=s.toks+1}:=fun k z=>⟨.bl k,H,I.tok _,rfl,z⟩
 have fin0:∀k,Q _ H->EP X γ σ Q _ s:=fun k z=>⟨.bl k,H,I,rfl,z⟩
 cases d with
 |non=>
  cases hd;cases ru
  cases t with
  |tup=>exact IsiPair.NoneType_tuple (fin _ q)
  |lst=>exact IsiPair.NoneType_list (fin _ q)
  |str=>exact IsiPair.NoneType_str (fin _ q)
  |bool=>exact IsiPair.NoneType_bool (fin _ q)
  |int=>exact IsiPair.NoneType_int (fin _ q)
 |bl k=>
  cases hd;cases ru
  cases t with
  |tup=>exact IsiPair.bool_tuple (fin _ q)
  |lst=>exact IsiPair.bool_list (fin _ q)
  |str=>exact IsiPair.bool_str (fin _ q)
  |bool=>exact IsiPair.bool_bool (fin0 _ q)
  |int=>exact IsiPair.bool_int (fin0 _ q)
 |int k=>
  cases hd;obtain⟨tk,rfl⟩:=ru
  cases t with
  |tup=>exact IsiPair.int_tuple (fin _ q)
  |lst=>exact IsiPair.int_list (fin _ q)
  |str=>exact IsiPair.int_str (fin _ q)
  |bool=>exact IsiPair.int_bool (fin _ q)
  |int=>exact IsiPair.int_int (fin0 _ q)
 |str k=>
  cases hd;obtain⟨tk,rfl⟩:=ru
  cases t with
  |tup=>exact IsiPair.str_tuple (fin _ q)
  |lst=>exact IsiPair.str_list (fin _ q)
  |str=>exact IsiPair.str_str (fin0 _ q)
  |bool=>exact IsiPair.str_bool (fin _ q)
  |int=>exact IsiPair.str_int (fin _ q)
 |tup ds=>
  obtain⟨a,vs,rfl,hq,_⟩:=cA hd
  cases ru
  obtain⟨its,_,⟨o,e,cl,_⟩,_⟩:=I.tuple hq
  cases t with
  |tup=>exact IsiPair.tuple_tuple e cl (fin0 _ q)
  |lst=>exact IsiPair.tuple_list e cl (fin _ q)
  |str=>exact IsiPair.tuple_str e cl (fin _ q)
  |bool=>exact IsiPair.tuple_bool e cl (fin _ q)
  |int=>exact IsiPair.tuple_int e cl (fin _ q)
 |lst ds=>
  obtain⟨a,vs,rfl,hq,_⟩:=cU hd
  cases ru
  obtain⟨its,_,⟨o,n,e,cl,_⟩,_⟩:=I.list hq.sq
  cases t with
  |tup=>exact IsiPair.list_tuple e cl (fin _ q)
  |lst=>exact IsiPair.list_list e cl (fin0 _ q)
  |str=>exact IsiPair.list_str e cl (fin _ q)
  |bool=>exact IsiPair.list_bool e cl (fin _ q)
  |int=>exact IsiPair.list_int e cl (fin _ q)
 |cR ks ds=>
  obtain⟨a,o,kvs,rfl,ha,_⟩:=hd
  cases ru
  obtain⟨e,_,_,_,_,o',_,_,e',ex,_⟩:=I.hok a _ ha
  rw[e]at e'
  cases e'
  have cl:=ex.1
  cases t with
  |tup=>exact IsiPair.dict_tuple e cl (fin _ q)
  |lst=>exact IsiPair.dict_list e cl (fin _ q)
  |str=>exact IsiPair.dict_str e cl (fin _ q)
  |bool=>exact IsiPair.dict_bool e cl (fin _ q)
  |int=>exact IsiPair.dict_int e cl (fin _ q)
 |g8 ks ds=>
  obtain⟨a,o,kvs,rfl,ha,_⟩:=hd
  cases ru
  obtain⟨e,_,_,_,_,o',_,_,_,e',ex,_⟩:=I.hok a _ ha
  rw[e]at e'
  cases e'
  have cl:=ex.1
  cases t with
  |tup=>exact IsiPair.dict_tuple e cl (fin _ q)
  |lst=>exact IsiPair.dict_list e cl (fin _ q)
  |str=>exact IsiPair.dict_str e cl (fin _ q)
  |bool=>exact IsiPair.dict_bool e cl (fin _ q)
  |int=>exact IsiPair.dict_int e cl (fin _ q)
def Yy{x:Str}(ha:GE X W c m a)(hx:x=Str.ofString (tyN t))(hg:Gl X x)(hm:X.mg x=none)(hi:Gl X "isinstance")(hmi:X.mg "isinstance"=none)
  (hs:starEach [a,.Name x p'] X.env=(false,eval a X.env)::starEach [.Name x p'] X.env):
  GE X W c (.isi m t) (.Call (.Name "isinstance" p) [a,.Name x p'] [] pos):=by
 intro env
 have hv:bootBuiltins x=some (.type (tyN t)):=by subst hx;cases t<;>kernel_rfl
 have N:PE X (.Name x p') (tC (.ty _)):=QW hg hm hv rfl (by subst hx;cases t<;>decide+kernel) (by subst hx;cases t<;>decide+kernel)
 exact PE.imp (rC NT hi hmi (by kernel_rfl) (cL ha.d (cL N eU rfl) hs) (by decide+kernel) (by decide+kernel) hs rfl) fun σ H Q q=>⟨env,aZ q fun d δ v H1 N1 D1 q1=>⟨d,v,t,rfl,D1,dY q1 rfl⟩⟩
end
def qi(X:Cx)(r:List V->Hp->VK->Prop)(f:D->Option Rv):Prop:=
 ∀(env:Ev)(σ:St)(H:Hp)(x:D)(z:Rv)(v:V)(Q:VK),Sat X.K env σ H->cW X.K H x v->f x=some z->(∀w H',Nx X.K env σ H env H'->gK X.K σ H H' z w->Q w H')->r [v] H Q
section
def N7{r:List V->Hp->VK->Prop}(R:qi X r (b1 bb)){σ:St}{Q:VK}(hv:m.aB=none)(q:tM X.K W env (ev c (.bi bb m) env) σ H Q):aD X W c m σ H fun v H1=>r [v] H1 Q:=by
 simp only[pU,hv]at q
 refine⟨env,aZ q fun d δ v H1 N1 D1 q1=>?_⟩
 obtain⟨z,ez,S,q3⟩:=cJ q1
 exact R δ σ H1 d z v Q S (.inl D1) ez q3
def Gp{r:List V->Hp->VK->Prop}(R:qi X r (b1 bb)){σ:St}{Q:VK}(hv:m.aB=some k)(q:tM X.K W env (ev c (.bi bb m) env) σ H Q):Jz k σ H fun v H1=>r [v] H1 Q:=by
 simp only[pU,hv]at q
 obtain⟨z,ez,S,q3⟩:=cJ q
 cases e0:bB k env with
 |none=>rw[e0]at ez;cases ez
 |some d0=>
  rw[e0]at ez
  obtain⟨u,eu,Du⟩:=dD S e0
  exact⟨u,eu,R env σ H d0 z u Q S Du ez q3⟩
theorem xf{id:String}{x:Str}(C:fU X (.builtin id) r)(R:qi X r (b1 bb))(ha:GE X W c m a)(hv:∀k,m.aB=some k->∃x p,a=.Name x p/\iI X k x)
  (hg:Gl X x)(hm:X.mg x=none)(hb:bootBuiltins x=some (.builtin id))(hn:x≠"__name__")(hd:(x==("__debug__":Str))=false)(hs:starEach [a] X.env=[(false,eval a X.env)]):
  GE X W c (.bi bb m) (.Call (.Name x p) [a] [] pos):=by
 intro env
 cases q:m.aB with
 |none=>exact PE.imp (rC C hg hm hb (cL ha.d eU hs) hn hd hs rfl) fun σ H Q h=>N7 R q h
 |some k=>
  obtain⟨y,p',rfl,nm⟩:=hv k q
  exact PE.imp (rC C hg hm hb (cL nm.pe eU hs) hn hd hs rfl) fun σ H Q h=>Gp R q h
theorem Ck{id:String}{x:Str}(C:fU X (.type id) r)(R:qi X r (b1 bb))(ha:GE X W c m a)(hv:∀k,m.aB=some k->∃x p,a=.Name x p/\iI X k x)
  (hg:Gl X x)(hm:X.mg x=none)(hb:bootBuiltins x=some (.type id))(hn:x≠"__name__")(hd:(x==("__debug__":Str))=false)(hs:starEach [a] X.env=[(false,eval a X.env)]):
  GE X W c (.bi bb m) (.Call (.Name x p) [a] [] pos):=by
 intro env
 cases q:m.aB with
 |none=>exact PE.imp (oN C hg hm hb (cL ha.d eU hs) hn hd hs rfl) fun σ H Q h=>N7 R q h
 |some k=>
  obtain⟨y,p',rfl,nm⟩:=hv k q
  exact PE.imp (oN C hg hm hb (cL nm.pe eU hs) hn hd hs rfl) fun σ H Q h=>Gp R q h
def cW.seq{H:Hp}{xs:List D}(h:cW K H d v)(e:bN d=some xs):∃a vs,v=.ref a/\(jB K H a vs\/ju K H a vs)/\aq K H xs vs:=by
 cases d with
 |tup ys=>cases e;exact h.Qf
 |lst ys=>cases e;exact h.JM
 |_=>cases e
theorem cW.cR{H:Hp}{v:V}(h:cW K H (.cR ks ds) v):∃a kvs,v=.ref a/\Rd H a (.dK kvs)/\ks=kvs.map (fun p=>dW p.1)/\aq K H ds (kvs.map (·.2)):=by
 rcases h with h|⟨o,a,q,rfl,u,ha,hq⟩
 ·unfold bI at h
  obtain⟨a,o,kvs,rfl,ha,k,l⟩:=h
  exact⟨a,kvs,rfl,.inr ⟨o,ha⟩,k,l⟩
 ·cases o<;>cases q
  obtain⟨kvs,rfl,k,l⟩:=hq
  exact⟨a,kvs,rfl,.inl ha,k,l⟩
theorem cW.g8{K:QQq}{H:Hp}{ks ds:List D}{v:V}(h:cW K H (.g8 ks ds) v):∃a xs,v=.ref a/\Rd H a (sD xs)/\gH K H ks ds xs:=by
 rcases h with h|⟨o,a,q,rfl,u,ha,hq⟩
 ·unfold bI at h
  obtain⟨a,o,xs,rfl,ha,l⟩:=h
  exact⟨a,xs,rfl,.inr ⟨o,ha⟩,l⟩
 ·cases o<;>cases q
  obtain⟨xs,rfl,l⟩:=hq
  exact⟨a,xs,rfl,.inl ha,l⟩
noncomputable def Wz(K:QQq):List V->Hp->VK->Prop:=fun xs H Q=>(∃x n,xs=[x]/\Za K x H n/\Q (.int n) H)\/(∃a kvs,xs=[.ref a]/\Rd H a (.dK kvs)/\Q (.int kvs.length) H)\/∃a ys,xs=[.ref a]/\Rd H a (sD ys)/\Q (.int ys.length) H
def Iw:fU X (.builtin "len") (Wz X.K):=by
 intro γ s σ H xs us Q I r h
 rcases h with h|⟨a,kvs,rfl,e,q⟩|⟨a,ys,rfl,e,q⟩
 ·exact NQ γ s σ H xs us Q I r h
 ·obtain⟨u,rfl,ru⟩:=vals1 r
  cases ru
  exact acK I e fun t s' I'=>⟨.int kvs.length,H,I',⟨t,rfl⟩,q⟩
 ·obtain⟨u,rfl,ru⟩:=vals1 r
  cases ru
  exact abe I e fun t s' I'=>⟨.int ys.length,H,I',⟨t,rfl⟩,q⟩
def Qn:qi X (Wz X.K) (b1 .len):=by
 intro env σ H x z v Q S Dx e q
 have go:∀(n:Nat),HD x=some n->Za X.K v H n->Wz X.K [v] H Q:=fun n en ln=>by
  simp only[b1,en]at e
  cases e
  exact .inl ⟨v,n,rfl,ln,q _ H (Nx.refl S) rfl⟩
 cases x with
 |tup xs=>
  obtain⟨a,vs,rfl,hq,l⟩:=Dx.Qf
  refine go xs.length rfl ?_
  rcases hq with hq|hq
  ·exact .inl ⟨vs,hq,l.length⟩
  ·exact .inr ⟨vs,hq,l.length⟩
 |lst xs=>
  obtain⟨a,vs,rfl,hq,l⟩:=Dx.JM
  refine go xs.length rfl ?_
  rcases hq with hq|hq
  ·exact .inl ⟨vs,hq,l.length⟩
  ·exact .inr ⟨vs,hq,l.length⟩
 |str y=>
  have:=Dx.str
  subst this
  by_cases hf:fits y.length=true
  ·exact go y.length (by simp[HD,hf]) ⟨dJ hf,rfl⟩
  ·simp[b1,HD,hf]at e
 |cR ks ds=>
  cases e
  obtain⟨a,kvs,rfl,hr,hk,l⟩:=Dx.cR
  have e2:ks.length=kvs.length:=by rw[hk,QAq]
  exact .inr (.inl ⟨a,kvs,rfl,hr,by rw[<-e2];exact q _ H (Nx.refl S) rfl⟩)
 |g8 ks ds=>
  cases e
  obtain⟨a,xs,rfl,hr,l⟩:=Dx.g8
  exact .inr (.inr ⟨a,xs,rfl,hr,by rw[<-l.len.1];exact q _ H (Nx.refl S) rfl⟩)
 |_=>cases e
def Qo:qi X (fun xs H Q=>(∃i,xs=[.int i]/\Q (.int i) H)\/∃k,xs=[.bl k]/\Q (.int (if k then 1 else 0)) H) (b1 .int):=by
 intro env σ H x z v Q S Dx e q
 cases x with
 |int i=>
  cases e
  have:=Dx.int
  subst this
  exact .inl ⟨i,rfl,q _ H (Nx.refl S) rfl⟩
 |bl k=>
  cases e
  rcases Dx with h|⟨o,a,q',_⟩
  ·cases h
   exact .inr ⟨k,rfl,q _ H (Nx.refl S) (by cases k<;>rfl)⟩
  ·cases o<;>cases q'
 |_=>cases e
def G7:qi X (fun xs H Q=>∃p ys,xs=[.ref p]/\((jB X.K H p ys/\∀l,H l=none->Q (.ref l) (upd H l (.tup ys)))\/(ju X.K H p ys/\Q (.ref p) H))) (b1 .tuple):=by
 intro env σ H x z v Q S Dx e q
 simp only[b1]at e
 cases es:bN x with
 |none=>rw[es]at e;cases e
 |some xs=>
  rw[es]at e
  cases e
  obtain⟨a,vs,rfl,hq,l⟩:=Dx.seq es
  refine⟨a,vs,rfl,?_⟩
  rcases hq with hq|hq
  ·refine .inl ⟨hq,fun p hp=>?_⟩
   have N:=Nx.laid (o:=.tup vs) S hp
   exact q _ _ N (dG (.inl (.inl aU)) (l.mono N.pers))
  ·exact .inr ⟨hq,q _ H (Nx.refl S) (dG hq l)⟩
def JV:qi X (fun xs H Q=>(∃p ys,xs=[.ref p]/\(jB X.K H p ys\/ju X.K H p ys)/\∀l,H l=none->Q (.ref l) (upd H l (.lst ys)))\/∃a ks,xs=[.ref a]/\Rd H a (sD ks)/\∀l,H l=none->Q (.ref l) (upd H l (.lst (ks.map fun x=>.ref x.2.1)))) (b1 .list):=by
 intro env σ H x z v Q S Dx e q
 simp only[b1]at e
 have go:∀{xs:List D},bN x=some xs->Sq .list xs=some z->∃p ys,[v]=[V.ref p]/\(jB X.K H p ys\/ju X.K H p ys)/\∀l,H l=none->Q (.ref l) (upd H l (.lst ys)):=fun es e=>by
  cases e
  obtain⟨a,vs,rfl,hq,l⟩:=Dx.seq es
  exact⟨a,vs,rfl,hq,fun p hp=>q _ _ (Nx.laid S hp) (km S l hp)⟩
 cases x with
 |g8 ks ds=>
  cases e
  obtain⟨a,xs,rfl,hr,l⟩:=Dx.g8
  exact .inr ⟨a,xs,rfl,hr,fun p hp=>q _ _ (Nx.laid S hp) (km S l.2.2.1 hp)⟩
 |tup xs=>exact .inl (go rfl e)
 |lst xs=>exact .inl (go rfl e)
 |_=>cases e
def BoolsAre.get{bs:List Bool}(h:BoolsAre vs bs):∀{i:Nat}{v:Value},vs[i]? =some v->∃b,bs[i]? =some b/\v=.bool b:=by
 induction h with
 |nil=>intro i v e;simp at e
 |cons b t ih=>
  intro i v e
  cases i with
  |zero=>simp at e;subst e;exact⟨b,rfl,rfl⟩
  |succ i=>exact ih (by simpa using e)
def range_all(bs:List Bool):((List.range bs.length).all fun i=>bs.getD i false)=bs.all id:=by
 rw[Bool.eq_iff_iff]
 simp only[List.all_eq_true,List.mem_range,id]
 constructor
 ·intro h b hb
  obtain⟨i,hi,e⟩:=List.mem_iff_getElem.mp hb
  have:=h i hi
  rw[List.getD_eq_getElem?_getD,QXq hi]at this
  simpa[e]using this
 ·intro h i hi
  rw[List.getD_eq_getElem?_getD,QXq hi]
  exact h _ (List.getElem_mem hi)
def range_any(bs:List Bool):((List.range bs.length).any fun i=>bs.getD i false)=bs.any id:=by
 rw[Bool.eq_iff_iff]
 simp only[List.any_eq_true,List.mem_range,id]
 constructor
 ·rintro ⟨i,hi,h⟩
  rw[List.getD_eq_getElem?_getD,QXq hi]at h
  exact⟨bs[i],List.getElem_mem hi,by simpa using h⟩
 ·rintro ⟨b,hb,h⟩
  obtain⟨i,hi,e⟩:=List.mem_iff_getElem.mp hb
  exact⟨i,hi,by rw[List.getD_eq_getElem?_getD,QXq hi];simpa[e]using h⟩
noncomputable def Zz(K:QQq)(f:List Bool->Bool):List V->Hp->VK->Prop:=fun xs H Q=>∃p vs ds bs,xs=[.ref p]/\(jB K H p vs\/ju K H p vs)/\aq K H ds vs/\bools ds=some bs/\Q (.bl (f bs)) H
def pF{w:World}{its:List Value}(hb:BoolsAre its bs):TruthOf P w A (fun i v=>its.toArray[i]? =some v) fun i=>bs.getD i false:=by
 intro i v s Q E hv h
 obtain⟨b,e,rfl⟩:=hb.get (by simpa using hv)
 have h:Q (bs.getD i false) s:=h
 rw[List.getD_eq_getElem?_getD,e]at h
 exact wpAny_truthy_bool h
def tu{id:String}{g:Nat->(Nat->Bool)->Bool}(hc:X.calm=true)(hg:∀bs:List Bool,g bs.length (fun i=>bs.getD i false)=f bs)
  (hcall:∀{E:QZq}{s:Shared}{x:Value}{Q:QZq},
   wpAny (model X.prog X.w) X.A.in1 (pyIter x) (fun it s₂=>∃I fp wr n P St tr,it=.ref I/\Walks X.prog X.w X.A.in1 I fp wr n P St/\St 0 s₂.heap/\TruthOf X.prog X.w X.A.in1 P tr/\
    ∀h' tk,(∀b o,b∉wr->s₂.heap.get? b=some o->h'.get? b=some o)->Q (.bool (g n tr)) {s₂ with heap:=h',toks:=tk}) E s->wpAny (model X.prog X.w) X.A (call (.builtin id) [x]) Q E s):
  fU X (.builtin id) (Zz X.K f):=by
 intro γ s σ H xs us Q I r h
 obtain⟨a,vs,ds,bs,rfl,hq,l,hb,q⟩:=h
 obtain⟨u,rfl,ru⟩:=Vals.one r
 cases ru
 have hh:X.A.in1.handled=none:=I.ok.hd hc
 refine hcall ?_
 have fin:∀its o,Vals vs its->∀h' tk,(∀b o',b∉[s.heap.objs.size]->(s.heap.push o).get? b=some o'->h'.get? b=some o')->EP X γ σ Q (.bool (g its.toArray.size fun i=>bs.getD i false)) {s with heap:=h',toks:=tk}:=fun its o rv h' tk k=>by
  have hl:its.toArray.size=bs.length:=by
   have:=(gb hb l rv).length
   simpa using this
  rw[hl,hg]
  refine⟨.bl (f bs),H,I.kept fun b o' e=>k b o' ?_ (QWq _ e),rfl,q⟩
  simp only[QDz]
  exact Qvz (Qqz e)
 rcases hq with hq|hq
 ·obtain⟨its,rv,p,hz⟩:=I.list hq
  have hlt:a≠s.heap.objs.size:=by
   obtain⟨o,n,e,_⟩:=p
   exact Qvz (Qqz e)
  refine wpAny_pyIter_list p.isList ⟨s.heap.objs.size,[s.heap.objs.size,a],[s.heap.objs.size],its.toArray.size,_,_,_,rfl,Walks.list hh _ a hlt its.toArray,⟨⟨_,Qzq _ rfl,rfl,rfl⟩,p.isList.at fun o e=>QWq _ e⟩,pF (gb hb l rv),fin its _ rv⟩
 ·obtain⟨its,rv,p,hz⟩:=I.tuple hq
  have hlt:a≠s.heap.objs.size:=by
   obtain⟨o,e,_⟩:=p
   exact Qvz (Qqz e)
  have p':s.heap.IsTuple a its.toArray:=p
  refine wpAny_pyIter_tuple p' ⟨s.heap.objs.size,[s.heap.objs.size,a],[s.heap.objs.size],its.toArray.size,_,_,_,rfl,Walks.tuple hh _ a hlt its.toArray,⟨⟨_,Qzq _ rfl,rfl,rfl⟩,p'.at fun o e=>QWq _ e⟩,pF (gb hb l rv),fin its _ rv⟩
def IV(hc:X.calm=true):fU X (.builtin "all") (Zz X.K (·.all id)):=tu hc range_all call_all_walk
def IK(hc:X.calm=true):fU X (.builtin "any") (Zz X.K (·.any id)):=tu hc range_any call_any_walk
def uJ{f:List Bool->Bool}(hb:∀xs,Sq bb xs=(bools xs).map fun bs=>.val (.bl (f bs)))(h1:∀x,b1 bb x=(bN x).bind (Sq bb)):qi X (Zz X.K f) (b1 bb):=by
 intro env σ H x z v Q S Dx e q
 rw[h1]at e
 cases es:bN x with
 |none=>rw[es]at e;cases e
 |some xs=>
  rw[es]at e
  simp only[Option.bind,hb]at e
  cases eb:bools xs with
  |none=>rw[eb]at e;cases e
  |some bs=>
   rw[eb]at e
   cases e
   obtain⟨a,vs,rfl,hq,l⟩:=Dx.seq es
   exact⟨a,vs,xs,bs,rfl,hq,l,eb,q _ H (Nx.refl S) rfl⟩
def Qq:qi X (Zz X.K (·.all id)) (b1 .all):=uJ (fun _=>rfl) fun _=>rfl
def Qp:qi X (Zz X.K (·.any id)) (b1 .any):=uJ (fun _=>rfl) fun _=>rfl
end
end Mini
end
section
namespace HT
open PySem PySem.Spec PyProof.Rows
section
def lF{t sl:Addr}{vl vu:Value}{lo hi:Option Int}(ht:IsTup s.heap t items)(hs:s.heap.IsSliceOf sl vl vu .none)(pl:IsPart vl lo)(pu:IsPart vu hi)
  (hw:fM items.size 0 lo=0/\fM items.size items.size hi=items.size)(h:Q (.ref t) s):wpAny (model prog w) A (getItem (.ref t) (.ref sl)) Q E s:=by
 obtain⟨os,hos,hcs,hds⟩:=id hs
 unfold getItem
 try with_reducible refine Qqq ?_
 first|refine QKq _|skip
 refine QKq (wpAny_sequenceKey ht.typeIs (by decide) ?_)
 refine QKq (wpAny_callSpecial?_slot ht.typeIs PyProof.Rows.slot_tuple_getitem
  (Qzz PyProof.Rows.slot_tuple_getitem ht.typeIs entry_tuple_getitem ?_ (args_tuple_getitem _ _)))
 show wpAny _ _ (Builtin.Tuple.tupleItemsOf _>>=_) _ _ s
 refine QKq (tupleItemsOf_ ht ?_)
 refine QKq (wpAny_typeOf ⟨os,hos,hcs⟩ ?_)
 refine QKq (iy hs pl pu ?_)
 have hno:((((fM items.size 0 lo):Int)==0&&(1:Int)==1&&(fM items.size items.size hi-fM items.size 0 lo)==items.size)=true):=by
  rw[hw.1,hw.2];simp
 show wpAny _ _ (if (((fM items.size 0 lo):Int)==0&&1==1&&_==items.size)=true then _ else _) _ _ s
 rw[if_pos hno]
 exact QKq (QKq (wpAny_typeOf ht.typeIs (QKz (QKq (wpAny_rule (QKz ⟨_,rfl,QKz h⟩))))))
end
end HT
namespace Mini
open PySem L2
section
noncomputable def T6(K:QQq):V->Option Int->Option Int->Hp->VK->Prop:=fun x lo hi H Q=>∃a xs,x=.ref a/\ju K H a xs/\
 (HT.fM xs.length 0 lo=0/\HT.fM xs.length xs.length hi=xs.length)/\Q (.ref a) H
def P0:SQ X (T6 X.K):=by
 intro γ s σ H x v vl vu lo hi sl Q I rx hs pl pu h
 obtain⟨a,xs,rfl,hx,hw,q⟩:=h
 cases rx
 obtain⟨its,r,ht,hz⟩:=I.tuple hx
 have hlen:its.toArray.size=xs.length:=by rw[Qyq];exact r.length.symm
 exact⟨"tuple",_,PyProof.Rows.slot_tuple_getitem.lookup,ht.typeIs,HT.lF ht hs pl pu (by rw[hlen];exact hw) ⟨.ref a,H,I,rfl,q⟩⟩
noncomputable def abu(K:QQq):V->Option Int->Option Int->Hp->VK->Prop:=fun x lo hi H Q=>abr K x lo hi H Q\/T6 K x lo hi H Q\/abt K x lo hi H Q
def Wn:SQ X (abu X.K):=Wm.or (P0.or Qa)
def qw n i d:clip n i=HT.fM n d (some i):=by
 unfold clip HT.fM
 dsimp only
 by_cases h:i<0
 ·rw[if_pos h,if_pos h]
  split
  ·omega
  ·split<;>omega
 ·rw[if_neg h,if_neg h,if_neg h]
  split<;>omega
def YS{α:Type}(xs:List α)a b:(xs.take b).drop a=(xs.drop a).take (b-a):=by
 rw[List.drop_take]
def xF{H:Hp}{vs:List V}(l:aq K H ds vs)lo hi:aq K H (cut ds lo hi) (xG vs lo hi):=by
 have hl:=l.length
 unfold cut xG
 rw[YS]
 cases lo with
 |none=>
  cases hi with
  |none=>rw[HT.mR,HT.mR,<-hl];exact(l.drop _).take _
  |some j=>rw[HT.mR,<-hl,<-qw];exact(l.drop _).take _
 |some i=>
  cases hi with
  |none=>rw[HT.mR,<-hl,<-qw];exact(l.drop _).take _
  |some j=>rw[<-hl,<-qw,<-qw];exact(l.drop _).take _
def Iv{lo hi:Option Int}(h:HT.fM vs.length 0 lo=0/\HT.fM vs.length vs.length hi=vs.length):xG vs lo hi=vs:=by
 unfold xG
 rw[h.1,h.2]
 simp
def Av{env:Ev}{H:Hp}{z:Rv}{lo hi:Option Int}(S:Sat K env σ H)(D1:bI K H d v)(e:dO d lo hi=some z)(q:∀w H',Nx K env σ H env H'->gK K σ H H' z w->Q w H'):abu K v lo hi H Q:=by
 cases d with
 |tup xs=>
  cases e
  obtain⟨a,vs,rfl,hq,l⟩:=cA D1
  by_cases hw:HT.fM vs.length 0 lo=0/\HT.fM vs.length vs.length hi=vs.length
  ·refine .inr (.inl ⟨a,vs,rfl,hq,hw,q _ H (Nx.refl S) ?_⟩)
   have:=xF l lo hi
   rw[Iv hw]at this
   exact dG hq this
  ·refine .inl ⟨a,vs,rfl,hq,hw,fun p hp=>?_⟩
   have N:=Nx.laid (o:=.tup (xG vs lo hi)) S hp
   exact q _ _ N (dG (.inl (.inl aU)) ((xF l lo hi).mono N.pers))
 |lst xs=>
  cases e
  obtain⟨a,vs,rfl,hq,l⟩:=cU D1
  exact .inr (.inr ⟨a,vs,rfl,hq.sq,fun p hp=>q _ _ (Nx.laid S hp) (km S (xF l lo hi) hp)⟩)
 |_=>cases e
def GO(X:Cx)(W:Wi)(c:Cf)(m:E)(eo:Option Expr):Prop:=(m=.noneE/\eo=Option.none)\/∃e,eo=Option.some e/\m.fQ=false/\GE X W c m e
noncomputable def tPt(X:Cx)(W:Wi)(c:Cf)(m:E):TO:=fun σ H Q=>∃env,tD X.K W env (ev c m env) σ H fun v H1=>∀d,bI X.K H1 d v->∃o,cC m.fQ d=some o/\Q o H1
def GO.po(h:GO X W c m eo):PO X eo (tPt X W c m):=by
 rcases h with ⟨rfl,rfl⟩|⟨e,rfl,hn,h⟩
 ·intro γ s σ H Q I q
  obtain⟨env,q⟩:=q
  obtain⟨o,e,z⟩:=q.2 .non H (Nx.refl q.1) rfl .non rfl
  cases e
  exact QK γ s σ H Q I z
 ·intro γ s σ H Q I q
  obtain⟨env,q⟩:=q
  refine QJ h.d γ s σ H Q I ⟨env,q.1,?_⟩
  have q2:=q.2
  have go:∀d v H',bI X.K H' d v->(∀d,bI X.K H' d v->∃o,cC m.fQ d=some o/\Q o H')->∃i,v=.int i/\Q (some i) H':=fun d v H' Dv z=>by
   obtain⟨o,e,z⟩:=z d Dv
   rw[hn]at e
   cases d with
   |int i=>cases e;exact⟨i,Dv,z⟩
   |_=>cases e
  cases r:ev c m env with
  |bad=>rw[r]at q2;exact q2
  |exc k δ=>rw[r]at q2;exact q2
  |ok x δ=>
   rw[r]at q2
   cases x with
   |val d=>exact fun v H' N Dv=>go d v H' Dv (q2 v H' N Dv)
   |new o=>exact fun v H' N Dv=>go o.d v H' Dv (q2 v H' N Dv)
   |ref i=>exact q2
def yV{H:Hp}{d d':D}{o:Option Int}(h:bI K H d v)(e:cC fQ d=some o)(h':bI K H d' v):cC fQ d'=some o:=by
 cases fQ with
 |true=>exact e
 |false=>
  cases d with
  |int i=>
   subst h
   cases d' with
   |int j=>cases (h');exact e
   |non=>cases (h')
   |bl b=>cases (h')
   |str x=>cases (h')
   |tup ds=>obtain⟨a,vs,z,_⟩:=cA h';cases z
   |lst ds=>obtain⟨a,vs,z,_⟩:=cU h';cases z
   |cR ks ds=>unfold bI at h';obtain⟨a,o,kvs,z,_⟩:=h';cases z
   |g8 ks ds=>unfold bI at h';obtain⟨a,o,xs,z,_⟩:=h';cases z
  |_=>cases e
def Yr(ha:GE X W c m1 a)(hl:GO X W c m2 lo)(hh:GO X W c m3 hi):GE X W c (.slc m1 m2 m3) (.Subscript a (.Slice lo hi none p2) pos):=by
 intro env
 refine PE.imp (Kw Wn ha.d hl.po hh.po) fun σ H Q q=>?_
 refine⟨env,aZ q fun d δ v H1 N1 D1 q1=>⟨δ,aZ q1 fun dl ε vl H2 N2 D2 q2 dl' D2'=>?_⟩⟩
 cases el:cC m2.fQ dl with
 |none=>rw[el]at q2;exact q2.2.elim
 |some l=>
  rw[el]at q2
  refine⟨l,yV D2 el D2',ε,aZ q2 fun dh env3 vh H3 N3 D3 q3 dh' D3'=>?_⟩
  obtain⟨z,ez,S,q4⟩:=cJ q3
  cases eh:cC m3.fQ dh with
  |none=>rw[eh]at ez;cases ez
  |some h=>
   rw[eh]at ez
   exact⟨h,yV D3 eh D3',Av S (D1.mono (N2.trans N3).pers) ez q4⟩
def ada(X:Cx)(x:Str)(d:D):Prop:=∃v u,X.mg x=some u/\RelV v u/\∀H,bI X.K H d v
def RJ{x:Str}(hk:c.gl k=some d)(h:ada X x d)(hg:Gl X x)(hd:(x==("__debug__":Str))=false):GE X W c (.glob k) (.Name x pos):=by
 obtain⟨v,u,hm,r,hD⟩:=h
 intro env
 refine PE.imp (QR hg hm r hd) fun σ H Q q=>?_
 simp only[v_2,hk]at q
 exact dY q (hD H)
end
def gj{a:Addr}(h:H a=some u)(hu:O3 u):bR H (upd H a u'):=by
 refine⟨fun b xs q=>?_,fun b o' w q=>?_⟩
 ·rw[aC (fun z=>by subst z;rw[h]at q;cases q;exact hu.tup xs rfl)];exact q
 ·rw[aC (fun z=>by subst z;rw[h]at q;cases q;exact hu.frz o' w rfl)];exact q
def qG{f:Ob->Option Ob}(h:cX k f env=some env'):∃o o',f o=some o'/\((env[k]? =some (.own o)/\env'=env.set k (.own o'))\/(env[k]? =some (.bor o)/\env'=env.set k (.bor o'))):=by
 unfold cX at h
 cases e:env[k]? with
 |none=>rw[e]at h;cases h
 |some s=>
  rw[e]at h
  cases s with
  |un=>cases h
  |val d=>cases h
  |own o=>
   cases e2:f o with
   |none=>simp only[e2]at h;cases h
   |some o'=>simp only[e2]at h;cases h;exact⟨o,o',e2,.inl ⟨rfl,rfl⟩⟩
  |bor o=>
   cases e2:f o with
   |none=>simp only[e2]at h;cases h
   |some o'=>simp only[e2]at h;cases h;exact⟨o,o',e2,.inr ⟨rfl,rfl⟩⟩
def Nx.turn{env:Ev}{H:Hp}{sl sl':Sl}{a:Addr}(S:Sat K env σ H)(hs:(sl=.own o/\sl'=.own o')\/(sl=.bor o/\sl'=.bor o'))(e:env[k]? =some sl)(es:σ[k]? =some (some (.ref a)))
  (ha:H a=some u)(hu:O3 u)(hd:Jg K H o' u'):Nx K env σ H (env.set k sl') (upd H a u'):=by
 have p:=gj (u':=u') ha hu
 have ow:isOwn sl=some o/\isOwn sl'=some o':=by rcases hs with ⟨rfl,rfl⟩|⟨rfl,rfl⟩<;>exact⟨rfl,rfl⟩
 have oa:aW env σ k a:=⟨⟨_,o,e,ow.1⟩,es⟩
 have hi:=(QCz.mp e).1
 have sub:∀j b,aW (env.set k sl') σ j b->aW env σ j b:=fun j b z=>by
  obtain⟨⟨s,ys,e1,e2⟩,e3⟩:=z
  by_cases hj:k=j
  ·subst hj;exact⟨⟨sl,o,e,ow.1⟩,e3⟩
  ·rw[Qxz hj]at e1;exact⟨⟨s,ys,e1,e2⟩,e3⟩
 refine⟨⟨by simpa using S.len,fun j s ej=>?_,fun j l b z w=>S.ne j l b (sub j b z) (sub l b w)⟩,sub,p,fun b w q n=>?_,fun b q=>?_,fun j ys ej=>?_⟩
 ·by_cases hj:k=j
  ·subst hj
   rw[Qwq hi]at ej
   cases ej
   have at_:jz K _ o' a:=⟨u',aU,hd.mono p⟩
   rcases hs with ⟨_,rfl⟩|⟨_,rfl⟩
   ·exact⟨a,by rw[es];rfl,at_⟩
   ·exact⟨a,by rw[es];rfl,at_⟩
  ·rw[Qxz hj]at ej
   refine(S.sl j s ej).keep p fun b w ho ev hb=>?_
   have nb:b≠a:=fun z=>by
    subst z
    exact hj (S.ne k j b oa (wG ej ho ev))
   rw[aC nb];exact hb
 ·rw[aC (fun z=>by subst z;exact n k oa)];exact q
 ·by_cases hb:b=a
  ·subst hb;rw[aU]at q;cases q
  ·rw[aC hb]at q;exact q
 ·by_cases hj:k=j
  ·subst hj
   rw[e]at ej
   cases ej
   rcases hs with ⟨z,_⟩|⟨_,rfl⟩
   ·cases z
   ·exact⟨o',by rw[Qwq hi]⟩
  ·exact⟨ys,by rw[Qxz hj];exact ej⟩
def Dz{env env':Ev}{H:Hp}{f:Ob->Option Ob}(S:Sat K env σ H)(h:cX k f env=some env'):
  ∃o o' a u,f o=some o'/\σ[k]? =some (some (.ref a))/\H a=some u/\Jg K H o u/\bB k env=some o.d/\∀u',Jg K H o' u'->Nx K env σ H env' (upd H a u'):=by
 obtain⟨o,o',ef,hh⟩:=qG h
 rcases hh with ⟨e,rfl⟩|⟨e,rfl⟩
 ·obtain⟨a,e1,u,e2,e3⟩:=S.sl k _ e
  exact⟨o,o',a,u,ef,cg e1,e2,e3,by unfold bB;rw[e],fun u' hd=>Nx.turn S (.inl ⟨rfl,rfl⟩) e (cg e1) e2 e3.uT hd⟩
 ·obtain⟨a,e1,u,e2,e3⟩:=S.sl k _ e
  exact⟨o,o',a,u,ef,cg e1,e2,e3,by unfold bB;rw[e],fun u' hd=>Nx.turn S (.inr ⟨rfl,rfl⟩) e (cg e1) e2 e3.uT hd⟩
def KR{o o':Ob}(h:uR f o=some o'):∃xs ys,o=.lst xs/\f xs=some ys/\o'=.lst ys:=by
 cases o with
 |lst xs=>
  simp only[uR]at h
  cases e:f xs with
  |none=>rw[e]at h;cases h
  |some ys=>rw[e]at h;cases h;exact⟨xs,ys,rfl,e,rfl⟩
 |dct ks vs=>cases h
 |sdt ks vs=>cases h
def qH{env env':Ev}{H:Hp}{f:List D->Option (List D)}(S:Sat K env σ H)(h:cX k (uR f) env=some env'):
  ∃xs ys a vs,f xs=some ys/\σ[k]? =some (some (.ref a))/\H a=some (.lst vs)/\aq K H xs vs/\bB k env=some (.lst xs)/\∀ws,aq K H ys ws->Nx K env σ H env' (upd H a (.lst ws)):=by
 obtain⟨o,o',a,u,ef,es,ha,hd,lk,N⟩:=Dz S h
 obtain⟨xs,ys,rfl,e,rfl⟩:=KR ef
 obtain⟨vs,rfl,l⟩:=hd
 exact⟨xs,ys,a,vs,e,es,ha,l,lk,fun ws hw=>N _ ⟨ws,rfl,hw⟩⟩
theorem cW.lst{K:QQq}{H:Hp}{xs:List D}{v:V}(h:cW K H (.lst xs) v):∃a vs,v=.ref a/\jB K H a vs/\aq K H xs vs:=by
 rcases h with h|⟨o,a,q,rfl,u,ha,hq⟩
 ·obtain⟨a,vs,rfl,hq,l⟩:=cU h
  exact⟨a,vs,rfl,hq.sq,l⟩
 ·cases o<;>cases q
  obtain⟨vs,rfl,l⟩:=hq
  exact⟨a,vs,rfl,.inl (.inl ha),l⟩
structure Ab(X:Cx)(o:Expr)(name:Str)(apos:Pos)(e:Expr)(cpos:Pos):Prop where
 base:attributeBase o name X.env (eval o X.env)=eval o X.env
 line:(apos.endLine==cpos.line)=true
 star:starEach [e] X.env=[(false,eval e X.env)]
section
def Ab.few(h:Ab X o name apos e cpos):((backTo cpos (starEach [e] X.env)).all (fun x=> !x.1)&&(backToKw cpos (keywordEach [] X.env)).all (fun x=>x.1.isSome)
   &&decide ([e].length+([]:List Keyword).length+(if ([]:List Keyword).isEmpty then 0 else 1)<30))=true:=by
 rw[h.star];rfl
def Kz{id:String}{to:TE}(M:Ab X o name apos e cpos)(slot:Slot "list" name id)(hty:typeOf (.builtin id)=pure (.type "method_descriptor"))(hm:MtR X id r)(ho:PE X o to)(he:PE X e te):
  PE X (.Call (.Attribute o name apos) [e] [] cpos) (tBM X.K "list" r to (JD te aaS)):=
 abL PySem.F.plainAttrs_list slot hty hm ho (cL he eU M.star) M.base M.few M.line M.star rfl
def countV{K:QQq}{H:Hp}{p:D}{x:V}(Dp:bI K H p x)(fp:flat p=true):∀{ds:List D}{vs:List V}{us:List Value},aq K H ds vs->Vals vs us->ds.all flat=true->vs.all jt=true/\us.countP (Vd x)=gC p ds:=by
 intro ds
 induction ds with
 |nil=>intro vs us l r _;rw[aq.bO.mp l]at r⊢;cases r;exact⟨rfl,rfl⟩
 |cons d ds ih=>
  intro vs us l r f
  obtain⟨v,vs',rfl,hd,l'⟩:=aq.aN.mp l
  rw[List.all_cons,QUq]at f
  cases r with
  |cons r1 r2=>
   obtain⟨i1,i2⟩:=ih l' r2 f.2
   obtain⟨j1,j2⟩:=wY Dp fp (aq.dg hd aq.gk) (by simp[f.1])
   simp only[List.all_cons,List.all_nil,Bool.and_true]at j1
   have j3:M9 v x=cQ d p:=by simpa[inV,aJ]using j2
   refine⟨by rw[List.all_cons,j1,i1];rfl,?_⟩
   rw[List.countP_cons,i2,Cv r1 j1,j3,gC]
   split<;>omega
noncomputable def Qy(K:QQq):V->List V->Hp->VK->Prop:=fun x ys H Q=>∃a vs ds d y,x=.ref a/\ys=[y]/\(jB K H a vs\/ju K H a vs)/\aq K H ds vs/\bI K H d y/\flat d=true/\ds.all flat=true/\Q (.int (gC d ds)) H
def M5{H:Hp}{v:V}(h:bI K H d v)(f:flat d=true):jt v=true:=by
 cases d with
 |non=>cases h;rfl
 |bl b=>cases h;rfl
 |int i=>cases h;rfl
 |str x=>cases h;rfl
 |_=>cases f
def Hv:MtR X "list.count" (fun x ys H Q=>(∃a vs,x=.ref a/\jB X.K H a vs)/\Qy X.K x ys H Q):=by
 intro γ s σ H x ys v us Q I rx ry h
 obtain⟨⟨a,vs,rfl,hq⟩,a',vs',ds,d,y,e1,rfl,hq',l,hd,f1,f2,q⟩:=h
 cases e1
 cases rx
 obtain⟨u,rfl,ru⟩:=Vals.one ry
 have hv:vs'=vs:=by
  rcases hq' with z|z
  ·exact I.zq z hq
  ·obtain⟨_,_,⟨o,e,c,_⟩,_⟩:=I.tuple z
   obtain⟨_,_,⟨o',_,e',c',_⟩,_⟩:=I.list hq
   rw[e]at e';cases e';rw[c]at c';injection c' with z;exact absurd z (by decide)
 subst hv
 obtain⟨its,r,pl,hz⟩:=I.list hq
 obtain⟨⟨cls,dd,data,sl⟩,n,ho,hc,hdd,hdt⟩:=id pl
 subst hc hdt
 obtain⟨g1,g2⟩:=countV hd f1 l r f2
 refine call_meets PySem.F.slot_list_count ⟨_,ho,rfl⟩ PySem.F.entry_list_count (PySem.F.args_list_count_2 _ _) (SeqAt.list_countAt a its.toArray n dd sl u _) ⟨ho,fun w hw=>gn ru (M5 hd f1) r g1 w (by simpa using hw),?_⟩
 refine⟨.int _,H,I.tok _,⟨s.toks,?_⟩,q⟩
 rw[show its.toArray.toList=its from rfl,g2]
def Hu:MtR X "tuple.count" (fun x ys H Q=>(∃a vs,x=.ref a/\ju X.K H a vs)/\Qy X.K x ys H Q):=by
 intro γ s σ H x ys v us Q I rx ry h
 obtain⟨⟨a,vs,rfl,hq⟩,a',vs',ds,d,y,e1,rfl,hq',l,hd,f1,f2,q⟩:=h
 cases e1
 cases rx
 obtain⟨u,rfl,ru⟩:=Vals.one ry
 have hv:vs'=vs:=by
  rcases hq' with z|z
  ·obtain⟨_,_,⟨o,e,c,_⟩,_⟩:=I.tuple hq
   obtain⟨_,_,⟨o',_,e',c',_⟩,_⟩:=I.list z
   rw[e]at e';cases e';rw[c]at c';injection c' with z;exact absurd z (by decide)
  ·exact I.uD z hq
 subst hv
 obtain⟨its,r,pl,hz⟩:=I.tuple hq
 obtain⟨⟨cls,dd,data,sl⟩,ho,hc,n,hdt⟩:=id pl
 subst hc hdt
 obtain⟨g1,g2⟩:=countV hd f1 l r f2
 refine call_meets PySem.F.slot_tuple_count ⟨_,ho,rfl⟩ PySem.F.entry_tuple_count (PySem.F.args_tuple_count_2 _ _) (SeqAt.tuple_countAt a its.toArray n dd sl u _) ⟨ho,fun w hw=>gn ru (M5 hd f1) r g1 w (by simpa using hw),?_⟩
 refine⟨.int _,H,I.tok _,⟨s.toks,?_⟩,q⟩
 rw[show its.toArray.toList=its from rfl,g2]
noncomputable def aej(K:QQq)(to te:TE):TE:=fun σ H Q=>to σ H fun x H1=>∃a vs,x=.ref a/\((jB K H1 a vs/\te σ H1 fun y H2=>(∃a vs,x=.ref a/\jB K H2 a vs)/\Qy K x [y] H2 Q)\/(ju K H1 a vs/\te σ H1 fun y H2=>(∃a vs,x=.ref a/\ju K H2 a vs)/\Qy K x [y] H2 Q))
def W7(M:Ab X o "count" apos e cpos)(ho:PE X o to)(he:PE X e te):PE X (.Call (.Attribute o "count" apos) [e] [] cpos) (aej X.K to te):=by
 intro γ s σ H Q I h
 refine wpAny_Call_method_late M.base M.few M.line rfl (cB (ho γ s σ H _ I h) fun v s1⟨x,H1,I1,r1,a,vs,ex,q1⟩=>?_)
 subst ex
 cases r1
 have arg:∀{id:String}{r:V->List V->Hp->VK->Prop},MtR X id r->(te σ H1 fun y H2=>r _ [y] H2 Q)->wpAny _ X.A (callWith cpos _ [.ref a] (backTo cpos (starEach [e] X.env)) _) _ X.xe s1:=fun{id r}hm z=>by
  have hA:=cL he eU M.star cpos γ s1 σ H1 (fun vs H2=>r (.ref a) vs H2 Q) I1 z
  rw[M.star]at hA⊢
  exact Calls.callWith_builtin rfl (Calls.evalArgs_plain (cB hA fun us s2⟨vs,H2,I2,r2,q2⟩=>hm γ s2 σ H2 (.ref a) vs _ us Q I2 rfl r2 q2))
 rcases q1 with ⟨hq,z⟩|⟨hq,z⟩
 ·obtain⟨its,r,pl,hz⟩:=I1.list hq
  refine⟨"list","list.count",PySem.F.plainAttrs_list,PySem.F.slot_list_count,PySem.F.type_list_count,pl.isList.typeIs,fun b eb=>?_,arg Hv z⟩
  cases eb
  obtain⟨o,n,e,c,hd,_⟩:=pl
  exact⟨o,e,hd⟩
 ·obtain⟨its,r,⟨o,eo,ec,hd,n,dt⟩,hz⟩:=I1.Am hq
  refine⟨"tuple","tuple.count",PySem.F.plainAttrs_tuple,PySem.F.slot_tuple_count,PySem.F.type_tuple_count,⟨o,eo,ec⟩,fun b eb=>?_,arg Hu z⟩
  cases eb
  exact⟨o,eo,hd⟩
def MP(M:Ab X o "count" apos e cpos)(ho:GE X W c m1 o)(he:GE X W c m2 e):GE X W c (.count m1 m2) (.Call (.Attribute o "count" apos) [e] [] cpos):=by
 intro env
 refine PE.imp (W7 M ho.d he.d) fun σ H Q q=>?_
 refine⟨env,aZ q fun d δ v H1 N1 D1 q1=>?_⟩
 cases d with
 |tup xs=>
  obtain⟨a,vs,rfl,hq,l⟩:=cA D1
  refine⟨a,vs,rfl,.inr ⟨hq,δ,aZ q1 fun d2 ε y H2 N2 D2 q2=>?_⟩⟩
  obtain⟨z,ez,S,q3⟩:=cJ q2
  simp only[zW]at ez
  split at ez
  ·rename_i hf
   cases ez
   rw[QUq]at hf
   exact⟨⟨a,vs,rfl,N2.pers.Wj hq⟩,a,vs,xs,d2,y,rfl,rfl,.inr (N2.pers.Wj hq),l.mono N2.pers,D2,hf.1,hf.2,q3 _ H2 (Nx.refl S) rfl⟩
  ·cases ez
 |lst xs=>
  obtain⟨a,vs,rfl,hq,l⟩:=cU D1
  refine⟨a,vs,rfl,.inl ⟨hq.sq,δ,aZ q1 fun d2 ε y H2 N2 D2 q2=>?_⟩⟩
  obtain⟨z,ez,S,q3⟩:=cJ q2
  simp only[zW]at ez
  split at ez
  ·rename_i hf
   cases ez
   rw[QUq]at hf
   exact⟨⟨a,vs,rfl,(N2.pers.RQ hq).sq⟩,a,vs,xs,d2,y,rfl,rfl,.inl (N2.pers.RQ hq).sq,l.mono N2.pers,D2,hf.1,hf.2,q3 _ H2 (Nx.refl S) rfl⟩
  ·cases ez
 |_=>exact q1.2.elim
def LK{i:Int}(h:ix? n i=some j)(hn:n<=sizeLine): -(2 ^63)<=i/\i<2 ^63/\seqIndex? i n=some j/\j<n:=by
 have hl:=sizeLine_eq
 unfold ix? at h
 by_cases h0:i<0
 ·simp only[h0,if_true]at h
  by_cases hj:0<=i+n/\i+n<n
  ·rw[if_pos hj]at h
   have e:=QEq h
   exact⟨by omega,by omega,by rw[seqIndex_neg (by omega) (by omega),e],by omega⟩
  ·rw[if_neg hj]at h;cases h
 ·simp only[h0,if_false]at h
  by_cases hj:0<=i/\i<n
  ·rw[if_pos hj]at h
   have e:=QEq h
   exact⟨by omega,by omega,by rw[seqIndex_of (by omega) (by omega),e],by omega⟩
  ·rw[if_neg hj]at h;cases h
def lL(h:cZ d=true):∃xs,d=some (.lst xs):=by
 cases d with
 |none=>cases h
 |some d=>cases d with
  |lst xs=>exact⟨xs,rfl⟩
  |_=>cases h
def XR k k':cQ (dW k') (dW k)=decide (k'=k):=by
 cases k'<;>cases k<;>simp[dW,cQ,Bool.beq_eq_decide_eq]
def MN{x:Str}(M:Ab X (.Name x p) "pop" apos e cpos)(nm:iI X k x)(he:GE X W c m e):GE X W c (.popAt k m) (.Call (.Attribute (.Name x p) "pop" apos) [e] [] cpos):=by
 intro env γ s σ H Q I q
 refine PE.imp (Kz M PySem.F.slot_list_pop PySem.F.type_list_pop Lb nm.pe he.d) (t':=fun ζ H' Q'=>ζ=σ/\H'=H/\Q'=Q) (fun ζ H' Q'⟨e1,e2,e3⟩=>?_) γ s σ H Q I ⟨rfl,rfl,rfl⟩
 subst e1 e2 e3
 simp only[VH]at q
 cases hl:cZ _ with
 |false=>rw[hl]at q;exact q.2.elim
 |true=>
  rw[hl]at q
  obtain⟨xs0,e0⟩:=lL hl
  obtain⟨u,eu,Du⟩:=dD q.1 e0
  obtain⟨a0,vs0,rfl,hq0,l0⟩:=Du.lst
  refine⟨.ref a0,eu,.inl ⟨rfl,vs0,hq0⟩,env,aZ q fun d δ y H1 N1 D1 q1=>?_⟩
  unfold rA at q1
  cases d with
  |int i=>
   cases e1:bB k δ with
   |none=>rw[e1]at q1;exact q1.2.elim
   |some d1=>
    rw[e1]at q1
    cases d1 with
    |lst xs=>
     simp only at q1
     cases hz:fits xs.length with
     |false=>rw[hz]at q1;exact q1.2.elim
     |true=>
     rw[hz]at q1
     cases e2:ix? xs.length i with
     |none=>rw[e2]at q1;exact q1.2.elim
     |some j=>
      rw[e2]at q1
      simp only at q1
      cases e3:xs[j]? with
      |none=>rw[e3]at q1;exact q1.2.elim
      |some dd=>
       cases e4:cX k _ δ with
       |none=>rw[e3,e4]at q1;exact q1.2.elim
       |some ε=>
        rw[e3,e4]at q1
        obtain⟨zs,ys,a,vs,ef,es,ha,l,lk,N⟩:=qH q1.1 e4
        rw[e1]at lk
        cases lk
        cases ef
        rw[eu]at es
        cases es
        subst D1
        obtain⟨w,ew,dw⟩:=l.get e3
        obtain⟨b1,b2,b3,b4⟩:=LK e2 (dJ hz)
        exact⟨a0,vs,i,j,w,rfl,rfl,ha,b1,b2,by rw[<-l.length];exact b3,ew,q1.2 w _ (N _ (l.eraseIdx j)) (dw.mono (N _ (l.eraseIdx j)).pers)⟩
    |_=>exact q1.2.elim
  |_=>exact q1.2.elim
def Ig{x:Str}(M:Ab X (.Name x p) "append" apos e cpos)(nm:iI X k x)(he:GE X W c m e):GS X W c (.append k m) (.Expr (.Call (.Attribute (.Name x p) "append" apos) [e] [] cpos) pos):=by
 intro env
 refine PS.imp (wD (Kz M PySem.F.slot_list_append PySem.F.type_list_append uX nm.pe he.d) rfl) fun D σ H q=>?_
 simp only[x_9]at q
 cases hl:cZ _ with
 |false=>rw[hl]at q;exact q.2.elim
 |true=>
  rw[hl]at q
  obtain⟨xs0,e0⟩:=lL hl
  obtain⟨u,eu,Du⟩:=dD q.1 e0
  obtain⟨a0,vs0,rfl,hq0,l0⟩:=Du.lst
  refine⟨.ref a0,eu,.inl ⟨rfl,vs0,hq0⟩,env,n8 q fun d δ y H1 N1 D1 q1=>?_⟩
  cases e4:cX k _ δ with
  |none=>rw[e4]at q1;exact q1.2.elim
  |some ε=>
   rw[e4]at q1
   obtain⟨zs,ys,a,vs,ef,es,ha,l,lk,N⟩:=qH q1.1 e4
   rw[eu]at es
   cases es
   split at ef
   ·rename_i hf
    cases ef
    have:=dJ hf
    refine⟨a0,vs,y,rfl,rfl,ha,by rw[<-l.length];omega,q1.2 _ _ (N _ (l.append (aq.dg D1 aq.gk))).z⟩
   ·cases ef
noncomputable def abA(K:QQq):V->List V->Hp->VK->Prop:=fun x vs H Q=>∃l b xs zs,x=.ref l/\vs=[.ref b]/\H l=some (.lst xs)/\jB K H b zs/\xs.length+zs.length<=sizeLine/\Q .non (upd H l (.lst (xs++zs)))
def uq l items n b items2 n2 sl(hc0:¬(!items.isEmpty&&Builtin.List.listTooLong (items.size+items2.size))=true)(hc1:items.size<=sizeLine)(hs2:items.size+items2.size<=sizeLine+1):
  Meets (Builtin.«list.extend» ⟨[.ref l,.ref b],[]⟩) (fun _ R s=>s.heap.get? l=some {cls:=.type "list",dict:=none,data:=.seq items n,slots:= #[]}/\s.heap.get? b=some {cls:=.type "list",dict:=none,data:=.seq items2 n2,slots:=sl}/\R (.ok (.ret Value.none)) {s with heap:=s.heap.update l (Obj.mapSeq fun x=>x++items2),toks:=s.toks}):=
 .of_wp fun prog w A R s h=>by
  obtain⟨hp,g,d,tk,os⟩:=s;obtain⟨hl,hb,h⟩:=h;have f1:=AutoSeq1.idx_int;have f2:=AutoSeq1.sub_tuple_tuple;have f3:=AutoSeq1.sub_list_list;have f4:=AutoSeq1.sub_tuple_list;have f5:=AutoSeq1.sub_list_tuple;
  have hz':(items++items2).size<=sizeLine+1:=by rw[Array.size_append];exact hs2
  wp_walk using (wpAny_updateSeq hl rfl),AutoSeq1.wpAny_loadPart' hl,AutoSeq1.wpAny_loadPart' hb;exact⟨_,rfl,h⟩
def Rf:MtR X "list.extend" (abA X.K):=by
 intro γ s σ H x vs v us Q I rx rv h
 obtain⟨l,b,xs,zs,rfl,rfl,hH,hB,hz,q⟩:=h
 cases rx
 obtain⟨u,rfl,ru⟩:=Vals.one rv
 cases ru
 obtain⟨z,its,n,r,hl,e⟩:=I.Xy hH
 obtain⟨its2,r2,⟨⟨cls,dd,data,sl⟩,n2,e2,hc2,hd2,hdt⟩,hz2⟩:=I.list hB
 have hl2:=r2.length
 subst hc2 hdt hd2
 have hsz:its.toArray.size+its2.toArray.size<=sizeLine:=by rw[Qyq,Qyq];omega
 have hlong:¬(!its.toArray.isEmpty&&Builtin.List.listTooLong (its.toArray.size+its2.toArray.size))=true:=by
  rw[KZ hsz,Bool.and_false]
  exact Qjz
 refine call_meets PySem.F.slot_list_extend ⟨_,e,rfl⟩ PySem.F.entry_list_extend (PySem.F.args_list_extend_2 _ _)
  (uq l its.toArray n b its2.toArray n2 sl hlong (by rw[Qyq];omega) (by omega)) ⟨e,e2,?_⟩
 refine⟨.non,_,I.Xz hH e (by simp) (r.append r2) ?_,rfl,q⟩
 rw[QTq]
 omega
def Ie{x:Str}(M:Ab X (.Name x p) "extend" apos e cpos)(nm:iI X k x)(he:GE X W c m e):GS X W c (.extend k m) (.Expr (.Call (.Attribute (.Name x p) "extend" apos) [e] [] cpos) pos):=by
 intro env
 refine PS.imp (wD (Kz M PySem.F.slot_list_extend PySem.F.type_list_extend Rf nm.pe he.d) rfl) fun D σ H q=>?_
 simp only[ad4]at q
 cases hl:cZ _ with
 |false=>rw[hl]at q;exact q.2.elim
 |true=>
  rw[hl]at q
  obtain⟨xs0,e0⟩:=lL hl
  obtain⟨u,eu,Du⟩:=dD q.1 e0
  obtain⟨a0,vs0,rfl,hq0,l0⟩:=Du.lst
  refine⟨.ref a0,eu,.inl ⟨rfl,vs0,hq0⟩,env,n8 q fun d δ y H1 N1 D1 q1=>?_⟩
  cases d with
  |lst ys=>
   simp only[gr,Option.bind]at q1
   cases e4:cX k _ δ with
   |none=>rw[e4]at q1;exact q1.2.elim
   |some ε=>
    rw[e4]at q1
    obtain⟨zs,ys',a,vs,ef,es,ha,l,lk,N⟩:=qH q1.1 e4
    rw[eu]at es
    cases es
    obtain⟨b,ws,rfl,hb,l1⟩:=cU D1
    split at ef
    ·rename_i hf
     cases ef
     exact⟨a0,b,vs,ws,rfl,rfl,ha,hb.sq,by rw[<-l.length,<-l1.length];exact dJ hf,q1.2 _ _ (N _ (l.append l1)).z⟩
    ·cases ef
  |_=>exact q1.2.elim
noncomputable def T9:V->V->V->Hp->(Hp->Prop)->Prop:=fun o i v H Q=>∃a H',o=.ref a/\O1 H a i v H'/\Q H'
def Qd(hu:X.A.units+1<cLine):Jb X T9:=by
 intro γ s σ H o i v ov iv u Q I ro ri rv h
 obtain⟨a,H',rfl,g,q⟩:=h
 cases ro
 exact Ir hu I g ri rv fun s4 I4=>⟨H',I4,q⟩
noncomputable def T7(K:QQq):V->V->V->Hp->(Hp->Prop)->Prop:=fun o i v H Q=>∃d a k xs,o=.ref d/\i=.ref a/\H d=some (.dS xs)/\(∀x∈xs,cM K H x.1 x.2.1)/\cM K H k a/\xs.length<sizeLine/\Q (upd H d (.dS (oJ k a v xs)))
def Wo(hu:X.A.units+9<cLine):Jb X (T7 X.K):=by
 intro γ s σ H o i v ov iv u Q I ro ri rv h
 obtain⟨d,a,k,xs,rfl,rfl,hd,hk,ka,hl,q⟩:=h
 cases ro
 cases ri
 exact G4 hu I hd hk ka hl rv fun s4 I4=>⟨_,I4,q⟩
noncomputable def Ua(K:QQq):V->V->V->Hp->(Hp->Prop)->Prop:=fun o i v H Q=>∃d a k,o=.ref d/\i=.ref a/\H d=some (.dK [])/\cM K H k a/\Q (upd H d (.dS [(k,a,v)]))
def set_0(hu:X.A.units+9<cLine):Jb X (Ua X.K):=by
 intro γ s σ H o i v ov iv u Q I ro ri rv h
 obtain⟨d,a,k,rfl,rfl,hd,ka,q⟩:=h
 cases ro
 cases ri
 exact Ax hu I hd ka rv fun s4 I4=>⟨_,I4,q⟩
noncomputable def abv(K:QQq):V->V->V->Hp->(Hp->Prop)->Prop:=fun o i v H Q=>T8 o i v H Q\/T9 o i v H Q\/T7 K o i v H Q\/Ua K o i v H Q
def Qe(hu:X.A.units+9<cLine):Jb X (abv X.K):=by
 intro γ s σ H o i v ov iv u Q I ro ri rv h
 rcases h with h|h|h|h
 ·exact set_list γ s σ H o i v ov iv u Q I ro ri rv h
 ·exact Qd (by omega) γ s σ H o i v ov iv u Q I ro ri rv h
 ·exact Wo hu γ s σ H o i v ov iv u Q I ro ri rv h
 ·exact set_0 hu γ s σ H o i v ov iv u Q I ro ri rv h
def X4{i:Int}(h:ix? n i=some j):Rp n i=some j:=by
 unfold ix? at h
 unfold Rp
 by_cases h0:i<0
 ·simp only[h0,if_true]at h
  rw[if_neg (by omega)]
  by_cases hj:0<=i+n/\i+n<n
  ·rw[if_pos hj]at h;rw[if_pos (by omega)];exact h
  ·rw[if_neg hj]at h;cases h
 ·simp only[h0,if_false]at h
  rw[if_pos (by omega)]
  by_cases hj:0<=i/\i<n
  ·rw[if_pos hj]at h;rw[if_pos hj.2];exact h
  ·rw[if_neg hj]at h;cases h
theorem yF{H:Hp}{d:D}(hv:bI K H d v):∀{kvs:List (Key×V)}{ds:List D},aq K H ds (kvs.map (·.2))->
  aq K H (qW (dW k) d (kvs.map fun p=>dW p.1) ds) ((kvs.map fun kv=>if kv.1=k then(kv.1,v)else kv).map (·.2))
 |[],ds,l=>by
  have:ds=[]:=by have:=l.length;cases ds<;>simp_all
  exact aq.gk
 |(k',u)::r,ds,l=>by
  cases ds with
  |nil=>have:=l.length;simp at this
  |cons x ds=>
   obtain⟨w,ws,e,h1,h2⟩:=aq.aN.mp l
   cases e
   have ih:=yF (k:=k) hv h2
   simp only[Qyz,qW,XR]
   by_cases q:k'=k
   ·simp only[q,decide_true,if_true]
    exact aq.dg hv ih
   ·simp only[q,decide_false,Qxq,if_false]
    exact aq.dg h1 ih
theorem uM{v:V}:∀(kvs:List (Key×V)),(kvs.map fun kv=>if kv.1=k then(kv.1,v)else kv).map (fun p=>dW p.1)=kvs.map fun p=>dW p.1
 |[]=>rfl
 |(k',u)::r=>by
  simp only[Qyz,uM r]
  split<;>rfl
def Ed{H:Hp}{d:D}(hv:bI K H d v){ds:List D}(l:aq K H ds (kvs.map (·.2))):
  (putD (dW k) d (kvs.map fun p=>dW p.1) ds).1=(putK kvs k v).map (fun p=>dW p.1)/\aq K H (putD (dW k) d (kvs.map fun p=>dW p.1) ds).2 ((putK kvs k v).map (·.2)):=by
 unfold putD putK
 rw[<-j7,<-ye]
 split
 ·rename_i h
  exact⟨(uM kvs).symm,yF hv l⟩
 ·refine⟨by simp,?_⟩
  rw[List.map_append]
  exact l.append (aq.dg hv aq.gk)
theorem Mx{k:Nat}{x:Str}{ix:E}{ixe:Expr}{tp:Pos}(nm:iI X k x)(he:GE X W c m e)(hi:GE X W c ix ixe)
  (ha:∀v,assign (.Subscript (.Name x p) ixe tp) X.env v=(do
   let ov<-holding [v] (eval (.Name x p) X.env)
   let iv<-holding [v,ov] (eval ixe X.env)
   standAt tp
   holding [v,ov,iv] (setItem ov iv v)
   release [v,ov,iv] []))
  (hs:swapsWithSole [.Subscript (.Name x p) ixe tp] e pos.line X.env=pure false)(hw:swappedStores [.Subscript (.Name x p) ixe tp] e X.env=pure none)(hu:X.A.units+9<cLine)
  (h1:(assignEach [.Subscript (.Name x p) ixe tp] X.env).map (·.2)=[assign (.Subscript (.Name x p) ixe tp) X.env]):
  GS X W c (.setIx k ix m) (.Assign [.Subscript (.Name x p) ixe tp] e pos):=by
 intro env
 refine PS.imp (Km he.d (WY nm.pe hi.d (Qe hu) ha) hs hw h1) fun D σ H q=>?_
 simp only[x_7]at q
 refine⟨env,n8 q fun d δ v H1 N1 D1 q1=>?_⟩
 cases e0:bB k δ with
 |none=>rw[e0]at q1;exact q1.2.elim
 |some d0=>
  rw[e0]at q1
  simp only[Option.isNone_some,Qxq,if_false]at q1
  obtain⟨u,eu,Du⟩:=dD q1.1 e0
  refine⟨u,eu,δ,n8 q1 fun d2 ε y H2 N2 D2 q2=>?_⟩
  cases e4:cX k (oK d2 d) ε with
  |none=>rw[e4]at q2;exact q2.2.elim
  |some env3=>
   rw[e4]at q2
   obtain⟨o,o',a,w,ef,es,hA,hd,lk,N⟩:=Dz q2.1 e4
   rw[eu]at es
   cases es
   cases o with
   |lst xs=>
    obtain⟨vs,rfl,l⟩:=hd
    cases d2 with
    |int i=>
     simp only[oK]at ef
     cases e5:ix? xs.length i with
     |none=>rw[e5]at ef;cases ef
     |some j=>
      rw[e5]at ef
      cases ef
      have D2':y=.int i:=D2
      subst D2'
      exact .inl ⟨a,vs,i,j,rfl,rfl,hA,by rw[<-l.length];exact X4 e5,q2.2 _ _ (N _ ⟨_,rfl,l.set (D1.mono N2.pers) j⟩).z⟩
    |_=>cases ef
   |dct ks ds=>
    obtain⟨kvs,rfl,rfl,l⟩:=hd
    simp only[oK]at ef
    split at ef
    ·rename_i hk
     rw[QUq]at hk
     cases ef
     obtain⟨kk,rfl⟩:=f9 hk.1
     have ek:=lu D2
     subst ek
     obtain⟨g1,g2⟩:=Ed (k:=kk) (D1.mono N2.pers) l
     have hf:=dJ hk.2
     rw[QAq]at hf
     exact .inr (.inl ⟨a,_,rfl,O1.k hA (by omega),q2.2 _ _ (N _ ⟨_,rfl,g1,g2⟩).z⟩)
    ·split at ef
     ·rename_i hk
      rw[QUq,List.isEmpty_iff]at hk
      cases ef
      obtain⟨b,rfl,kb⟩:=iM hk.1 D2
      have hn:kvs=[]:=by simpa using hk.2
      subst hn
      exact .inr (.inr (.inr ⟨a,b,_,rfl,rfl,hA,kb,q2.2 _ _ (N _ ⟨_,rfl,gH.aN.mpr ⟨_,_,rfl,rfl,hk.1,D2,D1.mono N2.pers,gH.nil⟩⟩).z⟩))
     ·cases ef
   |sdt ks ds=>
    obtain⟨xs,rfl,l⟩:=hd
    simp only[oK]at ef
    split at ef
    ·rename_i hk
     rw[QUq]at hk
     cases ef
     obtain⟨b,rfl,kb⟩:=iM hk.1 D2
     have g:=l.put hk.1 D2 (D1.mono N2.pers)
     have hf:=dJ hk.2
     rw[l.len.1]at hf
     exact .inr (.inr (.inl ⟨a,b,_,xs,rfl,rfl,hA,l.zy,kb,by omega,q2.2 _ _ (N _ ⟨_,rfl,g⟩).z⟩))
    ·cases ef
end
section
def Yk(he:GE X W c m e)(hv:∀k,m.aB=some k->∃x p,e=.Name x p/\iI X k x):GS X W c (.ret m) (.Return (some e) pos):=by
 intro env
 have plain:∀D σ H,tS X.K W env ((ev c m env).fl ug) D σ H->aaP (aM X W c m) D σ H:=fun D σ H q=>by
  refine⟨env,TJ q fun x δ v H1 N z q1=>?_⟩
  cases x with
  |val d=>exact q1.2 v σ H1 N.z z
  |new o=>
   obtain⟨a,e1,e2,e3⟩:=z
   exact q1.2 v σ H1 N.z ⟨a,e1,e2,.inl e3⟩
  |ref i=>exact q1.2.elim
 cases q0:m.aB with
 |none=>exact PS.imp (oM he.am) fun D σ H q=>plain D σ H (by simpa only[Ai,q0]using q)
 |some k=>
  cases e0:env[k]? with
  |none=>exact PS.imp (oM he.am) fun D σ H q=>plain D σ H (by simpa only[Ai,q0,e0]using q)
  |some sl=>
   cases sl with
   |un=>exact PS.imp (oM he.am) fun D σ H q=>plain D σ H (by simpa only[Ai,q0,e0]using q)
   |val d=>exact PS.imp (oM he.am) fun D σ H q=>plain D σ H (by simpa only[Ai,q0,e0]using q)
   |bor o=>exact PS.imp (oM he.am) fun D σ H q=>plain D σ H (by simpa only[Ai,q0,e0]using q)
   |own o=>
    obtain⟨x,p,rfl,nm⟩:=hv k q0
    refine PS.imp (oM nm.pe) fun D σ H q=>?_
    simp only[Ai,q0,e0]at q
    obtain⟨a,e1,e2⟩:=q.1.sl k _ e0
    have es:=cg e1
    have hi:=(QCz.mp e0).1
    have sub:∀j b,aW (env.set k .un) σ j b->aW env σ j b:=fun j b z=>by
     obtain⟨⟨s,ys,z1,z2⟩,z3⟩:=z
     by_cases hj:k=j
     ·subst hj;rw[Qwq hi]at z1;cases z1;cases z2
     ·rw[Qxz hj]at z1;exact⟨⟨s,ys,z1,z2⟩,z3⟩
    refine⟨.ref a,es,q.2 _ σ H ⟨⟨by simpa using q.1.len,fun j s ej=>?_,fun j l b z w=>q.1.ne j l b (sub j b z) (sub l b w)⟩,fun j b z=>.inl (sub j b z),bR.refl H,fun _ _ z _=>z,fun _ z=>z,fun j ys ej=>?_⟩ ⟨a,rfl,e2,.inr ⟨k,o,e0,es⟩⟩⟩
    ·by_cases hj:k=j
     ·subst hj;rw[Qwq hi]at ej;cases ej;trivial
     ·rw[Qxz hj]at ej;exact q.1.sl j s ej
    ·exact⟨⟨ys,by rw[Qxz (fun z=>by subst z;rw[e0]at ej;cases ej)];exact ej⟩,rfl⟩
def RC:GS X W c (.ret ABs) (.Return none pos):=fun env=>PS.imp QG fun D σ H q=>by
 simp only[Ai,E.aB,v_0,v_1,v_2,v_3,v_4,v_5,v_6,v_7,v_8,Zr,Gx,PB,aaB,Jq,aaA,aaz,VM,Pz,Py,aay,pU,VL,VJ,aax,VH,mJ,Out.fl,ug]at q
 exact q.2 .non σ H (Nz.refl q.1) rfl
theorem iR lo:∀(n i:Nat)(d:D),(bF lo n)[i]? =some d->d=.int (lo+i)/\i<n
 |0,i=>fun d h=>by simp[bF]at h
 |n+1,0=>fun d h=>by simp[bF]at h;exact⟨by rw[<-h];simp,by omega⟩
 |n+1,i+1=>fun d h=>by
  obtain⟨e,l⟩:=iR _ n i d h
  refine⟨by rw[e];congr 1;push_cast;omega,by omega⟩
theorem gh lo:∀n,(bF lo n).length=n
 |0=>rfl
 |n+1=>by rw[bF,QBq,gh]
theorem zH{H:Hp}{n:Nat}(hz:n<=sizeLine):Gives K (Itr lo n) (bF lo n) H where
 go:=fun H1 p i d e=>(iR lo n i d e).2
 yld:=fun H1 p i d e x H2 y=>by
  obtain⟨rfl,rfl⟩:=y
  rw[(iR lo n i d e).1]
  exact⟨rfl,.inl rfl⟩
 stop:=fun H1 p i hi=>by rw[gh]at hi;exact hi
 len:=by rw[gh];exact hz
def Lg(h:Ag i=true): -(2 ^62)<=i/\i<2 ^62:=by
 simp only[Ag,QUz]at h
 omega
def Ik{tg:Expr}(ha:GE X W c m a)(hg:Gl X "range")(hm:X.mg "range"=none)(hs:starEach [a] X.env=[(false,eval a X.env)]):GI X W c (.range1 m) tg (.Call (.Name "range" p) [a] [] pos):=by
 intro env γ s σ H R I q
 refine Hl hg hm (cL ha.d eU hs) hs γ s σ H R I ⟨env,q.1,?_⟩
 have q2:=q.2
 simp only[VL]at q2
 have go:∀d δ v H',Nx X.K env σ H δ H'->bI X.K H' d v->(match (lift δ (match d with|.int n=>if fits n.toNat&&Ag n then some (Rv.val (.lst (bF 0 n.toNat)))else none|_=>none))with
   |.ok x env'=>∃d xs,x.jA=some d/\items d=some xs/\∀J H',Nx X.K env σ H env' H'->Gives X.K J xs H'->R J H'
   |.exc c env'=>∀H',Nx X.K env σ H env' H'->W c env' σ H'
   |.bad=>False)->∃j:Int,[v]=[.int j]/\ -(2 ^62)<=j/\j<2 ^62/\R (Itr 0 j.toNat) H':=fun d δ v H' N Dv z=>by
  cases d with
  |int n=>
   simp only at z
   by_cases hf:(fits n.toNat&&Ag n)=true
   ·rw[if_pos hf]at z
    rw[QUq]at hf
    obtain⟨d',xs,e1,e2,z⟩:=z
    cases e1
    cases e2
    have hv:v=.int n:=Dv
    subst hv
    exact⟨n,rfl,(Lg hf.2).1,(Lg hf.2).2,z _ H' N (zH (dJ hf.1))⟩
   ·rw[if_neg hf]at z;exact z.elim
  |_=>exact z.elim
 cases r:ev c m env with
 |bad=>rw[r]at q2;exact q2
 |exc k δ=>rw[r]at q2;exact q2
 |ok x δ=>
  rw[r]at q2
  cases x with
  |val d=>exact fun v H' N Dv=>go d δ v H' N Dv q2
  |new o=>exact fun v H' N Dv=>go o.d δ v H' N Dv q2
  |ref i=>exact q2
theorem jw.z{tg:Tg}{σ ζ:St}(st:jw K tg env σ env' ζ H):Nz K env σ H env' ζ H:=
 ⟨st.eZ,fun i a z=>.inl (st.sub z),bR.refl _,fun _ _ z _=>z,fun _ z=>z,fun i xs e=>⟨⟨xs,(st.same i (st.bors i xs e)).1.trans e⟩,(st.same i (st.bors i xs e)).2⟩⟩
theorem DG{env:Ev}{H:Hp}{f:Fl}{D:Ends}(q:tS K W env (f.turn g) D σ H)
  (k:∀ε υ H2,Nz K env σ H ε υ H2->tS K W ε (g ε) D υ H2->N υ H2):tS K W env f {D with nx:=N,ct:=N,bk:=D.nx} σ H:=by
 refine⟨q.1,?_⟩
 cases f with
 |next ε=>exact fun υ H2 N2=>k ε υ H2 N2 (qK q N2)
 |cont ε=>exact fun υ H2 N2=>k ε υ H2 N2 (qK q N2)
 |brk ε=>exact q.2
 |ret r ε=>exact q.2
 |exc j ε=>exact q.2
 |bad=>exact q.2
theorem Yl{tg:Tg}{it:E}{b:S}(hp:PassesOwn (model X.prog X.w) X.A X.env X.xe)(hc:X.calm=true)(hi:GI X W c it Ψ ο)(hg:GG X tg Ψ)(hb:Ph X W c b body)
  (hs:∀x,foldedSetIterable ο X.env x=pure x):GS X W c (.for_ tg it b) (.For Ψ ο body [] pos):=by
 intro env γ s σ H D I q
 refine(WW (pos:=pos) hp hc (wi:=fun ζ H' R=>ζ=σ/\H'=H/\tI X.K W env (ev c it env) σ H R) (fun γ s ζ H' R I'⟨e1,e2,z⟩=>by subst e1 e2;exact hi env γ s _ _ R I' z) hg (tb:=fun D σ H=>∃env,tS X.K W env _ D σ H) (fun γ s σ H D I⟨env,z⟩=>hb env γ s σ H D I z) hs) γ s σ H D I ⟨rfl,rfl,?_⟩
 simp only[ad3]at q
 have tur:∀δ xs J H1,Nx X.K env σ H δ H1->Gives X.K J xs H1->tS X.K W δ _ D σ H1->∃W':Nat->Nat->St->Hp->Prop,(∃m,W' 0 m σ H1)/\∀i m σ H,W' i m σ H->
   (J.stop i H/\D.nx σ H)\/(J.go i H/\∃N:St->Hp->Prop,(∀ζ H',N ζ H'->∃m',m'<m/\W' (i+1) m' ζ H')/\∀x H',J.yld i H x H'->tG X.K tg x σ H' fun υ H2=>∃env,tS X.K W env (ex c b env) {D with nx:=N,ct:=N,bk:=D.nx} υ H2):=fun δ xs J H1 N1 G z=>by
  refine⟨fun i m ζ H'=>i<=xs.length/\m=xs.length-i/\bR H1 H'/\∃env',tS X.K W env' (aG tg (ex c b) (xs.drop i) env') D ζ H',⟨xs.length,QIq _,by simp,bR.refl _,δ,z⟩,?_⟩
  rintro i m ζ H' ⟨hi,rfl,pe,env',z⟩
  by_cases hl:i<xs.length
  ·obtain⟨d,hd⟩:∃d,xs[i]? =some d:=⟨xs[i],by simp[hl]⟩
   rw[vK hd,aG]at z
   cases e:bj tg d env' with
   |none=>rw[e]at z;exact z.2.elim
   |some ε=>
    rw[e]at z
    refine .inr ⟨G.go H' pe i d hd,fun υ H2=>bR H1 H2/\∃env3,tS X.K W env3 _ D υ H2,fun υ H2⟨p2,w⟩=>⟨xs.length- (i+1),by omega,hl,rfl,p2,w⟩,fun x H2 y=>?_⟩
    obtain⟨Dx,lay⟩:=G.yld H' pe i d hd x H2 y
    have N2:=z.1.lay lay
    refine⟨env',d,ε,N2.eZ,Dx,e,fun υ st=>⟨ε,DG (qK z (N2.z.trans st.z)) fun env3 σ3 H3 N3 w=>⟨(pe.trans N2.pers).trans N3.pers,env3,w⟩⟩⟩
  ·have e:i=xs.length:=by omega
   subst e
   rw[List.drop_length,aG]at z
   exact .inl ⟨G.stop H' pe _ (QVz _),z.2 ζ H' (Nz.refl z.1)⟩
 refine⟨q.1,?_⟩
 have go:∀(x:Rv)δ d,x.jA=some d->(match (match items d with|some xs=>aG tg (ex c b) xs δ|none=>Fl.bad)with
   |.next env'=>∀ζ H',Nz X.K env σ H env' ζ H'->D.nx ζ H'
   |.ret r env'=>∀v ζ H',Nz X.K env σ H env' ζ H'->OD X.K env σ H H' r v->D.rt v H'
   |.brk env'=>∀ζ H',Nz X.K env σ H env' ζ H'->D.bk ζ H'
   |.cont env'=>∀ζ H',Nz X.K env σ H env' ζ H'->D.ct ζ H'
   |.exc c env'=>∀ζ H',Nz X.K env σ H env' ζ H'->W c env' ζ H'
   |.bad=>False)->∃d xs,x.jA=some d/\items d=some xs/\∀J H',Nx X.K env σ H δ H'->Gives X.K J xs H'->∃W':Nat->Nat->St->Hp->Prop,(∃m,W' 0 m σ H')/\∀i m σ H,W' i m σ H->
   (J.stop i H/\D.nx σ H)\/(J.go i H/\∃N:St->Hp->Prop,(∀ζ H',N ζ H'->∃m',m'<m/\W' (i+1) m' ζ H')/\∀x H',J.yld i H x H'->tG X.K tg x σ H' fun υ H2=>∃env,tS X.K W env (ex c b env) {D with nx:=N,ct:=N,bk:=D.nx} υ H2):=fun x δ d ed z=>by
  cases e1:items d with
  |none=>rw[e1]at z;exact z.elim
  |some xs=>
   rw[e1]at z
   exact⟨d,xs,ed,e1,fun J H1 N G=>tur δ xs J H1 N G (qK ⟨q.1,z⟩ N.z)⟩
 have q2:=q.2
 cases r:ev c it env with
 |bad=>rw[r]at q2;exact q2
 |exc k δ=>rw[r]at q2;exact fun H' N=>q2 σ H' N.z
 |ok x δ=>
  rw[r]at q2
  cases x with
  |val d=>exact go _ δ d rfl q2
  |new o=>exact go _ δ o.d rfl q2
  |ref i=>exact q2.elim
def Mw{t:E}{b:S}(hp:PassesOwn (model X.prog X.w) X.A X.env X.xe)(ht:GT X W c t te)(hb:Ph X W c b body):GS X W c (.while_ t b) (.While te body [] pos):=by
 intro env
 refine PS.imp (Kl hp ht (tb:=fun D σ H=>∃env,tS X.K W env _ D σ H) (fun γ s σ H D I⟨env,z⟩=>hb env γ s σ H D I z)) fun D σ H q=>?_
 refine⟨fun n ζ H'=>∃env',tS X.K W env' (cF _ _ n env') D ζ H',⟨c.turns,env,q⟩,?_⟩
 rintro n ξ H1 ⟨δ,q1⟩
 cases n with
 |zero=>exact q1.2.elim
 |succ n=>
  refine⟨δ,JC q1 fun k ε H2 N2 q2=>?_⟩
  cases k with
  |true=>
   refine⟨fun ζ H'=>∃env',tS X.K W env' _ D ζ H',fun ζ H' w=>⟨n,Nat.lt_succ_self n,w⟩,ε,DG q2 fun env3 σ3 H3 N3 w=>⟨env3,w⟩⟩
  |false=>
   exact q2.2 ξ H2 (Nz.refl q2.1)
end
structure Cz(K:QQq)(ps:List Sl)(vs:List V)(H:Hp)(qs:List Sl)(H':Hp):Prop where
 bor:∀(i:Nat)o,ps[i]? =some (.bor o)->∃o' a,qs[i]? =some (.bor o')/\vs[i]? =some (.ref a)/\jz K H' o' a
 pers:bR H H'
 keep:∀b u,H b=some u->(∀i,¬aW ps (vs.map some) i b)->H' b=some u
 dom:∀b,H' b=none->H b=none
noncomputable def agE(K:QQq)(H H':Hp):Rv->V->Prop
 |.val d,v=>bI K H' d v
 |.new q,v=>∃a,v=.ref a/\jz K H' q a/\H a=none
 |_,_=>False
def noOwn(ps:List Sl):Prop:=∀(i:Nat)o,ps[i]? ≠some (.own o)
noncomputable def wg(K:QQq)(n:Nat)(f:List Sl->Res):Sp:=fun vs H Q _=>∃ps,vs.length=n/\Sat K ps (vs.map some) H/\noOwn ps/\match f ps with
 |.ok r qs=>∀v H',Cz K ps vs H qs H'->agE K H H' r v->Q v H'
 |.exc _ qs=>∀H',Cz K ps vs H qs H'->False
 |.bad=>False
def wF{ps:List Sl}{vs:List V}{b:Addr}(hl:ps.length=vs.length):aW (ps++List.replicate k .un) (vs.map some++List.replicate k none) i b↔aW ps (vs.map some) i b:=by
 constructor
 ·rintro ⟨⟨s,o,e1,e2⟩,e3⟩
  by_cases hi:i<ps.length
  ·rw[Qwz hi]at e1
   rw[Qwz (by simpa[<-hl]using hi)]at e3
   exact⟨⟨s,o,e1,e2⟩,e3⟩
  ·rw[QIz (by omega),List.getElem?_replicate]at e1
   split at e1
   ·cases e1;cases e2
   ·cases e1
 ·rintro ⟨⟨s,o,e1,e2⟩,e3⟩
  have hi:=(QCz.mp e1).1
  exact⟨⟨s,o,by rw[Qwz hi];exact e1,e2⟩,by rw[Qwz (by simpa[<-hl]using hi)];exact e3⟩
def Sat.pad{ps:List Sl}{vs:List V}(S:Sat K ps (vs.map some) H)k:Sat K (ps++List.replicate k .un) (vs.map some++List.replicate k none) H:=by
 have hl:ps.length=vs.length:=by simpa using S.len
 refine⟨by simp[hl],fun i s e=>?_,fun i j a h1 h2=>S.ne i j a ((wF hl).mp h1) ((wF hl).mp h2)⟩
 by_cases hi:i<ps.length
 ·rw[Qwz hi]at e
  rw[Qwz (by simpa[<-hl]using hi)]
  exact S.sl i s e
 ·rw[QIz (by omega),List.getElem?_replicate]at e
  split at e
  ·cases e;trivial
  ·cases e
def Nz.cz{ps:List Sl}{H H':Hp}{k n:Nat}{ζ:St}(S:Sat K ps (vs.map some) H)(hn:vs.length=n)(N:Nz K (ps++List.replicate k .un) (vs.map some++List.replicate k none) H env' ζ H'):Cz K ps vs H (env'.take n) H':=by
 have hl:ps.length=vs.length:=by simpa using S.len
 refine⟨fun i o e=>?_,N.pers,fun b u hb no=>N.keep b u hb fun i z=>no i ((wF hl).mp z),N.dom⟩
 have hi:=(QCz.mp e).1
 obtain⟨⟨o',e1⟩,e2⟩:=N.bors i o (by rw[Qwz hi];exact e)
 obtain⟨a,z1,z2⟩:=N.eZ.sl i _ e1
 rw[e2,Qwz (by simpa[<-hl]using hi),QFz]at z1
 refine⟨o',a,by rw[List.getElem?_take_of_lt (by omega)];exact e1,?_,z2⟩
 cases q:vs[i]? with
 |none=>rw[q]at z1;cases z1
 |some v=>rw[q]at z1;simp at z1;rw[z1]
section
theorem RT{st:Stmt}{fd:FuncData}{k:Nat}{g:Fn}(F:Zc K x qual st f fd)(S:lD N ps (bA st))(hp:g.pars=ps.length)(hn:g.names=N.length)
  (hb:∀(cdv:Value)(A:Around)(outer:List Env)(s:Shared)(H:Hp)(E:XK),jy k (A.deeper (PyProof.Rows.envOfC qual (bA st) s.heap.objs.size f cdv))->Ph (CK O6 P w K mg base N qual (bA st) f cdv A outer s H E).nox W0 c g.body (eE st)):
  pD P w K mg base O6 (k+1) f fd ps (wg K ps.length (iz c g)):=by
 refine F.ok S (fun vs H Q E h=>?_) (fun cdv A outer s H vs Q E hr h=>?_)
 ·obtain⟨_,h,_⟩:=h
  exact h
 ·obtain⟨sl,hl,S0,no,q⟩:=h
  refine⟨_,hb cdv A outer s H E hr (sl++List.replicate (g.names-g.pars) .un),?_⟩
  have hlen:sl.length=vs.length:=by simpa using S0.len
  have hst:L2.start N vs=vs.map some++List.replicate (g.names-g.pars) none:=by
   unfold L2.start
   rw[hn,hp,hl]
  have e0:iz c g sl=match ex c g.body (sl++List.replicate (g.names-g.pars) .un)with
    |.next σ=>.ok (.val .non) (σ.take g.pars)
    |.ret r σ=>.ok r (σ.take g.pars)
    |.exc k σ=>.exc k (σ.take g.pars)
    |_=>.bad:=by
   unfold iz
   rw[if_pos (by rw[hp,<-hl,hlen])]<;>cases ex c g.body _<;>rfl
  rw[e0]at q
  rw[hst]
  refine⟨S0.pad _,?_⟩
  have hg:vs.length=g.pars:=by rw[hl,hp]
  cases r:ex c g.body _ with
  |next env'=>rw[r]at q;exact fun ζ H' N=>q .non H' (N.cz S0 hg) rfl
  |ret rv env'=>
   rw[r]at q
   refine fun v ζ H' N z=>q v H' (N.cz S0 hg) ?_
   cases rv with
   |val d=>exact z
   |new o=>
    obtain⟨a,e1,e2,e3⟩:=z
    refine⟨a,e1,e2,?_⟩
    rcases e3 with e3|⟨i,ys,e3,_⟩
    ·exact e3
    ·by_cases hi:i<sl.length
     ·rw[Qwz hi]at e3
      exact absurd e3 (no i ys)
     ·rw[QIz (by omega),List.getElem?_replicate]at e3
      split at e3<;>cases e3
   |ref i=>exact z.elim
  |brk env'=>rw[r]at q;exact q.elim
  |cont env'=>rw[r]at q;exact q.elim
  |exc j env'=>rw[r]at q;exact fun ζ H' N=>q H' (N.cz S0 hg)
  |bad=>rw[r]at q;exact q.elim
end
inductive En(K:QQq)(env:Ev)(σ:St)(H0 H:Hp):List Rv->List Sl->List V->Prop
 |nil:En K env σ H0 H [] [] []
 |val {d:D} {v:V} {rs:List Rv} {ps:List Sl} {vs:List V}:bI K H d v->En K env σ H0 H rs ps vs->En K env σ H0 H (.val d::rs) (.val d::ps) (v::vs)
 |ref {o:Ob} {j:Nat} {a:Addr} {s:Sl} {rs:List Rv} {ps:List Sl} {vs:List V}:env[j]? =some s->isOwn s=some o->σ[j]? =some (some (.ref a))->jz K H o a->Rv.ref j∉rs->En K env σ H0 H rs ps vs->En K env σ H0 H (.ref j::rs) (.bor o::ps) (.ref a::vs)
section
theorem nH(S:Sat K env σ H):∀{rs:List Rv}{ps:List Sl}{vs:List V},enter rs env=some ps->iG K σ H0 H rs vs->En K env σ H0 H rs ps vs
 |[],ps,vs,h,r=>by
  cases h
  have:=r
  subst this
  exact .nil
 |x::rs,ps,vs,h,r=>by
  obtain⟨v,vr,rfl,h1,h2⟩:=r
  cases x with
  |val d=>
   simp only[enter]at h
   cases e:enter rs env with
   |none=>rw[e]at h;cases h
   |some ps'=>rw[e]at h;cases h;exact .val h1 (nH S e h2)
  |new o=>cases h
  |ref j=>
   simp only[enter]at h
   split at h
   ·cases h
   ·rename_i hn
    have nr:Rv.ref j∉rs:=fun hq=>hn (List.any_eq_true.mpr ⟨_,hq,by simp[kW]⟩)
    cases e1:env[j]? with
    |none=>rw[e1]at h;cases h
    |some s=>
     rw[e1]at h
     have h1':=h1
     cases s with
     |un=>cases h
     |val d=>cases h
     |own o=>
      cases e:enter rs env with
      |none=>simp only[e]at h;cases h
      |some ps'=>
       simp only[e]at h
       cases h
       obtain⟨a,z1,z2⟩:=S.sl j _ e1
       rw[h1']at z1
       cases z1
       exact .ref e1 rfl h1' z2 nr (nH S e h2)
     |bor o=>
      cases e:enter rs env with
      |none=>simp only[e]at h;cases h
      |some ps'=>
       simp only[e]at h
       cases h
       obtain⟨a,z1,z2⟩:=S.sl j _ e1
       rw[h1']at z1
       cases z1
       exact .ref e1 rfl h1' z2 nr (nH S e h2)
def En.len{ps:List Sl}(h:En K env σ H0 H rs ps vs):ps.length=vs.length/\rs.length=vs.length:=by
 induction h with
 |nil=>exact⟨rfl,rfl⟩
 |val _ _ ih=>simp[ih.1,ih.2]
 |ref _ _ _ _ _ _ ih=>simp[ih.1,ih.2]
theorem En.noOwn{ps:List Sl}(h:En K env σ H0 H rs ps vs):noOwn ps:=by
 induction h with
 |nil=>intro i o e;simp at e
 |val _ _ ih=>intro i o e;cases i with
  |zero=>simp at e
  |succ i=>exact ih i o (by simpa using e)
 |ref _ _ _ _ _ _ ih=>intro i o e;cases i with
  |zero=>simp at e
  |succ i=>exact ih i o (by simpa using e)
def En.lent{ps:List Sl}(h:En K env σ H0 H rs ps vs):∀{i:Nat}{a:Addr},aW ps (vs.map some) i a->∃j,rs[i]? =some (.ref j)/\aW env σ j a:=by
 induction h with
 |nil=>rintro i a ⟨⟨s,o,e,_⟩,_⟩;simp at e
 |val _ _ ih=>
  rintro i a ⟨⟨s,o,e1,e2⟩,e3⟩
  cases i with
  |zero=>simp at e1;subst e1;cases e2
  |succ i=>simpa using ih ⟨⟨s,o,by simpa using e1,e2⟩,by simpa using e3⟩
 | @ref o j b s rs ps vs e1 e2 e3 oa nr _ ih=>
  rintro i a ⟨⟨s',o',z1,z2⟩,z3⟩
  cases i with
  |zero=>
   simp at z3
   subst z3
   exact⟨j,rfl,⟨⟨s,o,e1,e2⟩,e3⟩⟩
  |succ i=>simpa using ih ⟨⟨s',o',by simpa using z1,z2⟩,by simpa using z3⟩
def En.eZ(S0:Sat K env0 σ H0)(S:Sat K env σ H)(sub:∀(i:Nat)a,aW env σ i a->aW env0 σ i a){ps:List Sl}(h:En K env σ H0 H rs ps vs):Sat K ps (vs.map some) H:=by
 refine⟨by simpa using h.len.1,?_,?_⟩
 ·clear S0 sub
  induction h with
  |nil=>intro i s e;simp at e
  |val hd _ ih=>
   intro i s e
   cases i with
   |zero=>simp at e;subst e;exact⟨_,rfl,hd⟩
   |succ i=>simpa using ih i s (by simpa using e)
  |ref _ _ _ oa _ _ ih=>
   intro i s e
   cases i with
   |zero=>simp at e;subst e;exact⟨_,rfl,oa⟩
   |succ i=>simpa using ih i s (by simpa using e)
 ·--no two slots have one address
  induction h with
  |nil=>rintro i j a ⟨⟨s,o,e,_⟩,_⟩;simp at e
  |val hd t ih=>
   rintro i j a ⟨⟨s,o,e1,e2⟩,e3⟩ ⟨⟨s',o',e1',e2'⟩,e3'⟩
   cases i with
   |zero=>simp at e1;subst e1;cases e2
   |succ i=>cases j with
    |zero=>simp at e1';subst e1';cases e2'
    |succ j=>rw[ih i j a ⟨⟨s,o,by simpa using e1,e2⟩,by simpa using e3⟩ ⟨⟨s',o',by simpa using e1',e2'⟩,by simpa using e3'⟩]
  | @ref o k b s0 rs ps vs z1 z2 z3 oa nr t ih=>
   have ok:aW env σ k b:=⟨⟨s0,o,z1,z2⟩,z3⟩
   have clash:∀i,¬aW ps _ i b:=fun i z=>by
    obtain⟨q,e,ow⟩:=t.lent z
    have:=S.ne k q b ok ow
    subst this
    exact nr (QBz e)
   rintro i j a ⟨⟨s,o,e1,e2⟩,e3⟩ ⟨⟨s',o',e1',e2'⟩,e3'⟩
   cases i with
   |zero=>
    simp at e3
    subst e3
    cases j with
    |zero=>rfl
    |succ j=>exact absurd ⟨⟨s',o',by simpa using e1',e2'⟩,by simpa using e3'⟩ (clash j)
   |succ i=>cases j with
    |zero=>
     simp at e3'
     subst e3'
     exact absurd ⟨⟨s,o,by simpa using e1,e2⟩,by simpa using e3⟩ (clash i)
    |succ j=>rw[ih i j a ⟨⟨s,o,by simpa using e1,e2⟩,by simpa using e3⟩ ⟨⟨s',o',by simpa using e1',e2'⟩,by simpa using e3'⟩]
end
def Sl.Ew(o':Ob):Sl->Option Sl
 |.own _=>some (.own o')
 |.bor _=>some (.bor o')
 |_=>none
def Js{o':Ob}(h:cX j (fun _=>some o') env=some env'):∃s s',env[j]? =some s/\s.Ew o'=some s'/\env'=env.set j s':=by
 obtain⟨o,q,e,hh⟩:=qG h
 cases e
 rcases hh with ⟨e,rfl⟩|⟨e,rfl⟩
 ·exact⟨_,_,e,rfl,rfl⟩
 ·exact⟨_,_,e,rfl,rfl⟩
theorem o4:∀{rs:List Rv}{qs:List Sl}{env ε:Ev},giveBack rs qs env=some ε->ε.length=env.length/\∀j:Nat,
  ((∀i:Nat,rs[i]? ≠some (Rv.ref j))/\ε[j]? =env[j]?)\/∃(i:Nat)(o':Ob)(s s':Sl),rs[i]? =some (.ref j)/\qs[i]? =some (.bor o')/\env[j]? =some s/\s.Ew o'=some s'/\ε[j]? =some s'
 |[],[],env,ε,h=>by
  cases h
  exact⟨rfl,fun j=>.inl ⟨fun i=>by simp,rfl⟩⟩
 |[],_::_,env,ε,h=>by cases h
 |x::rs,[],env,ε,h=>by cases x<;>cases h
 |x::rs,q::qs,env,ε,h=>by
  have skip:giveBack rs qs env=some ε->(∀j,x≠ .ref j)->ε.length=env.length/\∀j:Nat,
    ((∀i:Nat,(x::rs)[i]? ≠some _)/\ε[j]? =env[j]?)\/∃(i:Nat)(o':Ob)(s s':Sl),(x::rs)[i]? =some _/\(q::qs)[i]? =some (.bor o')/\env[j]? =some s/\s.Ew o'=some s'/\ε[j]? =some s':=fun h nx=>by
   obtain⟨l,g⟩:=o4 h
   refine⟨l,fun j=>?_⟩
   rcases g j with ⟨g1,g2⟩|⟨i,o',s,s',g1,g2,g3⟩
   ·refine .inl ⟨fun i e=>?_,g2⟩
    cases i with
    |zero=>simp at e;exact nx j e
    |succ i=>exact g1 i (by simpa using e)
   ·exact .inr ⟨i+1,o',s,s',by simpa using g1,by simpa using g2,g3⟩
  cases x with
  |val d=>exact skip h fun j z=>by cases z
  |new o=>exact skip h fun j z=>by cases z
  |ref k=>
   cases q with
   |bor o=>
    change Option.bind _ _=some ε at h
    cases e:cX k _ env with
    |none=>rw[e]at h;cases h
    |some δ=>
     rw[e]at h
     obtain⟨s0,s1,z1,z2,rfl⟩:=Js e
     have hk:=(QCz.mp z1).1
     obtain⟨l,g⟩:=o4 h
     refine⟨by simpa using l,fun j=>?_⟩
     rcases g j with ⟨g1,g2⟩|⟨i,o',s,s',g1,g2,g3,g4,g5⟩
     ·by_cases hj:k=j
      ·subst hj
       rw[Qwq hk]at g2
       exact .inr ⟨0,o,s0,s1,rfl,rfl,z1,z2,g2⟩
      ·rw[Qxz hj]at g2
       refine .inl ⟨fun i e=>?_,g2⟩
       cases i with
       |zero=>simp at e;exact hj e
       |succ i=>exact g1 i (by simpa using e)
     ·by_cases hj:k=j
      ·subst hj
       rw[Qwq hk]at g3
       cases g3
       refine .inr ⟨i+1,o',s0,s',by simpa using g1,by simpa using g2,z1,?_,g5⟩
       cases s0 with
       |own q=>cases z2;exact g4
       |bor q=>cases z2;exact g4
       |un=>cases z2
       |val d=>cases z2
      ·rw[Qxz hj]at g3
       exact .inr ⟨i+1,o',s,s',by simpa using g1,by simpa using g2,g3,g4,g5⟩
   |un=>cases h
   |val d=>cases h
   |own o=>cases h
def Ln{o':Ob}(h:s.Ew o'=some s'):(∃o,isOwn s=some o)/\isOwn s'=some o':=by
 cases s with
 |own q=>cases h;exact⟨⟨q,rfl⟩,rfl⟩
 |bor q=>cases h;exact⟨⟨q,rfl⟩,rfl⟩
 |un=>cases h
 |val d=>cases h
section
def En.Wv(h:En K env σ H0 H rs ps vs):∀{i j:Nat},rs[i]? =some (.ref j)->∃o a,ps[i]? =some (.bor o)/\vs[i]? =some (.ref a)/\σ[j]? =some (some (.ref a)):=by
 induction h with
 |nil=>intro i j e;simp at e
 |val _ _ ih=>intro i j e;cases i with
  |zero=>simp at e
  |succ i=>simpa using ih (by simpa using e)
 | @ref o k a s rs ps vs e1 e2 e3 oa nr t ih=>
  intro i j e
  cases i with
  |zero=>simp at e;subst e;exact⟨o,a,rfl,rfl,e3⟩
  |succ i=>simpa using ih (by simpa using e)
def Sg(S0:Sat K env0 σ H0)(N:Nx K env0 σ H0 env H)(E:En K env σ H0 H rs ps vs)(C:Cz K ps vs H qs H2)(g:giveBack rs qs env=some ε):Nx K env0 σ H0 ε H2:=by
 have S:=N.eZ
 have sub:=N.sub
 obtain⟨gl,gs⟩:=o4 g
 have own2:∀j b,aW ε σ j b->aW env σ j b:=fun j b z=>by
  obtain⟨⟨s,o,e1,e2⟩,e3⟩:=z
  rcases gs j with ⟨_,g2⟩|⟨i,o',s0,s1,_,_,g3,g4,g5⟩
  ·rw[g2]at e1;exact⟨⟨s,o,e1,e2⟩,e3⟩
  ·obtain⟨⟨q,hq⟩,_⟩:=Ln g4
   exact⟨⟨s0,q,g3,hq⟩,e3⟩
 have notLent:∀j b,aW env σ j b->(∀i:Nat,rs[i]? ≠some _)->∀i,¬aW ps _ i b:=fun j b ow nr i z=>by
  obtain⟨k,e,ow'⟩:=E.lent z
  have:=S.ne j k b ow ow'
  subst this
  exact nr i e
 refine⟨⟨by rw[gl];exact S.len,fun j s e=>?_,fun j k b z w=>S.ne j k b (own2 j b z) (own2 k b w)⟩,fun j b z=>sub j b (own2 j b z),N.pers.trans C.pers,fun b u hb no=>C.keep b u (N.keep b u hb no) fun i z=>?_,fun b z=>N.dom b (C.dom b z),fun j xs e=>?_⟩
 ·rcases gs j with ⟨g1,g2⟩|⟨i,o',s0,s1,g1,g2,g3,g4,g5⟩
  ·rw[g2]at e
   exact(S.sl j s e).keep C.pers fun b u ho ev hb=>C.keep b u hb (notLent j b (wG e ho ev) g1)
  ·rw[g5]at e
   cases e
   obtain⟨o,a,p1,p2,p3⟩:=E.Wv g1
   obtain⟨o'',a',c1,c2,c3⟩:=C.bor i o p1
   rw[g2]at c1
   cases c1
   rw[p2]at c2
   cases c2
   cases s0 with
   |own q=>cases g4;exact⟨a,by rw[p3];rfl,c3⟩
   |bor q=>cases g4;exact⟨a,by rw[p3];rfl,c3⟩
   |un=>cases g4
   |val d=>cases g4
 ·obtain⟨k,e,ow⟩:=E.lent z
  exact no k (sub k b ow)
 ·obtain⟨xs,e⟩:=N.bors j xs e
  rcases gs j with ⟨g1,g2⟩|⟨i,o',s0,s1,g1,g2,g3,g4,g5⟩
  ·exact⟨xs,by rw[g2];exact e⟩
  ·rw[e]at g3
   cases g3
   cases g4
   exact⟨o',g5⟩
end
section
theorem RN(F:pD X.prog X.w X.K X.mg X.base O6 k f fd ps (wg X.K ps.length (c.fn g)))(hr:jy k X.A)(hg:Gl X x)(hm:X.mg x=some (.ref f))(hk:PySem.W.keepIn X.K (.ref f)=true)(hb:Binds X.K fd ps [])
  (hd:(x==("__debug__":Str))=false)(ha:GA X W c m (e::es))(he:starEach (e::es) X.env=(false,eval e X.env)::starEach es X.env)(hpl:(backTo pos (starEach es X.env)).any (·.1)=false)(hn:∀sl,c.fn g sl=.bad\/sl.length=ps.length):
  GE X W c (.call g m) (.Call (.Name x p) (e::es) [] pos):=by
 intro env γ s σ H Q I q
 refine QV F hr hg hm hk hb .nil abN (t:=fun ζ H' R=>ζ=σ/\H'=H/\TQ X.K W env (evs c m env) σ H R) (fun p γ s ζ H' R I'⟨e1,e2,z⟩=>by subst e1 e2;exact ha env p γ s _ _ R I' z) hd he hpl γ s σ H Q I ⟨rfl,rfl,?_⟩
 simp only[VM]at q
 obtain⟨S,q⟩:=q
 refine⟨S,?_⟩
 cases r:evs c m env with
 |bad=>rw[r]at q;exact q
 |exc j δ=>rw[r]at q;exact q
 |ok rs δ=>
  rw[r]at q
  simp only[Out.bind,tE]at q
  intro vs H1 N rv
  rw[List.append_nil]
  cases e1:enter rs δ with
  |none=>rw[e1]at q;exact q.elim
  |some sl=>
   rw[e1]at q
   simp only at q
   have E:=nH N.eZ e1 rv
   refine⟨sl,?_,E.eZ S N.eZ N.sub,E.noOwn,?_⟩
   ·rcases hn sl with z|z
    ·rw[z]at q;exact q.elim
    ·rw[<-E.len.1,z]
   ·cases e2:c.fn g sl with
    |bad=>rw[e2]at q;exact q.elim
    |ok rv qs=>
     rw[e2]at q
     simp only at q
     intro v H2 C z
     cases e3:giveBack rs qs δ with
     |none=>rw[e3]at q;exact q.elim
     |some ε=>
      rw[e3]at q
      refine q v H2 (Sg S N E C e3) ?_
      cases rv with
      |val d=>exact z
      |new o=>obtain⟨a,z1,z2,z3⟩:=z;exact⟨a,z1,z2,N.dom a z3⟩
      |ref i=>exact z.elim
    |exc j qs=>rw[e2]at q;exact q.elim
end
def G6 c g sl:iz c g sl=.bad\/sl.length=g.pars:=by
 unfold iz
 split
 ·exact .inr (by assumption)
 ·exact .inl rfl
end Mini
end
section
namespace Mini
open PySem L2 PyProof.Rows
structure Aa(z TI TO i1 i2:Addr)(b1 b2:Bool)(l1 l2:Addr)(k:Nat)(h:Heap):Prop where
 zr:∃f0 f1,jq h z TI TO f0 f1/\F0 f0
 ti:IsPair h TI (.ref i1) (.ref i2)
 to:∃a b,IsPair h TO a b
 it1:tZ b1 h i1 l1 k
 it2:tZ b2 h i2 l2 k
section
variable{E:QZq}
def vO{b1 b2:Bool}{xs ys:Array Value}(hl1:xY b1 s.heap l1 xs)(hl2:xY b2 s.heap l2 ys)
  (h:∀h',Aa (s.heap.objs.size+4) (s.heap.objs.size+2) (s.heap.objs.size+3) s.heap.objs.size (s.heap.objs.size+1) b1 b2 l1 l2 0 h'->h'.objs.size=s.heap.objs.size+5->
   (∀c o,s.heap.get? c=some o->h'.get? c=some o)->Q (.ref (s.heap.objs.size+4)) {s with heap:=h'}):
  wpAny (model prog w) A (call (.type "zip") [.ref l1,.ref l2]) Q E s:=by
 refine callType_new PySem.F.called_zip (by decide) (PySem.F.typeCall_zip_2 _ _) (PySem.F.newCall_zip_2 _ _) (fun obj=>PySem.F.args_object_init_3 obj _ _) PySem.F.entry_zip_new
  (Ji b1 b2 l1 l2 xs ys) ⟨hl1,hl2,?_⟩
 have z1:(zH1 b1 s.heap l1).objs.size=s.heap.objs.size+1:=Heap.size_push ..
 have z2:(zH2 b1 b2 s.heap l1 l2).objs.size=s.heap.objs.size+2:=by rw[Heap.size_push,z1]
 have z3:(zH3 b1 b2 s.heap l1 l2).objs.size=s.heap.objs.size+3:=by rw[Heap.size_push,z2]
 have z4:(zH4 b1 b2 s.heap l1 l2).objs.size=s.heap.objs.size+4:=by rw[Heap.size_push,z3]
 have g5:(Ze b1 b2 s.heap l1 l2).get? (zH4 b1 b2 s.heap l1 l2).objs.size=some _:=Qzq _ rfl
 have g4:(Ze b1 b2 s.heap l1 l2).get? (zH3 b1 b2 s.heap l1 l2).objs.size=some _:=QWq _ (Qzq _ rfl)
 have g3:(Ze b1 b2 s.heap l1 l2).get? (zH2 b1 b2 s.heap l1 l2).objs.size=some _:=QWq _ (QWq _ (Qzq _ rfl))
 have g2:(Ze b1 b2 s.heap l1 l2).get? (zH1 b1 s.heap l1).objs.size=some _:=QWq _ (QWq _ (QWq _ (Qzq _ rfl)))
 rw[z2,z3,z4]at g5
 rw[z1,z2]at g3
 rw[z3]at g4
 rw[z1]at g2
 rw[z4]
 have i1:tZ b1 (Ze b1 b2 s.heap l1 l2) s.heap.objs.size l1 0:=by cases b1<;>exact⟨_,(QWq _ (QWq _ (QWq _ (QWq _ (Qzq _ rfl))))),rfl,rfl⟩
 exact⟨⟨_,g5,rfl⟩,h _ ⟨⟨_,_,g5,.inl rfl⟩,g3,⟨_,_,g4⟩,i1,(by cases b2<;>exact⟨_,g2,rfl,rfl⟩)⟩ (by rw[Heap.size_push,z4]) fun c o x=>
  QWq _ (QWq _ (QWq _ (QWq _ (QWq _ x))))⟩
end
def uA(h1:l1<n)(h2:l2<n):ZipApart (n+4) (n+2) (n+3) n (n+1) l1 l2:=zipApart_new h1 h2
def Inv.Dw{X:Cx}{σ:L2.St}{H:Hp}{h':Heap}{ch:List Addr}(I:Inv X γ σ H s)(k:∀b o,b∉ch->s.heap.get? b=some o->h'.get? b=some o)(hf:∀b∈ch,fY X γ H b):
  Inv X γ σ H {s with heap:=h',toks:=t'}:=by
 have nit:∀b u,H b=some u->b∉ch:=fun b u e z=>by rw[(hf b z).1]at e;cases e
 refine I.step (fun b hb=>⟨(hf b hb).2.2.2.1,(hf b hb).2.1,(hf b hb).2.2.2.2.1,(hf b hb).2.2.2.2.2⟩) (fun b o _ _ hc e _=>k b o hc e) (fun b o _ _ hc e _=>⟨o.slots,k b o hc e⟩) (fun _ _ _ _ n=>n)
  (fun b o hc e=>⟨o,k b o hc e⟩) (fun _ _ e=>e) (fun _ _ _ e=>e) (fun b ps e=>⟨#[],by rw[e];simp⟩) (fun m hm=>?_) (fun b u e=>?_) I.bare
 ·obtain⟨o,es,ep,ho,r⟩:=hm
  exact⟨o,es,ep,k _ o (fun z=>(hf _ z).2.1 rfl) ho,r⟩
 ·refine(I.hok b u e).stay (fun c v hc q=>k c v ?_ q) (fun _ q=>q) fun _ _ q=>q
  rcases hc with z|z
  ·rw[z];exact nit b u e
  ·exact nit c _ z
def Inv.uC{X:Cx}{σ:L2.St}{H:Hp}{h':Heap}{ch:List Addr}{a:Addr}(I:Inv X γ σ H s)(k:∀b o,b∉ch->s.heap.get? b=some o->h'.get? b=some o)(hf:∀b∈ch,fY X γ H b)
  (ha:s.heap.objs.size<=a)(new:cu X.prog X.w (upd H a u) h' a u):Inv X γ σ (upd H a u) {s with heap:=h',toks:=t'}:=by
 have nit:∀b u,H b=some u->b∉ch:=fun b u e z=>by rw[(hf b z).1]at e;cases e
 have ne:∀b w,H b=some w->b≠a:=fun b w e z=>by subst z;rw[I.hok.fresh ha]at e;cases e
 refine I.step (fun b hb=>⟨(hf b hb).2.2.2.1,(hf b hb).2.1,(hf b hb).2.2.2.2.1,(hf b hb).2.2.2.2.2⟩) (fun b o _ _ hc e _=>k b o hc e) (fun b o _ _ hc e _=>⟨o.slots,k b o hc e⟩)
  (fun b o _ e n=>by rw[aC (Qvz (Qvq (Qqz e) ha))];exact n)
  (fun b o hc e=>⟨o,k b o hc e⟩) (fun b xs e=>by rw[aC (ne b _ e)];exact e) (fun b o w e=>by rw[aC (ne b _ e)];exact e) (fun b ps e=>⟨#[],by rw[aC (ne b _ e),e];simp⟩) (fun m hm=>?_) (fun b w e=>?_) I.bare
 ·obtain⟨o,es,ep,ho,r⟩:=hm
  exact⟨o,es,ep,k _ o (fun z=>(hf _ z).2.1 rfl) ho,r⟩
 ·by_cases hb:b=a
  ·subst hb
   rw[aU]at e
   cases e
   exact new
  ·rw[aC hb]at e
   refine(I.hok b w e).stay (fun c v hc q=>k c v ?_ q) (fun c q=>by rw[aC (ne c _ q)];exact q) fun c xs q=>by rw[aC (ne c _ q)];exact q
   rcases hc with z|z
   ·rw[z];exact nit b w e
   ·exact nit c _ z
def Ox(K:QQq)(b:Bool)(H:Hp)(l:Addr)(vs:List V):Prop:=match b with|true=>Gs K H l vs|false=>ju K H l vs
def bR.v9{K:QQq}{b:Bool}{l:Addr}(p:bR H H')(h:Ox K b H l vs):Ox K b H' l vs:=by
 cases b with
 |true=>exact p.RQ h
 |false=>exact p.Wj h
def Inv.v9{X:Cx}{σ:L2.St}{H:Hp}{b:Bool}{l:Addr}(I:Inv X γ σ H s)(h:Ox X.K b H l vs):∃its:List Value,Vals vs its/\xY b s.heap l its.toArray/\vs.length<=sizeLine/\l<s.heap.objs.size:=by
 cases b with
 |true=>
  obtain⟨its,r,p,z⟩:=I.list (Gs.sq h)
  obtain⟨o,e,_⟩:=p.isList
  exact⟨its,r,p.isList,z,Qqz e⟩
 |false=>
  obtain⟨its,r,p,z⟩:=I.tuple h
  obtain⟨o,e,_⟩:=id p
  exact⟨its,r,p,z,Qqz e⟩
noncomputable def Itz(K:QQq)(b1 b2:Bool)(l1 l2:Addr)(vs ws:List V):It:=
 ⟨fun i H=>Ox K b1 H l1 vs/\Ox K b2 H l2 ws/\∃v u,vs[i]? =some v/\ws[i]? =some u,
  fun i H x H'=>∃p v u,H p=none/\x=.ref p/\vs[i]? =some v/\ws[i]? =some u/\H'=upd H p (.tup [v,u]),
  fun i H=>Ox K b1 H l1 vs/\Ox K b2 H l2 ws/\(vs.length<=i\/ws.length<=i)⟩
theorem jH{w:World}{K:QQq}{z TI TO i1 i2 l1 l2:Addr}{b1 b2:Bool}(D:ZipApart z TI TO i1 i2 l1 l2):
  Turn P w K tg (Itz K b1 b2 l1 l2 vs ws) [z,TI,TO,i1,i2] z (fun i h=>Aa z TI TO i1 i2 b1 b2 l1 l2 i h) where
 mem:=by simp
 obj:=fun i h st b hb=>by
  obtain⟨f0,f1,zr,_⟩:=st.zr
  obtain⟨x,y,to⟩:=st.to
  simp only[QCq,QAz,or_false]at hb
  rcases hb with rfl|rfl|rfl|rfl|rfl
  ·exact⟨_,zr,fun v z=>by cases z⟩
  ·exact⟨_,st.ti,fun v z=>by cases z⟩
  ·exact⟨_,to,fun v z=>by cases z⟩
  ·exact st.it1.obj
  ·exact st.it2.obj
 keep:=fun i h h' st k=>by
  obtain⟨f0,f1,zr,hf⟩:=st.zr
  obtain⟨x,y,to⟩:=st.to
  exact⟨⟨f0,f1,k z (by simp) _ zr,hf⟩,k TI (by simp) _ st.ti,⟨x,y,k TO (by simp) _ to⟩,st.it1.at fun o e=>k i1 (by simp) o e,st.it2.at fun o e=>k i2 (by simp) o e⟩
 item:=by
  intro X hP hw hK hc i γ s σ H E I hf st hg
  subst hP hw hK
  obtain⟨hq1,hq2,v,u,ev,eu⟩:=hg
  obtain⟨its,r1,p1,_,_⟩:=Inv.v9 I hq1
  obtain⟨its2,r2,p2,_,_⟩:=Inv.v9 I hq2
  obtain⟨x,ex,rx⟩:=r1.get ev
  obtain⟨y,ey,ry⟩:=r2.get eu
  obtain⟨f0,f1,zr,h0⟩:=st.zr
  obtain⟨a,b,to⟩:=st.to
  refine pZ D zr h0 st.ti to st.it1 st.it2 p1 p2 (by simpa using ex) (by simpa using ey) fun h' T=>?_
  obtain⟨g0,g1,zr',h0'⟩:=T.zr
  refine⟨_,rfl,HB zr' h0' fun h'' q0 zr'' hq0 sb=>?_⟩
  have f1':∀b∈[z,TO,i1,i2],fY X γ H b:=fun b hb=>hf b (by
   simp only[QCq,QAz,or_false]at hb⊢
   rcases hb with h|h|h|h<;>simp[h])
  have kk:∀b o,b∉[z,TO,i1,i2]->s.heap.get? b=some o->h''.get? b=some o:=fun b o hb e=>by
   simp only[QCq,QAz,or_false,not_or]at hb
   exact sb.extBut _ _ hb.1 (T.keep b o hb.1 hb.2.1 hb.2.2.1 hb.2.2.2 e)
  have new'':=sb.extBut _ _ (by
   obtain⟨q,e,_⟩:∃q,s.heap.get? z=some q/\True:=⟨_,zr,trivial⟩
   exact Nat.ne_of_gt (Qqz e)) T.new
  have I1:Inv X γ σ (upd H s.heap.objs.size (.tup [v,u])) {s with heap:=h''}:=by
   refine Inv.uC I kk f1' (QVz _) ⟨by show 2<=sizeLine;rw[sizeLine_eq];decide,[x,y],.cons rx (.cons ry .nil),_,new'',rfl,rfl,_,rfl⟩
  refine⟨.ref s.heap.objs.size,upd H s.heap.objs.size _,I1,rfl,⟨_,v,u,I.hok.fresh (QVz _),rfl,ev,eu,rfl⟩,?_,fun b hb=>?_⟩
  ·have up:∀c o,c≠z->h'.get? c=some o->h''.get? c=some o:=fun c o hcz e=>sb.extBut _ _ hcz e
   obtain⟨a',b',to'⟩:=T.to
   exact⟨⟨q0,g1,zr'',hq0⟩,up _ _ D.TIz T.ti,⟨a',b',up _ _ D.TOz to'⟩,T.it1.at fun o e=>up _ o D.i1z e,T.it2.at fun o e=>up _ o D.i2z e⟩
  ·have lt:b<s.heap.objs.size:=by
    simp only[QCq,QAz,or_false]at hb
    rcases hb with rfl|rfl|rfl|rfl|rfl
    ·exact Qqz zr
    ·exact Qqz st.ti
    ·exact Qqz to
    ·exact st.it1.lt
    ·exact st.it2.lt
   rw[aC (Qvz lt)]
   exact(hf b hb).1
 done:=by
  intro X hP hw hK hc i γ s σ H E I hf st hg
  subst hP hw hK
  obtain⟨hq1,hq2,hend⟩:=hg
  obtain⟨its,r1,p1,_,_⟩:=Inv.v9 I hq1
  obtain⟨its2,r2,p2,_,_⟩:=Inv.v9 I hq2
  have l1:=r1.length
  have l2:=r2.length
  obtain⟨f0,f1,zr,h0⟩:=st.zr
  obtain⟨a,b,to⟩:=st.to
  refine rm (I.ok.hd hc) D zr h0 st.ti to st.it1 st.it2 p1 p2 ?_ fun h' kk=>⟨rfl,?_⟩
  ·rcases hend with h|h
   ·exact .inl (by simp;omega)
   ·exact .inr (by simp;omega)
  ·refine Inv.Dw (ch:=[z,TO,i1,i2]) I (fun b o hb e=>?_) fun b hb=>hf b (by
    simp only[QCq,QAz,or_false]at hb⊢
    rcases hb with h|h|h|h<;>simp[h])
   simp only[QCq,QAz,or_false,not_or]at hb
   exact kk b o hb.1 hb.2.1 hb.2.2.1 hb.2.2.2 e
 self:=fun A i s Q E st h=>by
  obtain⟨f0,f1,zr,h0⟩:=st.zr
  exact iU zr h
end Mini
end
section
namespace Mini
open PySem L2
theorem jE:∀{xs ys:List D}{i:Nat}{d:D},(aO xs ys)[i]? =some d->∃x y,xs[i]? =some x/\ys[i]? =some y/\d=.tup [x,y]
 |[],_,i,d,h=>by simp[aO]at h
 |_::_,[],i,d,h=>by simp[aO]at h
 |x::xs,y::ys,0,d,h=>by simp[aO]at h;exact⟨x,y,rfl,rfl,h.symm⟩
 |x::xs,y::ys,i+1,d,h=>by
  rw[aO,List.getElem?_cons_succ]at h
  simpa using jE h
theorem jD:∀(xs ys:List D),(aO xs ys).length=min xs.length ys.length
 |[],ys=>by simp[aO]
 |_::_,[]=>by simp[aO]
 |x::xs,y::ys=>by rw[aO,QBq,jD xs ys,QBq,QBq];omega
theorem vz{H:Hp}{b1 b2:Bool}{vs ws:List V}(h1:Ox K b1 H l1 vs)(h2:Ox K b2 H l2 ws)(d1:aq K H xs vs)(d2:aq K H ys ws)(hz:vs.length<=sizeLine):
  Gives K (Itz K b1 b2 l1 l2 vs ws) (aO xs ys) H where
 go:=fun H1 p i d e=>by
  obtain⟨x,y,ex,ey,_⟩:=jE e
  obtain⟨v,ev,_⟩:=d1.get ex
  obtain⟨u,eu,_⟩:=d2.get ey
  exact⟨p.v9 h1,p.v9 h2,v,u,ev,eu⟩
 yld:=fun H1 p i d e x H2 y=>by
  obtain⟨a,v,u,hn,rfl,ev,eu,rfl⟩:=y
  obtain⟨dx,dy,ex,ey,rfl⟩:=jE e
  obtain⟨v',ev',dv⟩:=d1.get ex
  obtain⟨u',eu',du⟩:=d2.get ey
  rw[ev]at ev'
  rw[eu]at eu'
  cases ev'
  cases eu'
  have pp:bR H1 (upd H1 a (.tup [v,u])):=by
   refine⟨fun b xs q=>?_,fun b o w q=>?_⟩
   ·rw[aC (fun z=>by subst z;rw[hn]at q;cases q)];exact q
   ·rw[aC (fun z=>by subst z;rw[hn]at q;cases q)];exact q
  exact⟨dG (.inl (.inl aU)) (aq.dg ((dv.mono p).mono pp) (aq.dg ((du.mono p).mono pp) aq.gk)),.inr ⟨a,_,hn,rfl⟩⟩
 stop:=fun H1 p i hi=>by
  rw[jD]at hi
  have:=d1.length
  have:=d2.length
  exact⟨p.v9 h1,p.v9 h2,by omega⟩
 len:=by rw[jD];have:=d1.length;omega
def bI.v9{H:Hp}{xs:List D}(h:bI K H d v)(e:bN d=some xs):∃b l vs,v=.ref l/\Ox K b H l vs/\aq K H xs vs:=by
 cases d with
 |tup ys=>cases e;obtain⟨a,vs,rfl,hq,l⟩:=cA h;exact⟨false,a,vs,rfl,hq,l⟩
 |lst ys=>cases e;obtain⟨a,vs,rfl,hq,l⟩:=cU h;exact⟨true,a,vs,rfl,hq,l⟩
 |_=>cases e
section
def aaU{H1:Hp}(h:tI K W env r σ H R)(N:Nx K env σ H δ H1):tI K W δ r σ H1 R:=by
 obtain⟨_,h⟩:=h
 refine⟨N.eZ,?_⟩
 cases r with
 |bad=>exact h
 |exc c ε=>exact fun H' N'=>h H' (N.trans N')
 |ok x ε=>
  obtain⟨d,xs,e1,e2,z⟩:=h
  exact⟨d,xs,e1,e2,fun J H' N' G=>z J H' (N.trans N') G⟩
theorem qL{f:D->Ev->Out Rv}(h:tI K W env (r.ao f) σ H R)
  (k:∀d δ v H1,Nx K env σ H δ H1->bI K H1 d v->tI K W δ (f d δ) σ H1 R->R' v H1):tD K W env r σ H R':=by
 have step:∀d δ,r.ao f=f d δ->∀v H1,Nx K env σ H δ H1->bI K H1 d v->R' v H1:=fun d δ e v H1 N D=>by
  rw[e]at h
  exact k d δ v H1 N D (aaU h N)
 obtain⟨S,h⟩:=h
 refine⟨S,?_⟩
 cases r with
 |bad=>exact h
 |exc c δ=>exact h
 |ok x δ=>
  cases x with
  |val d=>exact fun v H1 N D=>step d δ rfl v H1 N D
  |new xs=>exact fun v H1 N D=>step xs.d δ rfl v H1 N D
  |ref i=>exact h
end
section
theorem Yo(ha:GE X W c m1 a)(hb:GE X W c m2 b)(hg:Gl X "zip")(hm:X.mg "zip"=none)(hs:starEach [a,b] X.env=[(false,eval a X.env),(false,eval b X.env)])(hs2:starEach [b] X.env=[(false,eval b X.env)]):
  GI X W c (.zip m1 m2) tg (.Call (.Name "zip" p) [a,b] [] pos):=by
 intro env γ s σ H R I q
 let RR:List V->Hp->Prop:=fun vs H'=>∃ε d1 d2 xs ys v1 v2,vs=[v1,v2]/\bI X.K H' d1 v1/\bI X.K H' d2 v2/\bN d1=some xs/\bN d2=some ys/\Sat X.K ε σ H'/\∀J H2,Nx X.K ε σ H' ε H2->Gives X.K J (aO xs ys) H2->R J H2
 have go:aD X W c m1 σ H fun v1 H1=>aD X W c m2 σ H1 fun v2 H2=>RR [v1,v2] H2:=by
  refine⟨env,qL q fun d1 δ v1 H1 N1 D1 q1=>⟨δ,qL q1 fun d2 ε v2 H2 N2 D2 q2=>?_⟩⟩
  cases e1:bN d1 with
  |none=>rw[e1]at q2;exact q2.2.elim
  |some xs=>
   cases e2:bN d2 with
   |none=>rw[e1,e2]at q2;exact q2.2.elim
   |some ys=>
    rw[e1,e2]at q2
    obtain⟨S,d,zs,z1,z2,z3⟩:=q2
    cases z1
    cases z2
    exact⟨ε,d1,d2,xs,ys,v1,v2,rfl,D1.mono N2.pers,D2,e1,e2,S,z3⟩
 refine wpAny_Call_Name_kw (iZ I hg hm PyProof.Rows.boot_zip ?_ (by decide) (by decide))
 refine PyProof.Rows.callWith_type1 (cB (cL ha.d (cL hb.d eU hs2) (by rw[hs,hs2]) pos γ s σ H RR I go) fun us s1⟨vs,H1,I1,r1,q1⟩=>?_) (by rw[hs,hs2]) (by rw[hs2];rfl)
 obtain⟨ε,d1,d2,xs,ys,v1,v2,rfl,D1,D2,e1,e2,S2,q3⟩:=q1
 obtain⟨b1,l1,vs,rfl,h1,dl1⟩:=D1.v9 e1
 obtain⟨b2,l2,ws,rfl,h2,dl2⟩:=D2.v9 e2
 obtain⟨u1,u2,rfl,ru1,ru2⟩:=Vals.two r1
 cases ru1
 cases ru2
 obtain⟨its,rr1,p1,z1,lt1⟩:=Inv.v9 I1 h1
 obtain⟨its2,rr2,p2,z2,lt2⟩:=Inv.v9 I1 h2
 refine vO p1 p2 fun h' st sz kk=>?_
 obtain⟨f0,f1,zr,h0⟩:=st.zr
 refine iU zr ?_
 refine⟨s1.heap.objs.size+4,[s1.heap.objs.size+4,s1.heap.objs.size+2,s1.heap.objs.size+3,s1.heap.objs.size,s1.heap.objs.size+1],_,_,H1,rfl,I1.kept kk,jH (uA lt1 lt2),st,fun b hb=>?_,q3 _ H1 (Nx.refl S2) (vz h1 h2 dl1 dl2 z1)⟩
 have hb':s1.heap.objs.size<=b:=by
  simp only[QCq,QAz,or_false]at hb
  rcases hb with rfl|rfl|rfl|rfl|rfl<;>omega
 exact I1.zJ hb' (I1.hok.fresh hb')
end
def Nx.chg{env:Ev}{H0 H:Hp}{u u':HO}(N:Nx K env σ H0 env H)(S:Sat K env σ H0)(h0:H0 d=none)(h:H d=some u)(hu:O3 u):Nx K env σ H0 env (upd H d u'):=by
 have p:=gj (u':=u') h hu
 refine⟨N.eZ.keep p fun i b w ow hb=>?_,N.sub,N.pers.trans p,fun b w q n=>?_,fun b q=>?_,N.bors⟩
 ·rw[aC (fun z=>by subst z;exact S.rF h0 i (N.sub i b ow))];exact hb
 ·rw[aC (fun z=>by subst z;rw[h0]at q;cases q)];exact N.keep b w q n
 ·refine N.dom b ?_
  by_cases hb:b=d
  ·subst hb;rw[aU]at q;cases q
  ·rw[aC hb]at q;exact q
def NK:O3 (.dK kvs):=by
 constructor
 all_goals (intros;intro z;cases z)
def Gk:O3 (.lst vs):=by
 constructor
 all_goals (intros;intro z;cases z)
def Cx.under(X:Cx)(A:Around):Cx:={X with A:=A}
theorem Inv.under{A:Around}{σ:St}{H:Hp}(I:Inv X γ σ H s)(h1:A.handled=X.A.handled)(h2:A.frames=X.A.frames):Inv (Cx.under X A) γ σ H s:=
 ⟨⟨I.ok.mod,I.ok.kind,I.ok.glob,I.ok.blt,I.ok.above,I.ok.inj,I.ok.has,I.ok.cab,fun hc=>h1.trans (I.ok.hd hc),h2.trans I.ok.frames,I.ok.stk,I.ok.exf,I.ok.bs,I.ok.bsz,I.ok.noex,I.ok.exfs,I.ok.lO,I.ok.frf⟩,
  I.os,I.bare,I.base,I.loc,I.cell,I.free,I.freeC,I.pin,I.hok,I.len⟩
def Inv.back{A:Around}{σ:St}{H:Hp}(I:Inv (Cx.under X A) γ σ H s)(h1:X.A.handled=A.handled)(h2:X.A.frames=A.frames):Inv X γ σ H s:=
 Inv.under (X:=Cx.under X A) I h1 h2
def w5{M:Model}{β:Type}{p:Pos}{m:Sem β}{Q:β->Shared->Prop}{E:QZq}
  (h:wpAny M A (letOwnedTupleGo (.Name x p) it u) (fun _ s=>wpAny M A m Q E s) E s):wpAny M A m Q E s:=by
 have:=QKq h
 exact this
def dN:entryFor table "dict.update.loop"=some Builtin.«dict.update.loop»:=entryFor_of_tree (by kernel_rfl)
def bW:plainId "dict.update.loop"=true:=by decide+kernel
def zT{d:D}(h:dictOf ks vs (d::r)=some p):∃k v,d=.tup [k,v]/\keyOk k=true/\dictOf (putD k v ks vs).1 (putD k v ks vs).2 r=some p:=by
 unfold dictOf at h
 split at h
 ·rename_i e;cases e
 ·rename_i k v r' e
  cases e
  split at h
  ·rename_i hk
   exact⟨k,v,rfl,hk,h⟩
  ·cases h
 ·cases h
def xn{xs:List D}(h:i<xs.length):∃d,xs[i]? =some d/\xs.drop i=d::xs.drop (i+1):=⟨xs[i],QXq h,List.drop_eq_getElem_cons h⟩
def CG{d:D}(h:jO ks vs (d::r)=some p):∃k v,d=.tup [k,v]/\cN k=true/\jO (putD k v ks vs).1 (putD k v ks vs).2 r=some p:=by
 unfold jO at h
 split at h
 ·rename_i e;cases e
 ·rename_i k v r' e
  cases e
  split at h
  ·rename_i hk
   exact⟨k,v,rfl,hk,h⟩
  ·cases h
 ·cases h
def NB:O3 (.dS xs):=by
 constructor
 all_goals (intros;intro z;cases z)
def Nf{w:World}(h:Heap)(hb:sysModules<h.objs.size):cu P w H (h.push {cls:=.type "dict",data:=.dict #[]}) h.objs.size (.dS []):=
 ⟨QIq _,beq_eq_false_iff_ne.mpr (Ne.symm (Qvz hb)),List.nodup_nil,[],_, #[],0,.nil,Qzq _ rfl,⟨rfl,rfl,rfl⟩,rfl,rfl⟩
noncomputable def zU(xs:List D):Option Ob:=((dictOf [] [] xs).map fun p=>Ob.dct p.1 p.2).or ((jO [] [] xs).map fun p=>Ob.sdt p.1 p.2)
def z6 xs:Sq .dict xs=(zU xs).map .new:=by
 unfold zU
 simp only[Sq]
 cases dictOf [] [] xs<;>cases jO [] [] xs<;>rfl
def Np{o:Ob}(h:zU xs=some o):(∃p,dictOf [] [] xs=some p/\o=.dct p.1 p.2)\/∃p,jO [] [] xs=some p/\o=.sdt p.1 p.2:=by
 unfold zU at h
 cases e:dictOf [] [] xs with
 |some p=>rw[e]at h;cases h;exact .inl ⟨p,rfl,rfl⟩
 |none=>
  rw[e]at h
  cases e2:jO [] [] xs with
  |some p=>rw[e2]at h;cases h;exact .inr ⟨p,rfl,rfl⟩
  |none=>rw[e2]at h;cases h
section
theorem Io(hA:X.A=A.in1)(hc:X.calm=true)(T:Turn X.prog X.w X.K (.Name x p) J fp it tn)(G:Gives X.K J xs H1)(S:Sat X.K env τ H0)(h0:H0 d=none)
  (fin:∀s H,Inv X γ σ H s->Nx X.K env τ H0 env H->jz X.K H (.dct ks' vs') d->R (.ok (.ret .none)) s):
  ∀(n i:Nat)(s:Shared)(H:Hp)(kvs:List (Key×V))(vs:List D),xs.length-i=n->Inv X γ σ H s->(∀b∈fp,fY X γ H b)->tn i s.heap->bR H1 H->Nx X.K env τ H0 env H->H d=some (.dK kvs)->
   aq X.K H vs (kvs.map (·.2))->dictOf (kvs.map fun q=>dW q.1) vs (xs.drop i)=some (ks',vs')->kvs.length<=i->i<=xs.length->
   codeAny (model X.prog X.w) A (.builtin "dict.update.loop" ⟨[.ref d,.ref it,rawInt ((i:Nat):Int),.none],[]⟩) R s:=by
 intro n
 induction n with
 |zero=>
  intro i s H kvs vs hn I hf st P N hd dl ho hk hi
  refine codeAny_builtin dN ?_
  rw[Around.under_plainId bW _,<-hA]
  refine QKq (QGq (T.done X rfl rfl rfl hc i γ s σ H _ I hf st (G.stop H P i (by omega))) (fun r s1 h=>?_) fun _ _ h=>h)
  obtain⟨rfl,I1⟩:=h
  rw[List.drop_eq_nil_of_le (by omega)]at ho
  cases ho
  exact QKq (QKz (QKz (fin s1 H I1 N ⟨_,hd,kvs,rfl,rfl,dl⟩)))
 |succ n ih=>
  intro i s H kvs vs hn I hf st P N hd dl ho hk hi
  have hlt:i<xs.length:=by omega
  obtain⟨dd,ed,edr⟩:=xn hlt
  rw[edr]at ho
  obtain⟨k,v,rfl,hkk,ho'⟩:=zT ho
  refine codeAny_builtin dN ?_
  rw[Around.under_plainId bW _,<-hA]
  refine QKq (QGq (T.item X rfl rfl rfl hc i γ s σ H _ I hf st (G.go H P i _ ed)) (fun r s1 h=>?_) fun _ _ h=>h)
  obtain⟨u,rfl,h⟩:=h
  refine w5 (QGq h (fun _ s2 h2=>?_) fun _ _ h=>h)
  obtain⟨y,H',I',ry,yl,st',nf⟩:=h2
  obtain⟨Dy,hH⟩:=G.yld H P i _ ed y H' yl
  obtain⟨a,ws,rfl,hq,l⟩:=cA Dy
  cases ry
  obtain⟨vk,r1,rfl,Dk,l⟩:=aq.aN.mp l
  obtain⟨vv,r2,rfl,Dv,l⟩:=aq.aN.mp l
  have:=aq.bO.mp l
  subst this
  obtain⟨kk,rfl⟩:=f9 hkk
  have ek:=lu Dk
  subst ek
  obtain⟨its,rr,pt,_⟩:=I'.tuple hq
  obtain⟨uk,uv,rfl,rk,rv⟩:=Vals.two rr
  obtain⟨o,eo,ec,nn,edt⟩:=pt
  have N':Nx X.K env τ H0 env H'/\bR H H'/\H' d=some (.dK kvs):=by
   rcases hH with rfl|⟨q,ws,hq0,rfl⟩
   ·exact⟨N,bR.refl _,hd⟩
   ·have NL:=Nx.laid (o:=.tup ws) N.eZ hq0
    exact⟨N.trans NL,NL.pers,by rw[aC (fun z=>by subst z;rw[hq0]at hd;cases hd)];exact hd⟩
  obtain⟨N',PP,hd'⟩:=N'
  refine QKq (Qqq ?_)
  refine QKq (wpAny_tryCatch ?_)
  have hty:s2.TypeIs (.ref a) "tuple":=⟨o,eo,ec⟩
  refine QKq (wpAny_typeOf hty ?_)
  refine QKq (wpAny_seqItems eo edt (QKz ?_))
  refine Qqq ?_
  obtain⟨z,hds,vvs,rel,dd⟩:=Nh I'.hok hd'
  have hz:vvs.length<=sizeLine:=by rw[<-rel.length];exact z
  have hG:=G.len
  have hl:(putK kvs kk vv).length<=i+1:=by have:=pK kvs kk vv;omega
  refine wpAny_dictSet_pairs (vm rk) dd fun h' dd' hs=>?_
  have he:∃q,h'.get? d=some q:=let ⟨q,_,_,hq,_⟩:=dd';⟨q,hq⟩
  have I2:Inv X γ σ (upd H' d (.dK (putK kvs kk vv))) {s2 with heap:=h',toks:=s2.toks+1}:=lA I' (by rw[hd'];exact True.intro) hs he (Ni (by omega) hds (rel.put kk rv) dd')
  have N2:=Nx.chg (u':=.dK (putK kvs kk vv)) N' S h0 hd' NK
  have p2:=gj (u':=.dK (putK kvs kk vv)) hd' NK
  obtain⟨g1,g2⟩:=Ed Dv (dl.mono PP)
  refine QKz ⟨plainId_quiet bW _,?_⟩
  refine ih (i+1) _ _ (putK kvs kk vv) _ (by omega) I2 (fun b hb=>?_) (T.keep _ _ _ st' fun b hb o e=>?_) ((P.trans PP).trans p2) N2 aU (g2.mono p2) ?_ hl (by omega)
  ·have nb:b≠d:=fun e=>by subst e;rw[nf b hb]at hd';cases hd'
   exact⟨by rw[aC nb];exact nf b hb,(hf b hb).2⟩
  ·have nb:b≠d:=fun e=>by subst e;rw[nf b hb]at hd';cases hd'
   exact(hs.2 b nb).trans e
  ·rw[<-g1];exact ho'
theorem Cy(hA:X.A=A.in1)(hu:X.A.units+8<cLine)(hc:X.calm=true)(T:Turn X.prog X.w X.K (.Name x p) J fp it tn)(G:Gives X.K J xs H1)(S:Sat X.K env τ H0)(h0:H0 d=none)
  (fin:∀s H,Inv X γ σ H s->Nx X.K env τ H0 env H->jz X.K H (.sdt ks' vs') d->R (.ok (.ret .none)) s):
  ∀(n i:Nat)(s:Shared)(H:Hp)(kvs:List SV)(ks vs:List D),xs.length-i=n->Inv X γ σ H s->(∀b∈fp,fY X γ H b)->tn i s.heap->bR H1 H->Nx X.K env τ H0 env H->H d=some (.dS kvs)->
   gH X.K H ks vs kvs->jO ks vs (xs.drop i)=some (ks',vs')->kvs.length<=i->i<=xs.length->
   codeAny (model X.prog X.w) A (.builtin "dict.update.loop" ⟨[.ref d,.ref it,rawInt ((i:Nat):Int),.none],[]⟩) R s:=by
 intro n
 induction n with
 |zero=>
  intro i s H kvs ks vs hn I hf st P N hd dl ho hk hi
  refine codeAny_builtin dN ?_
  rw[Around.under_plainId bW _,<-hA]
  show wpAny _ X.A (pyNext (.ref it)>>=_) _ _ s
  refine QKq (QGq (T.done X rfl rfl rfl hc i γ s σ H _ I hf st (G.stop H P i (by omega))) (fun r s1 h=>?_) fun _ _ h=>h)
  obtain⟨rfl,I1⟩:=h
  rw[List.drop_eq_nil_of_le (by omega)]at ho
  cases ho
  show wpAny _ X.A (Builtin.Dict.addKeywords d []>>=_) _ _ s1
  exact QKq (QKz (QKz (fin s1 H I1 N ⟨_,hd,kvs,rfl,dl⟩)))
 |succ n ih=>
  intro i s H kvs ks vs hn I hf st P N hd dl ho hk hi
  have hlt:i<xs.length:=by omega
  obtain⟨dd,ed,edr⟩:=xn hlt
  rw[edr]at ho
  obtain⟨k,v,rfl,hkk,ho'⟩:=CG ho
  refine codeAny_builtin dN ?_
  rw[Around.under_plainId bW _,<-hA]
  show wpAny _ X.A (pyNext (.ref it)>>=_) _ _ s
  refine QKq (QGq (T.item X rfl rfl rfl hc i γ s σ H _ I hf st (G.go H P i _ ed)) (fun r s1 h=>?_) fun _ _ h=>h)
  obtain⟨u,rfl,h⟩:=h
  refine w5 (QGq h (fun _ s2 h2=>?_) fun _ _ h=>h)
  obtain⟨y,H',I',ry,yl,st',nf⟩:=h2
  obtain⟨Dy,hH⟩:=G.yld H P i _ ed y H' yl
  obtain⟨a,ws,rfl,hq,l⟩:=cA Dy
  cases ry
  obtain⟨vk,r1,rfl,Dk,l⟩:=aq.aN.mp l
  obtain⟨vv,r2,rfl,Dv,l⟩:=aq.aN.mp l
  have:=aq.bO.mp l
  subst this
  obtain⟨ka,rfl,hka⟩:=iM hkk Dk
  obtain⟨its,rr,pt,_⟩:=I'.tuple hq
  obtain⟨uk,uv,rfl,rk,rv⟩:=Vals.two rr
  cases rk
  obtain⟨o,eo,ec,nn,edt⟩:=pt
  have N':Nx X.K env τ H0 env H'/\bR H H'/\H' d=some (.dS kvs):=by
   rcases hH with rfl|⟨q,ws,hq0,rfl⟩
   ·exact⟨N,bR.refl _,hd⟩
   ·have NL:=Nx.laid (o:=.tup ws) N.eZ hq0
    exact⟨N.trans NL,NL.pers,by rw[aC (fun z=>by subst z;rw[hq0]at hd;cases hd)];exact hd⟩
  obtain⟨N',PP,hd'⟩:=N'
  have sr:=dl.mono PP
  show wpAny _ X.A (holding [.ref a] _>>=_) _ _ s2
  refine QKq (Qqq ?_)
  refine QKq (wpAny_tryCatch ?_)
  unfold Builtin.Dict.pairItems
  have hty:s2.TypeIs (.ref a) "tuple":=⟨o,eo,ec⟩
  refine QKq (wpAny_typeOf hty ?_)
  rw[if_pos (by decide)]
  refine QKq (wpAny_seqItems eo edt (QKz ?_))
  show wpAny _ X.A (holding [.ref ka,uv] (dictSet d (.ref ka) uv)) _ _ s2
  refine Qqq ?_
  obtain⟨ys,pr,dd,y,z⟩:=lq I' (.inl hd') sr.zy
  have hz:ys.length<=sizeLine:=by
   have:=congrArg List.length (kO pr)
   simp at this
   omega
  have hG:=G.len
  have hl:(oJ (kC k) ka vv kvs).length<=i+1:=by have:=Ec (k:=kC k) (a:=ka) (xs:=kvs) vv;omega
  refine wpAny_dictSet_heap (knd:=eO X.prog X.w) (hsz:=hz) hu (il I' hka) dd fun h' dd' hs=>?_
  have he:∃q,h'.get? d=some q:=let ⟨q,_,_,hq,_⟩:=dd';⟨q,hq⟩
  have I2:Inv X γ σ (upd H' d (.dS (oJ (kC k) ka vv kvs))) {s2 with heap:=h',toks:=s2.toks+(eO X.prog X.w).draws (kC k)}:=lA I' (by rw[hd'];exact True.intro) hs he (DX (by omega) y (mW rv pr) dd')
  have N2:=Nx.chg (u':=.dS (oJ (kC k) ka vv kvs)) N' S h0 hd' NB
  have p2:=gj (u':=.dS (oJ (kC k) ka vv kvs)) hd' NB
  have g:=sr.put hkk Dk Dv
  refine QKz ⟨plainId_quiet bW _,?_⟩
  refine ih (i+1) _ _ (oJ (kC k) ka vv kvs) _ _ (by omega) I2 (fun b hb=>?_) (T.keep _ _ _ st' fun b hb o e=>?_) ((P.trans PP).trans p2) N2 aU (g.mono p2) ho' hl (by omega)
  ·have nb:b≠d:=fun e=>by subst e;rw[nf b hb]at hd';cases hd'
   exact⟨by rw[aC nb];exact nf b hb,(hf b hb).2⟩
  ·have nb:b≠d:=fun e=>by subst e;rw[nf b hb]at hd';cases hd'
   exact(hs.2 b nb).trans e
end
section
variable{E:QZq}
def tB{oo:Ob}(hc:X.calm=true)(hu:X.A.units+60<cLine)(I:Inv X γ σ H s)(S:Sat X.K env τ H)(ho:s.heap.get? o=some ob)(hcl:ob.cls=.type T)(hT:(T !="dict")=true)(hd:zU xs=some oo)
  (hkey:∀(s1:Shared)(E:QZq)(Q:Option Value->Shared->Prop),s1.heap.get? o=some ob->(∀h' tk,(∀b u,s1.heap.get? b=some u->h'.get? b=some u)->Q none {s1 with heap:=h',toks:=tk})->
   wpAny (model X.prog X.w) X.A.in1.in1 (getAttr? (.ref o) "keys") Q E s1)
  (hit:∀(s1:Shared)(u:HO)(E:QZq)(Q:QZq),Inv (Cx.under X X.A.in1.in1) γ σ (upd H s.heap.objs.size u) s1->Nx X.K env τ H env (upd H s.heap.objs.size u)->(∀b u,s.heap.get? b=some u->s1.heap.get? b=some u)->
   (∀s2 it fp tn J,Inv (Cx.under X X.A.in1.in1) γ σ (upd H s.heap.objs.size u) s2->Turn X.prog X.w X.K (.Name x p) J fp it tn->tn 0 s2.heap->(∀b∈fp,fY X γ (upd H s.heap.objs.size u) b)->Gives X.K J xs (upd H s.heap.objs.size u)->Q (.ref it) s2)->
   wpAny (model X.prog X.w) X.A.in1.in1 (pyIter (.ref o)) Q E s1)
  (h:∀a s' H',Inv X γ σ H' s'->Nx X.K env τ H env H'->jz X.K H' oo a->H a=none->Q (.ref a) s'):
  wpAny (model X.prog X.w) X.A (call (.type "dict") [.ref o]) Q E s:=by
 have hfr:H s.heap.objs.size=none:=I.hok.fresh (QVz _)
 have LP:∃u0,(∀H',cu X.prog X.w H' (s.heap.push {cls:=.type "dict",data:=.dict #[]}) s.heap.objs.size u0)/\∀(s3:Shared)it fp tn J(R:Result->Shared->Prop),(∀s4 H4,Inv (Cx.under X X.A.in1.in1) γ σ H4 s4->Nx X.K env τ H env H4->jz X.K H4 oo s.heap.objs.size->R (.ok (.ret .none)) s4)->
   Inv (Cx.under X X.A.in1.in1) γ σ (upd H s.heap.objs.size u0) s3->Turn X.prog X.w X.K (.Name x p) J fp it tn->tn 0 s3.heap->(∀b∈fp,fY X γ (upd H s.heap.objs.size u0) b)->Gives X.K J xs (upd H s.heap.objs.size u0)->Nx X.K env τ H env (upd H s.heap.objs.size u0)->
   codeAny (model X.prog X.w) X.A.in1 (.builtin "dict.update.loop" ⟨[.ref s.heap.objs.size,.ref it,rawInt ((0:Nat):Int),.none],[]⟩) R s3:=by
  have hu2:(Cx.under X X.A.in1.in1).A.units+8<cLine:=by
   show X.A.in1.in1.units+8<cLine
   have:X.A.in1.in1.units<=X.A.units+2:=by simp[Around.in1]
   omega
  rcases Np hd with ⟨pr,hd1,rfl⟩|⟨pr,hd1,rfl⟩
  ·exact⟨.dK [],fun H'=>sV s.heap I.big,fun s3 it fp tn J R fin I3 Tn st hf G N1=>Io (X:=Cx.under X X.A.in1.in1) (A:=X.A.in1) rfl hc Tn G S hfr fin xs.length 0 s3 _ [] [] rfl I3 hf st (bR.refl _) N1 aU aq.gk hd1 (QVz _) (QIq _)⟩
  ·exact⟨.dS [],fun H'=>Nf s.heap I.big,fun s3 it fp tn J R fin I3 Tn st hf G N1=>Cy (X:=Cx.under X X.A.in1.in1) (A:=X.A.in1) rfl hu2 hc Tn G S hfr fin xs.length 0 s3 _ [] [] [] rfl I3 hf st (bR.refl _) N1 aU gH.nil hd1 (QVz _) (QIq _)⟩
 obtain⟨u0,ok0,LP⟩:=LP
 refine callType_codes (Q₁:=fun obj ι=>obj=.ref s.heap.objs.size/\ι={s with heap:=s.heap.push {cls:=.type "dict",data:=.dict #[]}}) PySem.F.kt_called_dict (PySem.F.kt_typeCall_dict_1 _) PySem.F.entry_dict_init (kt_code_dict_new _ ⟨rfl,rfl⟩) ?_
 rintro obj ι ⟨rfl,rfl⟩
 have hnew:(s.heap.push {cls:=.type "dict",data:=.dict #[]}).DictOf (fV X.prog X.w) s.heap.objs.size []:=Heap.DictOf.new s.heap
 have k1:∀b u,s.heap.get? b=some u->(s.heap.push {cls:=.type "dict",data:=.dict #[]}).get? b=some u:=fun _ _ q=>QWq _ q
 have I1:=I.laid (a:=s.heap.objs.size) (o:=u0) (h':=s.heap.push {cls:=.type "dict",data:=.dict #[]}) (t':=s.toks) k1 (QVz _) (ok0 _)
 have N1:=Nx.laid (o:=u0) S hfr
 refine⟨hnew.typeIs,PySem.F.args_dict_init_2 _ _,?_⟩
 unfold Builtin.«dict.__init__»
 refine QKq ?_
 unfold Builtin.Dict.selfAndRest
 refine QKq (wpAny_notOrdered_dict hnew.typeIs ?_)
 show wpAny _ _ (pure (s.heap.objs.size,[Value.ref o])) _ _ _
 refine QKz ?_
 show wpAny _ _ (Builtin.Dict.updateFrom "dict.__init__" s.heap.objs.size (.ref o) [] .none) _ _ _
 unfold Builtin.Dict.updateFrom
 have hty:(⟨s.heap.push {cls:=.type "dict",data:=.dict #[]},s.gens,s.drawn,s.toks,s.os⟩:Shared).TypeIs (.ref o) T:=⟨ob,k1 o ob ho,hcl⟩
 refine QKq (wpAny_typeOf hty ?_)
 have ht:((Value.type T) !=(Value.type "dict"))=true:=by
  have:T≠"dict":=by simpa using hT
  simpa using this
 rw[if_pos ht]
 refine QKq (hkey _ _ _ (k1 o ob ho) fun h2 tk k2=>?_)
 simp only[Option.isNone_none,if_true]
 refine QKq (wpAny_rule ?_)
 have I2:Inv X γ σ _ {s with heap:=h2,toks:=tk}:=I1.kept (t':=tk) k2
 refine QKq (hit _ _ _ _ (Inv.under I2 rfl rfl) N1 (fun b u q=>k2 b u (k1 b u q)) fun s3 it fp tn J I3 Tn st hf G=>?_)
 refine QKq (QKz (QKz ⟨plainId_quiet bW _,?_⟩))
 exact LP s3 it fp tn J _ (fun s4 H4 I4 N4 O4=>⟨rfl,h _ s4 H4 (Inv.back I4 rfl rfl) N4 O4 hfr⟩) I3 Tn st hf G N1
end
def Ah:typeLookup (.type "zip") "__len__"=pure none:=by rw[typeLookup_type,builtinLookup_eq_fast];kernel_rfl
def xZ:typeLookup (.type "zip") "__length_hint__"=pure none:=by rw[typeLookup_type,builtinLookup_eq_fast];kernel_rfl
section
def Inv.abF{s:Shared}{y:V}{u:Value}{E:QZq}(I:Inv X γ σ H s)(hd:H d=some (.lst vs))(ry:RelV y u)(hz:vs.length<sizeLine)
  (h:∀h',(∀b o,b≠d->s.heap.get? b=some o->h'.get? b=some o)->Inv X γ σ (upd H d (.lst (vs++[y]))) {s with heap:=h'}->Q () {s with heap:=h'}):
  wpAny (model X.prog X.w) A (updateSeq d (·.push u)) Q E s:=by
 obtain⟨z,its,n,r,e⟩:=(I.hok d _ hd)
 have hl:=r.length
 refine wpAny_updateSeq e rfl ?_ (by show its.toArray.size<=_;rw[Qyq];omega) (by show(its.toArray.push u).size<=_;rw[Array.size_push,Qyq];omega)
 have es:=Heap.get?_update_self (Obj.mapSeq (·.push u)) e rfl
 have oth:∀b o,b≠d->s.heap.get? b=some o->(s.heap.update d (Obj.mapSeq (·.push u))).get? b=some o:=fun b o hb q=>(Heap.get?_update_other _ _ (Ne.symm hb)).trans q
 refine h _ oth (I.write (by rw[hd];exact True.intro) (.inl rfl) (fun b q hb z=>oth b q hb z) ⟨_,es⟩ ?_)
 have ea:(its++[u]).toArray=its.toArray.push u:=by simp
 exact⟨by simp;omega,its++[u],_,Vals.append r (.cons ry .nil),by rw[ea];exact es⟩
theorem Hz(hA:X.A=A.in1)(hc:X.calm=true)(T:Turn X.prog X.w X.K (.Name x p) J fp it tn)(G:Gives X.K J xs H1)(S:Sat X.K env τ H0)(h0:H0 d=none)
  (fin:∀s H,Inv X γ σ H s->Nx X.K env τ H0 env H->jz X.K H (.lst xs) d->R (.ok (.ret .none)) s):
  ∀(n i:Nat)(s:Shared)(H:Hp)(vs:List V),xs.length-i=n->Inv X γ σ H s->(∀b∈fp,fY X γ H b)->tn i s.heap->bR H1 H->Nx X.K env τ H0 env H->H d=some (.lst vs)->
   aq X.K H (xs.take i) vs->i<=xs.length->
   codeAny (model X.prog X.w) A (.builtin "list.extend.loop" ⟨[.ref d,.ref it,.none],[]⟩) R s:=by
 intro n
 induction n with
 |zero=>
  intro i s H vs hn I hf st P N hd dl hi
  refine codeAny_builtin PySem.F.entry_extend_loop ?_
  rw[Around.under_plainId PySem.F.plain_extend_loop _,<-hA]
  refine QKq (QGq (T.done X rfl rfl rfl hc i γ s σ H _ I hf st (G.stop H P i (by omega))) (fun r s1 h=>?_) fun _ _ h=>h)
  obtain⟨rfl,I1⟩:=h
  rw[List.take_of_length_le (by omega)]at dl
  exact QKz (fin s1 H I1 N ⟨_,hd,vs,rfl,dl⟩)
 |succ n ih=>
  intro i s H vs hn I hf st P N hd dl hi
  have hlt:i<xs.length:=by omega
  obtain⟨dd,ed,edr⟩:=xn hlt
  refine codeAny_builtin PySem.F.entry_extend_loop ?_
  rw[Around.under_plainId PySem.F.plain_extend_loop _,<-hA]
  refine QKq (QGq (T.item X rfl rfl rfl hc i γ s σ H _ I hf st (G.go H P i _ ed)) (fun r s1 h=>?_) fun _ _ h=>h)
  obtain⟨u,rfl,h⟩:=h
  refine w5 (QGq h (fun _ s2 h2=>?_) fun _ _ h=>h)
  obtain⟨y,H',I',ry,yl,st',nf⟩:=h2
  obtain⟨Dy,hH⟩:=G.yld H P i _ ed y H' yl
  have N':Nx X.K env τ H0 env H'/\bR H H'/\H' d=some (.lst vs):=by
   rcases hH with rfl|⟨q,ws,hq0,rfl⟩
   ·exact⟨N,bR.refl _,hd⟩
   ·have NL:=Nx.laid (o:=.tup ws) N.eZ hq0
    exact⟨N.trans NL,NL.pers,by rw[aC (fun z=>by subst z;rw[hq0]at hd;cases hd)];exact hd⟩
  obtain⟨N',PP,hd'⟩:=N'
  have hG:=G.len
  have lv:=dl.length
  rw[List.length_take]at lv
  refine QKq (Inv.abF I' hd' ry (by omega) fun h' oth I2=>?_)
  have p2:=gj (u':=.lst (vs++[y])) hd' Gk
  refine QKz ⟨plainId_quiet PySem.F.plain_extend_loop _,?_⟩
  refine ih _ _ _ _ (by omega) I2 (fun b hb=>?_) (T.keep _ _ _ st' fun b hb o e=>?_) ((P.trans PP).trans p2) (Nx.chg (u':=.lst (vs++[y])) N' S h0 hd' Gk) aU ?_ (by omega)
  ·exact⟨by rw[aC (fun e=>by subst e;rw[nf b hb]at hd';cases hd')];exact nf b hb,(hf b hb).2⟩
  ·exact oth b o (fun e=>by subst e;rw[nf b hb]at hd';cases hd') e
  ·have:xs.take (i+1)=xs.take i++[dd]:=by rw[List.take_add_one,ed];rfl
   rw[this]
   exact((dl.mono PP).append (aq.dg Dy aq.gk)).mono p2
end
section
variable{E:QZq}
def De(hc:X.calm=true)(I:Inv X γ σ H s)(S:Sat X.K env τ H)(ho:s.heap.get? o=some ob)(hcl:ob.cls=.type "zip")
  (hself:∀(s1:Shared)(E:QZq)(Q:QZq),(∀b u,s.heap.get? b=some u->s1.heap.get? b=some u)->Q (.ref o) s1->wpAny (model X.prog X.w) X.A.in1.in1 (pyIter (.ref o)) Q E s1)
  (hit:∀(s1:Shared)(u:HO),Nx X.K env τ H env (upd H s.heap.objs.size u)->(∀b u,s.heap.get? b=some u->s1.heap.get? b=some u)->
   ∃fp tn J,Turn X.prog X.w X.K (.Name x p) J fp o tn/\tn 0 s1.heap/\(∀b∈fp,fY X γ (upd H s.heap.objs.size u) b)/\Gives X.K J xs (upd H s.heap.objs.size u))
  (h:∀a s' H',Inv X γ σ H' s'->Nx X.K env τ H env H'->jz X.K H' (.lst xs) a->H a=none->Q (.ref a) s'):
  wpAny (model X.prog X.w) X.A (call (.type "list") [.ref o]) Q E s:=by
 refine callType_codes (Q₁:=fun obj ι=>obj=.ref s.heap.objs.size/\ι={s with heap:=s.heap.push {cls:=.type "list",data:=.seq #[]}}) PySem.F.called_list (PySem.F.typeCall_list_1 _) PySem.F.entry_list_init
  (code_list_new _ ⟨rfl,rfl⟩) fun obj ι ω=>?_
 obtain⟨rfl,rfl⟩:=ω
 have hS:(s.heap.push {cls:=.type "list",data:=.seq #[]}).get? s.heap.objs.size=some {cls:=.type "list",data:=.seq #[]}:=Qzq _ rfl
 have hfr:=I.hok.fresh (QVz _)
 have hne:s.heap.objs.size≠o:=fun e=>absurd (Qqz ho) (by rw[e];exact Nat.lt_irrefl _)
 have oth:∀f(h':Heap)b u,b≠s.heap.objs.size->h'.get? b=some u->(h'.update s.heap.objs.size (Obj.mapSeq f)).get? b=some u:=
  fun f h' b u hb e=>(Heap.get?_update_other _ _ (Ne.symm hb)).trans e
 have old:∀b u,s.heap.get? b=some u->b≠s.heap.objs.size:=fun b u e=>Qvz (Qqz e)
 refine⟨⟨_,hS,rfl⟩,PySem.F.args_list_init_2 _ _,?_⟩
 refine QKq ?_
 refine QKq (wpAny_seqItems hS rfl (QKz ?_))
 refine QKq (wpAny_updateSeq hS rfl ?_)
 have hS₂:=Heap.get?_update_self (Obj.mapSeq (fun _=>(#[]))) hS rfl
 have k2:∀b u,s.heap.get? b=some u->((s.heap.push {cls:=.type "list",data:=.seq #[]}).update s.heap.objs.size (Obj.mapSeq (fun _=>(#[])))).get? b=some u:=fun b u e=>oth _ _ b u (old b u e) ((fun _ _ q=>QWq _ q) b u e)
 refine QKq (wpAny_letGo ?_)
 have hty:(⟨(s.heap.push {cls:=.type "list",data:=.seq #[]}).update s.heap.objs.size (Obj.mapSeq (fun _=>(#[]))),s.gens,s.drawn,s.toks,s.os⟩:Shared).TypeIs (.ref o) "zip":=⟨ob,k2 o ob ho,hcl⟩
 refine QKq (wpAny_typeOf hty ?_)
 have h1:Builtin.List.listSameRef (.ref s.heap.objs.size) (.ref o)=false:=by simp[Builtin.List.listSameRef,hne]
 have h2:(Value.type "zip"==Value.type "list")=false:=by decide
 have h3:(Value.type "zip"==Value.type "tuple")=false:=by decide
 simp only[h1,h2,h3,Bool.or_false,Qxq,if_false]
 refine QKq (hself _ _ _ k2 ?_)
 refine QKq (Qqq ?_)
 refine QKq (wpAny_specialOf hty Ah ?_)
 refine QKq (wpAny_specialOf hty xZ ?_)
 refine QKz ?_
 refine QKq (wpAny_rule ?_)
 refine QKq ?_
 refine QKq (wpAny_updateSeq hS₂ rfl ?_)
 have hS₃:=Heap.get?_update_self (Obj.mapSeq (·.push Value.none)) hS₂ rfl
 refine wpAny_updateSeq hS₃ rfl ?_
 have k4:∀b u,s.heap.get? b=some u->((((s.heap.push {cls:=.type "list",data:=.seq #[]}).update s.heap.objs.size (Obj.mapSeq (fun _=>(#[])))).update s.heap.objs.size (Obj.mapSeq (·.push Value.none))).update s.heap.objs.size (Obj.mapSeq (·.pop))).get? b=some u:=
  fun b u e=>oth _ _ b u (old b u e) (oth _ _ b u (old b u e) (k2 b u e))
 have N1:=Nx.laid (o:=.lst []) S hfr
 obtain⟨fp,tn,J,Tn,st,hf,G⟩:=hit {s with heap:=_} _ N1 k4
 refine QKz ⟨plainId_quiet PySem.F.plain_extend_loop _,?_⟩
 exact Hz (X:=Cx.under X X.A.in1.in1) rfl hc Tn G S hfr (fun s4 H4 I4 N4 O4=>⟨rfl,h _ s4 H4 (Inv.back I4 rfl rfl) N4 O4 hfr⟩) xs.length 0 _ _ [] rfl (Inv.under (I.laid (o:=.lst []) (t':=s.toks) k4 (QVz _) ⟨QIq _,[],_,.nil,Heap.get?_update_self (Obj.mapSeq (·.pop)) hS₃ rfl⟩) rfl rfl) hf st (bR.refl _) N1 aU aq.gk (QIq _)
end
def Gives.mono{J:It}{H H':Hp}(g:Gives K J xs H)(p:bR H H'):Gives K J xs H':=
 ⟨fun H1 q=>g.go H1 (p.trans q),fun H1 q=>g.yld H1 (p.trans q),fun H1 q=>g.stop H1 (p.trans q),g.len⟩
def Inv.S9{E:QZq}{σ:St}{H:Hp}(I:Inv X γ σ H s):Inv {X with xe:=E} γ σ H s:=
 ⟨⟨I.ok.mod,I.ok.kind,I.ok.glob,I.ok.blt,I.ok.above,I.ok.inj,I.ok.has,I.ok.cab,I.ok.hd,I.ok.frames,I.ok.stk,I.ok.exf,I.ok.bs,I.ok.bsz,I.ok.noex,I.ok.exfs,I.ok.lO,I.ok.frf⟩,
  I.os,I.bare,I.base,I.loc,I.cell,I.free,I.freeC,I.pin,I.hok,I.len⟩
def Inv.unE{E:QZq}{σ:St}{H:Hp}(I:Inv {X with xe:=E} γ σ H s):Inv X γ σ H s:=Inv.S9 (X:={X with xe:=E}) I
theorem Inv.seqObj{X:Cx}{σ:St}{H:Hp}{b:Bool}{l:Addr}(I:Inv X γ σ H s)(h:Ox X.K b H l vs):
  ∃(its:Array Value)(k:Nat)(sl:Array (Option Value)),s.heap.get? l=some {cls:=.type (if b then "list" else "tuple"),dict:=none,data:=.seq its k,slots:=sl}:=by
 cases b with
 |true=>
  obtain⟨its,r,⟨o,n,e,c,d,dt⟩,z⟩:=I.list (Gs.sq h)
  obtain⟨oc,od,odt,os⟩:=o
  subst c d dt
  exact⟨_,_,_,e⟩
 |false=>
  obtain⟨its,r,⟨o,e,c,d,n,dt⟩,z⟩:=I.Am h
  obtain⟨oc,od,odt,os⟩:=o
  subst c d dt
  exact⟨_,_,_,e⟩
def wV{xs:List D}(h:bN d=some xs):items d=some xs:=by
 cases d<;>simp[bN]at h<;>simp[items,h]
noncomputable def Uc(K:QQq):List V->Hp->VK->Prop:=fun us H Q=>∃env τ v d xs pr,us=[v]/\Sat K env τ H/\bI K H d v/\bN d=some xs/\zU xs=some pr/\
 ∀a H',Nx K env τ H env H'->jz K H' pr a->H a=none->Q (.ref a) H'
section
def Dg(hc:X.calm=true)(hu:X.A.units+60<cLine):fU X (.type "dict") (Uc X.K):=by
 intro γ s σ H us ws Q I r h
 obtain⟨env,τ,v,d,xs,pr,rfl,S,Dv,es,hd,q⟩:=h
 obtain⟨u,rfl,ru⟩:=vals1 r
 obtain⟨bb,l,vs,rfl,hq,dl⟩:=Dv.v9 es
 cases ru
 obtain⟨its,k,sl,eo⟩:=Inv.seqObj I hq
 refine tB (x:=("_")) (p:=default) hc hu I S eo rfl (by cases bb<;>decide) hd (fun s1 E Q e1 k1=>?_) (fun s1 u E Q I1 N1 k1 hQ=>?_) fun a s' H' I' N' O' h'=>⟨.ref a,H',I',rfl,q a H' N' O' h'⟩
 ·cases bb with
  |true=>exact rN e1 (I.ok.hd hc) k1
  |false=>exact p7 e1 (I.ok.hd hc) k1
 ·refine QGq (LR (tg:=.Name ("_") default) (R:=fun J H'=>Gives X.K J xs H'/\H'=upd H s.heap.objs.size u) (Inv.S9 I1) (show RelV (.ref l) _ from rfl) (Dv.mono N1.pers) (wV es) fun J g=>⟨g,rfl⟩) (fun v2 s2 h2=>?_) fun _ _ h=>h
  obtain⟨it,fp,tn,J,H',rfl,I2,T,st,hf,g,rfl⟩:=h2
  exact hQ s2 it fp tn J (Inv.unE I2) T st hf g
def Nj{σ:St}{Q:VK}(hv:m.aB=none)(q:tM X.K W env (ev c (.bi .dict m) env) σ H Q):aD X W c m σ H fun v H1=>Uc X.K [v] H1 Q:=by
 simp only[pU,hv]at q
 refine⟨env,aZ q fun d δ v H1 N1 D1 q1=>?_⟩
 obtain⟨z,ez,S,q3⟩:=cJ q1
 simp only[b1]at ez
 cases es:bN d with
 |none=>rw[es]at ez;cases ez
 |some xs=>
  rw[es]at ez
  simp only[QHq,z6]at ez
  cases ed:zU xs with
  |none=>rw[ed]at ez;cases ez
  |some pr=>
   rw[ed]at ez
   cases ez
   exact⟨δ,σ,v,d,xs,pr,rfl,S,D1,es,ed,fun a H' N O h0=>q3 _ H' N ⟨a,rfl,O,h0⟩⟩
def RL(hc:X.calm=true)(hu:X.A.units+60<cLine)(ha:GE X W c m a)(hv:m.aB=none)(hg:Gl X "dict")(hm:X.mg "dict"=none)(hs:starEach [a] X.env=[(false,eval a X.env)]):
  GE X W c (.bi .dict m) (.Call (.Name "dict" p) [a] [] pos):=fun env=>
 PE.imp (oN (Dg hc hu) hg hm PyProof.Rows.boot_dict (cL ha.d eU hs) (by decide) (by decide) hs rfl) fun σ H Q h=>Nj hv h
structure agB(X:Cx)(W:Wi)(γ:QQz)(σ:St)(Q:VK)(f:D->Ev->Out Rv)(v:Value)(s:Shared):Prop where
 go:∃z TI TO i1 i2 b1 b2 l1 l2 vs ws xs ys env H,v=.ref z/\Inv X γ σ H s/\Aa z TI TO i1 i2 b1 b2 l1 l2 0 s.heap/\ZipApart z TI TO i1 i2 l1 l2/\(∀b∈[z,TI,TO,i1,i2],fY X γ H b)/\
  Gives X.K (Itz X.K b1 b2 l1 l2 vs ws) (aO xs ys) H/\tM X.K W env (f (.lst (aO xs ys)) env) σ H Q
theorem yc{env:Ev}{s:Shared}{σ:St}{Q:VK}(ha:GE X W c m1 a)(hb:GE X W c m2 b)(hg:Gl X "zip")(hm:X.mg "zip"=none)
  (hs:starEach [a,b] X.env=[(false,eval a X.env),(false,eval b X.env)])(hs2:starEach [b] X.env=[(false,eval b X.env)])(I:Inv X γ σ H s)(q:tM X.K W env ((ev c (.zip m1 m2) env).ao f) σ H Q):
  wpAny (model X.prog X.w) X.A (eval (.Call (.Name "zip" p) [a,b] [] pos) X.env) (agB X W γ σ Q f) X.xe s:=by
 simp only[VJ]at q
 let RR:List V->Hp->Prop:=fun vs H'=>∃ε d1 d2 xs ys v1 v2,vs=[v1,v2]/\bI X.K H' d1 v1/\bI X.K H' d2 v2/\bN d1=some xs/\bN d2=some ys/\tM X.K W ε (f (.lst (aO xs ys)) ε) σ H' Q
 have asc:∀(o:Out Rv)g,(o.ao g).ao f=o.ao fun d e=>(g d e).ao f:=fun o g=>by
  cases o with
  |ok x e=>cases x<;>rfl
  |exc c e=>rfl
  |bad=>rfl
 rw[asc]at q
 have go:aD X W c m1 σ H fun v1 H1=>aD X W c m2 σ H1 fun v2 H2=>RR [v1,v2] H2:=by
  refine⟨env,aZ q fun d1 δ v1 H1 N1 D1 q1=>⟨δ,?_⟩⟩
  rw[asc]at q1
  refine aZ q1 fun d2 ε v2 H2 N2 D2 q2=>?_
  cases e1:bN d1 with
  |none=>rw[e1]at q2;exact q2.2.elim
  |some xs=>
   cases e2:bN d2 with
   |none=>rw[e1,e2]at q2;exact q2.2.elim
   |some ys=>
    rw[e1,e2]at q2
    exact⟨ε,d1,d2,xs,ys,v1,v2,rfl,D1.mono N2.pers,D2,e1,e2,q2⟩
 refine wpAny_Call_Name_kw (iZ I hg hm PyProof.Rows.boot_zip ?_ (by decide) (by decide))
 refine PyProof.Rows.callWith_type1 (cB (cL ha.d (cL hb.d eU hs2) (by rw[hs,hs2]) pos γ s σ H RR I go) fun us s1⟨vs,H1,I1,r1,q1⟩=>?_) (by rw[hs,hs2]) (by rw[hs2];rfl)
 obtain⟨ε,d1,d2,xs,ys,v1,v2,rfl,D1,D2,e1,e2,q3⟩:=q1
 obtain⟨b1,l1,vs,rfl,h1,dl1⟩:=D1.v9 e1
 obtain⟨b2,l2,ws,rfl,h2,dl2⟩:=D2.v9 e2
 obtain⟨u1,u2,rfl,ru1,ru2⟩:=Vals.two r1
 cases ru1
 cases ru2
 obtain⟨its,rr1,p1,z1,lt1⟩:=Inv.v9 I1 h1
 obtain⟨its2,rr2,p2,z2,lt2⟩:=Inv.v9 I1 h2
 refine vO p1 p2 fun h' st sz kk=>?_
 refine⟨s1.heap.objs.size+4,s1.heap.objs.size+2,s1.heap.objs.size+3,s1.heap.objs.size,s1.heap.objs.size+1,b1,b2,l1,l2,vs,ws,xs,ys,ε,H1,rfl,I1.kept kk,st,uA lt1 lt2,fun b hb=>?_,vz h1 h2 dl1 dl2 z1,q3⟩
 have hb':s1.heap.objs.size<=b:=by
  simp only[QCq,QAz,or_false]at hb
  rcases hb with rfl|rfl|rfl|rfl|rfl<;>omega
 exact I1.zJ hb' (I1.hok.fresh hb')
theorem Aa.lt{z TI TO i1 i2:Addr}{b1 b2:Bool}{k:Nat}(st:Aa z TI TO i1 i2 b1 b2 l1 l2 k h):∀b∈[z,TI,TO,i1,i2],b<h.objs.size:=by
 intro b hb
 obtain⟨f0,f1,zr,_⟩:=st.zr
 obtain⟨x,y,to⟩:=st.to
 simp only[QCq,QAz,or_false]at hb
 rcases hb with rfl|rfl|rfl|rfl|rfl
 ·exact Qqz zr
 ·exact Qqz st.ti
 ·exact Qqz to
 ·exact st.it1.lt
 ·exact st.it2.lt
theorem Cj(hc:X.calm=true)(hu:X.A.units+60<cLine)(ha:GE X W c m1 a)(hb:GE X W c m2 b)(hg:Gl X "zip")(hm:X.mg "zip"=none)
  (hs:starEach [a,b] X.env=[(false,eval a X.env),(false,eval b X.env)])(hs2:starEach [b] X.env=[(false,eval b X.env)])(hg':Gl X "dict")(hm':X.mg "dict"=none)
  (hs':starEach [.Call (.Name "zip" q1) [a,b] [] q2] X.env=[(false,eval (.Call (.Name "zip" q1) [a,b] [] q2) X.env)]):
  GE X W c (.bi .dict (.zip m1 m2)) (.Call (.Name "dict" p) [.Call (.Name "zip" q1) [a,b] [] q2] [] pos):=by
 intro env γ s σ H Q I q
 simp only[pU,E.aB]at q
 refine wpAny_Call_Name_kw (iZ I hg' hm' PyProof.Rows.boot_dict ?_ (by decide) (by decide))
 refine PyProof.Rows.callWith_type1 ?_ hs' rfl
 refine Calls.spliced_cons (cB (yc ha hb hg hm hs hs2 I (by simpa only[pU]using q)) fun u s1 h1=>Calls.spliced_nil ?_)
 obtain⟨z,TI,TO,i1,i2,b1,b2,l1,l2,vs,ws,xs,ys,δ,H1,rfl,I1,st,ap,hf,G,q1⟩:=h1.go
 obtain⟨r,er,S,q3⟩:=cJ q1
 simp only[Mini.b1,bN,QHq,z6]at er
 cases ed:zU _ with
 |none=>rw[ed]at er;cases er
 |some pr=>
  rw[ed]at er
  cases er
  obtain⟨f0,f1,zr,h0⟩:=st.zr
  refine tB (x:=("_")) (p:=default) hc hu I1 S zr rfl (by decide) ed (fun s2 E Q e1 k1=>uw e1 (I1.ok.hd hc) k1) (fun s2 u E Q I2 N2 k2 hQ=>?_)
   fun a s' H' I' N' O' h'=>⟨.ref a,H',I',rfl,q3 _ H' N' ⟨a,rfl,O',h'⟩⟩
  refine iU (k2 _ _ zr) (hQ s2 z [z,TI,TO,i1,i2] _ _ I2 (jH ap) ((jH (P:=X.prog) (w:=X.w) (K:=X.K) (tg:=.Name ("_") default) (vs:=vs) (ws:=ws) ap).keep 0 _ _ st fun b _ o e=>k2 b o e) (fun b hb=>⟨?_,(hf b hb).2⟩) (G.mono N2.pers))
  rw[aC (Qvz (st.lt b hb))]
  exact(hf b hb).1
def Ci(hc:X.calm=true)(ha:GE X W c m1 a)(hb:GE X W c m2 b)(hg:Gl X "zip")(hm:X.mg "zip"=none)
  (hs:starEach [a,b] X.env=[(false,eval a X.env),(false,eval b X.env)])(hs2:starEach [b] X.env=[(false,eval b X.env)])(hg':Gl X "list")(hm':X.mg "list"=none)
  (hs':starEach [.Call (.Name "zip" q1) [a,b] [] q2] X.env=[(false,eval (.Call (.Name "zip" q1) [a,b] [] q2) X.env)]):
  GE X W c (.bi .list (.zip m1 m2)) (.Call (.Name "list" p) [.Call (.Name "zip" q1) [a,b] [] q2] [] pos):=by
 intro env γ s σ H Q I q
 simp only[pU,E.aB]at q
 refine wpAny_Call_Name_kw (iZ I hg' hm' PyProof.Rows.boot_list ?_ (by decide) (by decide))
 refine PyProof.Rows.callWith_type1 ?_ hs' rfl
 refine Calls.spliced_cons (cB (yc ha hb hg hm hs hs2 I (by simpa only[pU]using q)) fun u s1 h1=>Calls.spliced_nil ?_)
 obtain⟨z,TI,TO,i1,i2,b1,b2,l1,l2,vs,ws,xs,ys,δ,H1,rfl,I1,st,ap,hf,G,q1⟩:=h1.go
 obtain⟨r,er,S,q3⟩:=cJ q1
 cases er
 obtain⟨f0,f1,zr,h0⟩:=st.zr
 refine De (x:=("_")) (p:=default) hc I1 S zr rfl (fun s2 E Q k2 hQ=>iU (k2 _ _ zr) hQ) (fun s2 u N2 k2=>?_)
  fun a s' H' I' N' O' h'=>⟨.ref a,H',I',rfl,q3 _ H' N' ⟨a,rfl,O',h'⟩⟩
 refine⟨[z,TI,TO,i1,i2],_,_,jH ap,(jH (P:=X.prog) (w:=X.w) (K:=X.K) (tg:=.Name ("_") default) (vs:=vs) (ws:=ws) ap).keep 0 _ _ st fun b _ o e=>k2 b o e,fun b hb=>⟨?_,(hf b hb).2⟩,G.mono N2.pers⟩
 rw[aC (Qvz (st.lt b hb))]
 exact(hf b hb).1
end
section
variable{E:QZq}
def xO{Q:QZq}(h:Q (.bool (!a&&b)) s):wpAny (model prog w) A (call (.builtin "int.__lt__") [.bool a,.bool b]) Q E s:=by
 refine Qzz PySem.F.slot_bool_lt (PyProof.Rows.typeIs_bool' s a) PySem.F.entry_int_lt ?_ (PySem.F.args_int_lt_2 _ _)
 have e:(decide ((if a=true then 1 else 0)< (if b=true then(1:Int)else 0)))=(!a&&b):=by cases a<;>cases b<;>rfl
 show wpAny _ _ (ret (.bool (decide ((if a=true then 1 else 0)< (if b=true then 1 else 0))))) _ _ s
 rw[e]
 exact QKz ⟨_,rfl,h⟩
def yX{Q:Bool->Shared->Prop}(h:Q (!a&&b) s):wpAny (model prog w) A (PyProof.Rows.oneLt' true (.bool a) (.bool b)) Q E s:=by
 rw[PyProof.Rows.oneLt'_eq]
 refine QKq (wpAny_cRoomFor_byValue rfl ?_)
 refine QKq (wpAny_callSpecialIfBound?_slot (PyProof.Rows.typeIs_bool' s a) PySem.F.slot_bool_lt (xO ?_))
 exact wpAny_truthy_bool h
def Bu{Q:Bool->Shared->Prop}(h:Q (!a&&b) s):wpAny (model prog w) A (PyProof.Rows.oneLt' c (.bool a) (.bool b)) Q E s:=by
 cases c with
 |true=>exact yX h
 |false=>exact PySem.W.kat_one _ _ (uN A s a b prog w _ _ h)
theorem vg{b fin:Bool}{Q:Bool->Shared->Prop}{nx ny:Nat}:∀{vs ws:List Value}{ns ms:List Bool}(i:Nat),BoolsAre vs ns->BoolsAre ws ms->ns.length+ny=ms.length+nx->fin=decide (nx<ny)->Q (lE ns ms) s->
  PySem.W.KatLex prog w A b fin Q (vs.zip ws) i s
 |_,_,_,_,i,.nil,hw=>fun hl hf h=>by
  refine PySem.W.kat_nil ?_
  cases hw with
  |nil=>rw[Ey]at h;rw[hf];simp at hl;rw[QEz (by omega)];exact h
  |cons c hw=>rw[Ez]at h;rw[hf];simp at hl;rw[QFq (by omega)];exact h
 |_,_,_,_,i,.cons a hv,.nil=>fun hl hf h=>by
  refine PySem.W.kat_nil ?_
  rw[hf]
  simp at hl
  rw[QEz (by omega)]
  exact h
 |_,_,_,_,i,.cons a hv,.cons c hw=>fun hl hf h=>by
  rw[u5]at h
  simp only[QBq]at hl
  refine PySem.W.kat_cons (SeqAt.EqAt.bool_bool a c prog w _ _ ?_)
  by_cases hac:a=c
  ·subst hac
   rw[if_pos rfl]at h
   rw[beq_self_eq_true]
   exact PySem.W.kat_yes (vg _ hv hw (by omega) hf h)
  ·rw[if_neg hac]at h
   rw[beq_eq_false_iff_ne.mpr hac]
   exact PySem.W.kat_no (Bu h)
def zx{x y:Addr}{ns ms:List Bool}(hx:∃o n,s.heap.get? x=some o/\o.data=.seq xs n)(hy:∃o n,s.heap.get? y=some o/\o.data=.seq ys n)(bx:BoolsAre xs.toList ns)(by':BoolsAre ys.toList ms)
  (h:Q (lE ns ms) s):wpAny (model prog w) A (PyProof.Rows.keyLt' (PyProof.Rows.tuples' b) (.ref x) (.ref y)) Q E s:=by
 obtain⟨ox,nx,ex,dx⟩:=hx
 obtain⟨oy,ny,ey,dy⟩:=hy
 have l1:=bx.length
 have l2:=by'.length
 simp at l1 l2
 exact PySem.W.kat_lt ex dx ey dy (vg 0 bx by' (by omega) rfl h)
end
end Mini
end
section
namespace Mini
open PySem L2 PyProof.Rows
section
variable{E:QZq}
def wM{vs out:List Value}{P:PySem.Fin->Shared->Prop}(ho:s.heap.get? a=some (seqObj "list" vs.toArray n))(h64:vs.length<64)(hl:out.length=vs.length)
  (h1:vs.length<2->out=vs)
  (h2:2<=vs.length->∀h':Heap,(∀b o,b≠a->s.heap.get? b=some o->h'.get? b=some o)->wpAny (model prog w) A (keyKind' vs.toArray) (fun κ s'=>s'={s with heap:=h'}/\
   (PySem.W.kas_sort vs.length).kasWp (PySem.W.kas_ask prog w A κ vs) (fun p s''=>s''={s with heap:=h'}/\(p.toList.map fun i=>vs.getD i Value.none)=out) s') (fun _ _=>False) {s with heap:=h'})
  (h:P (.done (.ret .none)) {s with heap:=sortedHeap s.heap a vs out.toArray}):
  wpAny (model prog w) A (Builtin.«list.sort» ⟨[.ref a],[]⟩) P E s:=by
 rw[list_sort_plain]
 have ha:=Qqz ho
 have hz:vs.length<=sizeLine:=by rw[sizeLine_eq];omega
 refine QKq (listItems_at ho rfl ?_)
 refine QKq (listUpdate_at ho rfl ?_ (by rw[Qyq];exact hz) (QIq _))
 obtain⟨e1,ho1⟩:∃e1,(s.heap.update a _).get? a=some (seqObj "list" #[] e1):=⟨_,get?_update_seq ho (fun _=> #[])⟩
 refine QKq (seqEpoch_at ho1 rfl ?_)
 refine QKq (wpAny_newTuple ?_ (by show vs.length<=_;exact hz))
 refine QKq (wpAny_newList ?_ (QIq _))
 refine Qqq ?_
 have ho6:(((s.heap.update a (Obj.mapSeq fun _=> #[])).push (seqObj "tuple" vs.toArray 0)).push (seqObj "list" #[] 0)).get? a=some (seqObj "list" #[] e1):=by
  rw[Heap.get?_push_ne _ _ _ (by rw[size_push',Heap.size_update];exact Qvz (Nat.lt_succ_of_lt ha)),Heap.get?_push_ne _ _ _ (by rw[Heap.size_update];exact Qvz ha)]
  exact ho1
 have kp:∀b o,b≠a->s.heap.get? b=some o->(((s.heap.update a (Obj.mapSeq fun _=> #[])).push (seqObj "tuple" vs.toArray 0)).push (seqObj "list" #[] 0)).get? b=some o:=fun b o hb e=>
  QWq _ (QWq _ ((Heap.get?_update_other _ _ (Ne.symm hb)).trans e))
 by_cases hn:vs.toArray.size<2
 ·rw[if_pos hn,if_pos hn]
  refine QKq (QKz ?_)
  refine QKq (QKz ?_)
  have em:(arrOf (SortSt.mk' general' (vs.toArray.zip vs.toArray) #[] 7 none)).map (·.2)=out.toArray:=by
   rw[h1 (by simpa using hn)]
   apply Array.toList_inj.mp
   simp[List.map_snd_zip]
  refine QKq (seqEpoch_at ho6 rfl ?_)
  rw[em]
  refine QKq (listUpdate_at ho6 rfl ?_ (QIq _) (by show out.toArray.size<=_;rw[Qyq];omega))
  simp only[bne_self_eq_false,Qxq,if_false]
  exact QKz h
 ·rw[if_neg hn,if_neg hn]
  have hn2:2<=vs.length:=by simpa using hn
  refine QKq (QGq (h2 hn2 _ kp) (fun κ s0 hk=>?_) fun _ _ x=>x.elim)
  obtain⟨rfl,hk⟩:=hk
  refine QKq (QGq (PySem.W.kat_run (Q:=fun st' s'=>∃p:Array Nat,arrOf st'=p.map _/\failedOf st'=none/\s'={s with heap:=((s.heap.update a _).push _).push _}/\(p.toList.map fun i=>vs.getD i Value.none)=out)
   rfl hn2 h64 (fun p' st' s' a1 a2 a3 a4=>⟨p',a2,a3,a4.1,a4.2⟩) hk) ?_ fun _ _ e=>e)
  rintro ⟨⟨⟩,st'⟩ s' ⟨p,har,hf,rfl,hp⟩
  have em:(arrOf st').map (·.2)=out.toArray:=by rw[PySem.W.kat_snds rfl har,hp]
  refine QKq (seqEpoch_at ho6 rfl ?_)
  rw[em]
  refine QKq (listUpdate_at ho6 rfl ?_ (QIq _) (by show out.toArray.size<=_;rw[Qyq];omega))
  rw[hf]
  simp only[bne_self_eq_false,Qxq,if_false]
  exact QKz h
def uG{vs out:List Value}(hls:s.heap.IsList l vs.toArray)(h64:vs.length<64)(hl:out.length=vs.length)(h1:vs.length<2->out=vs)
  (h2:2<=vs.length->∀h':Heap,(∀b o,s.heap.get? b=some o->h'.get? b=some o)->wpAny (model prog w) A.in1.in1 (keyKind' vs.toArray) (fun κ s'=>s'={s with heap:=h'}/\
   (PySem.W.kas_sort vs.length).kasWp (PySem.W.kas_ask prog w A.in1.in1 κ vs) (fun p s''=>s''={s with heap:=h'}/\(p.toList.map fun i=>vs.getD i Value.none)=out) s') (fun _ _=>False) {s with heap:=h'})
  (h:Q (.ref (s.heap.objs.size+1)) {s with heap:=sortedAll s.heap vs out.toArray}):
  wpAny (model prog w) A (call (.builtin "sorted") [.ref l]) Q E s:=by
 refine Calls.call_function_entry kind_sorted plain_sorted entry_sorted (args_sorted1 _) ?_
 have hz:vs.length<=sizeLine:=by rw[sizeLine_eq];omega
 refine QKq (QKz ?_)
 refine QKq (collect_list hls ?_ hz)
 refine QKq (wpAny_newList ?_ hz)
 have hsz:((s.heap.push (seqObj "list" #[] 0)).update s.heap.objs.size (Obj.mapSeq (· ++vs.toArray))).objs.size=s.heap.objs.size+1:=by
  rw[Heap.size_update,size_push']
 have hoL:(((s.heap.push (seqObj "list" #[] 0)).update s.heap.objs.size (Obj.mapSeq (· ++vs.toArray))).push (seqObj "list" vs.toArray 0)).get? (s.heap.objs.size+1)=some (seqObj "list" vs.toArray 0):=by
  rw[<-hsz];exact Qzq _ rfl
 have keep:∀b o,s.heap.get? b=some o->(((s.heap.push _).update s.heap.objs.size _).push (seqObj "list" vs.toArray 0)).get? b=some o:=fun b o q=>by
  have hlt:=Qqz q
  rw[Heap.get?_push_ne _ _ _ (by rw[hsz];exact Qvz (Nat.lt_succ_of_lt hlt)),Heap.get?_update_ne _ _ _ _ (Qvz hlt),Heap.get?_push_ne _ _ _ (Qvz hlt)]
  exact q
 rw[hsz]
 refine QKq (Qqq (Qzz slot_list_sort ⟨_,hoL,rfl⟩ entry_list_sort (wM hoL h64 hl h1 (fun hn h' kp=>?_) ⟨_,rfl,?_⟩) (args_list_sort _)))
 ·exact h2 hn h' fun b o e=>kp b o (Qvz (Nat.lt_succ_of_lt (Qqz e))) (keep b o e)
 ·exact QKz ⟨_,rfl,h⟩
theorem rO{α:Type}{cmp:Nat->Nat->(Bool->Shared->Prop)->Shared->Prop}{f:Nat->Nat->Option Bool}{Q:α->Shared->Prop}{a:α}(hc:∀i j b(C:Bool->Shared->Prop),f i j=some b->C b s->cmp i j C s):
  ∀(t:PySem.W.KasT α),JT f t=some a->Q a s->t.kasWp cmp Q s
 |.ret x,e,q=>by cases e;exact q
 |.ask i j k,e,q=>by
  simp only[JT]at e
  cases z:f i j with
  |none=>rw[z]at e;cases e
  |some b=>rw[z]at e;exact hc i j b _ z (rO hc (k b) e q)
end
end Mini
end
section
namespace Mini
open PySem L2
inductive fL(h:Heap):List Value->List (List Bool)->Prop
 |nil:fL h [] []
 |cons {a:Addr} {o:Obj} {arr:Array Value} {n:Nat} {b:Bool} {bs:List Bool} {vs:List Value} {rs:List (List Bool)}:h.get? a=some o->o.cls=.type "tuple"->o.data=.seq arr n->BoolsAre arr.toList (b::bs)->fL h vs rs->fL h (.ref a::vs) ((b::bs)::rs)
theorem fL.mono(k:∀b o,h.get? b=some o->h'.get? b=some o):∀{vs:List Value}{rs:List (List Bool)},fL h vs rs->fL h' vs rs
 |_,_,.nil=>.nil
 |_,_,.cons e c d b r=>.cons (k _ _ e) c d b (fL.mono k r)
theorem fL.tups:∀{vs:List Value}{rs:List (List Bool)},fL h vs rs->∃fs,PySem.W.KatTups h vs fs/\fs.length=vs.length/\∀v∈fs,∃b,v=.bool b
 |_,_,.nil=>⟨[],PySem.W.KatTups.nil,rfl,fun v z=>nomatch z⟩
 |_,_,.cons (b:=b) e c d bb r=>by
  obtain⟨fs,t,l,f⟩:=r.tups
  have h0:∃x,(‹Array Value›)[0]? =some x/\x=.bool b:=by
   rename_i arr _ _ _ _
   cases q:arr.toList with
   |nil=>rw[q]at bb;cases bb
   |cons x xs=>
    rw[q]at bb
    cases bb
    refine⟨.bool b,?_,rfl⟩
    have:arr=(Value.bool b::xs).toArray:=by rw[<-q]
    rw[this]
    rfl
  obtain⟨x,hx,rfl⟩:=h0
  refine⟨.bool b::fs,PySem.W.KatTups.cons e c d hx t,by simp[l],fun v z=>?_⟩
  rcases QCq.mp z with rfl|z
  ·exact⟨b,rfl⟩
  ·exact f v z
theorem fL.at{h:Heap}:∀{vs:List Value}{rs:List (List Bool)},fL h vs rs->∀{i:Nat}{r:List Bool},rs[i]? =some r->∃a o arr n,vs.getD i Value.none=.ref a/\h.get? a=some o/\o.data=.seq arr n/\BoolsAre arr.toList r
 |_,_,.cons e c d b t,0,r,q=>by cases q;exact⟨_,_,_,_,rfl,e,d,b⟩
 |_,_,.cons e c d b t,i+1,r,q=>by
  obtain⟨a,o,arr,n,z⟩:=t.at (by simpa using q)
  exact⟨a,o,arr,n,by simpa using z⟩
theorem tH{K:QQq}{H:Hp}:∀{ys:List D}{bs:List Bool}{vs:List V}{us:List Value},bools ys=some bs->aq K H ys vs->Vals vs us->BoolsAre us bs
 |[],bs,vs,us,e,d,v=>by
  cases e
  rw[aq.bO.mp d]at v
  cases v
  exact .nil
 |y::ys,bs,vs,us,e,d,v=>by
  obtain⟨w,ws,rfl,h1,h2⟩:=aq.aN.mp d
  cases v with
  |cons r t=>
   cases y with
   |bl b=>
    simp only[bools]at e
    cases q:bools ys with
    |none=>rw[q]at e;cases e
    |some bs'=>
     rw[q]at e
     cases e
     cases h1
     cases r
     exact .cons b (tH q h2 t)
   |_=>simp[bools]at e
theorem DY{X:Cx}{γ:QQz}{σ:St}{H:Hp}{s:Shared}(I:Inv X γ σ H s):∀{xs:List D}{rs:List (List Bool)}{vs:List V}{us:List Value},jr xs=some rs->aq X.K H xs vs->Vals vs us->fL s.heap us rs
 |[],rs,vs,us,e,d,v=>by
  cases e
  rw[aq.bO.mp d]at v
  cases v
  exact .nil
 |y::ys,rs,vs,us,e,d,v=>by
  obtain⟨w,ws,rfl,h1,h2⟩:=aq.aN.mp d
  cases v with
  |cons r t=>
   cases y with
   |tup zs=>
    simp only[jr]at e
    cases q:bools zs with
    |none=>rw[q]at e;cases e
    |some bs=>
     cases bs with
     |nil=>rw[q]at e;cases e
     |cons b bs=>
      rw[q]at e
      cases q2:jr ys with
      |none=>rw[q2]at e;cases e
      |some rs'=>
       rw[q2]at e
       cases e
       obtain⟨a,us',rfl,hq,l⟩:=cA h1
       cases r
       obtain⟨its,rr,⟨o,eo,c,n,dt⟩,_⟩:=I.tuple hq
       exact .cons eo c dt (by simpa using tH q l rr) (DY I q2 h2 t)
   |_=>simp[jr]at e
theorem pN{H:Hp}{vs:List V}(d:aq K H xs vs)(v:Vals vs us):∀{is:List Nat}{ys:List D},rY xs is=some ys->∃ws,aq K H ys ws/\Vals ws (is.map fun i=>us.getD i Value.none)
 |[],ys,e=>by cases e;exact⟨[],aq.gk,.nil⟩
 |i::is,ys,e=>by
  simp only[rY]at e
  cases q:xs[i]? with
  |none=>rw[q]at e;cases e
  |some x=>
   rw[q]at e
   cases q2:rY xs is with
   |none=>rw[q2]at e;cases e
   |some ys'=>
    rw[q2]at e
    cases e
    obtain⟨ws,h1,h2⟩:=pN d v q2
    obtain⟨w,ew,dw⟩:=d.get q
    obtain⟨u,eu,ru⟩:=v.get ew
    refine⟨w::ws,aq.dg dw h1,?_⟩
    rw[Qyz]
    have:us.getD i Value.none=u:=by simp[List.getD,eu]
    rw[this]
    exact .cons ru h2
def cW.aft{H:Hp}{v:V}(h:cW K H (.lst xs) v):∃a vs,v=.ref a/\jB K H a vs/\aq K H xs vs:=by
 rcases h with h|⟨o,a,q,rfl,u,ha,hq⟩
 ·obtain⟨a,vs,rfl,hq,l⟩:=cU h
  exact⟨a,vs,rfl,hq.sq,l⟩
 ·cases o<;>cases q
  obtain⟨vs,rfl,l⟩:=hq
  exact⟨a,vs,rfl,.inl (.inl ha),l⟩
noncomputable def T5(K:QQq):List V->Hp->VK->Prop:=fun us H Q=>∃l vs xs ys,us=[.ref l]/\jB K H l vs/\aq K H xs vs/\pG xs=some ys/\∀ws,aq K H ys ws->∀a,H a=none->Q (.ref a) (upd H a (.lst ws))
section
def xM:fU X (.builtin "sorted") (T5 X.K):=by
 intro γ s σ H us ws Q I r h
 obtain⟨l,vs,xs,ys,rfl,hq,dl,es,q⟩:=h
 obtain⟨u,rfl,ru⟩:=vals1 r
 cases ru
 obtain⟨its,rr,pl,hz⟩:=I.list hq
 have lx:=dl.length
 have lv:=rr.length
 have fin:∀zs out,aq X.K H ys zs->Vals zs out->out.length<=sizeLine->EP X γ σ Q _ {s with heap:=PyProof.Rows.sortedAll s.heap its out.toArray}:=fun zs out d v lz=>by
  obtain⟨e,ea⟩:=PyProof.Rows.sortedAll_at s.heap its out.toArray
  exact⟨.ref _,_,I.laid (fun b o x=>PyProof.Rows.sortedAll_old x) (Nat.le_succ _) (show cu X.prog X.w _ _ _ (.lst zs)from⟨by rw[v.length];exact lz,out,e,v,ea⟩),rfl,q zs d _ (I.hok.fresh (Nat.le_succ _))⟩
 unfold pG at es
 by_cases h1:xs.length<2
 ·rw[if_pos h1]at es
  cases es
  exact uG pl.isList (by omega) rfl (fun _=>rfl) (fun z=>absurd z (by omega)) (fin vs its dl rr (by omega))
 ·rw[if_neg h1]at es
  by_cases h64:xs.length<64
  ·rw[if_pos h64]at es
   unfold acW at es
   cases e1:jr xs with
   |none=>
    rw[e1]at es
    cases es
   |some rs=>
    rw[e1]at es
    simp only[QHq]at es
    cases e2:JT _ _ with
    |none=>rw[e2]at es;cases es
    |some p=>
     rw[e2]at es
     simp only[QHq]at es
     by_cases e3:p.size=xs.length
     ·rw[if_pos e3]at es
      obtain⟨zs,d,v⟩:=pN dl rr es
      have lo:(p.toList.map fun i=>its.getD i Value.none).length=its.length:=by rw[QAq,Array.length_toList];omega
      refine uG pl.isList (by omega) lo (fun z=>absurd z (by omega)) (fun _ h' kp=>?_) (fin zs _ d v (by omega))
      have RA':=(DY I e1 dl rr).mono kp
      obtain⟨fs,t,lf,fb⟩:=RA'.tups
      refine PySem.W.kat_kind (T:=.type "bool") t (by omega) (fun v hv=>?_) (by decide) ⟨rfl,?_⟩
      ·obtain⟨b,rfl⟩:=fb v hv
       exact PySem.W.Looks.of_pure rfl
      ·have el:its.length=xs.length:=by omega
       rw[el]
       refine rO (fun i j b C e c=>?_) _ e2 ⟨rfl,rfl⟩
       unfold acX at e
       cases ei:rs[i]? with
       |none=>rw[ei]at e;cases e
       |some ri=>
        cases ej:rs[j]? with
        |none=>rw[ei,ej]at e;cases e
        |some rj=>
         rw[ei,ej]at e
         cases e
         obtain⟨ai,oi,arri,ni,x1,x2,x3,x4⟩:=RA'.at ei
         obtain⟨aj,oj,arrj,nj,y1,y2,y3,y4⟩:=RA'.at ej
         show wpAny _ _ _ _ _ _
         rw[x1,y1]
         exact zx ⟨oi,ni,x2,x3⟩ ⟨oj,nj,y2,y3⟩ x4 y4 c
     ·rw[if_neg e3]at es;cases es
  ·rw[if_neg h64]at es;cases es
def Ay:qi X (T5 X.K) (b1 .sorted):=by
 intro env σ H x z v Q S Dx e q
 simp only[b1]at e
 cases x with
 |lst xs=>
  simp only[gr,QHq,Sq]at e
  cases es:pG xs with
  |none=>rw[es]at e;cases e
  |some ys=>
   rw[es]at e
   cases e
   obtain⟨a,vs,rfl,hq,l⟩:=Dx.aft
   exact⟨a,vs,xs,ys,rfl,hq,l,es,fun ws d p hp=>q _ _ (Nx.laid S hp) (km S d hp)⟩
 |_=>simp[gr]at e
end
section
def Ys{x:Str}(nm:iI X k x):GE X W c (.ref k) (.Name x pos):=by
 intro env
 refine PE.imp nm.pe fun σ H Q q=>?_
 simp only[Pz]at q
 have go:∀o,(env[k]? =some (.own o)\/env[k]? =some (.bor o))->tM X.K W env (.ok (.ref k) env) σ H Q->Jz k σ H Q:=fun o e q=>by
  have:∃a,(σ[k]?).join=some (.ref a):=by
   rcases e with e|e
   ·obtain⟨a,z,_⟩:=q.1.sl k _ e;exact⟨a,z⟩
   ·obtain⟨a,z,_⟩:=q.1.sl k _ e;exact⟨a,z⟩
  obtain⟨a,z⟩:=this
  exact⟨.ref a,cg z,q.2 _ H (Nx.refl q.1) (cg z)⟩
 cases e:env[k]? with
 |none=>rw[e]at q;exact q.2.elim
 |some s=>
  rw[e]at q
  cases s with
  |un=>exact q.2.elim
  |val d=>exact q.2.elim
  |own o=>exact go o (.inl e) q
  |bor o=>exact go o (.inr e) q
theorem JB{env:Ev}{H:Hp}{f:Bool->Ev->Out Rv}(h:tT K W env (r.cH iw f) σ H Q)
  (k:∀b δ H1,Nx K env σ H δ H1->tT K W δ (f b δ) σ H1 Q->R b H1):tT K W env r σ H R:=by
 have step:∀d δ x,x.jA=some d->r=.ok x δ->∃b,iw d=some b/\∀H1,Nx K env σ H δ H1->R b H1:=fun d δ x ex er=>by
  subst er
  cases q:iw d with
  |none=>
   cases x with
   |val d'=>cases ex;simp only[Out.cH,Out.ao,q]at h;exact h.2.elim
   |new xs=>cases ex;simp only[Out.cH,Out.ao,q]at h;exact h.2.elim
   |ref i=>cases ex
  |some b=>
   refine⟨b,rfl,fun H1 N=>k b δ H1 N (TF ?_ N)⟩
   cases x with
   |val d'=>cases ex;simp only[Out.cH,Out.ao,q]at h;exact h
   |new xs=>cases ex;simp only[Out.cH,Out.ao,q]at h;exact h
   |ref i=>cases ex
 refine⟨h.1,?_⟩
 cases r with
 |bad=>exact h.2
 |exc c δ=>exact h.2
 |ok x δ=>
  cases x with
  |val d=>obtain⟨b,e,q⟩:=step d δ _ rfl rfl;exact⟨d,b,rfl,e,q⟩
  |new xs=>obtain⟨b,e,q⟩:=step xs.d δ _ rfl rfl;exact⟨xs.d,b,rfl,e,q⟩
  |ref i=>exact h.2.elim
def Yh(ht:GT X W c m1 t)(ha:GT X W c m2 a)(hb:GT X W c m3 b):GT X W c (.ite m1 m2 m3) (.IfExp t a b pos):=by
 intro γ s σ H Q I ⟨env,q⟩
 have e:∀w,isTrue (.IfExp t a b pos) X.env w=(isTrue t X.env _>>=fun q=>if q=true then isTrue a X.env _ else isTrue b X.env _):=fun w=>by first|rfl|rw[PySem.isTrue]|simp only[PySem.isTrue]
 refine QKq (cB (ht γ s σ H (fun k H1=>∃δ,tT X.K W δ _ σ H1 Q) I ⟨env,JB q fun k δ H1 N q1=>⟨δ,q1⟩⟩) fun k s1⟨H1,I1,δ,q1⟩=>?_)
 cases k with
 |true=>rw[if_pos rfl]at q1⊢;exact ha γ s1 σ H1 Q I1 ⟨δ,q1⟩
 |false=>rw[if_neg Qjz]at q1⊢;exact hb γ s1 σ H1 Q I1 ⟨δ,q1⟩
end
section
variable{X:Cx}{W:Wi}{c:Cf}{m m1 m2 m3:E}{o a b e:Expr}{pos p p2 apos cpos:Pos}{name:Str}
end
section
def MF{H:Hp}{v y w:V}{Q:VK}(D1:cW K H d v)(D2:bI K H k y)(D3:bI K H x w)(e:rZ d k x=some z)(q:∀u,bI K H z u->Q u H):∃a,v=.ref a/\∃o,uz H a y o/\Q (o.getD w) H:=by
 cases d with
 |cR ks ds=>
  simp only[rZ]at e
  split at e
  ·rename_i hk
   cases e
   obtain⟨kk,rfl⟩:=f9 hk
   have ek:=lu D2
   subst ek
   obtain⟨a,kvs,rfl,ha,rfl,l⟩:=jf D1
   refine⟨a,rfl,jF kvs kk,⟨kvs,kk,ha,rfl,rfl⟩,q _ ?_⟩
   cases e1:bZ _ _ ds with
   |some d=>
    obtain⟨w,e2,e3⟩:=oU kk e1 l
    rw[e2]
    exact e3
   |none=>
    have n:=j7 (kvs:=kvs) kk
    have e4:∀{ks vs:List D},vs.length=ks.length->bZ (dW kk) ks vs=none->aJ (dW kk) ks=false:=by
     intro ks
     induction ks with
     |nil=>intro vs _ _;rfl
     |cons k' ks ih=>
      intro vs hl h
      cases vs with
      |nil=>simp at hl
      |cons v vs=>
       simp only[bZ]at h
       split at h
       ·cases h
       ·rename_i ne
        simp[aJ,ne,ih (by simpa using hl) h]
    rw[e4 (by have:=l.length;simpa using this) e1]at n
    have e5:jF kvs kk=none:=by
     cases e6:jF kvs kk with
     |none=>rfl
     |some w=>rw[e6]at n;cases n
    rw[e5]
    exact D3
  ·cases e
 |_=>cases e
def Mf{H:Hp}{v:V}(D1:cW K H d v)(e:rR (some d)=true):∃a,v=.ref a/\IsD H a:=by
 cases d with
 |cR ks ds=>
  obtain⟨a,kvs,rfl,ha,_⟩:=jf D1
  exact⟨a,rfl,kvs,ha⟩
 |_=>cases e
def RK(hu:X.A.units+1<cLine)(M:M2 X o "get" apos e f cpos)(hv:∀k,m1.aB=some k->∃x p,o=.Name x p/\iI X k x)(hd:GE X W c m1 o)(hk:GE X W c m2 e)(hx:GE X W c m3 f):GE X W c (.get2 m1 m2 m3) (.Call (.Attribute o "get" apos) [e,f] [] cpos):=by
 intro env
 cases qv:m1.aB with
 |some i=>
  obtain⟨x,p,rfl,nm⟩:=hv i qv
  refine PE.imp (KH hu nm.pe hk.d hx.d M) fun σ H Q q=>?_
  simp only[VG,qv]at q
  cases e0:rR _ with
  |false=>rw[e0]at q;exact q.2.elim
  |true=>
   rw[e0]at q
   cases e1:bB i env with
   |none=>rw[e1]at e0;cases e0
   |some d0=>
    rw[e1]at e0
    obtain⟨u,eu,D0⟩:=dD q.1 e1
    obtain⟨a,rfl,ia⟩:=Mf D0 e0
    refine⟨.ref a,eu,a,rfl,ia,env,aZ q fun k ε y H2 N2 D2 q2=>⟨ε,aZ q2 fun x env3 z H3 N3 D3 q3=>?_⟩⟩
    obtain⟨r,er,S,q4⟩:=cJ q3
    cases e2:bB i env3 with
    |none=>rw[e2]at er;cases er
    |some d3=>
     rw[e2]at er
     simp only[Option.bind]at er
     obtain⟨u',eu',D4⟩:=dD S e2
     rw[eu]at eu'
     cases eu'
     cases e3:rZ d3 k x with
     |none=>rw[e3]at er;cases er
     |some w=>
      rw[e3]at er
      cases er
      obtain⟨a',ea,o,g,q5⟩:=MF D4 (D2.mono N3.pers) D3 e3 fun u hu=>q4 u H3 (Nx.refl S) hu
      cases ea
      exact⟨o,g,q5⟩
 |none=>
  intro γ s σ H Q I q
  simp only[VG,qv]at q
  exact q.2.elim
def aA(X:Cx)(W:Wi)(c:Cf)(m:E):TE:=fun σ H Q=>∃env,tA X.K W env (ev c m env) σ H Q
inductive Kv(X:Cx)(W:Wi)(c:Cf):E->List (Option Expr)->List Expr->List (TE×TE)->Prop
 |nil:Kv X W c .nil [] [] []
 |cons {k v r:E} {ke ve:Expr} {ks:List (Option Expr)} {vs:List Expr} {nT:List (TE×TE)}:GE X W c k ke->GE X W c v ve->Kv X W c r ks vs nT->Kv X W c (.cons k (.cons v r)) (some ke::ks) (ve::vs) ((aA X W c k,aA X W c v)::nT)
def yp{env:Ev}{H:Hp}{Q:VK}(q:TQ K W env (evs c (.cons m1 m2) env) σ H R)(k:∀v H1 δ,TQ K W δ (evs c m2 δ) σ H1 (fun vs H2=>R (v::vs) H2)->Q v H1):tA K W env (ev c m1 env) σ H Q:=by
 obtain⟨S,q⟩:=q
 refine⟨S,?_⟩
 simp only[evs]at q
 cases r:ev c m1 env with
 |bad=>rw[r]at q;exact q.elim
 |exc k δ=>rw[r]at q;exact q
 |ok x δ=>
  rw[r]at q
  intro v H1 N1 k1
  refine k v H1 δ ⟨N1.eZ,?_⟩
  simp only[Out.bind]at q
  cases r2:evs c m2 δ with
  |bad=>rw[r2]at q;exact q.elim
  |exc k ε=>rw[r2]at q;exact fun H2 N2=>q H2 (N1.trans N2)
  |ok xs ε=>
   rw[r2]at q
   intro vs H2 N2 k2
   exact q _ H2 (N1.trans N2) ⟨v,vs,rfl,k1.on S N1 N2,k2.weaken N1.dom⟩
def nY:List (V×V)->List V
 |[]=>[]
 |p::r=>p.1::p.2::nY r
theorem qC:∀{a b:List (V×V)},nY a=nY b->a=b
 |[],[]=>fun _=>rfl
 |[],_::_=>fun h=>by cases h
 |_::_,[]=>fun h=>by cases h
 |(x,y)::a,_::b=>fun h=>by
  simp only[nY,List.cons.injEq]at h
  obtain⟨rfl,rfl,h⟩:=h
  rw[qC h]
def Kv.pps{ks:List (Option Expr)}{nT:List (TE×TE)}(h:Kv X W c es ks vs nT):PPs X pos ks vs nT:=by
 induction h with
 |nil=>exact QH
 |cons hk hv _ ih=>exact Ko (fun γ s σ H Q I⟨env,q⟩=>hk.ag env γ s σ H Q I q) (fun γ s σ H Q I⟨env,q⟩=>hv.ag env γ s σ H Q I q) ih
def Kv.go{ks:List (Option Expr)}{nT:List (TE×TE)}(h:Kv X W c es ks vs nT):∀{env:Ev}{σ:St}{H:Hp}{R:List V->Hp->Prop},TQ X.K W env (evs c es env) σ H R->v6 nT σ H fun ps H2=>R (nY ps) H2:=by
 induction h with
 |nil=>
  intro env σ H R q
  obtain⟨S,q⟩:=q
  exact q [] H (Nx.refl S) rfl
 |cons hk hv _ ih=>
  intro env σ H R q
  exact⟨env,yp q fun x H1 δ q1=>⟨δ,yp q1 fun y H2 ε q2=>ih q2⟩⟩
def Nx.relaid{env δ:Ev}{σ:St}{p:Addr}(S:Sat K env σ H)(hp:H p=none)(hu:O3 u)(N:Nx K env σ (upd H p u) δ H2):H2 p=some u/\Nx K env σ H δ (upd H2 p u'):=by
 have no:=S.rF hp
 have e:=N.keep p u aU no
 have N0:=(Nx.laid S hp).trans N
 have P:=gj (u':=u') e hu
 refine⟨e,⟨N.eZ.keep P fun i b w o q=>?_,N0.sub,N0.pers.trans P,fun b w q n=>?_,fun b q=>?_,N0.bors⟩⟩
 ·rw[aC (fun z=>by subst z;exact no i (N.sub i _ o))];exact q
 ·rw[aC ((fun b w q z=>by subst z;rw[hp]at q;cases q) b w q)];exact N0.keep b w q n
 ·by_cases hb:b=p
  ·subst hb;exact hp
  ·rw[aC hb]at q;exact N0.dom b q
def Nb{ds:List D}{r:Rv}(h:Im ds=some r):∃k v:D,ds=[k,v]/\cN k=true/\r=.new (.sdt [k] [v]):=by
 unfold Im at h
 split at h
 ·split at h
  ·rename_i hk
   cases h
   exact⟨_,_,rfl,hk,rfl⟩
  ·cases h
 ·cases h
def YC(hu:X.A.units+9<cLine){es:E}{ks:List (Option Expr)}{vs:List Expr}{nT:List (TE×TE)}(h:Kv X W c es ks vs nT)(hall:ks.all (·.isSome)=true)(hl:ks.length=vs.length)(h0:ks≠[])(h15:ks.length<=15):GE X W c (.dsp es) (.Dict ks vs pos):=by
 intro env
 refine PE.imp (QS hu h.pps hall hl h0 h15) fun σ H Q q p hp=>?_
 simp only[ad7]at q
 obtain⟨S,q⟩:=q
 have S1:=(Nx.laid (o:=.dK []) S hp).eZ
 have go:TQ X.K W env (evs c es env) σ (upd H p (.dK [])) (fun us H2=>H2 p=some (.dK [])/\∃k a v,us=nY [(.ref a,v)]/\cM X.K H2 k a/\Q (.ref p) (upd H2 p (sD [(k,a,v)]))):=by
  refine⟨S1,?_⟩
  cases r:evs c es env with
  |bad=>rw[r]at q;exact q.elim
  |exc k δ=>rw[r]at q;exact fun H2 N=>q H2 ((Nx.laid S hp).trans N)
  |ok rs δ=>
   rw[r]at q
   simp only[Out.bind]at q
   cases e1:aV rs with
   |none=>rw[e1]at q;exact q.elim
   |some ds=>
    rw[e1]at q
    simp only[QHq]at q
    unfold zP at q
    by_cases hd:(decide (ds.length<=30)&& !ds.isEmpty)=true
    ·rw[if_pos hd]at q
     simp only[QUq,QUz]at hd
     cases e0:Im ds with
     |some rv0=>
      rw[e0]at q
      intro us H2 N rv
      have l:aq X.K H2 ds us:=iG.ds (by rw[zN es env r];exact rv) e1
      obtain⟨k,v,rfl,hk,rfl⟩:=Nb e0
      obtain⟨x,w1,rfl,h1,l1⟩:=aq.aN.mp l
      obtain⟨y,w2,rfl,h2,l2⟩:=aq.aN.mp l1
      cases aq.bO.mp l2
      obtain⟨a,rfl,ka⟩:=iM hk h1
      obtain⟨b1,b2⟩:=Nx.relaid (u':=sD [(kC k,a,y)]) S hp (by constructor<;>(intros;intro z;cases z)) N
      have P:=gj (u':=sD [(kC k,a,y)]) b1 (by constructor<;>(intros;intro z;cases z))
      exact⟨b1,⟨kC k,a,y,rfl,ka,q _ _ b2 ⟨p,rfl,⟨_,aU,_,rfl,gH.aN.mpr ⟨_,_,rfl,rfl,hk,h1.mono P,h2.mono P,gH.nil⟩⟩,hp⟩⟩⟩
     |none=>rw[e0]at q;exact q.elim
    ·rw[if_neg hd]at q;exact q.elim
 have:=h.go go
 refine cast ?_ this
 congr 1
 funext ps H2
 refine propext ⟨fun⟨z,f⟩=>⟨z,?_⟩,fun⟨z,f⟩=>⟨z,?_⟩⟩
 ·obtain⟨k,a,v,e,h⟩:=f
  exact⟨k,a,v,qC e,h⟩
 ·obtain⟨k,a,v,e,h⟩:=f
  exact⟨k,a,v,by rw[e],h⟩
def YB:GE X W c .emp (.Dict [] [] pos):=by
 intro env
 refine PE.imp KD fun σ H Q q p hp=>?_
 obtain⟨S,q⟩:=q
 exact q _ _ (Nx.laid S hp) ⟨p,rfl,⟨_,aU,[],rfl,rfl,aq.gk⟩,hp⟩
end
noncomputable def Ite(K:QQq)(l:Addr)(vs:List V):It:=
 ⟨fun i H=>Gs K H l vs/\i<vs.length,
  fun i H x H'=>∃p v,H p=none/\x=.ref p/\vs[i]? =some v/\H'=upd H p (.tup [.int i,v]),
  fun i H=>Gs K H l vs/\vs.length<=i⟩
theorem GC{w:World}{elts:List Expr}{pos:Pos}{vs:List V}(ne:e≠it):
  Turn P w K (.Tuple elts x1 pos) (Ite K l vs) [e,it] e (fun i h=>(∃old,IsEnum h e it i old)/\h.IsListIter it l i) where
 mem:=by simp
 obj:=fun i h st b hb=>by
  obtain⟨⟨old,he⟩,o,ho,_,hd⟩:=st
  simp only[QCq,QAz,or_false]at hb
  rcases hb with rfl|rfl
  ·exact⟨_,he,fun v z=>by cases z⟩
  ·exact⟨o,ho,fun v z=>by rw[hd]at z;cases z⟩
 keep:=fun i h h' st k=>by
  obtain⟨⟨old,he⟩,hit⟩:=st
  exact⟨⟨old,k e (by simp) _ he⟩,hit.at fun o q=>k it (by simp) o q⟩
 item:=by
  intro X hP hw hK hc i γ s σ H E I hf st hg
  subst hP hw hK
  obtain⟨hq,hi⟩:=hg
  obtain⟨its,r,p,_⟩:=I.list hq.sq
  have ev:=QXq hi
  obtain⟨x,ex,rx⟩:=r.get ev
  obtain⟨⟨old,he⟩,hit⟩:=st
  have lt:∀b∈[e,it],b<s.heap.objs.size:=fun b hb=>by
   obtain⟨o,ho,_⟩:=id hit
   simp only[QCq,QAz,or_false]at hb
   rcases hb with rfl|rfl
   ·exact Qqz he
   ·exact Qqz ho
  refine wpAny_pyNext_enum_item he hit p.isList (by simpa using ex) ne fun h' ho hit' hT hsz hk=>?_
  refine⟨_,rfl,wpAny_letOwnedTupleGo_enum ho fun h'' he'' sb=>?_⟩
  have kk:∀b o,b∉[e,it]->s.heap.get? b=some o->h''.get? b=some o:=fun b o hb q=>by
   simp only[QCq,QAz,or_false,not_or]at hb
   exact sb.extBut _ _ hb.1 (hk b o hb.1 hb.2 q)
  have I1:Inv X γ σ (upd H s.heap.objs.size (.tup [.int i,vs[i]])) {s with heap:=h'',toks:=s.toks+1}:=
   Inv.uC I kk hf (QVz _) ⟨by show 2<=sizeLine;rw[sizeLine_eq];decide,[.int i s.toks,x],.cons ⟨s.toks,rfl⟩ (.cons rx .nil),_,sb.extBut _ _ (Nat.ne_of_gt (lt e (by simp))) hT,rfl,rfl,_,rfl⟩
  refine⟨.ref s.heap.objs.size,_,I1,rfl,⟨_,_,I.hok.fresh (QVz _),rfl,ev,rfl⟩,⟨⟨x,by simpa using he''⟩,hit'.at fun o q=>sb.extBut _ _ (Ne.symm ne) q⟩,fun b hb=>?_⟩
  rw[aC (Qvz (lt b hb))]
  exact(hf b hb).1
 done:=by
  intro X hP hw hK hc i γ s σ H E I hf st hg
  subst hP hw hK
  obtain⟨hq,hi⟩:=hg
  obtain⟨its,r,p,_⟩:=I.list hq.sq
  obtain⟨⟨old,he⟩,hit⟩:=st
  have l1:=r.length
  exact wpAny_pyNext_enum_end (I.ok.hd hc) he hit p.isList (by simp;omega) fun h' kk=>⟨rfl,Inv.Dw I (fun b o hb q=>kk b o (fun z=>hb (by simp[z])) q) hf⟩
 self:=fun A i s Q E st h=>by
  obtain⟨⟨old,he⟩,_⟩:=st
  exact wpAny_pyIter_enum he h
def FW(xs:List D):List D:=aO (bF 0 xs.length) xs
theorem Ce{H:Hp}{vs:List V}(h1:Gs K H l vs)(d1:aq K H xs vs)(hz:vs.length<=sizeLine):Gives K (Ite K l vs) (FW xs) H where
 go:=fun H1 p i d e=>by
  obtain⟨x,y,ex,ey,_⟩:=jE e
  obtain⟨v,ev,_⟩:=d1.get ey
  exact⟨p.RQ h1,(QCz.mp ev).1⟩
 yld:=fun H1 p i d e x H2 y=>by
  obtain⟨a,v,hn,rfl,ev,rfl⟩:=y
  obtain⟨dx,dy,ex,ey,rfl⟩:=jE e
  obtain⟨v',ev',dv⟩:=d1.get ey
  rw[ev]at ev'
  cases ev'
  rw[(iR 0 xs.length i dx ex).1]
  have pp:bR H1 (upd H1 a (.tup [.int i,v])):=by
   refine⟨fun b xs q=>?_,fun b o w q=>?_⟩
   ·rw[aC (fun z=>by subst z;rw[hn]at q;cases q)];exact q
   ·rw[aC (fun z=>by subst z;rw[hn]at q;cases q)];exact q
  exact⟨dG (.inl (.inl aU)) (aq.dg (by simp[bI]) (aq.dg ((dv.mono p).mono pp) aq.gk)),.inr ⟨a,_,hn,rfl⟩⟩
 stop:=fun H1 p i hi=>by
  rw[FW,jD,gh]at hi
  have:=d1.length
  exact⟨p.RQ h1,by omega⟩
 len:=by rw[FW,jD,gh];have:=d1.length;omega
section
theorem RG{x1:_}(ha:GE X W c m1 a)(hg:Gl X "enumerate")(hm:X.mg "enumerate"=none)(hs:starEach [a] X.env=[(false,eval a X.env)]):
  GI X W c (.enum m1) (.Tuple elts x1 tp) (.Call (.Name "enumerate" p) [a] [] pos):=by
 intro env γ s σ H R I q
 let RR:List V->Hp->Prop:=fun vs H'=>∃ε xs v1,vs=[v1]/\bI X.K H' (.lst xs) v1/\Sat X.K ε σ H'/\∀J H2,Nx X.K ε σ H' ε H2->Gives X.K J (FW xs) H2->R J H2
 have go:aD X W c m1 σ H fun v1 H1=>RR [v1] H1:=by
  refine⟨env,qL q fun d1 δ v1 H1 N1 D1 q1=>?_⟩
  cases d1 with
  |lst xs=>
   obtain⟨S,d,zs,z1,z2,z3⟩:=q1
   cases z1
   cases z2
   exact⟨δ,xs,v1,rfl,D1,S,z3⟩
  |_=>exact q1.2.elim
 refine wpAny_Call_Name_kw (iZ I hg hm PyProof.Rows.boot_enumerate ?_ (by decide) (by decide))
 refine PyProof.Rows.callWith_type1 (cB (cL ha.d eU hs pos γ s σ H RR I go) fun us s1⟨vs,H1,I1,r1,q1⟩=>?_) hs rfl
 obtain⟨ε,xs,v1,rfl,D1,S2,q3⟩:=q1
 obtain⟨l,vs,rfl,hq,dl⟩:=cU D1
 obtain⟨u1,rfl,ru1⟩:=Vals.one r1
 cases ru1
 obtain⟨its,rr1,p1,z1⟩:=I1.list hq.sq
 refine call_enumerate_list p1.isList fun h' he hit sz kk=>?_
 refine wpAny_pyIter_enum he ?_
 refine⟨s1.heap.objs.size+1,[s1.heap.objs.size+1,s1.heap.objs.size],_,_,H1,rfl,I1.kept kk,GC (Nat.succ_ne_self _),⟨⟨.none,he⟩,hit⟩,fun b hb=>?_,q3 _ H1 (Nx.refl S2) (Ce hq dl z1)⟩
 have hb':s1.heap.objs.size<=b:=by
  simp only[QCq,QAz,or_false]at hb
  rcases hb with rfl|rfl<;>omega
 exact I1.zJ hb' (I1.hok.fresh hb')
end
end Mini
end
section
namespace Mini
open PySem
structure Ct where
 N:List Str
 sc:Scope
 fns:List (Str×List Bool)
 nW:List Str
 exs:List Str:=[]
 rz:List Str:=[]
noncomputable def oX:List Str->Str->Option Nat
 |[],_=>none
 |y::r,x=>if x=y then some 0 else(oX r x).map (· +1)
noncomputable def Nt:Const->Option D
 |.none=>some .non
 |.bool b=>some (.bl b)
 |.int i=>some (.int i)
 |.str x=>some (.str x)
 |_=>none
noncomputable def VF(sc:Scope)(x:Str):Bool:=match sc.names.lookup x with
 |some .local=>true
 |some .cell=>true
 |some .free=>true
 |_=>false
def xX(sc:Scope)(x:Str):Bool:=sc.names.lookup x==some .globalImplicit
def Ht(x:Str):Bool:= !(x==("__debug__":Str))&& !(x==("__classdict__":Str))
noncomputable def iK(C:Ct)(x:Str):Option E:=
 if Ht x then
  match oX C.N x with
  |some k=>if VF C.sc x then some (.var k)else none
  |none=>if xX C.sc x then(oX C.nW x).map .glob else none
 else none
noncomputable def opB:Operator->Option Y9
 |.Add=>some .add
 |.Sub=>some .sub
 |.Mult=>some .mul
 |.Mod=>some .mod
 |_=>none
noncomputable def cmB:CmpOp->Option Cm
 |.Eq=>some .eq
 |.NotEq=>some .ne
 |.Lt=>some .lt
 |.LtE=>some .le
 |.Gt=>some .gt
 |.In=>some .isin
 |.NotIn=>some .notin
 |.Is=>some .fQ
 |.IsNot=>some .notN
 |_=>none
noncomputable def tyB(x:Str):Option Ty:=
 if x="tuple" then some .tup else if x="list" then some .lst else if x="str" then some .str else if x="bool" then some .bool else if x="int" then some .int else none
noncomputable def Z8(x:Str):Option Bi:=
 if x="len" then some .len else if x="int" then some .int else if x="tuple" then some .tuple else if x="list" then some .list else if x="all" then some .all else if x="any" then some .any
 else if x="sorted" then some .sorted else if x="dict" then some .dict else none
noncomputable def plain:Expr->Bool
 |.BoolOp .. |.BinOp .. |.UnaryOp .. |.IfExp .. |.ListComp .. |.Compare .. |.Call .. |.Constant .. |.Subscript .. |.Name .. |.List .. |.Tuple .. |.Dict .. =>true
 |_=>false
def E.Mh:E->Bool
 |.nil=>true
 |_=>false
noncomputable def fnAt(C:Ct)(x:Str):Option (Nat×List Bool):=(oX (C.fns.map (·.1)) x).bind fun g=>(C.fns[g]?).map fun p=>(g,p.2)
noncomputable def qX(scope outer:Scope):Scope:=
 {scope with names:=scope.names.map fun(n,k)=>if (k== .free&&outer.kind== .function&&outer.names.lookup n==some .cell)then(n,.cell)else(n,k)}
def qR(η N:List Str):List Str:=η++N.map fun x=>if η.contains x then(".":Str)++x else x
def uo:Expr->Option Str
 |.Name x _=>some x
 |_=>none
noncomputable def V2:Expr->Option (List Str×Tg)
 |.Name x _=>some ([x],.name 0)
 |.Tuple es _ _=>(es.mapM uo).map fun xs=>(xs,.tup (List.range xs.length))
 |_=>none
noncomputable def Wr(outer inner:Scope)(η N:List Str):Bool:=
 decide (inner.kind=.function)&&decide ((qR η N).Nodup)
 &&(inner.names.all fun p=>(p.2 != .local)||((η.contains p.1||p.1==(".0":Str))&&inner.names.lookup p.1==some .local))
 &&(η.all fun x=>inner.names.lookup x==some .local)
 &&(inner.names.all fun p=>p.2 != .cell)
 &&(inner.names.all fun p=>(p.2 != .free)||outer.names.lookup p.1==some .cell||outer.names.lookup p.1==some .free)
 &&(N.all fun x=> !η.contains x||(inner.names.lookup ((".":Str)++x)).isNone)
 && !N.contains (".0":Str)
def isCall:Expr->Bool
 |.Call .. =>true
 |_=>false
def Bw(ap cp:Pos):Bool:=ap.endLine==cp.line
mutual
noncomputable def dC:Nat->Ct->Expr->Option E
 |0,_,_=>none
 |n+1,C,e=>match e with
  |.Constant k _ _=>(Nt k).map .con
  |.Name x _=>iK C x
  |.Tuple es _ _=>(v5 n C es).map .tup
  |.List es _=>(v5 n C es).map .lis
  |.BinOp a o b _=>(opB o).bind fun o=>(dC n C a).bind fun a=>(dC n C b).map fun b=>.op o a b
  |.UnaryOp o a _=>match o with
   |.USub=>(dC n C a).map .neg
   |.Not=>(dC n C a).map .not
   |_=>none
  |.BoolOp o es _=>(v5 n C es).bind fun m=>if m.Mh then none else match o with
   |.And=>some (.and m)
   |.Or=>some (.or m)
  |.Compare a ops cs _=>match ops,cs with
   |[o],[b]=>(cmB o).bind fun o=>(dC n C a).bind fun a=>(dC n C b).map fun b=>.cmp o a b
   |[o,o2],[b,d]=>(cmB o).bind fun o=>(cmB o2).bind fun o2=>(dC n C a).bind fun a=>(dC n C b).bind fun b=>(dC n C d).map fun d=>.chain o o2 a b d
   |_,_=>none
  |.IfExp t a b _=>(dC n C t).bind fun t=>(dC n C a).bind fun a=>(dC n C b).map fun b=>.ite t a b
  |.Subscript a i _=>match i with
   |.Slice lo hi st _=>match st with
    |none=>(dC n C a).bind fun a=>(Zu n C lo).bind fun lo=>(Zu n C hi).map fun hi=>.slc a lo hi
    |some _=>none
   |i=>(dC n C a).bind fun a=>(dC n C i).map fun i=>.idx a i
  |.Call f args kw cp=>match kw with
   |[]=>match f with
    |.Name x _=>if Ht x&&xX C.sc x then(match fnAt C x with
      |some (g,fl)=>(GF n C fl args).bind fun m=>if m.Mh then none else some (.call g m)
      |none=>trB n C x args)else none
    |.Attribute o name ap=>if Bw ap cp then(match args with
      |[e]=>if name="count" then(dC n C o).bind fun m1=>(if plain o&& !isCall o then some ()else none).bind fun _=>(dC n C e).map fun m2=>.count m1 m2
       else if name="pop" then(match o with
        |.Name x _=>(iK C x).bind fun m=>match m with
         |.var k=>(dC n C e).map fun m2=>.popAt k m2
         |_=>none
        |_=>none)
       else none
      |[e,f]=>if name="get" then(dC n C o).bind fun m1=>(if plain o&& !isCall o then some ()else none).bind fun _=>(dC n C e).bind fun m2=>(dC n C f).map fun m3=>.get2 m1 m2 m3 else none
      |_=>none)else none
    |_=>none
   |_=>none
  |.Dict ks vs _=>if ks.isEmpty&&vs.isEmpty then some .emp else if ks.length=vs.length&&decide (ks.length<=15)&& !ks.isEmpty then(GD n C ks vs).map .dsp else none
  |.ListComp elt gens sc _=>match gens with
   |[g]=>trC n C elt g sc
   |_=>none
  |_=>none
noncomputable def GD:Nat->Ct->List (Option Expr)->List Expr->Option E
 |0,_,_,_=>none
 |n+1,C,ks,vs=>match ks,vs with
  |[],[]=>some .nil
  |some k::ks,v::vs=>(dC n C k).bind fun k=>(dC n C v).bind fun v=>(GD n C ks vs).map fun r=>.cons k (.cons v r)
  |_,_=>none
noncomputable def trC:Nat->Ct->Expr->Comprehension->Scope->Option E
 |0,_,_,_,_=>none
 |n+1,C,elt,g,sc=>if g.is_async=0 then(V2 g.target).bind fun(η,tg)=>
   if Wr C.sc sc η C.N then
    let C2:Ct:={C with N:=qR η C.N,sc:=qX sc C.sc}
    (Zv n C g.iter).bind fun it=>(match g.ifs with
     |[]=>some (E.con (.bl true))
     |[c]=>dC n C2 c
     |_=>none).bind fun cond=>(dC n C2 elt).map fun m=>.comp η.length tg it cond m
   else none else none
noncomputable def Zv:Nat->Ct->Expr->Option E
 |0,_,_=>none
 |n+1,C,e=>match e with
  |.Call f args kw cp=>match f,args,kw with
   |.Name x _,[a],[]=>if x="range"&&xX C.sc x&&(fnAt C x).isNone then(dC n C a).map .range1 else dC n C e
   |.Name x _,[a,b],[]=>if x="zip"&&xX C.sc x&&(fnAt C x).isNone then(dC n C a).bind fun a=>(dC n C b).map fun b=>.zip a b else dC n C e
   |_,_,_=>dC n C e
  |_=>dC n C e
noncomputable def trB:Nat->Ct->Str->List Expr->Option E
 |0,_,_,_=>none
 |n+1,C,x,args=>match args with
  |[a,t]=>if x="isinstance" then(match t with
    |.Name y _=>if xX C.sc y then(tyB y).bind fun t=>(dC n C a).map fun a=>.isi a t else none
    |_=>none)else none
  |[a]=>match a with
   |.Call f zs kw _=>(match f,zs,kw with
    |.Name z _,[p,q],[]=>if z="zip"&&xX C.sc z&&(fnAt C z).isNone then
      (if x="dict" then(dC n C p).bind fun p=>(dC n C q).map fun q=>.bi .dict (.zip p q)
       else if x="list" then(dC n C p).bind fun p=>(dC n C q).map fun q=>.bi .list (.zip p q)else none)
     else(Z8 x).bind fun b=>(dC n C a).bind fun m=>if b=.dict&&m.aB.isSome then some (.bi b (.rd m))else some (.bi b m)
    |_,_,_=>(Z8 x).bind fun b=>(dC n C a).bind fun m=>if b=.dict&&m.aB.isSome then some (.bi b (.rd m))else some (.bi b m))
   |a=>(Z8 x).bind fun b=>(dC n C a).bind fun m=>if b=.dict&&m.aB.isSome then some (.bi b (.rd m))else some (.bi b m)
  |_=>none
noncomputable def GF:Nat->Ct->List Bool->List Expr->Option E
 |0,_,_,_=>none
 |n+1,C,fl,es=>match fl,es with
  |[],[]=>some .nil
  |false::fl,e::es=>(dC n C e).bind fun m=>(GF n C fl es).map fun ms=>.cons m ms
  |true::fl,e::es=>(match e with
    |.Name x _=>(iK C x).bind fun m=>match m with
     |.var k=>some (E.ref k)
     |_=>none
    |_=>none).bind fun m=>(GF n C fl es).map fun ms=>.cons m ms
  |_,_=>none
noncomputable def Zu:Nat->Ct->Option Expr->Option E
 |0,_,_=>none
 |n+1,C,o=>match o with
  |none=>some .noneE
  |some e=>dC n C e
noncomputable def v5:Nat->Ct->List Expr->Option E
 |0,_,_=>none
 |n+1,C,es=>match es with
  |[]=>some .nil
  |e::es=>(dC n C e).bind fun m=>(v5 n C es).map fun ms=>.cons m ms
end
noncomputable def J1(C:Ct)(e f:Option Expr):Nat:=match e,f with
 |some (.Call (.Name x _) [.Constant (.str _) _ _] [] _),none=>if xX C.sc x&&Ht x then(match oX C.exs x with|some k=>k+1|none=>0)else 0
 |_,_=>0
def Hy(sc:Scope)(x:Str):Bool:=sc.names.lookup x==some .local||sc.names.lookup x==some .cell
noncomputable def slotsOf(C:Ct):List Expr->Option (List Nat)
 |[]=>some []
 |.Name x _::es=>if Hy C.sc x then(oX C.N x).bind fun i=>(slotsOf C es).map (i:: ·)else none
 |_=>none
noncomputable def Jx(C:Ct):Expr->Option Tg
 |.Name x _=>if Hy C.sc x then(oX C.N x).map .name else none
 |.Tuple es _ _=>(slotsOf C es).map .tup
 |_=>none
def isTup:Expr->Bool
 |.Tuple .. =>true
 |_=>false
def oY:Expr->Bool
 |.ListComp .. =>true
 |_=>false
def isSlice:Expr->Bool
 |.Slice .. =>true
 |_=>false
noncomputable def trN(n:Nat)(C:Ct)(tg it:Expr):Option E:=if isTup tg then(match it with
  |.Call f as kw _=>(match f,as,kw with
   |.Name x _,[a],[]=>if x="enumerate"&&xX C.sc x&&(fnAt C x).isNone then(dC n C a).map .enum else none
   |_,_,_=>none)
  |_=>none)else none
noncomputable def trF(n:Nat)(C:Ct)(tg it:Expr):Option E:=match trN n C tg it with
 |some m=>some m
 |none=>Zv n C it
def rzB(C:Ct):Expr->Bool
 |.Name x _=>C.rz.contains x
 |_=>false
noncomputable def trX(n:Nat)(C:Ct)(f:Expr)(args:List Expr)(kw:List Keyword):Option S:=
 match f,kw with
 |.Name x _,[]=>if Ht x&&xX C.sc x then(match fnAt C x with
   |some (g,fl)=>(GF n C fl args).bind fun m=>if m.Mh then none else some (.callx g m)
   |none=>none)else none
 |_,_=>none
mutual
noncomputable def Tw:Nat->Ct->Stmt->Option S
 |0,_,_=>none
 |n+1,C,st=>match st with
  |.Return v _=>match v with
   |none=>some (.ret ABs)
   |some e=>(dC n C e).map .ret
  |.Assign ts e _=>match ts with
   |[t]=>match t with
    |.Name x _=>if Hy C.sc x then(oX C.N x).bind fun i=>(dC n C e).map fun m=>.set i m else none
    |.Tuple es _ _=>if isTup e||oY e then none else(slotsOf C es).bind fun is=>(dC n C e).map fun m=>.setT is m
    |.Subscript o ix _=>match o with
     |.Name x _=>if oY e||isSlice ix then none else(iK C x).bind fun v=>match v with
      |.var k=>(dC n C ix).bind fun i=>(dC n C e).map fun m=>.setIx k i m
      |_=>none
     |_=>none
    |_=>none
   |_=>none
  |.Expr e _=>match e with
   |.Call f args kw cp=>match f,args,kw with
    |.Attribute o name ap,[a],[]=>match o with
     |.Name x _=>if Bw ap cp&&name="append" then(iK C x).bind fun v=>(match v with
       |.var k=>(dC n C a).map fun m=>.append k m
       |_=>none)
      else if Bw ap cp&&name="extend" then(iK C x).bind fun v=>(match v with
       |.var k=>(dC n C a).map fun m=>.extend k m
       |_=>none)
      else(dC n C e).map .expr
     |_=>none
    |f,args,kw=>if rzB C f then trX n C f args kw else(dC n C e).map .expr
   |_=>none
  |.If t a b _=>(dC n C t).bind fun t=>(qJ n C a).bind fun a=>(qJ n C b).map fun b=>.ite t a b
  |.For tg it b el _=>match el with
   |[]=>(Jx C tg).bind fun tg'=>(trF n C tg it).bind fun it=>(qJ n C b).map fun b=>.for_ tg' it b
   |_=>none
  |.While t b el _=>match el with
   |[]=>(dC n C t).bind fun t=>(qJ n C b).map fun b=>.while_ t b
   |_=>none
  |.Raise e f _=>some (.raise (J1 C e f))
  |_=>none
noncomputable def qJ:Nat->Ct->List Stmt->Option S
 |0,_,_=>none
 |n+1,C,ss=>match ss with
  |[]=>some .nil
  |s::ss=>(Tw n C s).bind fun m=>(qJ n C ss).map fun ms=>.cons m ms
end
end Mini
end
section
namespace Mini
open PySem L2
noncomputable def nM:List Str:=["isinstance","tuple","list","str","bool","int","dict","len","all","any","sorted","zip","range","enumerate"]
def Zd(X:Cx)(c:Cf)(g:Nat)(x:Str):Prop:=∃k f fd ps,pD X.prog X.w X.K X.mg X.base O6 k f fd ps (wg X.K ps.length (c.fn g))/\jy k X.A/\X.mg x=some (.ref f)/\PySem.W.keepIn X.K (.ref f)=true/\Binds X.K fd ps []/\∀sl,c.fn g sl=.bad\/sl.length=ps.length
structure iJ(C:Ct)(X:Cx)(c:Cf):Prop where
 N:X.N=C.N
 sc:X.env.scope=C.sc
 nd:C.N.Nodup
 calm:X.calm=true
 hu:X.A.units+60<cLine
 bi:∀x∈nM,X.mg x=none
 gl:∀k x,C.nW[k]? =some x->∃d,c.gl k=some d/\ada X x d
 fn:∀g x fl,C.fns[g]? =some (x,fl)->Zd X c g x
structure Sd(X:Cx)(c:Cf)(m:E)(e:Expr):Prop where
 ge:GE X W0 c m e
 gt:GT X W0 c m e
 pl:plain e=true
 va:∀k,m.aB=some k->∃x p,e=.Name x p/\iI X k x
 nn:m.fQ=false
theorem jb:∀{N:List Str}{x:Str}{k:Nat},oX N x=some k->N[k]? =some x
 |[],_,_,h=>by cases h
 |y::r,x,k,h=>by
  unfold oX at h
  split at h
  ·rename_i e;cases h;subst e;rfl
  ·cases q:oX r x with
   |none=>rw[q]at h;cases h
   |some j=>rw[q]at h;cases h;simpa using jb q
def VD{x:Str}(h:VF sc x=true):Vis sc x:=by
 unfold VF at h
 unfold Vis
 cases q:sc.names.lookup x with
 |none=>rw[q]at h;cases h
 |some k=>rw[q]at h;cases k<;>simp at h<;>simp
def El(h:Ht x=true):(x==("__debug__":Str))=false/\(x==("__classdict__":Str))=false:=by
 unfold Ht at h
 rw[QUq]at h
 exact⟨by simpa using h.1,by simpa using h.2⟩
section
def lH(O:iJ C X c)(h:xX C.sc x=true):Gl X x:=by
 unfold xX at h
 show X.env.scope.names.lookup x=_
 rw[O.sc]
 simpa using h
def bG(h:plain e=true)es env:starEach (e::es) env=(false,eval e env)::starEach es env:=by
 cases e<;>first|rfl|exact absurd (h) Qjz
def rH(h:plain e=true)o:behindInMarks o e=false:=by
 cases e<;>first|rfl|exact absurd (h) Qjz
def xg(h:plain e=true)env x:foldedSetIterable e env x=pure x:=by
 cases e<;>first|rfl|exact absurd (h) Qjz
def Br(h:plain e=true):xT e:=by
 intro o i
 cases e<;>first|rfl|exact absurd (h) Qjz
def tame:Expr->Bool
 |.UnaryOp .Not .. |.BoolOp .. |.IfExp .. |.Compare .. =>false
 |_=>true
def Mt(h:GE X W0 c m e)(hp:plain e=true)(ht:tame e=true):GT X W0 c m e:=by
 refine h.t fun whole=>?_
 cases e with
 |UnaryOp o a q=>cases o<;>first|rfl|exact absurd (ht) Qjz
 |_=>first|rfl|exact absurd (hp) Qjz|exact absurd (ht) Qjz
def DW(O:iJ C X c)(h:iK C x=some m):Sd X c m (.Name x p):=by
 unfold iK at h
 split at h
 ·rename_i nb
  obtain⟨n1,n2⟩:=El nb
  cases q:oX C.N x with
  |some k=>
   rw[q]at h
   simp only at h
   split at h
   ·rename_i hv
    cases h
    have nm:iI X k x:=⟨by rw[O.N];exact jb q,by rw[O.sc];exact VD hv,n1,n2⟩
    exact⟨nm.ge,Mt nm.ge rfl rfl,rfl,fun k' e=>by cases e;exact⟨x,p,rfl,nm⟩,rfl⟩
   ·cases h
  |none=>
   rw[q]at h
   simp only at h
   split at h
   ·rename_i hg
    cases q2:oX C.nW x with
    |none=>rw[q2]at h;cases h
    |some k=>
     rw[q2]at h
     cases h
     obtain⟨d,hk,ok⟩:=O.gl k x (jb q2)
     have ge:GE X W0 c _ (.Name x p):=RJ hk ok (lH O hg) n1
     exact⟨ge,Mt ge rfl rfl,rfl,fun k' e=>(by cases e),rfl⟩
   ·cases h
 ·cases h
def zc(O:iJ C X c)(h:iK C x=some (.var k)):iI X k x:=by
 obtain⟨y,q,e,nm⟩:=(DW (p:=default) O h).va k rfl
 cases e
 exact nm
inductive Al(X:Cx)(c:Cf):E->List Expr->Prop
 |nil:Al X c .nil []
 |cons {m ms:E} {e:Expr} {es:List Expr}:Sd X c m e->Al X c ms es->Al X c (.cons m ms) (e::es)
theorem Al.ga:∀{ms:E}{es:List Expr},Al X c ms es->GA X W0 c ms es
 |_,_,.nil=>M3
 |_,_,.cons h t=>Fy h.ge t.ga (bG h.pl _ _)
theorem Al.and{es:List Expr}:∀{m ms:E}{e:Expr},Al X c (.cons m ms) (e::es)->GE X W0 c (.and (.cons m ms)) (.BoolOp .And (e::es) pos)/\GW X W0 c (.and (.cons m ms)) (.BoolOp .And (e::es) pos):=by
 induction es with
 |nil=>intro m ms e h;cases h with|cons h t=>cases t;exact⟨RP h.ge,Ry h.gt⟩
 |cons e2 es ih=>intro m ms e h;cases h with|cons h t=>cases t with|cons h2 t=>exact⟨YG h.ge (ih (.cons h2 t)).1,Yj h.gt (ih (.cons h2 t)).2⟩
theorem Al.or{es:List Expr}:∀{m ms:E}{e:Expr},Al X c (.cons m ms) (e::es)->GE X W0 c (.or (.cons m ms)) (.BoolOp .Or (e::es) pos)/\GW X W0 c (.or (.cons m ms)) (.BoolOp .Or (e::es) pos):=by
 induction es with
 |nil=>intro m ms e h;cases h with|cons h t=>cases t;exact⟨Yt h.ge,Ye h.gt⟩
 |cons e2 es ih=>intro m ms e h;cases h with|cons h t=>cases t with|cons h2 t=>exact⟨acD h.ge (ih (.cons h2 t)).1,acy h.gt (ih (.cons h2 t)).2⟩
def Xl{q:Y9}(h:opB o=some q):o=abT q:=by
 cases o<;>first|(cases (h);rfl)|cases (h)
def CQ{q:Cm}(h:cmB o=some q):o=eG q:=by
 cases o<;>first|(cases (h);rfl)|cases (h)
def Nr{d:D}(h:Nt k=some d):Ej d k=true:=by
 cases k<;>simp[Nt]at h<;>subst h<;>simp[Ej]
def V0(h:tyB x=some t):x=Str.ofString (tyN t)/\x∈nM:=by
 unfold tyB at h
 split at h
 ·rename_i e;cases h;subst e;exact⟨rfl,by decide⟩
 split at h
 ·rename_i e;cases h;subst e;exact⟨rfl,by decide⟩
 split at h
 ·rename_i e;cases h;subst e;exact⟨rfl,by decide⟩
 split at h
 ·rename_i e;cases h;subst e;exact⟨rfl,by decide⟩
 split at h
 ·rename_i e;cases h;subst e;exact⟨rfl,by decide⟩
 cases h
def U6(O:iJ C X c){bb:Bi}(h:Z8 x=some bb)(hg:xX C.sc x=true)(ha:Sd X c m a)(hd:bb=.dict->m.aB=none):GE X W0 c (.bi bb m) (.Call (.Name x p) [a] [] pos):=by
 have hs:=bG ha.pl [] X.env
 have hG:=lH O hg
 unfold Z8 at h
 split at h
 ·rename_i e;cases h;subst e;exact xf Iw Qn ha.ge ha.va hG (O.bi _ (by decide)) PySem.boot_len (by decide) (by decide) hs
 split at h
 ·rename_i e;cases h;subst e;exact Ck Iz Qo ha.ge ha.va hG (O.bi _ (by decide)) PyProof.Rows.boot_int (by decide) (by decide) hs
 split at h
 ·rename_i e;cases h;subst e;exact Ck uy G7 ha.ge ha.va hG (O.bi _ (by decide)) PyProof.Rows.boot_tuple (by decide) (by decide) hs
 split at h
 ·rename_i e;cases h;subst e;exact Ck (Dc O.calm) JV ha.ge ha.va hG (O.bi _ (by decide)) PyProof.Rows.boot_list (by decide) (by decide) hs
 split at h
 ·rename_i e;cases h;subst e;exact xf (IV O.calm) Qq ha.ge ha.va hG (O.bi _ (by decide)) PyProof.Rows.boot_all (by decide) (by decide) hs
 split at h
 ·rename_i e;cases h;subst e;exact xf (IK O.calm) Qp ha.ge ha.va hG (O.bi _ (by decide)) PyProof.Rows.boot_any (by decide) (by decide) hs
 split at h
 ·rename_i e;cases h;subst e;exact xf xM Ay ha.ge ha.va hG (O.bi _ (by decide)) PyProof.Rows.boot_sorted (by decide) (by decide) hs
 split at h
 ·rename_i e;cases h;subst e;exact RL O.calm O.hu ha.ge (hd rfl) hG (O.bi _ (by decide)) hs
 cases h
end
def Ba{env:Env}(h:env.scope=outer):relabel sc env=qX sc outer:=by
 subst h
 rfl
def JQ{η N:List Str}(h:Wr outer inner η N=true):(qR η N).Nodup:=by
 unfold Wr at h
 simp only[QUq,QUz]at h
 exact h.1.1.1.1.1.1.2
def JP{η N:List Str}(h:Wr outer inner η N=true):Ja outer inner η N:=by
 unfold Wr at h
 simp only[QUq,QUz,List.all_eq_true,Bool.or_eq_true,bne_iff_ne,beq_iff_eq,Bool.not_eq_true',ne_eq]at h
 obtain⟨⟨⟨⟨⟨⟨⟨h1,h2⟩,h3⟩,h4⟩,h5⟩,h6⟩,h7⟩,h8⟩:=h
 refine⟨h1,h2,fun x hx=>?_,fun p hp hl=>?_,h4,h5,fun p hp hf=>?_,fun x hx ht=>?_,fun hx=>?_⟩
 ·rcases h3 _ (PySem.mem_of_lookup hx)with z|z
  ·exact absurd rfl z
  ·rcases z.1 with z|z
   ·exact .inl (by simpa using z)
   ·exact .inr z
 ·rcases h3 p hp with z|z
  ·exact absurd hl z
  ·exact z.2
 ·rcases h6 p hp with (z|z)|z
  ·exact absurd hf z
  ·exact .inl z
  ·exact .inr z
 ·rcases h7 x hx with z|z
  ·rw[ht]at z;cases z
  ·simpa using z
 ·have:N.contains (".0")=true:=by simpa using hx
  rw[this]at h8;cases h8
section
variable{sc:Scope}
theorem iJ.blk(O:iJ C X c)(hs:Wr C.sc sc η C.N=true){fp:List Addr}{H₀:Hp}:iJ {C with N:=qR η C.N,sc:=qX sc C.sc} (Mini.blk X sc cl (bY η X.N) fp s₀ H₀) c:=
 ⟨by show bY η X.N=qR η C.N;rw[O.N];rfl,Ba O.sc,JQ hs,O.calm,O.hu,O.bi,O.gl,O.fn⟩
theorem rE{sc:Scope}{N:List Str}:∀{es:List Expr}{xs:List Str}(k:Nat),es.mapM uo=some xs->(∀j x,xs[j]? =some x->N[k+j]? =some x)->(∀x∈xs,sc.names.lookup x=some .local)->gQ sc N (List.range' k xs.length) es=true
 |[],xs,k,h,_,_=>by
  simp at h;subst h;rfl
 |e::es,xs,k,h,hN,hl=>by
  rw[List.mapM_cons]at h
  cases q:uo e with
  |none=>rw[q]at h;cases h
  |some x=>
   rw[q]at h
   cases q2:es.mapM uo with
   |none=>rw[q2]at h;cases h
   |some ys=>
    rw[q2]at h
    cases h
    cases e<;>simp[uo]at q
    subst q
    rw[QBq,List.range'_succ]
    unfold gQ
    rw[rE _ q2 (fun j y e=>by have:=hN (j+1) y (by simpa using e);rw[<-this];congr 1;omega) (fun y hy=>hl y (QYq _ hy))]
    have:=hN 0 _ rfl
    simp at this
    simp[this,hl _ QYz]
theorem rG:∀{es:List Expr}{xs:List Str},es.mapM uo=some xs->(assignEach es env).length=xs.length/\(assignEach es env).findIdx? (·.1)=none
 |[],xs,h=>by simp at h;subst h;exact⟨rfl,rfl⟩
 |e::es,xs,h=>by
  rw[List.mapM_cons]at h
  cases q:uo e with
  |none=>rw[q]at h;cases h
  |some x=>
   rw[q]at h
   cases q2:es.mapM uo with
   |none=>rw[q2]at h;cases h
   |some ys=>
    rw[q2]at h
    cases h
    obtain⟨i1,i2⟩:=rG (env:=env) q2
    cases e<;>simp[uo]at q
    constructor
    ·show(_::assignEach es env).length=_
     simp[i1]
    ·show(List.findIdx? (·.1) ((false,_)::assignEach es env))=none
     rw[List.findIdx?_cons]
     simp[i2]
def aaL(O:iJ C X c){Ψ:Expr}(ht:V2 Ψ=some (η,tg))(hs:Wr C.sc sc η C.N=true):(∀i∈slots tg,i<η.length)/\∀(cl:List (Str×Addr))(fp:List Addr)(s₀:Shared)(H₀:Hp),GG (Mini.blk X sc cl (bY η X.N) fp s₀ H₀) tg Ψ:=by
 have lc:∀x∈η,∀cl fp s₀ H₀,(Mini.blk X sc cl (bY η X.N) fp s₀ H₀).env.scope.names.lookup x=some .local:=fun x hx cl fp s₀ H₀=>lookup_relabel_local ((JP hs).tg x hx)
 have nd:∀cl fp s₀ H₀,(Mini.blk X sc cl (bY η X.N) fp s₀ H₀).N.Nodup:=fun cl fp s₀ H₀=>by
  rw[O.N]
  exact JQ hs
 cases Ψ<;>simp only[V2]at ht<;>try (cases ht;done)
 ·rename_i x q
  cases ht
  refine⟨fun i hi=>?_,fun cl fp s₀ H₀=>w6 (nd cl fp s₀ H₀) rfl (.inl (lc x (by simp) cl fp s₀ H₀)) (.inr (lc x (by simp) cl fp s₀ H₀))⟩
  simp[slots]at hi
  subst hi
  simp
 ·rename_i es k q
  cases qm:es.mapM uo with
  |none=>rw[qm]at ht;cases ht
  |some xs=>
   rw[qm]at ht
   cases ht
   refine⟨fun i hi=>by simpa[slots]using hi,fun cl fp s₀ H₀=>?_⟩
   obtain⟨l1,l2⟩:=rG qm
   refine Cg (nd cl fp s₀ H₀) O.calm (K3 ?_) (by simp[l1]) l2
   have:=rE (N:=(Mini.blk X sc cl (bY η X.N) fp s₀ H₀).N) 0 qm (fun j x e=>?_) (fun x hx=>lc x hx cl fp s₀ H₀)
   ·rwa[List.range_eq_range']
   ·show(bY η X.N)[0+j]? =some x
    unfold bY
    rw[Nat.zero_add,Qwz (QCz.mp e).1]
    exact e
end
inductive Ar(X:Cx)(c:Cf):E->List Expr->Prop
 |nil:Ar X c .nil []
 |cons {m ms:E} {e:Expr} {es:List Expr}:GE X W0 c m e->plain e=true->Ar X c ms es->Ar X c (.cons m ms) (e::es)
theorem Ar.ga{c:Cf}:∀{ms:E}{es:List Expr},Ar X c ms es->GA X W0 c ms es
 |_,_,.nil=>M3
 |_,_,.cons h p t=>Fy h t.ga (bG p _ _)
theorem Ar.plain{c:Cf}:∀{ms:E}{es:List Expr},Ar X c ms es->(backTo pos (starEach es X.env)).any (·.1)=false
 |_,_,.nil=>rfl
 |_,_,.cons h p t=>by
  rw[bG p]
  have:=t.plain (pos:=pos)
  simpa[backTo]using this
def Dr(X:Cx)(c:Cf)(m:E)(elt:Expr)(g:Comprehension)(sc:Scope):Prop:=
 ∃η tg it cond m',m=.comp η.length tg it cond m'/\Ac X c sc η tg cond m' g.target elt g.ifs/\GI X W0 c it g.target g.iter/\plain g.iter=true/\g.is_async=0
structure Ih(c:Cf)(n:Nat):Prop where
 e:∀C X e m,iJ C X c->dC n C e=some m->Sd X c m e
 es:∀C X es m,iJ C X c->v5 n C es=some m->Al X c m es
 a:∀C X fl es m,iJ C X c->GF n C fl es=some m->Ar X c m es
 o:∀C X o m,iJ C X c->Zu n C o=some m->GO X W0 c m o
 b:∀C X x args m p pos,iJ C X c->xX C.sc x=true->trB n C x args=some m->GE X W0 c m (.Call (.Name x p) args [] pos)/\m.aB=none/\m.fQ=false
 i:∀C X tg e m,iJ C X c->Zv n C e=some m->GI X W0 c m tg e/\plain e=true
 k:∀C X elt g sc m,iJ C X c->trC n C elt g sc=some m->Dr X c m elt g sc
 d:∀C X ks vs m,iJ C X c->GD n C ks vs=some m->∃nT,Kv X W0 c m ks vs nT/\ks.all (·.isSome)=true
def ih0 c:Ih c 0:=by
 constructor
 all_goals (intros;rename_i h;first|(rw[dC]at h;cases h)|(rw[v5]at h;cases h)|(rw[GF]at h;cases h)|(rw[Zu]at h;cases h)|(rw[trB]at h;cases h)|(rw[Zv]at h;cases h)|(rw[trC]at h;cases h)|(rw[GD]at h;cases h))
section
def PX(I:Ih c n)(O:iJ C X c)(h:v5 (n+1) C es=some m):Al X c m es:=by
 cases es with
 |nil=>rw[v5]at h;cases h;exact .nil
 |cons e es=>
  rw[v5]at h
  simp only[QJq,QJz]at h
  obtain⟨m1,h1,m2,h2,rfl⟩:=h
  exact .cons (I.e C X e m1 O h1) (I.es C X es m2 O h2)
def We(I:Ih c n)(O:iJ C X c){vs:List Expr}(h:GD (n+1) C ks vs=some m):∃nT,Kv X W0 c m ks vs nT/\ks.all (·.isSome)=true:=by
 unfold GD at h
 split at h
 ·cases h;exact⟨[],.nil,rfl⟩
 ·simp only[QJq,QJz]at h
  obtain⟨k1,h1,v1,h2,r,h3,rfl⟩:=h
  obtain⟨nT,K,a⟩:=I.d C X _ _ r O h3
  exact⟨_,.cons (I.e C X _ k1 O h1).ge (I.e C X _ v1 O h2).ge K,by simpa using a⟩
 ·cases h
def V9(I:Ih c n)(O:iJ C X c)(h:Zu (n+1) C o=some m):GO X W0 c m o:=by
 cases o with
 |none=>rw[Zu]at h;cases h;exact .inl ⟨rfl,rfl⟩
 |some e=>
  have s:=I.e C X e m O h
  exact .inr ⟨e,rfl,s.nn,s.ge⟩
def Wg(I:Ih c n)(O:iJ C X c){es:List Expr}(h:GF (n+1) C fl es=some m):Ar X c m es:=by
 cases fl with
 |nil=>
  cases es with
  |nil=>rw[GF]at h;cases h;exact .nil
  |cons e es=>rw[GF]at h<;>first|cases h|(intros;simp_all)
 |cons f fl=>
  cases es with
  |nil=>rw[GF]at h<;>first|cases h|(intros;simp_all)
  |cons e es=>
   cases f with
   |false=>
    rw[GF]at h
    simp only[QJq,QJz]at h
    obtain⟨m1,h1,m2,h2,rfl⟩:=h
    have s:=I.e C X e m1 O h1
    exact .cons s.ge s.pl (I.a C X fl es m2 O h2)
   |true=>
    by_cases hN:∃x p,e=.Name x p
    ·obtain⟨x,p,rfl⟩:=hN
     rw[GF]at h
     simp only[QJq,QJz]at h
     obtain⟨m1,⟨m3,h3,h4⟩,m2,h2,rfl⟩:=h
     split at h4
     ·cases h4
      exact .cons (Ys (zc O h3)) rfl (I.a C X fl es m2 O h2)
     ·cases h4
    ·rw[GF]at h
     ·simp only[QJq,QJz]at h
      obtain⟨m1,h3,_⟩:=h
      cases h3
     ·exact fun x p z=>hN ⟨x,p,z⟩
def Wx{x:Str}(O:iJ C X c)(h:(decide (x="range")&&xX C.sc x&&(fnAt C x).isNone)=true):x="range"/\Gl X "range":=by
 simp only[QUq,QUz]at h
 obtain⟨⟨rfl,h2⟩,_⟩:=h
 exact⟨rfl,lH O h2⟩
def aaq{x:Str}(O:iJ C X c)(h:(decide (x="zip")&&xX C.sc x&&(fnAt C x).isNone)=true):x="zip"/\Gl X "zip":=by
 simp only[QUq,QUz]at h
 obtain⟨⟨rfl,h2⟩,_⟩:=h
 exact⟨rfl,lH O h2⟩
def Wb(I:Ih c n)(O:iJ C X c)(h:Zv (n+1) C e=some m):GI X W0 c m tg e/\plain e=true:=by
 have dflt:dC n C e=some m->GI X W0 c m tg e/\plain e=true:=fun h=>let s:=I.e C X e m O h;⟨acC s.ge,s.pl⟩
 unfold Zv at h
 split at h
 ·split at h
  ·split at h
   ·rename_i hr
    obtain⟨rfl,hg⟩:=Wx O hr
    simp only[QJz]at h
    obtain⟨m1,h1,rfl⟩:=h
    have s:=I.e C X _ m1 O h1
    exact⟨Ik s.ge hg (O.bi _ (by decide)) (bG s.pl _ _),rfl⟩
   ·exact dflt h
  ·split at h
   ·rename_i hr
    obtain⟨rfl,hg⟩:=aaq O hr
    simp only[QJq,QJz]at h
    obtain⟨m1,h1,m2,h2,rfl⟩:=h
    have s1:=I.e C X _ m1 O h1
    have s2:=I.e C X _ m2 O h2
    exact⟨Yo s1.ge s2.ge hg (O.bi _ (by decide)) (by rw[bG s1.pl,bG s2.pl];rfl) (bG s2.pl _ _),rfl⟩
   ·exact dflt h
  ·exact dflt h
 ·exact dflt h
def Wa(I:Ih c n)(O:iJ C X c){g:Comprehension}(h:trC (n+1) C elt g sc=some m):Dr X c m elt g sc:=by
 rw[trC]at h
 split at h
 ·rename_i ha
  simp only[QJq]at h
  obtain⟨⟨η,tg⟩,ht,h⟩:=h
  split at h
  ·rename_i hs
   simp only[QJq,QJz]at h
   obtain⟨it,h1,cond,h2,m',h3,rfl⟩:=h
   obtain⟨sm,gg⟩:=aaL O ht hs
   obtain⟨gi,gp⟩:=I.i C X g.target g.iter it O h1
   refine⟨η,tg,it,cond,m',rfl,⟨by rw[O.sc,O.N];exact JP hs,sm,fun cl fp s₀ H₀ _=>gg cl fp s₀ H₀,?_,fun cl fp s₀ H₀ _=>(I.e _ _ elt m' (O.blk hs) h3).ge⟩,gi,gp,ha⟩
   split at h2
   ·rename_i hi
    cases h2
    exact .inl ⟨hi,rfl⟩
   ·rename_i ce hi
    exact .inr ⟨ce,hi,fun cl fp s₀ H₀ _=>(I.e _ _ ce cond (O.blk hs) h2).gt⟩
   ·cases h2
  ·cases h
 ·cases h
end
section
theorem KQ(I:Ih c n)(O:iJ C X c){a:Expr}(hg:xX C.sc x=true)(h:((Z8 x).bind fun b=>(dC n C a).bind fun m=>if (decide (b=.dict)&&m.aB.isSome)=true then some (E.bi b (.rd m))else some (E.bi b m))=some m):
  GE X W0 c m (.Call (.Name x p) [a] [] pos)/\m.aB=none/\m.fQ=false:=by
 simp only[QJq]at h
 obtain⟨bb,h1,m1,h2,h3⟩:=h
 split at h3
 ·cases h3
  have s:=I.e C X a m1 O h2
  exact⟨U6 O h1 hg ⟨(fun env=>PE.imp (s.ge env) fun σ H Q q=>by simpa only[Py]using q),fun γ sh σ H Q I⟨env,q⟩=>s.gt γ sh σ H Q I ⟨env,by simpa only[Py]using q⟩,s.pl,fun k z=>(by cases z),rfl⟩ fun _=>rfl,rfl,rfl⟩
 ·rename_i hn
  cases h3
  refine⟨U6 O h1 hg (I.e C X a m1 O h2) (fun z=>?_),rfl,rfl⟩
  subst z
  cases q:m1.aB with
  |none=>rfl
  |some k=>rw[q]at hn;exact absurd rfl hn
def Wf(I:Ih c n)(O:iJ C X c){x:Str}{args:List Expr}{p pos:Pos}(hg:xX C.sc x=true)(h:trB (n+1) C x args=some m):GE X W0 c m (.Call (.Name x p) args [] pos)/\m.aB=none/\m.fQ=false:=by
 unfold trB at h
 split at h
 ·--isinstance
  split at h
  ·rename_i hx
   subst hx
   split at h
   ·split at h
    ·rename_i hy
     simp only[QJq,QJz]at h
     obtain⟨t,h1,m1,h2,rfl⟩:=h
     have s:=I.e C X _ m1 O h2
     obtain⟨e1,e2⟩:=V0 h1
     exact⟨Yy s.ge e1 (lH O hy) (O.bi _ e2) (lH O hg) (O.bi _ (by decide)) (bG s.pl _ _),rfl,rfl⟩
    ·cases h
   ·cases h
  ·cases h
 ·split at h
  ·split at h
   ·split at h
    ·rename_i hz
     obtain⟨rfl,hgz⟩:=aaq O hz
     split at h
     ·rename_i hx
      subst hx
      simp only[QJq,QJz]at h
      obtain⟨m1,h1,m2,h2,rfl⟩:=h
      have s1:=I.e C X _ m1 O h1
      have s2:=I.e C X _ m2 O h2
      exact⟨Cj O.calm O.hu s1.ge s2.ge hgz (O.bi _ (by decide)) (by rw[bG s1.pl,bG s2.pl];rfl) (bG s2.pl _ _) (lH O hg) (O.bi _ (by decide)) rfl,rfl,rfl⟩
     ·split at h
      ·rename_i hx
       subst hx
       simp only[QJq,QJz]at h
       obtain⟨m1,h1,m2,h2,rfl⟩:=h
       have s1:=I.e C X _ m1 O h1
       have s2:=I.e C X _ m2 O h2
       exact⟨Ci O.calm s1.ge s2.ge hgz (O.bi _ (by decide)) (by rw[bG s1.pl,bG s2.pl];rfl) (bG s2.pl _ _) (lH O hg) (O.bi _ (by decide)) rfl,rfl,rfl⟩
      ·cases h
    ·exact KQ I O hg h
   ·exact KQ I O hg h
  ·exact KQ I O hg h
 ·cases h
def gf(ge:GE X W0 c m e)(hp:plain e=true)(hv:m.aB=none)(hi:m.fQ=false)(ht:tame e=true):Sd X c m e:=
 ⟨ge,Mt ge hp ht,hp,fun k z=>(by rw[hv]at z;cases z),hi⟩
def hu1(O:iJ C X c):X.A.units+1<cLine:=by have:=O.hu;omega
def RV{g:Nat}(h:fnAt C x=some (g,fl)):C.fns[g]? =some (x,fl):=by
 unfold fnAt at h
 simp only[QJq,QJz]at h
 obtain⟨g',h1,⟨y,fl'⟩,h2,h3⟩:=h
 cases h3
 have:=jb h1
 rw[QFz,h2]at this
 simp at this
 rw[h2,this]
def nP{name:Str}(h:isCall o=false):attributeBase o name env (eval o env)=eval o env:=by
 cases o<;>first|rfl|simp[isCall]at h
def Wd(I:Ih c n)(O:iJ C X c)(h:dC (n+1) C e=some m):Sd X c m e:=by
 have no:∀{P:Prop},none=some m->P:=fun z=>nomatch z
 unfold dC at h
 split at h
 ·simp only[QJz]at h
  obtain⟨d,h1,rfl⟩:=h
  exact gf (YD (Nr h1)) rfl rfl rfl rfl
 ·exact DW O h
 ·simp only[QJz]at h
  obtain⟨m1,h1,rfl⟩:=h
  exact gf (Yq (I.es C X _ m1 O h1).ga) rfl rfl rfl rfl
 ·simp only[QJz]at h
  obtain⟨m1,h1,rfl⟩:=h
  exact gf (Yw (I.es C X _ m1 O h1).ga) rfl rfl rfl rfl
 ·simp only[QJq,QJz]at h
  obtain⟨o,h0,m1,h1,m2,h2,rfl⟩:=h
  rw[Xl h0]
  exact gf (acE (I.e C X _ m1 O h1).ge (I.e C X _ m2 O h2).ge) rfl rfl rfl rfl
 ·split at h
  ·simp only[QJz]at h
   obtain⟨m1,h1,rfl⟩:=h
   exact gf (Yv (I.e C X _ m1 O h1).ge) rfl rfl rfl rfl
  ·simp only[QJz]at h
   obtain⟨m1,h1,rfl⟩:=h
   have s:=I.e C X _ m1 O h1
   exact⟨Yu s.ge,Yg s.gt,rfl,fun k z=>(by cases z),rfl⟩
  ·exact no h
 ·simp only[QJq]at h
  obtain⟨m1,h1,h2⟩:=h
  split at h2
  ·exact no h2
  ·rename_i hn
   cases (I.es C X _ m1 O h1)with
   |nil=>exact absurd rfl hn
   |cons s t=>
    split at h2
    ·cases h2
     exact⟨(Al.cons s t).and.1,(Al.cons s t).and.2.t,rfl,fun k z=>(by cases z),rfl⟩
    ·cases h2
     exact⟨(Al.cons s t).or.1,(Al.cons s t).or.2.t,rfl,fun k z=>(by cases z),rfl⟩
 ·split at h
  ·simp only[QJq,QJz]at h
   obtain⟨o,h0,m1,h1,m2,h2,rfl⟩:=h
   rw[CQ h0]
   have s1:=I.e C X _ m1 O h1
   have s2:=I.e C X _ m2 O h2
   exact⟨YF (oG O.hu o) s1.ge s2.ge s2.va (rH s2.pl _),Yi (oG O.hu o) s1.ge s2.ge s2.va (rH s2.pl _),rfl,fun k z=>(by cases z),rfl⟩
  ·simp only[QJq,QJz]at h
   obtain⟨o,h0,o2,h02,m1,h1,m2,h2,m3,h3,rfl⟩:=h
   rw[CQ h0,CQ h02]
   have s1:=I.e C X _ m1 O h1
   have s2:=I.e C X _ m2 O h2
   have s3:=I.e C X _ m3 O h3
   have hm:∀b,lastMarks [eG o,eG o2] [b,_]=false:=fun b=>rH s3.pl _
   exact⟨MT (oG O.hu o) (oG O.hu o2) s1.ge s2.ge s3.ge (hm _),Mu (oG O.hu o) (oG O.hu o2) s1.ge s2.ge s3.ge (hm _),rfl,fun k z=>(by cases z),rfl⟩
  ·exact no h
 ·simp only[QJq,QJz]at h
  obtain⟨m1,h1,m2,h2,m3,h3,rfl⟩:=h
  have s1:=I.e C X _ m1 O h1
  have s2:=I.e C X _ m2 O h2
  have s3:=I.e C X _ m3 O h3
  exact⟨Yx s1.gt s2.ge s3.ge,Yh s1.gt s2.gt s3.gt,rfl,fun k z=>(by cases z),rfl⟩
 ·split at h
  ·split at h
   ·simp only[QJq,QJz]at h
    obtain⟨m1,h1,m2,h2,m3,h3,rfl⟩:=h
    exact gf (Yr (I.e C X _ m1 O h1).ge (I.o C X _ m2 O h2) (I.o C X _ m3 O h3)) rfl rfl rfl rfl
   ·exact no h
  ·simp only[QJq,QJz]at h
   obtain⟨m1,h1,m2,h2,rfl⟩:=h
   have s1:=I.e C X _ m1 O h1
   have s2:=I.e C X _ m2 O h2
   exact gf (Yz (by have:=O.hu;omega) s1.ge s2.ge s1.va (Br s2.pl)) rfl rfl rfl rfl
 ·split at h
  ·split at h
   ·split at h
    ·rename_i hx
     rw[QUq]at hx
     split at h
     ·rename_i g fl hf
      simp only[QJq]at h
      obtain⟨m1,h1,h2⟩:=h
      split at h2
      ·exact no h2
      ·rename_i hn
       cases h2
       obtain⟨k,f,fd,ps,F,hr,hm,hk,hb,hl⟩:=O.fn g _ fl (RV hf)
       cases (I.a C X _ _ m1 O h1)with
       |nil=>exact absurd rfl hn
       |cons ge pl t=>
        exact gf (RN F hr (lH O hx.2) hm hk hb (El hx.1).1 (Ar.cons ge pl t).ga (bG pl _ _) t.plain hl) rfl rfl rfl rfl
     ·obtain⟨ge,h1,h2⟩:=I.b C X _ _ m _ _ O hx.2 h
      exact gf ge rfl h1 h2 rfl
    ·exact no h
   ·split at h
    ·rename_i hl
     split at h
     ·split at h
      ·rename_i hx
       subst hx
       simp only[QJq,QJz]at h
       obtain⟨m1,h1,u,h0,m2,h2,rfl⟩:=h
       split at h0
       ·rename_i hp
        rw[QUq]at hp
        have s2:=I.e C X _ m2 O h2
        exact gf (MP ⟨nP (by simpa using hp.2),hl,bG s2.pl _ _⟩ (I.e C X _ m1 O h1).ge s2.ge) rfl rfl rfl rfl
       ·cases h0
      ·split at h
       ·rename_i hx
        subst hx
        split at h
        ·simp only[QJq]at h
         obtain⟨v,h1,h2⟩:=h
         split at h2
         ·simp only[QJz]at h2
          obtain⟨m2,h3,rfl⟩:=h2
          have s2:=I.e C X _ m2 O h3
          exact gf (MN ⟨rfl,hl,bG s2.pl _ _⟩ (zc O h1) s2.ge) rfl rfl rfl rfl
         ·exact no h2
        ·exact no h
       ·exact no h
     ·split at h
      ·rename_i hx
       subst hx
       simp only[QJq,QJz]at h
       obtain⟨m1,h1,u,h0,m2,h2,m3,h3,rfl⟩:=h
       split at h0
       ·rename_i hp
        rw[QUq]at hp
        have s1:=I.e C X _ m1 O h1
        have s2:=I.e C X _ m2 O h2
        have s3:=I.e C X _ m3 O h3
        exact gf (RK (hu1 O) ⟨nP (by simpa using hp.2),by rw[bG s2.pl,bG s3.pl];rfl,hl,by rw[bG s2.pl,bG s3.pl];rfl⟩ s1.va s1.ge s2.ge s3.ge) rfl rfl rfl rfl
       ·cases h0
      ·exact no h
     ·exact no h
    ·exact no h
   ·exact no h
  ·exact no h
 ·split at h
  ·rename_i hx
   simp only[QUq,List.isEmpty_iff]at hx
   obtain⟨rfl,rfl⟩:=hx
   cases h
   exact gf YB rfl rfl rfl rfl
  ·split at h
   ·rename_i hx
    simp only[QUq,QUz]at hx
    simp only[QJz]at h
    obtain⟨m1,h1,rfl⟩:=h
    obtain⟨nT,K,a⟩:=I.d C X _ _ m1 O h1
    exact gf (YC (by have:=O.hu;omega) K a hx.1.1 (fun z=>by rw[z]at hx;simp at hx) hx.1.2) rfl rfl rfl rfl
   ·exact no h
 ·split at h
  ·rename_i elt sc pos g
   obtain⟨η,tg,it,cond,m',rfl,B,gi,gp,ha⟩:=I.k C X _ _ _ m O h
   obtain⟨ta,ti,tf,tn⟩:=g
   subst ha
   exact gf (RM B gi O.calm (fun x=>xg gp _ _)) rfl rfl rfl rfl
  ·exact no h
 ·exact no h
end
theorem ih c:∀n,Ih c n
 |0=>ih0 c
 |n+1=>let I:=ih c n
  ⟨fun C X e m O h=>Wd I O h,fun C X es m O h=>PX I O h,fun C X fl es m O h=>Wg I O h,fun C X o m O h=>V9 I O h,fun C X x args m p pos O hg h=>Wf I O hg h,fun C X tg e m O h=>Wb I O h,fun C X elt g sc m O h=>Wa I O h,fun C X ks vs m O h=>We I O h⟩
def NE{α:Type}(r:Out α):Prop:=∀k σ,r≠ .exc k σ
section
theorem NE.ok(a:α)σ:NE (.ok a σ):=fun _ _ z=>nomatch z
theorem NE.bad:NE (.bad:Out α):=fun _ _ z=>nomatch z
theorem NE.lift σ(o:Option α):NE (lift σ o):=by cases o<;>(intro _ _ z;cases z)
theorem NE.bind{f:α->Ev->Out β}(h:NE r)(g:∀a σ,NE (f a σ)):NE (r.bind f):=by
 cases r with
 |ok a σ=>exact g a σ
 |exc k σ=>exact absurd rfl (h k σ)
 |bad=>exact NE.bad
theorem NE.ao{f:D->Ev->Out β}(h:NE r)(g:∀a σ,NE (f a σ)):NE (r.ao f):=by
 cases r with
 |ok a σ=>cases a<;>first|exact g _ _|exact NE.bad
 |exc k σ=>exact absurd rfl (h k σ)
 |bad=>exact NE.bad
theorem NE.cH{r:Out Rv}{f:Bool->Ev->Out β}(h:NE r)(g:∀a σ,NE (f a σ)):NE (r.cH tr f):=
 NE.ao h fun d σ=>by
  cases tr d with
  |none=>exact NE.bad
  |some b=>exact g b σ
def NE.ite{p:Prop}[Decidable p]{a b:Out α}(h:NE a)(g:NE b):NE (if p then a else b):=by split<;>assumption
end
def Rb c f as σ:NE (tE c f as σ):=by
 unfold tE
 split
 ·exact NE.bad
 ·split
  ·split
   ·exact NE.ok _ _
   ·exact NE.bad
  ·exact NE.bad
def Xn k y σ:NE (rA k y σ):=by
 unfold rA
 split
 ·refine NE.ite NE.bad ?_
  split
  ·split
   ·exact NE.ok _ _
   ·exact NE.bad
  ·exact NE.bad
 ·exact NE.bad
def Ra k σ:NE (q8 k σ):=by
 unfold q8
 split<;>first|exact NE.ok _ _|exact NE.bad
def wJ(c:Cf):∀(m:E)(σ:Ev),NE (ev c m σ)/\NE (evs c m σ)/\NE (gW c m σ)/\NE (nG c m σ):=by
 have k3:∀{m:E},(∀σ,NE (ev c m σ))->(∀σ,evs c m σ=.bad)->(∀σ,gW c m σ=.bad)->(∀σ,nG c m σ=.bad)->∀σ,NE (ev c m σ)/\NE (evs c m σ)/\NE (gW c m σ)/\NE (nG c m σ):=fun h a b d σ=>by
  rw[a,b,d]
  exact⟨h σ,NE.bad,NE.bad,NE.bad⟩
 intro m
 induction m with
 |var i=>exact k3 (fun σ=>Ra i σ) (fun _=>rfl) (fun _=>rfl) fun _=>rfl
 |con d=>exact k3 (fun σ=>NE.ok _ _) (fun _=>rfl) (fun _=>rfl) fun _=>rfl
 |glob k=>exact k3 (fun σ=>by rw[v_2];split<;>first|exact NE.ok _ _|exact NE.bad) (fun _=>rfl) (fun _=>rfl) fun _=>rfl
 |nil=>exact fun σ=>⟨NE.bad,NE.ok _ _,NE.bad,NE.bad⟩
 |cons h t ih jh=>
  intro σ
  refine⟨NE.bad,NE.bind (ih σ).1 fun x σ=>NE.bind (jh σ).2.1 fun _ _=>NE.ok _ _,?_,?_⟩
  ·cases t with
   |nil=>exact(ih σ).1
   |_=>exact NE.ao (ih σ).1 fun x σ=>(by split<;>first|exact(jh σ).2.2.1|exact NE.ok _ _|exact NE.bad)
  ·cases t with
   |nil=>exact(ih σ).1
   |_=>exact NE.ao (ih σ).1 fun x σ=>(by split<;>first|exact(jh σ).2.2.2|exact NE.ok _ _|exact NE.bad)
 |tup es ih=>exact k3 (fun σ=>NE.bind (ih σ).2.1 fun _ _=>NE.lift _ _) (fun _=>rfl) (fun _=>rfl) fun _=>rfl
 |lis es ih=>exact k3 (fun σ=>NE.bind (ih σ).2.1 fun _ _=>NE.lift _ _) (fun _=>rfl) (fun _=>rfl) fun _=>rfl
 |op o a b ih jh=>exact k3 (fun σ=>NE.ao (ih σ).1 fun _ σ=>NE.ao (jh σ).1 fun _ _=>NE.lift _ _) (fun _=>rfl) (fun _=>rfl) fun _=>rfl
 |neg a ih=>exact k3 (fun σ=>NE.ao (ih σ).1 fun _ σ=>NE.lift _ _) (fun _=>rfl) (fun _=>rfl) fun _=>rfl
 |cmp o a b ih jh=>exact k3 (fun σ=>NE.ao (ih σ).1 fun _ σ=>by split<;>first|exact NE.lift _ _|exact NE.ao (jh σ).1 fun _ _=>NE.lift _ _) (fun _=>rfl) (fun _=>rfl) fun _=>rfl
 |chain o p a b d ih jh kh=>exact k3 (fun σ=>NE.ao (ih σ).1 fun _ σ=>NE.ao (jh σ).1 fun _ σ=>NE.bind (NE.lift _ _) fun _ σ=>NE.ite (NE.ao (kh σ).1 fun _ _=>NE.lift _ _) (NE.ok _ _)) (fun _=>rfl) (fun _=>rfl) fun _=>rfl
 |and es ih=>exact k3 (fun σ=>(ih σ).2.2.1) (fun _=>rfl) (fun _=>rfl) fun _=>rfl
 |or es ih=>exact k3 (fun σ=>(ih σ).2.2.2) (fun _=>rfl) (fun _=>rfl) fun _=>rfl
 |not a ih=>exact k3 (fun σ=>NE.cH (ih σ).1 fun _ _=>NE.ok _ _) (fun _=>rfl) (fun _=>rfl) fun _=>rfl
 |ite t a b ih jh kh=>exact k3 (fun σ=>NE.cH (ih σ).1 fun _ σ=>NE.ite (jh σ).1 (kh σ).1) (fun _=>rfl) (fun _=>rfl) fun _=>rfl
 |idx a i ih jh=>exact k3 (fun σ=>by rw[Jq];split<;>first|exact NE.ite NE.bad (NE.ao (jh σ).1 fun _ _=>NE.lift _ _)|exact NE.ao (ih σ).1 fun _ σ=>NE.ao (jh σ).1 fun _ _=>NE.lift _ _) (fun _=>rfl) (fun _=>rfl) fun _=>rfl
 |slc a lo hi ih jh kh=>exact k3 (fun σ=>NE.ao (ih σ).1 fun _ σ=>NE.ao (jh σ).1 fun _ σ=>by split<;>first|exact NE.bad|exact NE.ao (kh σ).1 fun _ _=>NE.lift _ _) (fun _=>rfl) (fun _=>rfl) fun _=>rfl
 |noneE=>exact k3 (fun σ=>NE.ok _ _) (fun _=>rfl) (fun _=>rfl) fun _=>rfl
 |call f as ih=>exact k3 (fun σ=>NE.bind (ih σ).2.1 fun _ _=>Rb _ _ _ _) (fun _=>rfl) (fun _=>rfl) fun _=>rfl
 |ref i=>exact k3 (fun σ=>by rw[Pz];split<;>first|exact NE.ok _ _|exact NE.bad) (fun _=>rfl) (fun _=>rfl) fun _=>rfl
 |rd e ih=>exact k3 (fun σ=>(ih σ).1) (fun _=>rfl) (fun _=>rfl) fun _=>rfl
 |isi a t ih=>exact k3 (fun σ=>NE.ao (ih σ).1 fun _ _=>NE.ok _ _) (fun _=>rfl) (fun _=>rfl) fun _=>rfl
 |bi b a ih=>exact k3 (fun σ=>by rw[pU];split<;>first|exact NE.lift _ _|exact NE.ao (ih σ).1 fun _ _=>NE.lift _ _) (fun _=>rfl) (fun _=>rfl) fun _=>rfl
 |range1 a ih=>exact k3 (fun σ=>NE.ao (ih σ).1 fun _ _=>NE.lift _ _) (fun _=>rfl) (fun _=>rfl) fun _=>rfl
 |zip a b ih jh=>exact k3 (fun σ=>NE.ao (ih σ).1 fun _ σ=>NE.ao (jh σ).1 fun _ _=>NE.lift _ _) (fun _=>rfl) (fun _=>rfl) fun _=>rfl
 |count a b ih jh=>exact k3 (fun σ=>NE.ao (ih σ).1 fun _ σ=>NE.ite NE.bad (NE.ao (jh σ).1 fun _ _=>NE.lift _ _)) (fun _=>rfl) (fun _=>rfl) fun _=>rfl
 |popAt i a ih=>exact k3 (fun σ=>NE.ite NE.bad (NE.ao (ih σ).1 fun _ _=>Xn _ _ _)) (fun _=>rfl) (fun _=>rfl) fun _=>rfl
 |index a b ih jh=>exact k3 (fun σ=>NE.ao (ih σ).1 fun _ σ=>NE.ite NE.bad (NE.ao (jh σ).1 fun _ _=>NE.lift _ _)) (fun _=>rfl) (fun _=>rfl) fun _=>rfl
 |get2 a b d ih jh kh=>
  refine k3 (fun σ=>?_) (fun _=>rfl) (fun _=>rfl) fun _=>rfl
  rw[VG]
  split
  ·exact NE.ite NE.bad (NE.ao (jh σ).1 fun _ σ=>NE.ao (kh σ).1 fun _ _=>NE.lift _ _)
  ·exact NE.bad
 |dsp es ih=>exact k3 (fun σ=>NE.bind (ih σ).2.1 fun _ _=>NE.lift _ _) (fun _=>rfl) (fun _=>rfl) fun _=>rfl
 |emp=>exact k3 (fun σ=>NE.ok _ _) (fun _=>rfl) (fun _=>rfl) fun _=>rfl
 |enum a ih=>exact k3 (fun σ=>NE.ao (ih σ).1 fun _ _=>NE.lift _ _) (fun _=>rfl) (fun _=>rfl) fun _=>rfl
 |comp nl tg it cond elt ih _ _=>
  refine k3 (fun σ=>?_) (fun _=>rfl) (fun _=>rfl) fun _=>rfl
  rw[mJ]
  refine NE.ao (ih σ).1 fun _ σ=>?_
  split
  ·split
   ·exact NE.ok _ _
   ·exact NE.bad
  ·exact NE.bad
section
def GE.w(h:GE X W0 c m e):GE X W c m e:=fun env=>PE.imp (h env) fun σ H Q⟨S,q⟩=>by
 refine⟨S,?_⟩
 cases r:ev c m env with
 |exc k ζ=>exact absurd r ((wJ c m env).1 k ζ)
 |_=>rw[r]at q;exact q
def GA.w(h:GA X W0 c m es):GA X W c m es:=fun env p γ s σ H R I q=>h env p γ s σ H R I (by
 obtain⟨S,q⟩:=q
 refine⟨S,?_⟩
 cases r:evs c m env with
 |exc k ζ=>exact absurd r ((wJ c m env).2.1 k ζ)
 |_=>rw[r]at q;exact q)
def GT.w(h:GT X W0 c m e):GT X W c m e:=PT.imp h fun σ H Q⟨env,S,q⟩=>by
 refine⟨env,S,?_⟩
 cases r:ev c m env with
 |exc k ζ=>exact absurd r ((wJ c m env).1 k ζ)
 |_=>rw[r]at q;exact q
def GI.w(h:GI X W0 c m tg e):GI X W c m tg e:=fun env γ s σ H R I q=>h env γ s σ H R I (by
 obtain⟨S,q⟩:=q
 refine⟨S,?_⟩
 cases r:ev c m env with
 |exc k ζ=>exact absurd r ((wJ c m env).1 k ζ)
 |_=>rw[r]at q;exact q)
end
structure Top(C:Ct)(X:Cx)(W:Wi)(c:Cf):Prop where
 fn:∀x,X.fn x=true
 po:PassesOwn (model X.prog X.w) X.A X.env X.xe
 ra:∀e f p n m,Tw (n+1) C (.Raise e f p)=some m->GS X W c m (.Raise e f p)
 cx:∀f args kw cp p n m,Ih c n->rzB C f=true->trX n C f args kw=some m->GS X W c m (.Expr (.Call f args kw cp) p)
section
theorem R6(O:iJ C X c):∀{n:Nat}{elt:Expr}{gens:List Comprehension}{sc:Scope}{pos:Pos},dC n C (.ListComp elt gens sc pos)=some m->∃g,gens=[g]/\Dr X c m elt g sc
 |0,_,_,_,_,h=>by rw[dC]at h;cases h
 |n+1,elt,gens,sc,pos,h=>by
  unfold dC at h
  simp only at h
  split at h
  ·exact⟨_,rfl,(ih c n).k C X _ _ _ m O h⟩
  ·cases h
def rJ(O:iJ C X c)(h:Hy C.sc x=true):Loc X.env.scope x:=by
 unfold Hy at h
 rw[O.sc]
 rw[Bool.or_eq_true]at h
 rcases h with h|h
 ·exact .inl (by simpa using h)
 ·exact .inr (by simpa using h)
def mO{t:Option Expr}{env:Env}(hp:plain e=true)(hc:oY e=false):swapsWith e t l env=pure false:=by
 cases e<;>first|rfl|exact absurd (hp) Qjz|exact absurd (hc) (fun h=>Qjz h.symm)
def Ao{es:List Expr}{q:Pos}(h:isTup e=false):swappedStores [.Tuple es k q] e env=pure none:=by
 cases e<;>first|rfl|exact absurd (h) (fun h=>Qjz h.symm)
def yt{q:Pos}:swappedStores [.Subscript o i q] e env=pure none:=by
 cases e<;>rfl
def DQ{l:Nat}:swapsWithSole [t] e l env=swapsWith e (some t) l env:=rfl
def Sx{tp:Pos}{v:Value}(h:isSlice i=false):assign (.Subscript o i tp) env v=(do
   let ov<-holding [v] (eval o env)
   let iv<-holding [v,ov] (eval i env)
   standAt tp
   holding [v,ov,iv] (setItem ov iv v)
   release [v,ov,iv] []):=by
 cases i<;>first|rfl|(simp[isSlice]at h;done)
theorem qP(O:iJ C X c)(T:Top C X W c):∀{es:List Expr}{is:List Nat},slotsOf C es=some is->tY X is es/\(assignEach es X.env).length=is.length/\(assignEach es X.env).findIdx? (·.1)=none
 |[],is,h=>by cases h;exact⟨.nil,rfl,rfl⟩
 |e::es,is,h=>by
  cases e<;>simp only[slotsOf]at h<;>try (cases h;done)
  rename_i x q
  split at h
  ·rename_i hl
   simp only[QJq,QJz]at h
   obtain⟨i,h1,js,h2,rfl⟩:=h
   obtain⟨a1,a2,a3⟩:=qP O T h2
   refine⟨.cons (by rw[O.N];exact jb h1) (rJ O hl) (.inl (T.fn x)) a1,?_,?_⟩
   ·show(_::assignEach es X.env).length=_
    simp[a2]
   ·show(List.findIdx? (·.1) ((false,_)::assignEach es X.env))=none
    rw[List.findIdx?_cons]
    simp[a3]
  ·cases h
def uW(O:iJ C X c):X.N.Nodup:=by rw[O.N];exact O.nd
def Jw(O:iJ C X c)(T:Top C X W c){e:Expr}(h:Jx C e=some tg):GG X tg e:=by
 cases e<;>simp only[Jx]at h<;>try (cases h;done)
 ·rename_i x q
  split at h
  ·rename_i hl
   simp only[QJz]at h
   obtain⟨i,h1,rfl⟩:=h
   exact w6 (uW O) (by rw[O.N];exact jb h1) (rJ O hl) (.inl (T.fn x))
  ·cases h
 ·simp only[QJz]at h
  obtain⟨is,h1,rfl⟩:=h
  obtain⟨a1,a2,a3⟩:=qP O T h1
  exact Cg (uW O) O.calm a1 a2 a3
def acJ{x:Str}(O:iJ C X c)(h:(decide (x="enumerate")&&xX C.sc x&&(fnAt C x).isNone)=true):x="enumerate"/\Gl X "enumerate":=by
 simp only[QUq,QUz]at h
 obtain⟨⟨rfl,h2⟩,_⟩:=h
 exact⟨rfl,lH O h2⟩
def Wc(J:Ih c n)(O:iJ C X c)(h:trF n C tg e=some m):GI X W0 c m tg e/\plain e=true:=by
 unfold trF at h
 split at h
 ·rename_i m' e1
  cases h
  unfold trN at e1
  split at e1
  ·rename_i ht
   split at e1
   ·split at e1
    ·split at e1
     ·rename_i hx
      obtain⟨rfl,hg⟩:=acJ O hx
      simp only[QJz]at e1
      obtain⟨m1,h1,rfl⟩:=e1
      have s1:=J.e C X _ m1 O h1
      cases tg with
      |Tuple elts x1 tp=>exact⟨RG s1.ge hg (O.bi _ (by decide)) (bG s1.pl _ _),rfl⟩
      |_=>cases ht
     ·cases e1
    ·cases e1
   ·cases e1
  ·cases e1
 ·exact J.i C X _ _ m O h
theorem Ib(O:iJ C X c)(T:Top C X W c){scope:Scope}{tg:Tg}{it cond elt:E}{ifs:List Expr}{i:Nat}(B:Ac X c scope η tg cond elt Ψ Δ ifs)(hi:GI X W c it Ψ ο)(gp:plain ο=true)
  (ge:GE X W c (.comp η.length tg it cond elt) (.ListComp Δ [⟨Ψ,ο,ifs,0⟩] scope cp))(hN:X.N[i]? =some x)(hl:Hy C.sc x=true):
  GS X W c (.set i (.comp η.length tg it cond elt)) (.Assign [.Name x np] (.ListComp Δ [⟨Ψ,ο,ifs,0⟩] scope cp) sp):=by
 have key:∃b:Bool,swapsWith (.ListComp Δ [⟨Ψ,ο,ifs,0⟩] scope cp) (some (.Name x np)) sp.line X.env=pure b:=⟨_,rfl⟩
 obtain⟨b,hb⟩:=key
 cases b with
 |false=>exact My ge (uW O) hN (rJ O hl) (.inl (T.fn x)) hb
 |true=>exact Cd B hi O.calm (fun x=>xg gp _ _) (uW O) hN (rJ O hl) (.inl (T.fn x)) hb
structure IhS(c:Cf)(n:Nat):Prop where
 s:∀C X W st m,iJ C X c->Top C X W c->Tw n C st=some m->GS X W c m st
 ss:∀C X W st m,iJ C X c->Top C X W c->qJ n C st=some m->Ph X W c m st
def af0 c:IhS c 0:=by
 constructor
 all_goals (intros;rename_i h;first|(rw[Tw]at h;cases h)|(rw[qJ]at h;cases h))
def PQ(I:IhS c n)(O:iJ C X c)(T:Top C X W c){m:S}(h:qJ (n+1) C st=some m):Ph X W c m st:=by
 cases st with
 |nil=>rw[qJ]at h;cases h;exact Rz
 |cons s st=>
  rw[qJ]at h
  simp only[QJq,QJz]at h
  obtain⟨m1,h1,m2,h2,rfl⟩:=h
  exact Mv (I.s C X W s m1 O T h1) (I.ss C X W st m2 O T h2)
def V8(I:IhS c n)(O:iJ C X c)(T:Top C X W c){st:Stmt}{m:S}(h0:Tw (n+1) C st=some m):GS X W c m st:=by
 have J:=ih c n
 have no:∀{P:Prop},(none:Option S)=some m->P:=fun z=>nomatch z
 have h:=h0
 unfold Tw at h
 split at h
 ·split at h
  ·cases h;exact RC
  ·simp only[QJz]at h
   obtain⟨m1,h1,rfl⟩:=h
   have s:=J.e C X _ m1 O h1
   exact Yk s.ge.w s.va
 ·split at h
  ·split at h
   ·rename_i e _ _ _ x _
    split at h
    ·rename_i hl
     simp only[QJq,QJz]at h
     obtain⟨i,h1,m1,h2,rfl⟩:=h
     have s:=J.e C X _ m1 O h2
     have hN:X.N[i]? =some x:=by rw[O.N];exact jb h1
     cases hc:oY e with
     |false=>exact My s.ge.w (uW O) hN (rJ O hl) (.inl (T.fn x)) (mO s.pl hc)
     |true=>
      cases e<;>simp[oY]at hc
      rename_i elt gens sc cp
      obtain⟨g,rfl,η,tg,it,cond,m',rfl,B,gi,gp,ha⟩:=R6 O h2
      obtain⟨ta,ti,tf,tn⟩:=g
      simp only at ha
      subst ha
      exact Ib O T B gi.w gp s.ge.w hN hl
    ·exact no h
   ·split at h
    ·exact no h
    ·rename_i hx
     rw[Bool.not_eq_true,Bool.or_eq_false_iff]at hx
     simp only[QJq,QJz]at h
     obtain⟨is,h1,m1,h2,rfl⟩:=h
     have s:=J.e C X _ m1 O h2
     obtain⟨a1,a2,a3⟩:=qP O T h1
     exact RB s.ge.w (Cg (uW O) O.calm a1 a2 a3) (by rw[DQ];exact mO s.pl hx.2) (Ao hx.1) rfl
   ·split at h
    ·split at h
     ·exact no h
     ·rename_i hx
      rw[Bool.not_eq_true,Bool.or_eq_false_iff]at hx
      simp only[QJq]at h
      obtain⟨v,h1,h⟩:=h
      split at h
      ·simp only[QJq,QJz]at h
       obtain⟨i,h2,m1,h3,rfl⟩:=h
       have s1:=J.e C X _ i O h2
       have s:=J.e C X _ m1 O h3
       exact Mx (zc O h1) s.ge.w s1.ge.w (fun v=>Sx hx.2) (by rw[DQ];exact mO s.pl hx.1) yt (by have:=O.hu;omega) rfl
      ·exact no h
    ·exact no h
   ·exact no h
  ·exact no h
 ·--an expression alone
  split at h
  ·have dflt:∀(e:Expr)(q:Pos),oY e=false->(dC n C e).map S.expr=some m->GS X W c m (.Expr e q):=fun e q hc z=>by
    simp only[QJz]at z
    obtain⟨m1,h1,rfl⟩:=z
    have s:=J.e C X _ m1 O h1
    exact RD s.ge.w (mO s.pl hc)
   split at h
   ·split at h
    ·split at h
     ·rename_i hx
      simp only[QUq,QUz]at hx
      obtain⟨hl,rfl⟩:=hx
      simp only[QJq]at h
      obtain⟨v,h1,h⟩:=h
      split at h
      ·simp only[QJz]at h
       obtain⟨m1,h2,rfl⟩:=h
       have s:=J.e C X _ m1 O h2
       exact Ig ⟨rfl,hl,bG s.pl _ _⟩ (zc O h1) s.ge.w
      ·exact no h
     ·split at h
      ·rename_i hx
       simp only[QUq,QUz]at hx
       obtain⟨hl,rfl⟩:=hx
       simp only[QJq]at h
       obtain⟨v,h1,h⟩:=h
       split at h
       ·simp only[QJz]at h
        obtain⟨m1,h2,rfl⟩:=h
        have s:=J.e C X _ m1 O h2
        exact Ie ⟨rfl,hl,bG s.pl _ _⟩ (zc O h1) s.ge.w
       ·exact no h
      ·exact dflt _ _ rfl h
    ·exact no h
   ·split at h
    ·rename_i hz
     exact T.cx _ _ _ _ _ _ _ J hz h
    ·exact dflt _ _ rfl h
  ·exact no h
 ·simp only[QJq,QJz]at h
  obtain⟨t,h1,a,h2,b,h3,rfl⟩:=h
  exact acz (J.e C X _ t O h1).gt.w (I.ss C X W _ a O T h2) (I.ss C X W _ b O T h3)
 ·split at h
  ·simp only[QJq,QJz]at h
   obtain⟨tg,h1,it,h2,b,h3,rfl⟩:=h
   obtain⟨gi,gp⟩:=Wc J O h2
   exact Yl T.po O.calm gi.w (Jw O T h1) (I.ss C X W _ b O T h3) (fun x=>xg gp _ _)
  ·exact no h
 ·split at h
  ·simp only[QJq,QJz]at h
   obtain⟨t,h1,b,h3,rfl⟩:=h
   exact Mw T.po (J.e C X _ t O h1).gt.w (I.ss C X W _ b O T h3)
  ·exact no h
 ·exact T.ra _ _ _ _ _ h0
 ·exact no h
end
def Qw{e f:Option Expr}{n:Nat}(h:Tw (n+1) C (.Raise e f p)=some m):m=.raise (J1 C e f):=by
 unfold Tw at h
 cases h
 rfl
def abg(hz:C.rz=[])f:rzB C f=false:=by
 cases f<;>first|rfl|(unfold rzB;rw[hz];rfl)
def Top.plain{X:Cx}(hf:∀x,X.fn x=true)(hp:PassesOwn (model X.prog X.w) X.A X.env X.xe)(hz:C.rz=[]):Top C X W0 c:=
 ⟨hf,hp,fun e f p n m h=>by rw[Qw h];exact Mz,fun f _ _ _ _ _ _ _ z=>by rw[abg hz f]at z;cases z⟩
theorem ihS c:∀n,IhS c n
 |0=>af0 c
 |n+1=>let I:=ihS c n
  ⟨fun C X W st m O T h=>V8 I O T h,fun C X W st m O T h=>PQ I O T h⟩
structure Df where
 x:Str
 st:Stmt
 N:List Str
 ps:List Str
 fl:List Bool
 exs:List Str:=[]
 rz:List Str:=[]
def aem(ds:List Df):List (Str×List Bool):=ds.map fun d=>(d.x,d.fl)
noncomputable def acL(ds:List Df)(nW:List Str)(d:Df):Ct:={N:=d.N,sc:=bA d.st,fns:=aem ds,nW:=nW,exs:=d.exs}
noncomputable def fnOf(ds:List Df)(nW:List Str)(d:Df):Option Fn:=(qJ 60 (acL ds nW d) (eE d.st)).map fun b=>{pars:=d.ps.length,names:=d.N.length,body:=b}
structure vX(K:QQq)(mg:QZz)(d:Df)(f:Addr)(fd:FuncData):Prop where
 fu:Zc K d.x d.x d.st f fd
 bi:Binds K fd d.ps []
 at_:mg d.x=some (.ref f)
section
variable{P:Program}{w:World}{base:Heap}{p:Pg}{fa:Nat->Addr}{fd:Nat->FuncData}
theorem Eg(hfn:∀i d,ds[i]? =some d->vX K mg d (fa i) (fd i))(hsc:∀d∈ds,lD d.N d.ps (bA d.st))(htr:∀(i:Nat)d,ds[i]? =some d->∃g,p.fns[i]? =some g/\fnOf ds nW d=some g)
  (hbi:∀x∈nM,mg x=none)(hgl:∀(k:Nat)x,nW[k]? =some x->∃d v u,p.gl k=some d/\mg x=some u/\RelV v u/\∀H,bI K H d v):
  ∀(n i:Nat)d,ds[i]? =some d->pD P w K mg base O6 n (fa i) (fd i) d.ps (wg K d.ps.length (p.fn n i))
 |0,i,d,e=>by
  have no:∀vs H Q E,¬wg K d.ps.length (p.fn 0 i) vs H Q E:=fun vs H Q E h=>by
   obtain⟨_,_,_,_,z⟩:=h
   exact z
  exact⟨fun vs H Q E h=>absurd h (no vs H Q E),fun A outer s H args us vs Q E _ _ _ _ h=>absurd h (no vs H Q E)⟩
 |n+1,i,d,e=>by
  have IH:=Eg hfn hsc htr hbi hgl n
  have D:=hfn i d e
  obtain⟨g,hg,ht⟩:=htr i d e
  unfold fnOf at ht
  simp only[QJz]at ht
  obtain⟨b,hb,rfl⟩:=ht
  have S:=hsc d (QBz e)
  have hp:p.fn (n+1) i=iz (p.cf n) {pars:=d.ps.length,names:=d.N.length,body:=b}:=by
   funext sl
   show(match p.fns[i]? with|some g=>iz (p.cf n) g sl|none=>p.pf (p.cf n) i sl)=_
   rw[hg]
  rw[hp]
  refine RT D.fu S rfl rfl fun cdv A outer s H E hr=>?_
  refine(ihS (p.cf n) 60).ss (acL ds nW d) _ W0 _ b ⟨rfl,rfl,S.nd,rfl,?_,hbi,fun k x hk=>?_,fun g x fl hk=>?_⟩ (.plain (fun _=>rfl) PassesOwn.never rfl) hb
  ·have:=hr.un
   show(A.deeper _).units+60<cLine
   omega
  ·obtain⟨dd,v,u,h1,h2,h3,h4⟩:=hgl k x hk
   exact⟨dd,h1,v,u,h2,h3,h4⟩
  ·have hk':(ds.map fun d=>(d.x,d.fl))[g]? =some (x,fl):=hk
   rw[QFz]at hk'
   cases q:ds[g]? with
   |none=>rw[q]at hk';cases hk'
   |some d2=>
    rw[q]at hk'
    simp at hk'
    obtain⟨rfl,rfl⟩:=hk'
    have D2:=hfn g d2 q
    refine⟨n,fa g,fd g,d2.ps,IH g d2 q,hr,D2.at_,D2.fu.kp,D2.bi,fun sl=>?_⟩
    show p.fn n g sl=.bad\/_
    cases n with
    |zero=>exact .inl rfl
    |succ n=>
     obtain⟨g2,hg2,ht2⟩:=htr g d2 q
     unfold fnOf at ht2
     simp only[QJz]at ht2
     obtain⟨b2,hb2,rfl⟩:=ht2
     have:p.fn (n+1) g sl=iz (p.cf n) {pars:=d2.ps.length,names:=d2.N.length,body:=b2} sl:=by
      show(match p.fns[g]? with|some g=>iz (p.cf n) g sl|none=>p.pf (p.cf n) g sl)=_
      rw[hg2]
     rw[this]
     exact G6 (p.cf n) _ sl
end
theorem Wl{K:QQq}{H:Hp}{ns:List Int}(hO:Only H)(hS:jB K H a (ns.map V.int))(hf:∃qs,f [.val (.lst (ns.map D.int))]=.ok (.val (.bl true)) qs)E:
  wg K 1 f [.ref a] H (fun v _=>v=.bl true) E:=by
 have den:bI K H (.lst (ns.map D.int)) (.ref a):=by
  have fr:Gs K H a (ns.map V.int):=by
   rcases hS with (h|⟨o,h⟩)|h
   ·rcases hO a with z|⟨o,xs,z⟩
    ·rw[z]at h;cases h
    ·rw[z]at h;cases h
   ·exact .inl ⟨o,h⟩
   ·exact .inr h
  have l:∀(ns:List Int),aq K H (ns.map D.int) (ns.map V.int):=fun ns=>by
   induction ns with
   |nil=>exact aq.gk
   |cons i r ih=>exact aq.dg rfl ih
  exact⟨a,_,rfl,fr,l ns⟩
 obtain⟨qs,hf⟩:=hf
 refine⟨[.val (.lst (ns.map D.int))],rfl,⟨rfl,fun i s e=>?_,fun i j b h1=>?_⟩,fun i o e=>?_,?_⟩
 ·cases i with
  |zero=>simp at e;subst e;exact⟨.ref a,rfl,den⟩
  |succ i=>simp at e
 ·obtain⟨⟨s,o,e1,e2⟩,_⟩:=h1
  cases i with
  |zero=>simp at e1;subst e1;cases e2
  |succ i=>simp at e1
 ·cases i with
  |zero=>simp at e
  |succ i=>simp at e
 ·rw[hf]
  exact fun v H' _ z=>z
def W9(a:Arguments):List Str:=a.args.map (·.arg)
noncomputable def namesOf(st:Stmt):List Str:=W9 (eF st)++(((bA st).names.filter fun p=>(p.2== .local||p.2== .cell)&& !(W9 (eF st)).contains p.1).map (·.1))
noncomputable def bL(x:Str)(st:Stmt)(fl:List Bool):Df:={x:=x,st:=st,N:=namesOf st,ps:=W9 (eF st),fl:=fl}
noncomputable def JN(d:Df):Bool:=
 decide ((bA d.st).kind=.function)&& !(bA d.st).isCoroutine&& !(bA d.st).isGenerator&&decide d.N.Nodup&&decide (d.N.take d.ps.length=d.ps)
 &&(d.ps.all fun x=>(bA d.st).names.lookup x==some .local||(bA d.st).names.lookup x==some .cell)&&((bA d.st).names.all fun y=>y.2 != .free)
def Qg(h:JN d=true):lD d.N d.ps (bA d.st):=by
 unfold JN at h
 simp only[QUq,QUz,Bool.not_eq_true',List.all_eq_true,Bool.or_eq_true,beq_iff_eq,bne_iff_ne,ne_eq]at h
 obtain⟨⟨⟨⟨⟨⟨h1,h2⟩,h3⟩,h4⟩,h5⟩,h6⟩,h7⟩:=h
 exact⟨h1,h2,h3,h4,h5,h6,h7⟩
noncomputable def vIs:Value->D->Bool
 |.none,.non=>true
 |.bool a,.bl b=>a==b
 |.int i _,.int j=>i==j
 |.str x _,.str y=>decide (x=y)
 |_,_=>false
noncomputable def Gw:List Value->List D->Bool
 |[],[]=>true
 |u::us,d::ds=>vIs u d&&Gw us ds
 |_,_=>false
noncomputable def Jt(o:Obj)(ds:List D):Bool:=o.cls== .type "tuple"&&o.dict.isNone&&match o.data with
 |.seq its _=>Gw its.toList ds&&decide (its.size<=1000)
 |_=>false
def S5(K:QQq)(mg:QZz)(x:Str)(d:D):Prop:=∃v u,mg x=some u/\RelV v u/\∀H,bI K H d v
def Jr{u:Value}(h:vIs u d=true):∃v,RelV v u/\∀H,bI K H d v:=by
 cases u<;>cases d<;>simp[vIs]at h
 ·exact⟨.non,rfl,fun H=>rfl⟩
 ·subst h;exact⟨.bl _,rfl,fun H=>rfl⟩
 ·subst h;exact⟨.int _,⟨_,rfl⟩,fun H=>rfl⟩
 ·subst h;exact⟨.str _,⟨_,rfl⟩,fun H=>rfl⟩
theorem Dt:∀{us:List Value}{ds:List D},Gw us ds=true->∃vs,Vals vs us/\∀H,aq K H ds vs
 |[],[]=>fun _=>⟨[],.nil,fun H=>aq.gk⟩
 |u::us,d::ds=>fun h=>by
  unfold Gw at h
  rw[QUq]at h
  obtain⟨v,r,e⟩:=Jr h.1
  obtain⟨vs,rs,es⟩:=Dt h.2
  exact⟨v::vs,.cons r rs,fun H=>aq.dg (e H) (es H)⟩
 |[],_::_=>fun h=>by simp[Gw]at h
 |_::_,[]=>fun h=>by simp[Gw]at h
section
def Ym(X:K.In h)(G:h.Ns mainGlobals mg)(e:PySem.W.nsIn K mainGlobals x=some (some u))(hv:vIs u d=true):S5 K mg x d:=by
 obtain⟨v,r,q⟩:=Jr hv
 exact⟨v,u,PySem.W.mg_of X G e,r,q⟩
def Yn(X:K.In h)(G:h.Ns mainGlobals mg)(e:PySem.W.nsIn K mainGlobals x=some (some (.ref a)))(l:K.lookup a=some o)(hv:Jt o ds=true):S5 K mg x (.tup ds):=by
 unfold Jt at hv
 simp only[QUq,beq_iff_eq,Option.isNone_iff_eq_none]at hv
 obtain⟨⟨hc,hd⟩,hv⟩:=hv
 split at hv
 ·rename_i its n hs
  rw[QUq,QUz]at hv
  obtain⟨vs,r,q⟩:=Dt hv.1
  exact⟨.ref a,_,PySem.W.mg_of X G e,rfl,fun H=>dG (.inr ⟨o,its,n,l,hc,hd,hs,Nat.le_of_lt (GZ hv.2),r⟩) (q H)⟩
 ·cases hv
end
noncomputable def Ae(K:QQq)(mg:QZz):List Df->List (Addr×FuncData)->Prop
 |[],[]=>True
 |d::ds,(f,fd)::r=>vX K mg d f fd/\Ae K mg ds r
 |_,_=>False
theorem Ae.at{K:QQq}{mg:QZz}:∀{ds:List Df}{fs:List (Addr×FuncData)},Ae K mg ds fs->∀(i:Nat)d,ds[i]? =some d->∃q,fs[i]? =some q/\vX K mg d q.1 q.2
 |[],_,_,i=>fun d e=>by simp at e
 |_::_,[],h,_=>fun _ _=>h.elim
 |d::ds,(f,fd)::r,h,0=>fun d' e=>by cases e;exact⟨(f,fd),rfl,h.1⟩
 |d::ds,_::r,h,i+1=>fun d' e=>h.2.at i d' e
noncomputable def Ad(K:QQq)(mg:QZz):List Str->List D->Prop
 |[],[]=>True
 |x::xs,d::ds=>S5 K mg x d/\Ad K mg xs ds
 |_,_=>False
theorem Ad.at{K:QQq}{mg:QZz}:∀{xs:List Str}{ds:List D},Ad K mg xs ds->∀(k:Nat)x,xs[k]? =some x->∃d,ds[k]? =some d/\S5 K mg x d
 |[],_,_,k=>fun x e=>by simp at e
 |_::_,[],h,_=>fun _ _=>h.elim
 |x::xs,d::ds,h,0=>fun x' e=>by cases e;exact⟨d,rfl,h.1⟩
 |x::xs,d::ds,h,k+1=>fun x' e=>h.2.at k x' e
noncomputable def Kr(ds:List Df)(nW:List Str)(vals:List D)(turns:Nat):Pg:=
 {fns:=ds.map fun d=>(fnOf ds nW d).getD {pars:=0,names:=0,body:=.nil},gl:=fun k=>vals[k]?,turns:=turns}
def PK{w:World}{mg:QZz}{ds:List Df}{vals:List D}{fs:List (Addr×FuncData)}(hD:Ae K mg ds fs)(hG:Ad K mg nW vals)
  (hS:ds.all JN=true)(hT:ds.all (fun d=>(fnOf ds nW d).isSome)=true)(hB:∀x∈nM,mg x=none)n i d f fd(hd:ds[i]? =some d)(hf:fs[i]? =some (f,fd)):
  pD P w K mg base O6 n f fd d.ps (wg K d.ps.length ((Kr ds nW vals turns).fn n i)):=by
 have z1:∀(i:Nat)d,ds[i]? =some d->vX K mg d (((fs[i]?).map (·.1)).getD 0) (((fs[i]?).map (·.2)).getD fd):=fun i d e=>by
  obtain⟨q,e1,e2⟩:=hD.at i d e
  simp only[e1,Option.map_some,Option.getD_some]
  exact e2
 have z2:∀i d,ds[i]? =some d->∃g,(Kr ds nW vals turns).fns[i]? =some g/\fnOf ds nW d=some g:=fun i d e=>by
  have hs:=List.all_eq_true.mp hT d (QBz e)
  obtain⟨g,hg⟩:=Option.isSome_iff_exists.mp hs
  refine⟨g,?_,hg⟩
  show(ds.map fun d=>(fnOf ds nW d).getD {pars:=0,names:=0,body:=.nil})[i]? =some g
  rw[QFz,e]
  simp[hg]
 have z3:∀k x,nW[k]? =some x->∃d v u,(Kr ds nW vals turns).gl k=some d/\mg x=some u/\RelV v u/\∀H,bI K H d v:=fun k x e=>by
  obtain⟨dd,e1,v,u,z1,z2,z3⟩:=hG.at k x e
  exact⟨dd,v,u,e1,z1,z2,z3⟩
 have Z:=Eg (P:=P) (w:=w) (base:=base)
  z1 (fun d hd=>Qg (List.all_eq_true.mp hS d hd)) z2 hB z3 n i d hd
 simp only[hf,Option.map_some,Option.getD_some]at Z
 exact Z
def OJ(K:QQq)(x:Str)(st:Stmt):Prop:=∃(f:Addr)(od an:Option Addr)(sl:Array (Option Value))(oc kV dc pm cd ct:Value),
 PySem.W.nsIn K mainGlobals x=some (some (.ref f))/\K.lookup f=some ⟨oc,od,.func (PySem.W.fnOf x x (eF st) (eE st) (bA st) .none kV dc pm an cd ct),sl⟩/\PySem.W.codeIn K cd x=true/\PySem.W.keepIn K (.ref f)=true
def dIn{x:Str}{f:Addr}{od an:Option Addr}{oc kV dc pm cd ct:Value}(a:PySem.W.nsIn K mainGlobals x=some (some (.ref f)))
  (l:K.lookup f=some ⟨oc,od,.func (PySem.W.fnOf x x (eF st) (eE st) (bA st) .none kV dc pm an cd ct),sl⟩)(c:PySem.W.codeIn K cd x=true)(p:PySem.W.keepIn K (.ref f)=true):OJ K x st:=⟨f,od,an,sl,oc,kV,dc,pm,cd,ct,a,l,c,p⟩
def AllIn(K:QQq):List (Str×Stmt)->Prop
 |[]=>True
 |(x,s)::r=>OJ K x s/\AllIn K r
def Bd(d:Df):Prop:=∀(kV dc pm:Value)(an:Option Addr)(cd ct:Value)(us:List Value),us.length=d.ps.length->bindArgs (PySem.W.fnOf d.x d.x (eF d.st) (eE d.st) (bA d.st) .none kV dc pm an cd ct) ⟨us,[]⟩=pure (d.ps.zip us)
def oV{us:List Value}(h:us.length=1):∃a,us=[a]:=List.length_eq_one_iff.mp h
def Rk{us:List Value}(h:us.length=n+1):∃a r,us=a::r/\r.length=n:=by
 cases us with
 |nil=>simp at h
 |cons a r=>exact⟨a,r,rfl,by simpa using h⟩
def gw{us:List Value}(h:us.length=2):∃a b,us=[a,b]:=by
 obtain⟨a,r,rfl,h2⟩:=Rk h;obtain⟨b,rfl⟩:=oV h2;exact⟨a,b,rfl⟩
def jx{us:List Value}(h:us.length=3):∃a b c,us=[a,b,c]:=by
 obtain⟨a,r,rfl,h2⟩:=Rk h;obtain⟨b,c,rfl⟩:=gw h2;exact⟨a,b,c,rfl⟩
def wO{us:List Value}(h:us.length=4):∃a b c d,us=[a,b,c,d]:=by
 obtain⟨a,r,rfl,h2⟩:=Rk h;obtain⟨b,c,d,rfl⟩:=jx h2;exact⟨a,b,c,d,rfl⟩
def ab6{us:List Value}(h:us.length=5):∃a b c d e,us=[a,b,c,d,e]:=by
 obtain⟨a,r,rfl,h2⟩:=Rk h;obtain⟨b,c,d,e,rfl⟩:=wO h2;exact⟨a,b,c,d,e,rfl⟩
def Gu:List Df->Prop
 |[]=>True
 |d::r=>Bd d/\Gu r
inductive Zb(K:QQq)(x:Str):D->Prop
 |v {u:Value} {d:D}:PySem.W.nsIn K mainGlobals x=some (some u)->vIs u d=true->Zb K x d
 |t {a:Addr} {o:Obj} {ds:List D}:PySem.W.nsIn K mainGlobals x=some (some (.ref a))->K.lookup a=some o->Jt o ds=true->Zb K x (.tup ds)
noncomputable def xV(K:QQq):List Str->List D->Prop
 |[],[]=>True
 |x::xs,d::ds=>Zb K x d/\xV K xs ds
 |_,_=>False
noncomputable def O7(K:QQq):List Str->Prop
 |[]=>True
 |x::r=>PySem.W.nsIn K mainGlobals x=some none/\O7 K r
section
theorem Ol(X:K.In h)(G:h.Ns mainGlobals mg):∀(ds:List Df),Gu ds->AllIn K (ds.map fun d=>(d.x,d.st))->
  ∃fs,Ae K mg ds fs/\∀(i:Nat)d,ds[i]? =some d->∃q,fs[i]? =some q/\vX K mg d q.1 q.2/\∀(s:Shared)(us:List Value),us.length=d.ps.length->BindsTo s q.2 ⟨us,[]⟩ (d.ps.zip us)
 |[],_,_=>⟨[],trivial,fun i d e=>by simp at e⟩
 |d::ds,⟨b,bs⟩,⟨⟨f,od,an,sl,oc,kV,dc,pm,cd,ct,a,l,c,p⟩,is⟩=>by
  obtain⟨fs,A,B⟩:=Ol X G ds bs is
  have F:=YH l c p
  have D:vX K mg d f _:=⟨F,F.binds b,PySem.W.mg_of X G a⟩
  refine⟨(f,_)::fs,⟨D,A⟩,fun i e he=>?_⟩
  cases i with
  |zero=>cases he;exact⟨_,rfl,D,fun s us hl=>.of_eq (b kV dc pm an cd ct us hl)⟩
  |succ i=>exact B i e he
theorem Oj(X:K.In h)(G:h.Ns mainGlobals mg):∀(xs:List Str)(ds:List D),xV K xs ds->Ad K mg xs ds
 |[],[],_=>trivial
 |_::xs,_::ds,⟨g,r⟩=>⟨by cases g with
  |v e hv=>exact Ym X G e hv
  |t e l hv=>exact Yn X G e l hv,Oj X G xs ds r⟩
 |[],_::_,h=>h.elim
 |_::_,[],h=>h.elim
theorem Oi(X:K.In h)(G:h.Ns mainGlobals mg):∀(xs:List Str),O7 K xs->∀x∈xs,mg x=none
 |[],_=>fun x hx=>by cases hx
 |_::r,⟨e,es⟩=>fun x hx=>by
  rcases QCq.mp hx with rfl|hx
  ·exact PySem.W.mg_none_of X G e
  ·exact Oi X G r es x hx
def SJ{l:PySem.W.OpenLaw}{fa:Addr}{ds:List Df}{vals:List D}{dL:Df}(X:K.In h)(G:h.Ns mainGlobals mg)(hfa:mg "law"=some (.ref fa))(hx:dL.x="law")(hy:dL.ps=[y])(hL:ds[L]? =some dL)(b:Gu ds)
  (scp:ds.all JN=true)(nT:ds.all (fun d=>(fnOf ds nW d).isSome)=true)(A:AllIn K (ds.map fun d=>(d.x,d.st)))(B:xV K nW vals)(Z:O7 K nM):
  ∃fd:FuncData,(∀(s:Shared)(v:Value),BindsTo s fd ⟨[v],[]⟩ [(y,v)])/\∀base:Heap,K.In base->base.Ns mainGlobals mg->pD l.prog w K mg base O6 n fa fd [y] (wg K 1 ((Kr ds nW vals 1000).fn n L)):=by
 obtain⟨fs,A,C⟩:=Ol X G ds b A
 obtain⟨q,e1,e2,e3⟩:=C L dL hL
 have e:=hfa.symm.trans (hx▸e2.at_)
 cases e
 refine⟨q.2,fun s v=>?_,fun base _ _=>?_⟩
 ·have:=e3 s [v] (by rw[hy];rfl)
  rw[hy]at this
  exact this
 ·have:=PK (P:=l.prog) (w:=w) (base:=base) (turns:=1000) A (Oj X G nW vals B) scp nT (Oi X G _ Z) n L dL q.1 q.2 hL e1
  rw[hy]at this
  exact this
end
def Jm{l:PySem.W.OpenLaw}{loose:List Str}{YP:World->Heap->Prop}{K:Params->QQq}{p:Pg}{L:Nat}(hn:l.most=some 63)(hdf:d.params.defaults=[])
  (hY:∀(w:World)(h:Heap),YP w h->(K w.params).In h)(math:∀ns:List Int,ns.length<=63->∃qs,p.fn 60 L [.val (.lst (ns.map D.int))]=.ok (.val (.bl true)) qs)
  (F:∀(w:World)(mg:QZz)(fa:Addr)(h:Heap),(K w.params).In h->h.Ns mainGlobals mg->mg d.name=some (.ref fa)->
   ∃fd:FuncData,(∀(s:Shared)(u:Value),BindsTo s fd ⟨[u],[]⟩ [(y,u)])/\∀base:Heap,(K w.params).In base->base.Ns mainGlobals mg->pD l.prog w (K w.params) mg base O6 60 fa fd [y] (wg (K w.params) 1 (p.fn 60 L))):
  PySem.W.WalkO q loose XP YP l.row.toRowW d [] (fun f vs=>PySem.call f vs):=
 L2.Pj hn (by decide) hdf ⟨rfl,by decide,by decide⟩ hY F (fun _ _ a ns hl hO hS=>Wl hO hS (math ns hl) _) fun _ _ _ _ _ z=>z
section
@[simp]theorem adP{f:α->Ev->Out β}:(Out.ok a σ).bind f=f a σ:=rfl
@[simp]theorem acT{f:α->Ev->Out β}:(Out.exc k σ).bind f=.exc k σ:=rfl
@[simp]theorem acU{f:α->Ev->Out β}:(Out.bad:Out α).bind f=.bad:=rfl
@[simp]theorem bV{f:D->Ev->Out β}:(Out.ok (.val d) σ).ao f=f d σ:=rfl
@[simp]theorem lB{f:D->Ev->Out β}:(Out.ok (.new o) σ).ao f=f o.d σ:=rfl
@[simp]theorem Z6{f:D->Ev->Out β}:(Out.exc k σ).ao f=.exc k σ:=rfl
@[simp]theorem Z7{f:D->Ev->Out β}:(Out.bad).ao f=.bad:=rfl
@[simp]theorem dH{f:Bool->Ev->Out β}:(Out.ok (.val (.bl b)) σ).cH iw f=f b σ:=rfl
@[simp]theorem Z3{f:Bool->Ev->Out β}:(Out.ok (.val (.int i)) σ).cH iw f=f (i !=0) σ:=rfl
@[simp]theorem Z1{f:Bool->Ev->Out β}:(Out.ok (.val (.tup xs)) σ).cH iw f=f (!xs.isEmpty) σ:=rfl
@[simp]theorem Z2{f:Bool->Ev->Out β}:(Out.ok (.val (.lst xs)) σ).cH iw f=f (!xs.isEmpty) σ:=rfl
@[simp]theorem Z4{f:Bool->Ev->Out β}:(Out.exc k σ).cH iw f=.exc k σ:=rfl
@[simp]theorem Z5{f:Bool->Ev->Out β}:(Out.bad).cH iw f=.bad:=rfl
@[simp]theorem zK{a:α}:(Out.ok a σ).fl f=f a σ:=rfl
@[simp]theorem agb:(Out.exc k σ:Out α).fl f=.exc k σ:=rfl
@[simp]theorem agc:(Out.bad:Out α).fl f=.bad:=rfl
@[simp]theorem adD:(Out.ok (.val d) σ).mD f=f d σ:=rfl
@[simp]theorem adE:(Out.ok (.new o) σ).mD f=f o.d σ:=rfl
@[simp]theorem adF:(Out.exc k σ).mD f=.exc k σ:=rfl
@[simp]theorem adG:(Out.bad).mD f=.bad:=rfl
@[simp]theorem agd:(Out.ok (.val (.bl b)) σ).FN f=f b σ:=rfl
@[simp]theorem adB:(Out.exc k σ).FN f=.exc k σ:=rfl
@[simp]theorem adC:(Out.bad).FN f=.bad:=rfl
@[simp]theorem uZ{a:α}:Mini.lift σ (some a)=.ok a σ:=rfl
@[simp]theorem ZK:Mini.lift σ (none:Option α)=.bad:=rfl
@[simp]theorem aba:(Fl.next σ).seq f=f σ:=rfl
@[simp]theorem adl{f:Ev->Fl}:(Fl.ret r σ).seq f=.ret r σ:=rfl
@[simp]theorem adm:(Fl.exc k σ).seq f=.exc k σ:=rfl
@[simp]theorem adn:(Fl.brk σ).seq f=.brk σ:=rfl
@[simp]theorem abb:(Fl.cont σ).seq f=.cont σ:=rfl
@[simp]theorem ado:(Fl.bad).seq f=.bad:=rfl
@[simp]theorem nZ:(Fl.next σ).turn f=f σ:=rfl
@[simp]theorem Zt:(Fl.cont σ).turn f=f σ:=rfl
@[simp]theorem aaF:(Fl.brk σ).turn f=.next σ:=rfl
@[simp]theorem aaD{f:Ev->Fl}:(Fl.ret r σ).turn f=.ret r σ:=rfl
@[simp]theorem aaE:(Fl.exc k σ).turn f=.exc k σ:=rfl
@[simp]theorem aaG:(Fl.bad).turn f=.bad:=rfl
@[simp]theorem abh:ug (.val d) σ=.ret (.val d) σ:=rfl
@[simp]theorem abi:ug (.new o) σ=.ret (.new o) σ:=rfl
@[simp]theorem abV:yZ (some τ)=.next τ:=rfl
@[simp]theorem abW:yZ none=.bad:=rfl
@[simp]theorem ac2:argv (.val d)=.val d:=rfl
@[simp]theorem ac4:argv (.new o)=.val o.d:=rfl
@[simp]theorem ac3:argv (.ref k)=.ref k:=rfl
@[simp]theorem aa4:Rv.Aw (.val d)=some (.val d):=rfl
@[simp]theorem aa5:Rv.Aw (.new o)=some (.own o):=rfl
@[simp]theorem adM:Rv.jA (.val d)=some d:=rfl
@[simp]theorem adN:Rv.jA (.new o)=some o.d:=rfl
@[simp]theorem Vf:Ob.d (.lst xs)=.lst xs:=rfl
@[simp]theorem ahx:Ob.d (.dct xs ys)=.cR xs ys:=rfl
@[simp]theorem adu:HD (.tup xs)=some xs.length:=rfl
@[simp]theorem adv:HD (.lst xs)=some xs.length:=rfl
@[simp]theorem adS:b1 .len (.tup xs)=some (.val (.int xs.length)):=rfl
@[simp]theorem adU:b1 .len (.lst xs)=some (.val (.int xs.length)):=rfl
@[simp]theorem adV:b1 .int (.int i)=some (.val (.int i)):=rfl
@[simp]theorem adW:b1 .int (.bl b)=some (.val (.int (b2i b))):=rfl
@[simp]theorem acV:b1 .tuple d=(bN d).bind fun xs=>some (.val (.tup xs)):=rfl
@[simp]theorem adR:b1 .list d=(JL d).bind fun xs=>some (.new (.lst xs)):=rfl
@[simp]theorem aen xs:JL (.tup xs)=some xs:=rfl
@[simp]theorem aep xs:JL (.lst xs)=some xs:=rfl
@[simp]theorem aeo ks vs:JL (.g8 ks vs)=some ks:=rfl
@[simp]theorem Oe:b1 .all d=(bN d).bind fun xs=>(bools xs).map fun bs=>.val (.bl (bs.all id)):=rfl
@[simp]theorem agy:b1 .any d=(bN d).bind fun xs=>(bools xs).map fun bs=>.val (.bl (bs.any id)):=rfl
@[simp]theorem adX:b1 .dict d=(bN d).bind fun xs=>((dictOf [] [] xs).map fun p=>Rv.new (.dct p.1 p.2)).or ((jO [] [] xs).map fun p=>.new (.sdt p.1 p.2)):=rfl
@[simp]theorem Z9:b1 .sorted d=(gr d).bind fun xs=>(pG xs).map fun ys=>.new (.lst ys):=rfl
@[simp]theorem Zx:bN (.tup xs)=some xs:=rfl
@[simp]theorem uI:bN (.lst xs)=some xs:=rfl
@[simp]theorem ZJ:gr (.lst xs)=some xs:=rfl
@[simp]theorem adz:getD (.tup xs) (.int i)=at? xs i:=rfl
@[simp]theorem adA:getD (.lst xs) (.int i)=at? xs i:=rfl
@[simp]theorem add_int:binop .add (.int i) (.int j)=some (.val (.int (i+j))):=rfl
@[simp]theorem sub_int:binop .sub (.int i) (.int j)=some (.val (.int (i-j))):=rfl
@[simp]theorem mul_int:binop .mul (.int i) (.int j)=if small i||small j then some (.val (.int (i*j)))else none:=rfl
@[simp]theorem mod_int:binop .mod (.int i) (.int j)=if 0<j then some (.val (.int (i%j)))else none:=rfl
@[simp]theorem lt_int:aQ .lt (.int i) (.int j)=some (decide (i<j)):=rfl
@[simp]theorem gt_int:aQ .gt (.int i) (.int j)=some (decide (j<i)):=rfl
@[simp]theorem le_int:aQ .le (.int i) (.int j)=some (decide (i<=j)):=rfl
@[simp]theorem ag1:aQ .fQ d .non=some (aP d):=rfl
@[simp]theorem afo:aQ .notN d .non=some (!aP d):=rfl
@[simp]theorem ZR:aP (.tup xs)=false:=rfl
@[simp]theorem ZS:aP .non=true:=rfl
@[simp]theorem eq_int:aQ .eq (.int i) (.int j)=some (i==j):=rfl
@[simp]theorem ne_int:aQ .ne (.int i) (.int j)=some (!(i==j)):=rfl
@[simp]theorem ahw:aQ .eq (.bl b) (.bl c)=some (b==c):=rfl
@[simp]theorem agY:aQ .ne (.bl b) (.bl c)=some (!(b==c)):=rfl
@[simp]theorem eq_str:aQ .eq (.str x) (.str y)=some (decide (x=y)):=rfl
@[simp]theorem ne_str:aQ .ne (.str x) (.str y)=some (!decide (x=y)):=rfl
@[simp]theorem aab:E.aB (.var k)=some k:=rfl
@[simp]theorem aak d:E.aB (.con d)=none:=rfl
@[simp]theorem Y6 k:E.aB (.glob k)=none:=rfl
@[simp]theorem aac a:E.aB (.tup a)=none:=rfl
@[simp]theorem aag a:E.aB (.lis a)=none:=rfl
@[simp]theorem ac0 o a b:E.aB (.op o a b)=none:=rfl
@[simp]theorem aaf a:E.aB (.neg a)=none:=rfl
@[simp]theorem aal o a b:E.aB (.cmp o a b)=none:=rfl
@[simp]theorem Vk o p a b c:E.aB (.chain o p a b c)=none:=rfl
@[simp]theorem aam a:E.aB (.and a)=none:=rfl
@[simp]theorem acZ a:E.aB (.or a)=none:=rfl
@[simp]theorem aae a:E.aB (.not a)=none:=rfl
@[simp]theorem aah a b c:E.aB (.ite a b c)=none:=rfl
@[simp]theorem aaj a b:E.aB (.idx a b)=none:=rfl
@[simp]theorem aad a b c:E.aB (.slc a b c)=none:=rfl
@[simp]theorem Y7 f a:E.aB (.call f a)=none:=rfl
@[simp]theorem ac1 b a:E.aB (.bi b a)=none:=rfl
@[simp]theorem aai a t:E.aB (.isi a t)=none:=rfl
@[simp]theorem aaa a b:E.aB (.zip a b)=none:=rfl
@[simp]theorem Sy a:E.aB (.range1 a)=none:=rfl
@[simp]theorem Vj a b:E.aB (.count a b)=none:=rfl
@[simp]theorem Vi i a:E.aB (.popAt i a)=none:=rfl
@[simp]theorem tR n tg a b c:E.aB (.comp n tg a b c)=none:=rfl
@[simp]theorem acY a:E.aB (.rd a)=none:=rfl
def gF xs(j:Nat)(h:j<xs.length):at? xs (j:Int)=xs[j]? :=by
 unfold at? ix?
 rw[if_neg (by omega:¬(j:Int)<0),if_pos ⟨by omega,by omega⟩]
 simp
@[simp]theorem at0:at? (a::xs) 0=some a:=(gF _ 0 (by simp)).trans rfl
@[simp]theorem at1{a b:D}:at? (a::b::xs) 1=some b:=(gF _ 1 (by simp)).trans rfl
@[simp]theorem at2{a b c:D}:at? (a::b::c::xs) 2=some c:=(gF _ 2 (by simp)).trans rfl
@[simp]theorem at3{a b c e:D}:at? (a::b::c::e::xs) 3=some e:=(gF _ 3 (by simp)).trans rfl
end
@[simp]theorem adT{ks vs:List D}:b1 .len (.g8 ks vs)=some (.val (.int ks.length)):=rfl
def aH(bs:List Bool):D:=.tup (bs.map .bl)
noncomputable def dX:Nat->List (List Bool)
 |0=>[[]]
 |k+1=>(dX k).map (· ++[false])++(dX k).map (· ++[true])
noncomputable def masks:Nat->List (List Bool)
 |0=>[[]]
 |k+1=>(masks k).map (false:: ·)++(masks k).map (true:: ·)
theorem uY:∀(bs:List Bool),bs∈masks bs.length
 |[]=>by simp[masks]
 |b::bs=>by
  have:=uY bs
  cases b<;>simp[masks,this]
noncomputable def m8{α:Type}:List Bool->List α->List α
 |b::bs,x::xs=>if b then x::m8 bs xs else m8 bs xs
 |_,_=>[]
def zB:List (List Bool)->Bool
 |a::b::r=>lE a b&&zB (b::r)
 |_=>true
noncomputable def qN(k:Nat)(bs:List Bool):Bool:=match pG (m8 bs ((dX k).map aH))with
 |some ws=>if ws.isEmpty then true else match jr ws with
  |some rs=>(rs.all fun r=>r.length==k)&&zB rs
  |none=>false
 |none=>false
def aa3:(masks 2).all (qN 1)=true:=by decide+kernel
def aa2:(masks 4).all (qN 2)=true:=by decide+kernel
def aa1:(masks 8).all (qN 3)=true:=by decide+kernel
theorem vP:∀{ys:List D}{bs:List Bool},bools ys=some bs->ys=bs.map .bl
 |[],bs,e=>by cases e;rfl
 |y::ys,bs,e=>by
  cases y with
  |bl b=>
   simp only[bools]at e
   cases q:bools ys with
   |none=>rw[q]at e;cases e
   |some r=>rw[q]at e;cases e;rw[vP q];rfl
  |_=>cases e
theorem uL:∀{xs:List D}{rs:List (List Bool)},jr xs=some rs->xs=rs.map aH
 |[],rs,e=>by cases e;rfl
 |y::ys,rs,e=>by
  cases y with
  |tup zs=>
   simp only[jr]at e
   cases q:bools zs with
   |none=>rw[q]at e;cases e
   |some bs=>
    cases bs with
    |nil=>rw[q]at e;cases e
    |cons b bs=>
     rw[q]at e
     cases q2:jr ys with
     |none=>rw[q2]at e;cases e
     |some rs'=>
      rw[q2]at e
      cases e
      rw[uL q2,vP q]
      rfl
  |_=>cases e
theorem oF:∀k,(dX k).length=2 ^k
 |0=>rfl
 |k+1=>by simp[dX,oF k];omega
def GR k(h1:1<=k)(h3:k<=3)bs(hl:bs.length=2 ^k):∃rs,pG (m8 bs ((dX k).map aH))=some (rs.map aH)/\(∀r∈rs,r.length=k)/\zB rs=true:=by
 have ok:qN k bs=true:=by
  have hm:=uY bs
  rw[hl]at hm
  rcases (by omega:k=1\/k=2\/k=3)with rfl|rfl|rfl
  ·exact List.all_eq_true.mp aa3 bs hm
  ·exact List.all_eq_true.mp aa2 bs hm
  ·exact List.all_eq_true.mp aa1 bs hm
 unfold qN at ok
 cases q:pG _ with
 |none=>rw[q]at ok;cases ok
 |some ws=>
  rw[q]at ok
  simp only at ok
  split at ok
  ·rename_i he
   have:ws=[]:=by simpa using he
   subst this
   exact⟨[],rfl,fun r h=>(by cases h),rfl⟩
  ·cases q2:jr ws with
   |none=>rw[q2]at ok;cases ok
   |some rs=>
    rw[q2]at ok
    simp only[QUq,List.all_eq_true,beq_iff_eq]at ok
    exact⟨rs,by rw[uL q2],ok.1,ok.2⟩
theorem filter_tt{α:Type}:∀(xs:List α),xs.filter (fun _=>true)=xs
 |[]=>rfl
 |x::xs=>by rw[List.filter_cons_of_pos rfl,filter_tt xs]
def bh(s:Sl):Prop:=s=.un\/∃d,s=.val d
def oE(h:bh s)d(r:Ev):bj (.name 0) d (s::r)=some (.val d::r):=by
 rcases h with rfl|⟨e,rfl⟩<;>rfl
def uH(h:bh s)(h':bh t)a b(r:Ev):bj (.tup [0,1]) (.tup [a,b]) (s::t::r)=some (.val a:: .val b::r):=by
 rcases h with rfl|⟨e,rfl⟩<;>rcases h' with rfl|⟨e',rfl⟩<;>rfl
def Nq c d σ:ev c (.con d) σ=.ok (.val d) σ:=rfl
section
variable{cond elt:Ev->Out Rv}
theorem go1{f:D->D}{p:D->Bool}:∀(xs acc:List D)(s:Sl),bh s->(∀x∈xs,cond (.val x::τ)=.ok (.val (.bl (p x))) (.val x::τ))->(∀x∈xs,p x=true->elt (.val x::τ)=.ok (.val (f x)) (.val x::τ))->
  ∃s',bh s'/\aY (.name 0) cond elt xs acc (s::τ)=.ok (acc++(xs.filter p).map f) (s'::τ)
 |[]=>fun acc s hs _ _=>⟨s,hs,by simp[aY]⟩
 |x::xs=>fun acc s hs hc he=>by
  rw[aY,oE hs]
  simp only
  rw[hc x QYz,dH]
  cases q:p x with
  |true=>
   obtain⟨s',a1,a2⟩:=go1 xs _ _ (.inr ⟨x,rfl⟩) (fun y hy=>hc y (QYq _ hy)) (fun y hy=>he y (QYq _ hy))
   refine⟨s',a1,?_⟩
   rw[if_pos rfl,he x QYz q,bV,a2]
   simp[q]
  |false=>
   obtain⟨s',a1,a2⟩:=go1 xs acc _ (.inr ⟨x,rfl⟩) (fun y hy=>hc y (QYq _ hy)) (fun y hy=>he y (QYq _ hy))
   refine⟨s',a1,?_⟩
   rw[if_neg (by simp),a2]
   simp[q]
def pairD(p:D×D):D:=.tup [p.1,p.2]
theorem go2{f:D×D->D}{p:D×D->Bool}:∀(xs:List (D×D))(acc:List D)(s t:Sl),bh s->bh t->(∀x∈xs,cond (.val x.1:: .val x.2::τ)=.ok (.val (.bl (p x))) (.val x.1:: .val x.2::τ))->
  (∀x∈xs,p x=true->elt (.val x.1:: .val x.2::τ)=.ok (.val (f x)) (.val x.1:: .val x.2::τ))->
  ∃s' t',aY (.tup [0,1]) cond elt (xs.map pairD) acc (s::t::τ)=.ok (acc++(xs.filter p).map f) (s'::t'::τ)
 |[]=>fun acc s t hs ht _ _=>⟨s,t,by simp[aY]⟩
 |x::xs=>fun acc s t hs ht hc he=>by
  rw[Qyz,aY,show pairD x=.tup [x.1,x.2]from rfl,uH hs ht]
  simp only
  rw[hc x QYz,dH]
  cases q:p x with
  |true=>
   obtain⟨s',t',a2⟩:=go2 xs _ _ _ (.inr ⟨_,rfl⟩) (.inr ⟨_,rfl⟩) (fun y hy=>hc y (QYq _ hy)) (fun y hy=>he y (QYq _ hy))
   refine⟨s',t',?_⟩
   rw[if_pos rfl,he x QYz q,bV,a2]
   simp[q]
  |false=>
   obtain⟨s',t',a2⟩:=go2 xs acc _ _ (.inr ⟨_,rfl⟩) (.inr ⟨_,rfl⟩) (fun y hy=>hc y (QYq _ hy)) (fun y hy=>he y (QYq _ hy))
   refine⟨s',t',?_⟩
   rw[if_neg (by simp),a2]
   simp[q]
end
section
def sX f p(hi:ev c it σ=.ok r τ)(hr:r.jA=some d)(hd:items d=some xs)(hc:∀x∈xs,ev c co (.val x::τ)=.ok (.val (.bl (p x))) (.val x::τ))(he:∀x∈xs,p x=true->ev c el (.val x::τ)=.ok (.val (f x)) (.val x::τ)):
  ev c (.comp 1 (.name 0) it co el) σ=.ok (.new (.lst ((xs.filter p).map f))) τ:=by
 obtain⟨s',_,a⟩:=go1 xs [] .un (.inl rfl) hc he
 rw[mJ,hi]
 have b:∀{β:Type}(g:D->Ev->Out β),(Out.ok r τ).ao g=g d τ:=fun g=>by cases r<;>simp[Rv.jA]at hr<;>subst hr<;>rfl
 rw[b]
 simp only[hd]
 rw[show List.replicate 1 Sl.un++τ=.un::τ from rfl,a]
 simp
def sY f(hi:ev c it σ=.ok r τ)(hr:r.jA=some d)(hd:items d=some xs)(he:∀x∈xs,ev c el (.val x::τ)=.ok (.val (f x)) (.val x::τ)):
  ev c (.comp 1 (.name 0) it AAL el) σ=.ok (.new (.lst (xs.map f))) τ:=by
 have:=sX f (fun _=>true) hi hr hd (fun x _=>Nq c _ _) (fun x hx _=>he x hx)
 rw[filter_tt]at this
 exact this
def YW{ps:List (D×D)}f p(hi:ev c it σ=.ok r τ)(hr:r.jA=some d)(hd:items d=some (ps.map pairD))(hc:∀x∈ps,ev c co (.val x.1:: .val x.2::τ)=.ok (.val (.bl (p x))) (.val x.1:: .val x.2::τ))
  (he:∀x∈ps,p x=true->ev c el (.val x.1:: .val x.2::τ)=.ok (.val (f x)) (.val x.1:: .val x.2::τ)):
  ev c (.comp 2 (.tup [0,1]) it co el) σ=.ok (.new (.lst ((ps.filter p).map f))) τ:=by
 obtain⟨s',t',a⟩:=go2 ps [] .un .un (.inl rfl) (.inl rfl) hc he
 rw[mJ,hi]
 have b:∀{β:Type}(g:D->Ev->Out β),(Out.ok r τ).ao g=g d τ:=fun g=>by cases r<;>simp[Rv.jA]at hr<;>subst hr<;>rfl
 rw[b]
 simp only[hd]
 rw[show List.replicate 2 Sl.un++τ=.un:: .un::τ from rfl,a]
 simp
def Nv{ps:List (D×D)}f(hi:ev c it σ=.ok r τ)(hr:r.jA=some d)(hd:items d=some (ps.map pairD))(he:∀x∈ps,ev c el (.val x.1:: .val x.2::τ)=.ok (.val (f x)) (.val x.1:: .val x.2::τ)):
  ev c (.comp 2 (.tup [0,1]) it AAL el) σ=.ok (.new (.lst (ps.map f))) τ:=by
 have:=YW f (fun _=>true) hi hr hd (fun x _=>Nq c _ _) (fun x hx _=>he x hx)
 rw[filter_tt]at this
 exact this
end
section
theorem YX{xs:List D}f p(hi:ev c it σ=.ok r τ0)(hr:r.jA=some d)(hd:items d=some (x0::xs))(hc0:ev c co (.val x0::τ0)=.ok (.val (.bl (p x0))) (.val x0::τ))(hc:∀x∈xs,ev c co (.val x::τ)=.ok (.val (.bl (p x))) (.val x::τ))
  (he:∀x∈x0::xs,p x=true->ev c el (.val x::τ)=.ok (.val (f x)) (.val x::τ)):ev c (.comp 1 (.name 0) it co el) σ=.ok (.new (.lst (((x0::xs).filter p).map f))) τ:=by
 rw[mJ,hi]
 have b:∀{β:Type}(g:D->Ev->Out β),(Out.ok r τ0).ao g=g d τ0:=fun g=>by cases r<;>simp[Rv.jA]at hr<;>subst hr<;>rfl
 rw[b]
 simp only[hd]
 rw[show List.replicate 1 Sl.un++τ0=.un::τ0 from rfl,aY,oE (.inl rfl)]
 simp only
 rw[hc0,dH]
 cases q:p x0 with
 |true=>
  obtain⟨s',_,a⟩:=go1 xs _ _ (.inr ⟨_,rfl⟩) hc (fun x hx=>he x (QYq _ hx))
  rw[if_pos rfl,he x0 QYz q,bV,a]
  simp[q]
 |false=>
  obtain⟨s',_,a⟩:=go1 xs [] _ (.inr ⟨_,rfl⟩) hc (fun x hx=>he x (QYq _ hx))
  rw[if_neg (by simp),a]
  simp[q]
theorem YT{ps:List (D×D)}f p(hi:ev c it σ=.ok r τ0)(hr:r.jA=some d)(hd:items d=some ((x0::ps).map pairD))(hc0:ev c co (.val x0.1:: .val x0.2::τ0)=.ok (.val (.bl (p x0))) (.val x0.1:: .val x0.2::τ))
  (hc:∀x∈ps,ev c co (.val x.1:: .val x.2::τ)=.ok (.val (.bl (p x))) (.val x.1:: .val x.2::τ))
  (he:∀x∈x0::ps,p x=true->ev c el (.val x.1:: .val x.2::τ)=.ok (.val (f x)) (.val x.1:: .val x.2::τ)):ev c (.comp 2 (.tup [0,1]) it co el) σ=.ok (.new (.lst (((x0::ps).filter p).map f))) τ:=by
 rw[mJ,hi]
 have b:∀{β:Type}(g:D->Ev->Out β),(Out.ok r τ0).ao g=g d τ0:=fun g=>by cases r<;>simp[Rv.jA]at hr<;>subst hr<;>rfl
 rw[b]
 simp only[hd]
 rw[show List.replicate 2 Sl.un++τ0=.un:: .un::τ0 from rfl,Qyz,aY,show pairD x0=.tup [x0.1,x0.2]from rfl,uH (.inl rfl) (.inl rfl)]
 simp only
 rw[hc0,dH]
 cases q:p x0 with
 |true=>
  obtain⟨s',t',a⟩:=go2 ps _ _ _ (.inr ⟨_,rfl⟩) (.inr ⟨_,rfl⟩) hc (fun x hx=>he x (QYq _ hx))
  rw[if_pos rfl,he x0 QYz q,bV,a]
  simp[q]
 |false=>
  obtain⟨s',t',a⟩:=go2 ps [] _ _ (.inr ⟨_,rfl⟩) (.inr ⟨_,rfl⟩) hc (fun x hx=>he x (QYq _ hx))
  rw[if_neg (by simp),a]
  simp[q]
end
theorem jP:∀(bs:List Bool),bools (bs.map D.bl)=some bs
 |[]=>rfl
 |b::bs=>by simp[bools,jP bs]
theorem tK:∀{α:Type}(xs:List α),bools (xs.map fun _=>D.bl true)=some (xs.map fun _=>true)
 |_,[]=>rfl
 |_,x::xs=>by simp[bools,tK xs]
theorem Dm:∀{α:Type}(xs:List α),(xs.map fun _=>true).all id=true
 |_,[]=>rfl
 |_,x::xs=>by simpa using Dm xs
section
def all1(hi:ev c it σ=.ok r τ)(hr:r.jA=some d)(hd:items d=some xs)(he:∀x∈xs,ev c el (.val x::τ)=.ok (.val (.bl true)) (.val x::τ)):
  ev c (.bi .all (.comp 1 (.name 0) it AAL el)) σ=.ok (.val (.bl true)) τ:=by
 rw[pU]
 simp only[tR]
 rw[sY _ hi hr hd he,lB]
 simp only[Vf,Oe,uI,QHq]
 rw[tK]
 simp only[Option.map_some,uZ,Dm]
def all2{ps:List (D×D)}(hi:ev c it σ=.ok r τ)(hr:r.jA=some d)(hd:items d=some (ps.map pairD))(he:∀x∈ps,ev c el (.val x.1:: .val x.2::τ)=.ok (.val (.bl true)) (.val x.1:: .val x.2::τ)):
  ev c (.bi .all (.comp 2 (.tup [0,1]) it AAL el)) σ=.ok (.val (.bl true)) τ:=by
 rw[pU]
 simp only[tR]
 rw[Nv _ hi hr hd he,lB]
 simp only[Vf,Oe,uI,QHq]
 rw[tK]
 simp only[Option.map_some,uZ,Dm]
end
theorem b8:∀(xs ys:List D),aO xs ys=(xs.zip ys).map pairD
 |[],_=>by simp[aO]
 |_::_,[]=>by simp[aO]
 |x::xs,y::ys=>by simp[aO,b8 xs ys,pairD]
end Mini
end
section
namespace Mini
open PySem
@[simp]def fin(k:Nat):Fl->Res
 |.next σ=>.ok (.val .non) (σ.take k)
 |.ret r σ=>.ok r (σ.take k)
 |.exc c σ=>.exc c (σ.take k)
 |_=>.bad
def Qj c f ps(h:ps.length=f.pars):iz c f ps=fin f.pars (ex c f.body (ps++List.replicate (f.names-f.pars) .un)):=by
 unfold iz
 rw[if_pos h]
 cases ex c f.body _<;>rfl
def vW{α:Type}(b:Bool)(r:Out α):Out α:=if b then .bad else r
def Y4(b:Bool)(r:Fl):Fl:=if b then .bad else r
def Bx{α:Type}(b:Bool)(r:Option α):Option α:=if b then none else r
@[simp]theorem adQ(r:Out α):vW false r=r:=rfl
@[simp]theorem agx r:Y4 false r=r:=rfl
@[simp]theorem abZ(r:Option α):Bx false r=r:=rfl
@[simp]theorem abY(r:Option α):Bx true r=none:=rfl
@[simp]def abj(i:Nat)(σ:Ev):Option Sl->Out Rv
 |some (.val d)=>.ok (.val d) σ
 |some (.own o)=>.ok (.val o.d) (σ.set i (.val o.d))
 |_=>.bad
@[simp]theorem JW i σ:q8 i σ=abj i σ σ[i]? :=rfl
@[simp]def ab5:Option Sl->Option D
 |some (.val d)=>some d
 |some (.own o)=>some o.d
 |some (.bor o)=>some o.d
 |_=>none
@[simp]theorem ab4 i σ:bB i σ=ab5 σ[i]? :=rfl
noncomputable def wk(i:Nat)(σ:Ev)(s:Sl):Option Sl->Option Ev
 |some (.bor _)=>none
 |some _=>some (σ.set i s)
 |none=>none
@[simp]theorem aa6 i s σ:bU i s σ=wk i σ s σ[i]? :=rfl
@[simp]theorem aa7(i σ s d):wk i σ s (some (.val d))=some (σ.set i s):=rfl
@[simp]theorem aa8(i σ s o):wk i σ s (some (.own o))=some (σ.set i s):=rfl
@[simp]theorem adk(i σ s):wk i σ s (some .un)=some (σ.set i s):=rfl
@[simp]theorem aa9(i σ s o):wk i σ s (some (.bor o))=none:=rfl
@[simp]def Bq(i:Nat)(σ:Ev)(q:Ob):Ev:=σ.set i (.own q)
@[simp]def WN(i:Nat)(σ:Ev)(q:Ob):Ev:=σ.set i (.bor q)
@[simp]def aaI(i:Nat)(f:Ob->Option Ob)(σ:Ev):Option Sl->Option Ev
 |some (.own o)=>(f o).map (Bq i σ)
 |some (.bor o)=>(f o).map (WN i σ)
 |_=>none
@[simp]theorem aaH i f σ:cX i f σ=aaI i f σ σ[i]? :=rfl
@[simp]def okB(r:Rv):Option Ev->Out Rv
 |some σ=>.ok r σ
 |none=>.bad
@[simp]def acQ(as:List Rv)(σ:Ev):Res->Out Rv
 |.ok r qs=>okB r (giveBack as qs σ)
 |_=>.bad
@[simp]def acR(c:Cf)(f:Nat)(as:List Rv)(σ:Ev):Option (List Sl)->Out Rv
 |none=>.bad
 |some ps=>acQ as σ (c.fn f ps)
@[simp]theorem acS c f as σ:tE c f as σ=acR c f as σ (enter as σ):=rfl
@[simp]theorem adL(σ):enter [] σ=some []:=rfl
@[simp]theorem adK(d as σ):enter (.val d::as) σ=(enter as σ).map (.val d:: ·):=rfl
@[simp]def agr(r:Option (List Sl)):Option Sl->Option (List Sl)
 |some (.own o)=>r.map (.bor o:: ·)
 |some (.bor o)=>r.map (.bor o:: ·)
 |_=>none
@[simp]theorem adJ(i as σ):enter (.ref i::as) σ=Bx (as.any (kW i)) (agr (enter as σ) σ[i]?):=rfl
@[simp]theorem ago c(i σ):ev c (.var i) σ=q8 i σ:=rfl
@[simp]theorem aiX c(d σ):ev c (.con d) σ=.ok (.val d) σ:=rfl
@[simp]theorem aiW c(k σ):ev c (.glob k) σ=match c.gl k with|some d=>.ok (.val d) σ|none=>.bad:=rfl
@[simp]def aeb(ds:List D):Option Rv:=if fits ds.length then some (.val (.tup ds))else none
@[simp]def afv(ds:List D):Option Rv:=if fits ds.length then some (.new (.lst ds))else none
@[simp]def afy(rs:List Rv)(σ:Ev):Out Rv:=lift σ ((aV rs).bind aeb)
@[simp]def afE(rs:List Rv)(σ:Ev):Out Rv:=lift σ ((aV rs).bind afv)
@[simp]theorem aiV c(es σ):ev c (.tup es) σ=(evs c es σ).bind afy:=rfl
@[simp]theorem aiU c(es σ):ev c (.lis es) σ=(evs c es σ).bind afE:=rfl
@[simp]def afC(o:Y9)(x y:D)(σ:Ev):Out Rv:=lift σ (binop o x y)
@[simp]def kOp(c:Cf)(o:Y9)(b:E)(x:D)(σ:Ev):Out Rv:=(ev c b σ).ao (afC o x)
@[simp]theorem aiT c(o a b σ):ev c (.op o a b) σ=(ev c a σ).ao (kOp c o b):=rfl
@[simp]theorem aiS c(a σ):ev c (.neg a) σ=(ev c a σ).ao fun x σ=>lift σ (match x with|.int i=>some (.val (.int (-i)))|_=>none):=rfl
@[simp]def qV(q:Bool):Rv:=.val (.bl q)
@[simp]def agu(o:Cm)(x d:D):Option Rv:=(aQ o x d).map qV
@[simp]def Lx(o:Cm)(x y:D)(σ:Ev):Out Rv:=lift σ ((aQ o x y).map qV)
@[simp]def afP(c:Cf)(o:Cm)(b:E)(x:D)(σ:Ev):Option Nat->Out Rv
 |some k=>lift σ ((bB k σ).bind (agu o x))
 |none=>(ev c b σ).ao (Lx o x)
@[simp]def acq(c:Cf)(o:Cm)(b:E)(x:D)(σ:Ev):Out Rv:=afP c o b x σ b.aB
@[simp]theorem aiR c(o a b σ):ev c (.cmp o a b) σ=(ev c a σ).ao (acq c o b):=rfl
noncomputable def XX(c:Cf)(o:Cm)(d:E)(y:D)(q:Bool)(σ:Ev):Out Rv:=if q then(ev c d σ).ao (Lx o y)else .ok (.val (.bl false)) σ
@[simp]theorem afQ(c o d y σ):XX c o d y true σ=(ev c d σ).ao (Lx o y):=rfl
@[simp]theorem afR(c o d y σ):XX c o d y false σ=.ok (.val (.bl false)) σ:=rfl
@[simp]def afS(c:Cf)(o p:Cm)(d:E)(x y:D)(σ:Ev):Out Rv:=(lift σ (aQ o x y)).bind (XX c p d y)
@[simp]def kCh(c:Cf)(o p:Cm)(b d:E)(x:D)(σ:Ev):Out Rv:=(ev c b σ).ao (afS c o p d x)
@[simp]theorem aiQ c(π ρ a b d σ):ev c (.chain π ρ a b d) σ=(ev c a σ).ao (kCh c π ρ b d):=rfl
@[simp]theorem aiP c(es σ):ev c (.and es) σ=gW c es σ:=rfl
@[simp]theorem ahv c(es σ):ev c (.or es) σ=nG c es σ:=rfl
@[simp]def afD(b:Bool)(σ:Ev):Out Rv:=.ok (.val (.bl (!b))) σ
@[simp]theorem ahu c(a σ):ev c (.not a) σ=(ev c a σ).cH iw afD:=rfl
def Ls(c:Cf)(a b:E)(q:Bool)(σ:Ev):Out Rv:=if q then ev c a σ else ev c b σ
@[simp]theorem adw(c a b σ):Ls c a b true σ=ev c a σ:=rfl
@[simp]theorem adx(c a b σ):Ls c a b false σ=ev c b σ:=rfl
@[simp]theorem aht c(t a b σ):ev c (.ite t a b) σ=(ev c t σ).cH iw (Ls c a b):=rfl
@[simp]def af7(y d:D):Option Rv:=(getD d y).map Rv.val
@[simp]def afJ(k:Nat)(y:D)(σ:Ev):Out Rv:=lift σ ((bB k σ).bind (af7 y))
@[simp]def ach(x y:D)(σ:Ev):Out Rv:=lift σ ((getD x y).map Rv.val)
@[simp]def aci(c:Cf)(i:E)(x:D)(σ:Ev):Out Rv:=(ev c i σ).ao (ach x)
@[simp]def af1(c:Cf)(a i:E)(σ:Ev):Option Nat->Out Rv
 |some k=>vW (bB k σ).isNone ((ev c i σ).ao (afJ k))
 |none=>(ev c a σ).ao (aci c i)
@[simp]theorem ahs c(a i σ):ev c (.idx a i) σ=af1 c a i σ a.aB:=rfl
@[simp]def afz(hi:E)(x:D)(l:Option Int)(h:D)(σ:Ev):Out Rv:=lift σ ((cC hi.fQ h).bind (dO x l))
@[simp]def slM(c:Cf)(hi:E)(x:D)(σ:Ev):Option (Option Int)->Out Rv
 |none=>.bad
 |some l=>(ev c hi σ).ao (afz hi x l)
@[simp]def afA(c:Cf)(lo hi:E)(x l:D)(σ:Ev):Out Rv:=slM c hi x σ (cC lo.fQ l)
@[simp]def kSl(c:Cf)(lo hi:E)(x:D)(σ:Ev):Out Rv:=(ev c lo σ).ao (afA c lo hi x)
@[simp]theorem ahr c(a lo hi σ):ev c (.slc a lo hi) σ=(ev c a σ).ao (kSl c lo hi):=rfl
@[simp]theorem ahq c(σ):ev c .noneE σ=.ok (.val .non) σ:=rfl
@[simp]theorem ahp c(f as σ):ev c (.call f as) σ=(evs c as σ).bind (tE c f):=rfl
@[simp]def afj(i:Nat)(σ:Ev):Option Sl->Out Rv
 |some (.own _)=>.ok (.ref i) σ
 |some (.bor _)=>.ok (.ref i) σ
 |_=>.bad
@[simp]theorem aho c(i σ):ev c (.ref i) σ=afj i σ σ[i]? :=rfl
@[simp]theorem ahn c(e σ):ev c (.rd e) σ=ev c e σ:=rfl
@[simp]def afI(t:Ty)(x:D)(σ:Ev):Out Rv:=.ok (.val (.bl (p8 t x))) σ
@[simp]theorem ahm c(a t σ):ev c (.isi a t) σ=(ev c a σ).ao (afI t):=rfl
@[simp]def kBi(b:Bi)(x:D)(σ:Ev):Out Rv:=lift σ (b1 b x)
@[simp]def biM(c:Cf)(b:Bi)(a:E)(σ:Ev):Option Nat->Out Rv
 |some k=>lift σ ((bB k σ).bind (b1 b))
 |none=>(ev c a σ).ao (kBi b)
@[simp]theorem ahl c(b a σ):ev c (.bi b a) σ=biM c b a σ a.aB:=rfl
noncomputable def acd(x:D)(σ:Ev):Out Rv:=lift σ (match x with|.int n=>if fits n.toNat&&Ag n then some (.val (.lst (bF 0 n.toNat)))else none|_=>none)
@[simp]theorem acb n(σ):acd (.int n) σ=lift σ (if fits n.toNat&&Ag n then some (.val (.lst (bF 0 n.toNat)))else none):=rfl
@[simp]theorem ahk c(a σ):ev c (.range1 a) σ=(ev c a σ).ao acd:=rfl
@[simp]def ad1(xs ys:List D):Rv:=.val (.lst (aO xs ys))
@[simp]def ad2(y:D)(xs:List D):Option Rv:=(bN y).map (ad1 xs)
@[simp]def ab9(x y:D)(σ:Ev):Out Rv:=lift σ ((bN x).bind (ad2 y))
@[simp]def afx(c:Cf)(b:E)(x:D)(σ:Ev):Out Rv:=(ev c b σ).ao (ab9 x)
@[simp]theorem ahj c(a b σ):ev c (.zip a b) σ=(ev c a σ).ao (afx c b):=rfl
@[simp]def acp(x y:D)(σ:Ev):Out Rv:=lift σ (zW x y)
@[simp]def afO(c:Cf)(b:E)(x:D)(σ:Ev):Out Rv:=vW (bN x).isNone ((ev c b σ).ao (acp x))
@[simp]theorem ahi c(a b σ):ev c (.count a b) σ=(ev c a σ).ao (afO c b):=rfl
@[simp]theorem ady(ks vs):rR (some (.cR ks vs))=true:=rfl
@[simp]theorem ahh c(k a σ):ev c (.popAt k a) σ=vW (!cZ (bB k σ)) ((ev c a σ).ao (rA k)):=rfl
@[simp]def aco(c:Cf)(nl:Nat)(tg:Tg)(cond elt:E)(x:D)(σ:Ev):Out Rv:=match items x with
  |some xs=>match aY tg (ev c cond) (ev c elt) xs [] (List.replicate nl .un++σ)with
   |.ok ys τ=>.ok (.new (.lst ys)) (τ.drop nl)
   |_=>.bad
  |none=>.bad
@[simp]theorem ahg c(nl tg it cond elt σ):ev c (.comp nl tg it cond elt) σ=(ev c it σ).ao (aco c nl tg cond elt):=rfl
@[simp]def ack(x:Rv)(xs:List Rv)(σ:Ev):Out (List Rv):=.ok (argv x::xs) σ
@[simp]def afM(c:Cf)(t:E)(x:Rv)(σ:Ev):Out (List Rv):=(evs c t σ).bind (ack x)
@[simp]theorem aha c(σ):evs c .nil σ=.ok [] σ:=rfl
@[simp]theorem ag9 c(h t σ):evs c (.cons h t) σ=(ev c h σ).bind (afM c t):=rfl
@[simp]theorem aiO c(σ):ex c .nil σ=.next σ:=rfl
@[simp]theorem aiN c(h t σ):ex c (.cons h t) σ=(ex c h σ).seq (ex c t):=rfl
@[simp]theorem aiM c(σ):ex c .brk σ=.brk σ:=rfl
@[simp]theorem aiL c(σ):ex c .cont σ=.cont σ:=rfl
@[simp]def Wq(i:Nat)(σ:Ev)(s:Sl):Option Ev:=bU i s σ
@[simp]def afB(i:Nat)(x:Rv)(σ:Ev):Fl:=yZ (x.Aw.bind (Wq i σ))
@[simp]theorem aiK c(i e σ):ex c (.set i e) σ=(ev c e σ).fl (afB i):=rfl
@[simp]def aca(is:List Nat)(x:D)(σ:Ev):Fl:=yZ (bj (.tup is) x σ)
@[simp]theorem aiJ c(is e σ):ex c (.setT is e) σ=(ev c e σ).mD (aca is):=rfl
@[simp]def afF(k:Nat)(x y:D)(σ:Ev):Fl:=yZ (cX k (oK y x) σ)
@[simp]def kIx(c:Cf)(k:Nat)(ix:E)(x:D)(σ:Ev):Fl:=Y4 (bB k σ).isNone ((ev c ix σ).mD (afF k x))
@[simp]theorem aiI c(k ix e σ):ex c (.setIx k ix e) σ=(ev c e σ).mD (kIx c k ix):=rfl
@[simp]def ace(_:D)(σ:Ev):Fl:=.next σ
@[simp]theorem aiH c(e σ):ex c (.expr e) σ=(ev c e σ).mD ace:=rfl
@[simp]def agz(x:D)(xs:List D):Option (List D):=if fits (xs.length+1)then some (xs++[x])else none
@[simp]def afT(k:Nat)(x:D)(σ:Ev):Fl:=yZ (cX k (uR (agz x)) σ)
@[simp]theorem aiG c(k e σ):ex c (.append k e) σ=Y4 (!cZ (bB k σ)) ((ev c e σ).mD (afT k)):=rfl
@[simp]theorem ag8(c:Cf)(k e σ):ex c (.extend k e) σ=if !cZ (bB k σ)then .bad else(ev c e σ).mD fun x σ=>yZ ((gr x).bind fun ys=>cX k (uR fun xs=>if fits (xs.length+ys.length)then some (xs++ys)else none) σ):=rfl
@[simp]def afh(c:Cf)(e:E)(i:Nat)(σ:Ev):Option Sl->Fl
 |some (.own o)=>.ret (.new o) (σ.set i .un)
 |_=>(ev c e σ).fl ug
@[simp]def afi(c:Cf)(e:E)(σ:Ev):Option Nat->Fl
 |some i=>afh c e i σ σ[i]?
 |none=>(ev c e σ).fl ug
@[simp]theorem ag7 c(e σ):ex c (.ret e) σ=afi c e σ e.aB:=rfl
def XS(c:Cf)(a b:S)(q:Bool)(σ:Ev):Fl:=if q then ex c a σ else ex c b σ
@[simp]theorem afG(c a b σ):XS c a b true σ=ex c a σ:=rfl
@[simp]theorem afH(c a b σ):XS c a b false σ=ex c b σ:=rfl
@[simp]theorem ag6 c(t a b σ):ex c (.ite t a b) σ=(ev c t σ).FN (XS c a b):=rfl
@[simp]def kFor(c:Cf)(tg:Tg)(b:S)(σ:Ev):Option (List D)->Fl
 |some xs=>aG tg (ex c b) xs σ
 |none=>.bad
@[simp]def acj(c:Cf)(tg:Tg)(b:S)(x:D)(σ:Ev):Fl:=kFor c tg b σ (items x)
@[simp]theorem ag5 c(tg it b σ):ex c (.for_ tg it b) σ=(ev c it σ).mD (acj c tg b):=rfl
@[simp]theorem ag4 c(t b σ):ex c (.while_ t b) σ=cF (ev c t) (ex c b) c.turns σ:=rfl
@[simp]theorem ag3 c(k σ):ex c (.raise k) σ=.exc k σ:=rfl
@[simp]def afU(c:Cf)(e:E)(x:D)(σ:Ev):Out Rv:=match x with|.bl true=>gW c e σ|.bl false=>.ok (.val (.bl false)) σ|_=>.bad
@[simp]def kOr(c:Cf)(e:E)(x:D)(σ:Ev):Out Rv:=match x with|.bl true=>.ok (.val (.bl true)) σ|.bl false=>nG c e σ|_=>.bad
@[simp]theorem adI c(h σ):gW c (.cons h .nil) σ=ev c h σ:=rfl
@[simp]theorem adH c(h a b σ):gW c (.cons h (.cons a b)) σ=(ev c h σ).ao (afU c (.cons a b)):=rfl
@[simp]theorem agq c(h σ):nG c (.cons h .nil) σ=ev c h σ:=rfl
@[simp]theorem agp c(h a b σ):nG c (.cons h (.cons a b)) σ=(ev c h σ).ao (kOr c (.cons a b)):=rfl
@[simp high]theorem ajX x0:at? [x0] 0=some x0:=rfl
@[simp high]theorem ajW x0 x1:at? [x0,x1] 0=some x0:=rfl
@[simp high]theorem ajV x0 x1:at? [x0,x1] 1=some x1:=rfl
@[simp high]theorem ajU x0 x1 x2:at? [x0,x1,x2] 0=some x0:=rfl
@[simp high]theorem ajT x0 x1 x2:at? [x0,x1,x2] 1=some x1:=rfl
@[simp high]theorem ajS x0 x1 x2:at? [x0,x1,x2] 2=some x2:=rfl
@[simp high]theorem ajR x0 x1 x2 x3:at? [x0,x1,x2,x3] 0=some x0:=rfl
@[simp high]theorem ajQ x0 x1 x2 x3:at? [x0,x1,x2,x3] 1=some x1:=rfl
@[simp high]theorem ajP x0 x1 x2 x3:at? [x0,x1,x2,x3] 2=some x2:=rfl
@[simp high]theorem ajO x0 x1 x2 x3:at? [x0,x1,x2,x3] 3=some x3:=rfl
@[simp]theorem aiF(σ):giveBack [] [] σ=some σ:=rfl
@[simp]theorem aiE(i as o ps σ):giveBack (.ref i::as) (.bor o::ps) σ=(cX i (fun _=>some o) σ).bind (giveBack as ps):=rfl
@[simp]theorem aiD(d as p ps σ):giveBack (.val d::as) (p::ps) σ=giveBack as ps σ:=rfl
@[simp]theorem aib(i j):kW i (.ref j)=(i==j):=rfl
@[simp]theorem aia(i d):kW i (.val d)=false:=rfl
@[simp]theorem ah9(i o):kW i (.new o)=false:=rfl
@[simp]theorem ahR(xs):p8 .tup (.tup xs)=true:=rfl
@[simp]theorem ahQ(xs):p8 .lst (.lst xs)=true:=rfl
@[simp]theorem ahP(x):p8 .str (.str x)=true:=rfl
@[simp]theorem ahO(b):p8 .bool (.bl b)=true:=rfl
def aea(i):p8 .bool (.int i)=false:=rfl
@[simp]theorem ahN(i):p8 .int (.int i)=true:=rfl
@[simp]theorem agm:fits 0=true:=rfl
@[simp]theorem agl:fits 1=true:=rfl
@[simp]theorem agk:fits 2=true:=rfl
@[simp]theorem agj:fits 3=true:=rfl
@[simp]theorem agi:fits 4=true:=rfl
@[simp]theorem agh:fits 5=true:=rfl
@[simp]theorem agg:fits 6=true:=rfl
@[simp]theorem agf:fits 7=true:=rfl
@[simp]theorem age:fits 8=true:=rfl
@[simp↓]theorem ite_tt{α:Type}(a b:α):(if true=true then a else b)=a:=rfl
@[simp↓]theorem ite_ff{α:Type}(a b:α):(if false=true then a else b)=b:=rfl
@[simp]theorem adY xs ys:binop .add (.tup xs) (.tup ys)=if fits (xs.length+ys.length)then some (.val (.tup (xs++ys)))else none:=rfl
@[simp]theorem adZ xs ys:binop .add (.lst xs) (.lst ys)=if fits (xs.length+ys.length)then some (.new (.lst (xs++ys)))else none:=rfl
@[simp]def acf(x y:D)(σ:Ev):Out Rv:=lift σ (acs x y)
@[simp]def acg(c:Cf)(b:E)(x:D)(σ:Ev):Out Rv:=vW (gr x).isNone ((ev c b σ).ao (acf x))
@[simp]theorem ahf(c:Cf)(a b σ):ev c (.index a b) σ=(ev c a σ).ao (acg c b):=rfl
@[simp]def gtK(k x y:D):Option Rv:=(rZ y k x).map Rv.val
@[simp]def afK(i:Nat)(k x:D)(σ:Ev):Out Rv:=lift σ ((bB i σ).bind (gtK k x))
@[simp]def afL(c:Cf)(i:Nat)(x:E)(k:D)(σ:Ev):Out Rv:=(ev c x σ).ao (afK i k)
@[simp]def af6(c:Cf)(d k x:E)(σ:Ev):Option Nat->Out Rv
 |some i=>vW (!rR (bB i σ)) ((ev c k σ).ao (afL c i x))
 |none=>.bad
@[simp]theorem ahe c(d k x σ):ev c (.get2 d k x) σ=af6 c d k x σ d.aB:=rfl
@[simp]def afN(rs:List Rv)(σ:Ev):Out Rv:=lift σ ((aV rs).bind zP)
@[simp]theorem ahd c(es σ):ev c (.dsp es) σ=(evs c es σ).bind afN:=rfl
@[simp]theorem ahb c(σ):ev c .emp σ=.ok (.new (.dct [] [])) σ:=rfl
@[simp]def acI(xs:List D):Rv:=.val (.lst (aO (bF 0 xs.length) xs))
@[simp]def acn(x:D)(σ:Ev):Out Rv:=lift σ ((gr x).map acI)
@[simp]theorem ahc c(a σ):ev c (.enum a) σ=(ev c a σ).ao acn:=rfl
@[simp high]theorem aiC a0(r:Ev):(a0::r)[0]? =some a0:=rfl
@[simp high]theorem ah7 a0 v(r:Ev):List.set (a0::r) 0 v=v::r:=rfl
@[simp high]theorem aiB a0 a1(r:Ev):(a0::a1::r)[1]? =some a1:=rfl
@[simp high]theorem ah6 a0 a1 v(r:Ev):List.set (a0::a1::r) 1 v=a0::v::r:=rfl
@[simp high]theorem aiA a0 a1 a2(r:Ev):(a0::a1::a2::r)[2]? =some a2:=rfl
@[simp high]theorem ah5 a0 a1 a2 v(r:Ev):List.set (a0::a1::a2::r) 2 v=a0::a1::v::r:=rfl
@[simp high]theorem aiz a0 a1 a2 a3(r:Ev):(a0::a1::a2::a3::r)[3]? =some a3:=rfl
@[simp high]theorem ah4 a0 a1 a2 a3 v(r:Ev):List.set (a0::a1::a2::a3::r) 3 v=a0::a1::a2::v::r:=rfl
@[simp high]theorem aiy a0 a1 a2 a3 a4(r:Ev):(a0::a1::a2::a3::a4::r)[4]? =some a4:=rfl
@[simp high]theorem ah3 a0 a1 a2 a3 a4 v(r:Ev):List.set (a0::a1::a2::a3::a4::r) 4 v=a0::a1::a2::a3::v::r:=rfl
@[simp high]theorem aix a0 a1 a2 a3 a4 a5(r:Ev):(a0::a1::a2::a3::a4::a5::r)[5]? =some a5:=rfl
@[simp high]theorem ah2 a0 a1 a2 a3 a4 a5 v(r:Ev):List.set (a0::a1::a2::a3::a4::a5::r) 5 v=a0::a1::a2::a3::a4::v::r:=rfl
@[simp high]theorem aiw a0 a1 a2 a3 a4 a5 a6(r:Ev):(a0::a1::a2::a3::a4::a5::a6::r)[6]? =some a6:=rfl
@[simp high]theorem ah1 a0 a1 a2 a3 a4 a5 a6 v(r:Ev):List.set (a0::a1::a2::a3::a4::a5::a6::r) 6 v=a0::a1::a2::a3::a4::a5::v::r:=rfl
@[simp high]theorem aiv a0 a1 a2 a3 a4 a5 a6 a7(r:Ev):(a0::a1::a2::a3::a4::a5::a6::a7::r)[7]? =some a7:=rfl
@[simp high]theorem ah0 a0 a1 a2 a3 a4 a5 a6 a7 v(r:Ev):List.set (a0::a1::a2::a3::a4::a5::a6::a7::r) 7 v=a0::a1::a2::a3::a4::a5::a6::v::r:=rfl
@[simp high]theorem aiu a0 a1 a2 a3 a4 a5 a6 a7 a8(r:Ev):(a0::a1::a2::a3::a4::a5::a6::a7::a8::r)[8]? =some a8:=rfl
@[simp high]theorem ahZ a0 a1 a2 a3 a4 a5 a6 a7 a8 v(r:Ev):List.set (a0::a1::a2::a3::a4::a5::a6::a7::a8::r) 8 v=a0::a1::a2::a3::a4::a5::a6::a7::v::r:=rfl
@[simp high]theorem ait a0 a1 a2 a3 a4 a5 a6 a7 a8 a9(r:Ev):(a0::a1::a2::a3::a4::a5::a6::a7::a8::a9::r)[9]? =some a9:=rfl
@[simp high]theorem ahY a0 a1 a2 a3 a4 a5 a6 a7 a8 a9 v(r:Ev):List.set (a0::a1::a2::a3::a4::a5::a6::a7::a8::a9::r) 9 v=a0::a1::a2::a3::a4::a5::a6::a7::a8::v::r:=rfl
end Mini
end
section
namespace Tx
open PySem L2 Mini
abbrev d0:Df:=bL "checked" s0 [false]
abbrev d1:Df:=bL "is_net" s1 [false]
abbrev d2:Df:=bL "has_parts" s2 [false]
abbrev d3:Df:=bL "is_tuple" s3 [false,false,false]
abbrev d4:Df:=bL "is_number" s4 [false,false,false]
abbrev d5:Df:=bL "is_name" s5 [false]
abbrev d6:Df:=bL "are_unlike" s6 [false]
abbrev d7:Df:=bL "is_row" s7 [false,false]
abbrev d8:Df:=bL "is_wire" s8 [false,false]
abbrev d9:Df:=bL "are_wires" s9 [false,false,false,false]
abbrev d10:Df:=bL "are_rows" s10 [false,false]
abbrev d11:Df:=bL "is_kind" s11 [false,false,false]
abbrev d12:Df:=bL "is_held" s12 [false,false,false]
abbrev d13:Df:=bL "wire_names" s13 [false]
abbrev d14:Df:=bL "waiting_gates" s14 [false,false]
abbrev d15:Df:=bL "told" s15 [false,false,false]
abbrev d16:Df:=bL "told_held" s16 [false,false,false]
abbrev d17:Df:=bL "checked_talk" s17 [false,false]
abbrev d18:Df:=bL "is_talk" s18 [false,false]
abbrev d19:Df:=bL "is_state" s19 [false,false,false]
abbrev d20:Df:=bL "first_stand" s20 [false]
abbrev d21:Df:=bL "steps_at" s21 [false,false,false]
abbrev d22:Df:=bL "is_unasked" s22 [false,false,false]
abbrev d23:Df:=bL "led_to" s23 [false,false,false,false]
abbrev d24:Df:=bL "changed" s24 [false,false,false]
abbrev d25:Df:=bL "newly_met" s25 [false,false,false,true]
abbrev d26:Df:=bL "fault" s26 [false,false]
abbrev d27:Df:=bL "fault_at" s27 [false,false,false,false]
abbrev d28:Df:=bL "has_out" s28 [false,false]
abbrev d29:Df:=bL "fault_of_step" s29 [false,false,false,false,false]
abbrev d30:Df:=bL "held" s30 [false,false]
abbrev d31:Df:=bL "mended" s31 [false,false]
abbrev d32:Df:=bL "mended_by_two" s32 [false,false,false]
abbrev d33:Df:=bL "has_part" s33 [false,false]
abbrev d34:Df:=bL "points_of" s34 [false]
abbrev d35:Df:=bL "is_point" s35 [false,false]
abbrev d36:Df:=bL "with_point" s36 [false,false]
abbrev d37:Df:=bL "held_kind" s37 [false,false]
abbrev d38:Df:=bL "_law_cell_at" s38 [false,false]
abbrev d39:Df:=bL "_law_mixed" s39 [false,false,false]
abbrev d40:Df:=bL "_law_next" s40 [false,true,false]
abbrev d41:Df:=bL "_law_some" s41 [false,true,false,false,false]
abbrev d42:Df:=bL "_law_table" s42 [false,true,false]
abbrev d43:Df:=bL "_law_kind" s43 [false,true,false,false]
abbrev d44:Df:=bL "_law_net" s44 [false,true,false,false]
abbrev d45:Df:=bL "_law_talk" s45 [false,true,false,false]
abbrev d46:Df:=bL "_law_ring" s46 [false,true]
abbrev d47:Df:=bL "_law_chain" s47 [false,true]
abbrev d48:Df:=bL "_law_meeting" s48 [false,true]
abbrev d49:Df:=bL "_law_spoilt_kind" s49 [false,true,false]
abbrev d50:Df:=bL "_law_case" s50 [false,false]
abbrev d51:Df:=bL "_law_names" s51 [false]
abbrev d52:Df:=bL "_law_tells" s52 [false,false,false]
abbrev d53:Df:=bL "_law_waiting" s53 [false,false]
abbrev d54:Df:=bL "_law_steps" s54 [false,false,false]
abbrev d55:Df:=bL "_law_led" s55 [false,false,false,false]
abbrev d56:Df:=bL "_law_stands" s56 [false,false]
abbrev d57:Df:=bL "_law_points" s57 [false]
abbrev d58:Df:=bL "_law_deep" s58 [false]
abbrev d59:Df:=bL "_law_first" s59 [false,false]
abbrev d60:Df:=bL "law" s60 [false]
noncomputable def ds:List Df:=[d0,d1,d2,d3,d4,d5,d6,d7,d8,d9,d10,d11,d12,d13,d14,d15,d16,d17,d18,d19,d20,d21,d22,d23,d24,d25,d26,d27,d28,d29,d30,d31,d32,d33,d34,d35,d36,d37,d38,d39,d40,d41,d42,d43,d44,d45,d46,d47,d48,d49,d50,d51,d52,d53,d54,d55,d56,d57,d58,d59,d60]
noncomputable def nW:List Str:=["LETTERS","LONGEST_NAME","WORDS","MOST_INPUTS","MOST_GATES","MOST_WIRES","MOST_TABLE_WIRES","DEEPEST_HELD","MOST_STATES","MOST_MENDED_GATES"]
noncomputable def vals:List D:=[.str "abcdefghijklmnopqrstuvwxyz",.int 6,.tup [.str "input",.str "gate",.str "start",.str "out",.str "state",.str "same",.str "not",.str "and",.str "or",.str "both",.str "held",.str "table",.str "on",.str "off"],.int 3,.int 5,.int 4,.int 8,.int 3,.int 12,.int 4]
def pg:Pg:=Kr ds nW vals 1000
def scp:ds.all JN=true:=by decide+kernel
def nT:ds.all (fun d=>(fnOf ds nW d).isSome)=true:=by decide+kernel
def bd:Gu ds:=⟨fun _ _ _ _ _ _ us hl=>by obtain⟨_,rfl⟩:=oV hl;rfl,fun _ _ _ _ _ _ us hl=>by obtain⟨_,rfl⟩:=oV hl;rfl,fun _ _ _ _ _ _ us hl=>by obtain⟨_,rfl⟩:=oV hl;rfl,fun _ _ _ _ _ _ us hl=>by obtain⟨_,_,_,rfl⟩:=jx hl;rfl,fun _ _ _ _ _ _ us hl=>by obtain⟨_,_,_,rfl⟩:=jx hl;rfl,fun _ _ _ _ _ _ us hl=>by obtain⟨_,rfl⟩:=oV hl;rfl,fun _ _ _ _ _ _ us hl=>by obtain⟨_,rfl⟩:=oV hl;rfl,fun _ _ _ _ _ _ us hl=>by obtain⟨_,_,rfl⟩:=gw hl;rfl,fun _ _ _ _ _ _ us hl=>by obtain⟨_,_,rfl⟩:=gw hl;rfl,fun _ _ _ _ _ _ us hl=>by obtain⟨_,_,_,_,rfl⟩:=wO hl;rfl,fun _ _ _ _ _ _ us hl=>by obtain⟨_,_,rfl⟩:=gw hl;rfl,fun _ _ _ _ _ _ us hl=>by obtain⟨_,_,_,rfl⟩:=jx hl;rfl,fun _ _ _ _ _ _ us hl=>by obtain⟨_,_,_,rfl⟩:=jx hl;rfl,fun _ _ _ _ _ _ us hl=>by obtain⟨_,rfl⟩:=oV hl;rfl,fun _ _ _ _ _ _ us hl=>by obtain⟨_,_,rfl⟩:=gw hl;rfl,fun _ _ _ _ _ _ us hl=>by obtain⟨_,_,_,rfl⟩:=jx hl;rfl,fun _ _ _ _ _ _ us hl=>by obtain⟨_,_,_,rfl⟩:=jx hl;rfl,fun _ _ _ _ _ _ us hl=>by obtain⟨_,_,rfl⟩:=gw hl;rfl,fun _ _ _ _ _ _ us hl=>by obtain⟨_,_,rfl⟩:=gw hl;rfl,fun _ _ _ _ _ _ us hl=>by obtain⟨_,_,_,rfl⟩:=jx hl;rfl,fun _ _ _ _ _ _ us hl=>by obtain⟨_,rfl⟩:=oV hl;rfl,fun _ _ _ _ _ _ us hl=>by obtain⟨_,_,_,rfl⟩:=jx hl;rfl,fun _ _ _ _ _ _ us hl=>by obtain⟨_,_,_,rfl⟩:=jx hl;rfl,fun _ _ _ _ _ _ us hl=>by obtain⟨_,_,_,_,rfl⟩:=wO hl;rfl,fun _ _ _ _ _ _ us hl=>by obtain⟨_,_,_,rfl⟩:=jx hl;rfl,fun _ _ _ _ _ _ us hl=>by obtain⟨_,_,_,_,rfl⟩:=wO hl;rfl,fun _ _ _ _ _ _ us hl=>by obtain⟨_,_,rfl⟩:=gw hl;rfl,fun _ _ _ _ _ _ us hl=>by obtain⟨_,_,_,_,rfl⟩:=wO hl;rfl,fun _ _ _ _ _ _ us hl=>by obtain⟨_,_,rfl⟩:=gw hl;rfl,fun _ _ _ _ _ _ us hl=>by obtain⟨_,_,_,_,_,rfl⟩:=ab6 hl;rfl,fun _ _ _ _ _ _ us hl=>by obtain⟨_,_,rfl⟩:=gw hl;rfl,fun _ _ _ _ _ _ us hl=>by obtain⟨_,_,rfl⟩:=gw hl;rfl,fun _ _ _ _ _ _ us hl=>by obtain⟨_,_,_,rfl⟩:=jx hl;rfl,fun _ _ _ _ _ _ us hl=>by obtain⟨_,_,rfl⟩:=gw hl;rfl,fun _ _ _ _ _ _ us hl=>by obtain⟨_,rfl⟩:=oV hl;rfl,fun _ _ _ _ _ _ us hl=>by obtain⟨_,_,rfl⟩:=gw hl;rfl,fun _ _ _ _ _ _ us hl=>by obtain⟨_,_,rfl⟩:=gw hl;rfl,fun _ _ _ _ _ _ us hl=>by obtain⟨_,_,rfl⟩:=gw hl;rfl,fun _ _ _ _ _ _ us hl=>by obtain⟨_,_,rfl⟩:=gw hl;rfl,fun _ _ _ _ _ _ us hl=>by obtain⟨_,_,_,rfl⟩:=jx hl;rfl,fun _ _ _ _ _ _ us hl=>by obtain⟨_,_,_,rfl⟩:=jx hl;rfl,fun _ _ _ _ _ _ us hl=>by obtain⟨_,_,_,_,_,rfl⟩:=ab6 hl;rfl,fun _ _ _ _ _ _ us hl=>by obtain⟨_,_,_,rfl⟩:=jx hl;rfl,fun _ _ _ _ _ _ us hl=>by obtain⟨_,_,_,_,rfl⟩:=wO hl;rfl,fun _ _ _ _ _ _ us hl=>by obtain⟨_,_,_,_,rfl⟩:=wO hl;rfl,fun _ _ _ _ _ _ us hl=>by obtain⟨_,_,_,_,rfl⟩:=wO hl;rfl,fun _ _ _ _ _ _ us hl=>by obtain⟨_,_,rfl⟩:=gw hl;rfl,fun _ _ _ _ _ _ us hl=>by obtain⟨_,_,rfl⟩:=gw hl;rfl,fun _ _ _ _ _ _ us hl=>by obtain⟨_,_,rfl⟩:=gw hl;rfl,fun _ _ _ _ _ _ us hl=>by obtain⟨_,_,_,rfl⟩:=jx hl;rfl,fun _ _ _ _ _ _ us hl=>by obtain⟨_,_,rfl⟩:=gw hl;rfl,fun _ _ _ _ _ _ us hl=>by obtain⟨_,rfl⟩:=oV hl;rfl,fun _ _ _ _ _ _ us hl=>by obtain⟨_,_,_,rfl⟩:=jx hl;rfl,fun _ _ _ _ _ _ us hl=>by obtain⟨_,_,rfl⟩:=gw hl;rfl,fun _ _ _ _ _ _ us hl=>by obtain⟨_,_,_,rfl⟩:=jx hl;rfl,fun _ _ _ _ _ _ us hl=>by obtain⟨_,_,_,_,rfl⟩:=wO hl;rfl,fun _ _ _ _ _ _ us hl=>by obtain⟨_,_,rfl⟩:=gw hl;rfl,fun _ _ _ _ _ _ us hl=>by obtain⟨_,rfl⟩:=oV hl;rfl,fun _ _ _ _ _ _ us hl=>by obtain⟨_,rfl⟩:=oV hl;rfl,fun _ _ _ _ _ _ us hl=>by obtain⟨_,_,rfl⟩:=gw hl;rfl,fun _ _ _ _ _ _ us hl=>by obtain⟨_,rfl⟩:=oV hl;rfl,trivial⟩
noncomputable def nms:List (Str×Stmt):=("checked",s0)::("is_net",s1)::("has_parts",s2)::("is_tuple",s3)::("is_number",s4)::("is_name",s5)::("are_unlike",s6)::("is_row",s7)::("is_wire",s8)::("are_wires",s9)::("are_rows",s10)::("is_kind",s11)::("is_held",s12)::("wire_names",s13)::("waiting_gates",s14)::("told",s15)::("told_held",s16)::("checked_talk",s17)::("is_talk",s18)::("is_state",s19)::("first_stand",s20)::("steps_at",s21)::("is_unasked",s22)::("led_to",s23)::("changed",s24)::("newly_met",s25)::("fault",s26)::("fault_at",s27)::("has_out",s28)::("fault_of_step",s29)::("held",s30)::("mended",s31)::("mended_by_two",s32)::("has_part",s33)::("points_of",s34)::("is_point",s35)::("with_point",s36)::("held_kind",s37)::("_law_cell_at",s38)::("_law_mixed",s39)::("_law_next",s40)::("_law_some",s41)::("_law_table",s42)::("_law_kind",s43)::("_law_net",s44)::("_law_talk",s45)::("_law_ring",s46)::("_law_chain",s47)::("_law_meeting",s48)::("_law_spoilt_kind",s49)::("_law_case",s50)::("_law_names",s51)::("_law_tells",s52)::("_law_waiting",s53)::("_law_steps",s54)::("_law_led",s55)::("_law_stands",s56)::("_law_points",s57)::("_law_deep",s58)::("_law_first",s59)::("law",s60)::[]
end Tx
end
section
open PySem
section
open Mini
namespace Tx
def aX{n i:Nat}{g:Fn}{ps us:List Sl}(h:pg.fns[i]? =some g:=by kernel_rfl)(e:us=ps++List.replicate (g.names-g.pars) .un:=by rfl)(l:ps.length=g.pars:=by rfl):pg.fn (n+1) i ps=fin g.pars (ex (pg.cf n) g.body us):=by
 subst e
 refine Eq.trans ?_ (Qj _ _ _ l)
 show(match pg.fns[i]? with|some g=>iz (pg.cf n) g ps|none=>pg.pf (pg.cf n) i ps)=_
 rw[h]
noncomputable def pA:Fn:=⟨1,1,(.cons (.ite (.not (.call 1 AAQ)) ABI .nil) (.cons (.ret (.var 0)) .nil))⟩
def Hg(n:Nat)(p0:Sl):pg.fn (n+1) 0 [p0]=fin 1 (ex (pg.cf n) pA.body [p0]):=aX (g:=pA)
noncomputable def tQ:Fn:=⟨1,2,(.cons (.ite ABZ AAS .nil) (.cons (.set 1 ABi) (.cons (.ite (.or (.cons (.not (.bi .all ADQ)) ADx)) AAS .nil) (.cons (.ret (.and (.cons (.bi .all ACP) ADk))) .nil))))⟩
def J5(n:Nat)(p0:Sl):pg.fn (n+1) 1 [p0]=fin 1 (ex (pg.cf n) tQ.body [p0,.un]):=aX (g:=tQ)
noncomputable def j4:Fn:=⟨1,1,(.cons (.ite AAx AAS .nil) (.cons (.ret (.bi .all (.comp 1 (.name 0) AAc AAL AAw))) .nil))⟩
def yR(n:Nat)(p0:Sl):pg.fn (n+1) 2 [p0]=fin 1 (ex (pg.cf n) j4.body [p0]):=aX (g:=j4)
noncomputable def lY:Fn:=⟨3,3,(.cons (.ret (.and (.cons (.isi (.var 0) .tup) (.cons (.chain .le .le (.var 1) ADJ (.var 2)) .nil)))) .nil)⟩
def Bj(n:Nat)(p0 p1 p2:Sl):pg.fn (n+1) 3 [p0,p1,p2]=fin 3 (ex (pg.cf n) lY.body [p0,p1,p2]):=aX (g:=lY)
noncomputable def jZ:Fn:=⟨3,3,(.cons (.ret (.and (.cons (.isi (.var 0) .int) (.cons (.not (.isi (.var 0) .bool)) (.cons (.chain .le .le (.var 1) (.var 0) (.var 2)) .nil))))) .nil)⟩
def yP(n:Nat)(p0 p1 p2:Sl):pg.fn (n+1) 4 [p0,p1,p2]=fin 3 (ex (pg.cf n) jZ.body [p0,p1,p2]):=aX (g:=jZ)
noncomputable def jo:Fn:=⟨1,1,(.cons (.ret (.bi .all ACY)) .nil)⟩
def wC(n:Nat)(p0:Sl):pg.fn (n+1) 6 [p0]=fin 1 (ex (pg.cf n) jo.body [p0]):=aX (g:=jo)
noncomputable def tO:Fn:=⟨2,2,(.cons (.ret (.and (.cons (.call 3 (.cons (.var 0) (.cons (.var 1) AAV))) (.cons (.bi .all ACs) .nil)))) .nil)⟩
def J4(n:Nat)(p0 p1:Sl):pg.fn (n+1) 7 [p0,p1]=fin 2 (ex (pg.cf n) tO.body [p0,p1]):=aX (g:=tO)
noncomputable def lC:Fn:=⟨2,2,(.cons (.ret (.and (.cons (.isi (.var 0) .str) (.cons (.cmp .isin (.var 0) (.var 1)) .nil)))) .nil)⟩
def uQ(n:Nat)(p0 p1:Sl):pg.fn (n+1) 8 [p0,p1]=fin 2 (ex (pg.cf n) lC.body [p0,p1]):=aX (g:=lC)
noncomputable def j5:Fn:=⟨4,4,(.cons (.ite (.not (.call 3 (.cons (.var 0) AAr))) AAS .nil) (.cons (.ret (.and (.cons (.bi .all ACg) (.cons (.call 6 AAQ) .nil)))) .nil))⟩
def yS(n:Nat)(p0 p1 p2 p3:Sl):pg.fn (n+1) 9 [p0,p1,p2,p3]=fin 4 (ex (pg.cf n) j5.body [p0,p1,p2,p3]):=aX (g:=j5)
noncomputable def mz:Fn:=⟨2,2,(.cons (.ite (.or (.cons (.not (.isi (.var 0) .tup)) (.cons (.not (.bi .all ACh)) .nil))) AAS .nil) (.cons (.ret (.bi .all ABm)) .nil))⟩
def Bp(n:Nat)(p0 p1:Sl):pg.fn (n+1) 10 [p0,p1]=fin 2 (ex (pg.cf n) mz.body [p0,p1]):=aX (g:=mz)
noncomputable def dj:Fn:=⟨3,5,(.cons (.ite (.or (.cons (.not (.call 3 (.cons (.var 0) (.cons AAP ABg)))) (.cons (.not (.isi AAb .str)) .nil))) AAS .nil) (.cons (.set 3 AAb) (.cons (.set 4 ADJ) (.cons (.ite (.cmp .isin (.var 3) (.tup ACu)) (.cons (.ret (.and (.cons ADY (.cons (.call 8 (.cons AAc AAV)) .nil)))) .nil) .nil) (.cons (.ite (.cmp .isin (.var 3) (.tup (.cons ABl (.cons ABq .nil)))) (.cons (.ret (.and (.cons ADY (.cons (.call 9 (.cons AAc (.cons (.var 1) (.cons AAG (.cons (.glob 5) .nil))))) .nil)))) .nil) .nil) (.cons (.ite (.cmp .eq (.var 3) ABx) (.cons (.ret (.and (.cons ADY (.cons (.call 9 (.cons AAc (.cons (.var 1) (.cons AAP (.cons (.glob 5) .nil))))) .nil)))) .nil) .nil) (.cons (.ite ADZ (.cons (.ret (.and (.cons (.cmp .eq (.var 4) AAX) (.cons (.call 9 (.cons AAc (.cons (.var 1) (.cons AAG (.cons (.glob 6) .nil))))) (.cons (.call 10 (.cons AAn (.cons (.bi .len AAc) .nil))) .nil))))) .nil) .nil) (.cons (.ite ADa (.cons (.ret (.and (.cons (.cmp .eq (.var 4) (.con (.int 4))) (.cons (.cmp .lt (.var 2) (.glob 7)) (.cons (.call 12 (.cons (.var 0) (.cons (.var 1) ADo))) .nil))))) .nil) .nil) AAS))))))))⟩
def eQ(n:Nat)(p0 p1 p2:Sl):pg.fn (n+1) 11 [p0,p1,p2]=fin 3 (ex (pg.cf n) dj.body [p0,p1,p2,.un,.un]):=aX (g:=dj)
noncomputable def ph:Fn:=⟨3,3,(.cons (.ret (.and (.cons (.call 11 (.cons AAc AAR)) (.cons (.call 8 (.cons AAn AAV)) (.cons (.isi (.idx (.var 0) AAX) .bool) .nil))))) .nil)⟩
def Hd(n:Nat)(p0 p1 p2:Sl):pg.fn (n+1) 12 [p0,p1,p2]=fin 3 (ex (pg.cf n) ph.body [p0,p1,p2]):=aX (g:=ph)
noncomputable def jk:Fn:=⟨1,1,ADK⟩
def mU(n:Nat)(p0:Sl):pg.fn (n+1) 13 [p0]=fin 1 (ex (pg.cf n) jk.body [p0]):=aX (g:=jk)
noncomputable def fH:Fn:=⟨2,3,(.cons (.set 2 (.bi .dict ACy)) (.cons (.ret (.comp 2 (.tup [0,1]) AAc AAl (.var 0))) .nil))⟩
def pW(n:Nat)(p0 p1:Sl):pg.fn (n+1) 14 [p0,p1]=fin 2 (ex (pg.cf n) fH.body [p0,p1,.un]):=aX (g:=fH)
noncomputable def Di:Fn:=⟨3,5,(.cons (.set 3 AAb) (.cons (.ite (.cmp .eq (.var 3) ABL) (.cons (.ret ADG) .nil) .nil) (.cons (.ite (.cmp .eq (.var 3) ABk) (.cons (.ret (.not ADG)) .nil) .nil) (.cons (.ite ADa ADw .nil) (.cons (.set 4 (.bi .tuple (.comp 1 (.name 0) AAc AAL (.idx (.var 3) (.var 0))))) (.cons (.ite (.cmp .eq (.var 3) ABl) ADi .nil) (.cons (.ite (.cmp .eq (.var 3) ABq) ADh .nil) (.cons (.ite ADZ ADS .nil) ABS))))))))⟩
def jL(n:Nat)(p0 p1 p2:Sl):pg.fn (n+1) 15 [p0,p1,p2]=fin 3 (ex (pg.cf n) Di.body [p0,p1,p2,.un,.un]):=aX (g:=Di)
noncomputable def gY:Fn:=⟨3,5,(.cons (.set 3 (.call 15 (.cons AAc AAR))) (.cons (.set 4 (.cmp .eq (.idx (.var 2) AAn) (.var 3))) (.cons (.ret (.ite (.cmp .eq (.var 4) (.idx (.var 0) AAX)) (.var 3) (.var 1))) .nil)))⟩
def pI(n:Nat)(p0 p1 p2:Sl):pg.fn (n+1) 16 [p0,p1,p2]=fin 3 (ex (pg.cf n) gY.body [p0,p1,p2,.un,.un]):=aX (g:=gY)
noncomputable def gD:Fn:=⟨2,2,(.cons (.ite (.not (.call 18 (.cons (.call 0 AAQ) AAV))) ABI .nil) ACv)⟩
def q9(n:Nat)(p0 p1:Sl):pg.fn (n+1) 17 [p0,p1]=fin 2 (ex (pg.cf n) gD.body [p0,p1]):=aX (g:=gD)
noncomputable def o9:Fn:=⟨2,4,(.cons (.ite ACi AAS .nil) (.cons (.set 2 ACG) (.cons (.ite AAs AAS .nil) (.cons (.set 3 (.op .add AAb AAj)) (.cons (.ret (.bi .all ABj)) .nil)))))⟩
def Hc(n:Nat)(p0 p1:Sl):pg.fn (n+1) 18 [p0,p1]=fin 2 (ex (pg.cf n) o9.body [p0,p1,.un,.un]):=aX (g:=o9)
noncomputable def lZ:Fn:=⟨3,3,(.cons (.ite (.or (.cons (.not (.call 3 (.cons (.var 0) (.cons AAH ABu)))) (.cons (.not (.bi .all ADp)) .nil))) AAS .nil) (.cons (.ite (.not (.call 9 (.cons (.bi .tuple (.comp 1 (.name 0) (.var 0) AAL AAb)) (.cons (.var 1) (.cons AAH ABu))))) AAS .nil) (.cons (.ret (.bi .all ABh)) .nil)))⟩
def Bk(n:Nat)(p0 p1 p2:Sl):pg.fn (n+1) 19 [p0,p1,p2]=fin 3 (ex (pg.cf n) lZ.body [p0,p1,p2]):=aX (g:=lZ)
noncomputable def lR:Fn:=⟨3,4,(.cons (.set 3 (.bi .dict ACc)) (.cons (.ret (.op .add (.comp 1 (.name 0) AAb ACM (.var 0)) (.call 14 ABR))) .nil))⟩
def Bb(n:Nat)(p0 p1 p2:Sl):pg.fn (n+1) 21 [p0,p1,p2]=fin 3 (ex (pg.cf n) lR.body [p0,p1,p2,.un]):=aX (g:=lR)
noncomputable def jn:Fn:=⟨3,3,(.cons (.ret (.and (.cons (.cmp .isin (.var 2) AAb) (.cons (.cmp .notin (.var 2) (.bi .dict (.idx AAc AAf))) .nil)))) .nil)⟩
def wB(n:Nat)(p0 p1 p2:Sl):pg.fn (n+1) 22 [p0,p1,p2]=fin 3 (ex (pg.cf n) jn.body [p0,p1,p2]):=aX (g:=jn)
noncomputable def nQ:Fn:=⟨4,5,(.cons (.ite (.call 22 ADm) AAq .nil) (.cons (.set 4 (.bi .dict ACc)) (.cons (.ret (.tup (.cons (.call 24 (.cons (.var 0) (.cons AAm AAT))) (.cons (.get2 (.var 4) (.var 3) AAe) .nil)))) .nil)))⟩
def J3(n:Nat)(p0 p1 p2 p3:Sl):pg.fn (n+1) 23 [p0,p1,p2,p3]=fin 4 (ex (pg.cf n) nQ.body [p0,p1,p2,p3,.un]):=aX (g:=nQ)
noncomputable def pB:Fn:=⟨3,3,(.cons (.ret (.bi .tuple (.comp 2 (.tup [0,1]) ACy AAL (.ite ACw (.not (.var 1)) (.var 1))))) .nil)⟩
def Hh(n:Nat)(p0 p1 p2:Sl):pg.fn (n+1) 24 [p0,p1,p2]=fin 3 (ex (pg.cf n) pB.body [p0,p1,p2]):=aX (g:=pB)
noncomputable def jR:Fn:=⟨4,7,(.cons (.set 4 ABr) (.cons (.for_ (.name 5) (.call 21 ABw) (.cons ACX (.cons (.ite (.and (.cons ADN ABQ)) ABc .nil) .nil))) ABf))⟩
def yI(n:Nat)(p0 p1 p2 p3:Sl):pg.fn (n+1) 25 [p0,p1,p2,p3]=fin 4 (ex (pg.cf n) jR.body [p0,p1,p2,p3,.un,.un,.un]):=aX (g:=jR)
noncomputable def xQ:Fn:=⟨2,5,(.cons ADe (.cons (.set 2 (.dsp (.cons (.call 20 AAQ) (.cons ABr .nil)))) (.cons ACr (.cons (.while_ (.var 3) (.cons ABn (.cons (.ite (.cmp .notN (.var 4) ABs) ABf .nil) ABN))) AAq))))⟩
def Qx(n:Nat)(p0 p1:Sl):pg.fn (n+1) 26 [p0,p1]=fin 2 (ex (pg.cf n) xQ.body [p0,p1,.un,.un,.un]):=aX (g:=xQ)
noncomputable def my:Fn:=⟨4,7,(.cons (.set 4 (.call 21 ABw)) (.cons (.ite (.and (.cons (.not (.var 4)) (.cons (.call 28 AAR) .nil))) (.cons (.ret (.tup (.cons (.con (.str "stuck")) AAT))) .nil) .nil) (.cons (.for_ (.name 5) (.var 4) (.cons ABP (.cons (.ite ADN (.cons (.ret (.var 6)) .nil) .nil) .nil))) AAq)))⟩
def Bo(n:Nat)(p0 p1 p2 p3:Sl):pg.fn (n+1) 27 [p0,p1,p2,p3]=fin 4 (ex (pg.cf n) my.body [p0,p1,p2,p3,.un,.un,.un]):=aX (g:=my)
noncomputable def pq:Fn:=⟨2,2,(.cons (.ret (.bi .any (.comp 1 (.name 0) (.idx AAc AAf) AAL ACt))) .nil)⟩
def Hf(n:Nat)(p0 p1:Sl):pg.fn (n+1) 28 [p0,p1]=fin 2 (ex (pg.cf n) pq.body [p0,p1]):=aX (g:=pq)
noncomputable def fK:Fn:=⟨5,7,(.cons (.ite (.call 22 ADm) (.cons (.ret (.tup (.cons (.con (.str "unasked")) ADf))) .nil) .nil) (.cons (.set 5 (.call 14 (.cons (.var 0) (.cons (.idx (.call 23 (.cons (.var 0) ADm)) AAH) .nil)))) (.cons (.for_ (.name 6) (.call 14 ABR) (.cons (.ite ABy ACV .nil) .nil)) AAq)))⟩
def pY(n:Nat)(p0 p1 p2 p3 p4:Sl):pg.fn (n+1) 29 [p0,p1,p2,p3,p4]=fin 5 (ex (pg.cf n) fK.body [p0,p1,p2,p3,p4,.un,.un]):=aX (g:=fK)
noncomputable def Dj:Fn:=⟨2,4,(.cons (.set 2 (.call 0 AAQ)) (.cons (.ite (.not (.isi (.var 1) .tup)) ABI .nil) (.cons (.for_ (.name 3) (.var 1) (.cons (.ite (.not (.call 35 AAr)) ABI .nil) ADn)) ACS)))⟩
def J6(n:Nat)(p0 p1:Sl):pg.fn (n+1) 30 [p0,p1]=fin 2 (ex (pg.cf n) Dj.body [p0,p1,.un,.un]):=aX (g:=Dj)
noncomputable def tL:Fn:=⟨2,4,(.cons ADe (.cons (.ite ADt ABI .nil) (.cons (.ite (.cmp .fQ ADq ABs) ABz .nil) (.cons (.set 2 .emp) (.cons (.for_ (.name 3) (.call 34 AAQ) (.cons (.setIx 2 (.var 3) AAo) (.cons (.ite (.cmp .fQ (.idx (.var 2) (.var 3)) ABs) ACL .nil) .nil))) ADv)))))⟩
def J2(n:Nat)(p0 p1:Sl):pg.fn (n+1) 31 [p0,p1]=fin 2 (ex (pg.cf n) tL.body [p0,p1,.un,.un]):=aX (g:=tL)
noncomputable def fJ:Fn:=⟨3,7,(.cons ACr (.cons (.for_ (.tup [4,5]) (.enum (.var 3)) (.cons (.for_ (.name 6) (.slc (.var 3) ABd .noneE) (.cons (.ite AAk (.cons (.ite (.cmp .fQ ABt ABs) ADM .nil) .nil) .nil) .nil)) .nil)) AAq))⟩
def pX(n:Nat)(p0 p1 p2:Sl):pg.fn (n+1) 32 [p0,p1,p2]=fin 3 (ex (pg.cf n) fJ.body [p0,p1,p2,.un,.un,.un,.un]):=aX (g:=fJ)
noncomputable def mq:Fn:=⟨2,2,(.cons (.ret (.or (.cons (.cmp .isin (.var 0) AAf) (.cons (.cmp .isin (.var 0) (.slc (.var 1) AAP .noneE)) .nil)))) .nil)⟩
def Bm(n:Nat)(p0 p1:Sl):pg.fn (n+1) 33 [p0,p1]=fin 2 (ex (pg.cf n) mq.body [p0,p1]):=aX (g:=mq)
noncomputable def jQ:Fn:=⟨1,6,(.cons (.set 1 ABi) (.cons (.set 3 ACG) (.cons (.set 4 ABr) (.cons (.for_ (.name 2) (.var 3) (.cons (.for_ (.name 5) (.var 1) (.cons (.extend 4 (.comp 1 (.name 0) (.tup AAv) (.call 35 ACU) (.tup AAt))) .nil)) .nil)) ABf))))⟩
def yH(n:Nat)(p0:Sl):pg.fn (n+1) 34 [p0]=fin 1 (ex (pg.cf n) jQ.body [p0,.un,.un,.un,.un,.un]):=aX (g:=jQ)
noncomputable def mj:Fn:=⟨2,3,(.cons (.set 2 (.bi .dict AAc)) (.cons (.ite (.or (.cons (.not (.call 3 (.cons (.var 1) (.cons AAX ACd)))) (.cons (.not (.call 8 (.cons AAj ABY))) .nil))) AAS .nil) (.cons (.ret (.call 11 (.cons (.call 37 (.cons (.idx (.var 2) AAj) AAV)) (.cons ABi ABO)))) .nil)))⟩
def Bl(n:Nat)(p0 p1:Sl):pg.fn (n+1) 35 [p0,p1]=fin 2 (ex (pg.cf n) mj.body [p0,p1,.un]):=aX (g:=mj)
noncomputable def jj:Fn:=⟨2,3,(.cons (.set 2 ABK) ACI)⟩
def wy(n:Nat)(p0 p1:Sl):pg.fn (n+1) 36 [p0,p1]=fin 2 (ex (pg.cf n) jj.body [p0,p1,.un]):=aX (g:=jj)
noncomputable def j0:Fn:=⟨2,2,(.cons (.ret (.tup (.cons ABM (.cons (.var 0) (.cons AAf (.cons (.idx (.var 1) AAP) .nil)))))) .nil)⟩
def yQ(n:Nat)(p0 p1:Sl):pg.fn (n+1) 37 [p0,p1]=fin 2 (ex (pg.cf n) j0.body [p0,p1]):=aX (g:=j0)
noncomputable def dI:Fn:=⟨2,2,(.cons (.ite (.cmp .lt (.var 1) ADJ) (.cons (.ret (.idx (.var 0) (.var 1))) .nil) .nil) (.cons (.ite (.cmp .eq (.var 0) ABr) (.cons (.ret AAH) .nil) .nil) (.cons (.ret (.op .add (.op .mul (.idx (.var 0) (.op .mod (.var 1) ADJ)) (.con (.int 31))) (.var 1))) .nil)))⟩
def ig(n:Nat)(p0 p1:Sl):pg.fn (n+1) 38 [p0,p1]=fin 2 (ex (pg.cf n) dI.body [p0,p1]):=aX (g:=dI)
noncomputable def jW:Fn:=⟨3,4,(.cons (.set 3 (.op .mod (.op .mul (.op .add (.op .add (.call 38 ABT) (.op .mul (.con (.int 7919)) (.var 1))) AAG) (.con (.int 48271))) (.con (.int 2147483647)))) (.cons (.ret (.op .mod (.op .mod (.op .add (.op .add (.op .mul (.var 3) (.var 3)) (.op .mul (.con (.int 7)) (.var 3))) (.var 1)) (.con (.int 2147483629))) (.var 2))) .nil))⟩
def yM(n:Nat)(p0 p1 p2:Sl):pg.fn (n+1) 39 [p0,p1,p2]=fin 3 (ex (pg.cf n) jW.body [p0,p1,p2,.un]):=aX (g:=jW)
noncomputable def lX:Fn:=⟨3,3,(.cons (.setIx 1 AAH (.op .add AAj AAG)) (.cons (.ret (.call 39 (.cons (.var 0) (.cons AAj ABY)))) .nil))⟩
def Bh(n:Nat)(p0 p1 p2:Sl):pg.fn (n+1) 40 [p0,p1,p2]=fin 3 (ex (pg.cf n) lX.body [p0,p1,p2]):=aX (g:=lX)
noncomputable def lV:Fn:=⟨5,6,(.cons (.set 5 (.bi .list (.var 2))) (.cons (.while_ AAy ABa) (.cons (.ret ACp) .nil)))⟩
def Be(n:Nat)(p0 p1 p2 p3 p4:Sl):pg.fn (n+1) 41 [p0,p1,p2,p3,p4]=fin 5 (ex (pg.cf n) lV.body [p0,p1,p2,p3,p4,.un]):=aX (g:=lV)
noncomputable def jU:Fn:=⟨3,6,(.cons (.set 3 (.call 41 (.cons (.var 0) (.cons (.ref 1) (.cons (.var 2) (.cons AAG ACd)))))) (.cons (.set 4 (.lis (.cons (.tup .nil) .nil))) (.cons (.for_ (.name 5) (.var 3) (.cons (.set 4 (.op .add (.comp 1 (.name 0) (.var 4) AAL (.op .add (.var 0) (.tup (.cons (.con (.bl false)) .nil)))) (.comp 1 (.name 0) (.var 4) AAL (.op .add (.var 0) (.tup (.cons AAL .nil)))))) .nil)) (.cons (.ret (.tup (.cons ABp (.cons (.var 3) (.cons (.bi .tuple (.bi .sorted (.comp 1 (.name 0) (.var 4) AAh (.var 0)))) .nil))))) .nil))))⟩
def yJ(n:Nat)(p0 p1 p2:Sl):pg.fn (n+1) 42 [p0,p1,p2]=fin 3 (ex (pg.cf n) jU.body [p0,p1,p2,.un,.un,.un]):=aX (g:=jU)
noncomputable def di:Fn:=⟨4,6,(.cons (.set 4 (.call 40 (.cons (.var 0) (.cons (.ref 1) (.cons ADj .nil))))) (.cons (.ite (.or (.cons (.cmp .lt (.var 4) (.con (.int 4))) (.cons (.cmp .lt ABW AAP) .nil))) (.cons (.ret (.tup (.cons (.idx (.lis ACu) (.op .mod (.var 4) AAP)) (.cons ACT .nil)))) .nil) .nil) (.cons (.ite (.cmp .lt (.var 4) (.con (.int 7))) (.cons (.ret (.tup (.cons (.idx (.lis (.cons ABl (.cons ABq (.cons ABx .nil)))) (.op .sub (.var 4) (.con (.int 4)))) (.cons (.call 41 (.cons (.var 0) (.cons (.ref 1) (.cons (.var 2) (.cons AAP ACd))))) .nil)))) .nil) .nil) (.cons (.ite (.or (.cons (.cmp .eq (.var 4) (.con (.int 7))) (.cons (.cmp .eq (.var 3) AAH) .nil))) (.cons (.ret (.call 42 (.cons (.var 0) (.cons (.ref 1) ABY)))) .nil) .nil) (.cons (.set 5 (.call 43 (.cons (.var 0) (.cons (.ref 1) (.cons (.var 2) (.cons (.op .sub (.var 3) AAG) .nil)))))) (.cons (.ret (.tup (.cons ABM (.cons (.var 5) (.cons ACT (.cons ADL .nil)))))) .nil))))))⟩
def iT(n:Nat)(p0 p1 p2 p3:Sl):pg.fn (n+1) 43 [p0,p1,p2,p3]=fin 4 (ex (pg.cf n) di.body [p0,p1,p2,p3,.un,.un]):=aX (g:=di)
noncomputable def o7:Fn:=⟨4,8,(.cons (.set 4 (.slc (.tup (.cons ABV (.cons ACa (.cons (.con (.str "come")) .nil)))) .noneE (.call 40 (.cons (.var 0) (.cons (.ref 1) ADo))))) (.cons (.set 5 (.slc (.tup ABJ) .noneE ACf)) (.cons ADl (.cons (.set 7 (.bi .tuple (.comp 1 (.name 0) (.var 5) AAL (.tup ABb)))) (.cons (.ret (.tup (.cons (.var 4) (.cons (.var 7) (.cons (.bi .tuple (.comp 1 (.name 0) (.var 6) AAL AAh)) .nil))))) .nil)))))⟩
def Ha(n:Nat)(p0 p1 p2 p3:Sl):pg.fn (n+1) 44 [p0,p1,p2,p3]=fin 4 (ex (pg.cf n) o7.body [p0,p1,p2,p3,.un,.un,.un,.un]):=aX (g:=o7)
noncomputable def lU:Fn:=⟨4,9,(.cons (.set 4 (.bi .tuple (.comp 1 (.name 0) AAe ABG AAb))) (.cons (.set 5 ACf) (.cons (.set 6 ABr) (.cons (.for_ (.name 7) (.range1 (.var 5)) (.cons (.set 8 (.comp 1 (.name 0) ADW AAh (.var 0))) (.cons (.append 6 (.bi .tuple (.comp 1 (.name 0) (.var 8) AAL (.tup ACR)))) .nil))) (.cons (.ret (.tup (.cons (.var 4) (.cons (.bi .tuple (.var 6)) .nil)))) .nil)))))⟩
def Bc(n:Nat)(p0 p1 p2 p3:Sl):pg.fn (n+1) 45 [p0,p1,p2,p3]=fin 4 (ex (pg.cf n) lU.body [p0,p1,p2,p3,.un,.un,.un,.un,.un]):=aX (g:=lU)
noncomputable def lW:Fn:=⟨2,5,(.cons (.set 2 (.slc (.lis ABJ) .noneE (.op .add AAX (.call 40 (.cons (.var 0) (.cons (.ref 1) ACd)))))) (.cons (.set 3 ABr) (.cons (.for_ (.name 4) (.range1 ABW) AAg) (.cons (.ret (.tup (.cons (.tup .nil) (.cons (.bi .tuple (.var 3)) (.cons (.bi .tuple (.comp 1 (.name 0) (.var 2) AAL AAh)) .nil))))) .nil))))⟩
def Bg(n:Nat)(p0 p1:Sl):pg.fn (n+1) 46 [p0,p1]=fin 2 (ex (pg.cf n) lW.body [p0,p1,.un,.un,.un]):=aX (g:=lW)
noncomputable def jY:Fn:=⟨2,8,(.cons (.set 2 (.slc (.lis (.cons ACn (.cons ACm (.cons (.con (.str "rr")) (.cons (.con (.str "go")) .nil))))) .noneE (.op .add AAG (.call 40 (.cons (.var 0) (.cons (.ref 1) ABg)))))) (.cons (.set 3 ABV) (.cons (.set 4 (.lis (.cons ADL .nil))) (.cons (.set 5 ABr) (.cons (.for_ (.name 6) (.var 2) (.cons (.set 7 AAd) AAi)) (.cons (.ret (.tup (.cons (.tup (.cons (.tup (.cons ABV .nil)) (.cons ACp (.cons (.bi .tuple (.var 4)) .nil)))) (.cons (.tup (.cons (.tup (.cons (.idx (.var 2) (.neg AAG)) .nil)) (.cons (.tup (.cons (.tup (.cons (.tup (.cons ABV ADb)) .nil)) (.cons (.tup (.cons (.tup (.cons (.idx (.var 2) (.neg AAG)) ABO)) .nil)) .nil))) .nil))) .nil)))) .nil))))))⟩
def yO(n:Nat)(p0 p1:Sl):pg.fn (n+1) 47 [p0,p1]=fin 2 (ex (pg.cf n) jY.body [p0,p1,.un,.un,.un,.un,.un,.un]):=aX (g:=jY)
noncomputable def aR:Fn:=⟨2,8,(.cons (.set 2 (.call 40 (.cons (.var 0) (.cons (.ref 1) (.cons (.con (.int 6)) .nil))))) (.cons (.set 3 (.tup (.cons (.idx (.lis (.cons ABx (.cons ABx (.cons ABl (.cons ABq (.cons ABx (.cons ABx .nil))))))) (.var 2)) (.cons (.tup (.cons ABV (.cons ACa .nil))) .nil)))) (.cons (.ite (.cmp .gt (.var 2) AAX) (.cons (.set 3 (.tup (.cons ABM (.cons (.tup (.cons ABL (.cons ABV .nil))) (.cons ACa (.cons AAL .nil)))))) .nil) .nil) (.cons (.set 4 (.tup (.cons (.tup (.cons (.tup (.cons ABV ADb)) (.cons (.tup (.cons ACa (.cons AAP .nil))) .nil))) (.cons (.tup (.cons (.tup (.cons ACa ACd)) .nil)) (.cons (.tup (.cons (.tup (.cons ABV ACd)) .nil)) (.cons (.tup (.cons (.tup (.cons ACn ABO)) .nil)) .nil)))))) (.cons (.set 5 (.lis (.cons (.tup (.cons ACn AAT)) .nil))) (.cons (.ite ADL (.cons (.append 5 (.tup (.cons ACm (.cons (.tup (.cons (.idx (.lis ACu) AAd) (.cons ACn .nil))) .nil)))) .nil) .nil) (.cons (.set 6 ADL) (.cons (.set 7 (.lis (.cons (.var 6) (.cons (.var 6) ABH)))) (.cons (.ite (.cmp .gt (.bi .len (.var 5)) AAG) (.cons (.append 7 (.cmp .eq (.var 6) (.cmp .eq (.idx (.idx (.idx (.var 5) AAG) AAG) AAH) ABL))) .nil) .nil) (.cons (.ret (.tup (.cons (.tup (.cons (.tup (.cons ABV (.cons ACa .nil))) (.cons ACp (.cons (.bi .tuple (.var 7)) .nil)))) (.cons (.tup (.cons (.tup (.cons ACn .nil)) ADf)) .nil)))) .nil))))))))))⟩
def ie(n:Nat)(p0 p1:Sl):pg.fn (n+1) 48 [p0,p1]=fin 2 (ex (pg.cf n) aR.body [p0,p1,.un,.un,.un,.un,.un,.un]):=aX (g:=aR)
noncomputable def cV:Fn:=⟨3,6,(.cons (.set 3 (.op .add AAm (.bi .tuple (.comp 1 (.name 0) AAe AAL AAb)))) (.cons (.set 4 (.call 40 (.cons (.var 0) (.cons (.ref 1) (.cons (.bi .len AAe) .nil))))) (.cons (.set 5 (.bi .list AAe)) (.cons (.setIx 5 (.var 4) (.tup (.cons (.idx (.idx (.var 5) (.var 4)) AAH) (.cons (.call 43 (.cons (.var 0) (.cons (.ref 1) (.cons (.var 3) ADb)))) .nil)))) (.cons (.ret (.tup (.cons AAm (.cons ACp (.cons (.idx (.var 2) AAP) .nil))))) .nil)))))⟩
def mV(n:Nat)(p0 p1 p2:Sl):pg.fn (n+1) 49 [p0,p1,p2]=fin 3 (ex (pg.cf n) cV.body [p0,p1,p2,.un,.un,.un]):=aX (g:=cV)
noncomputable def bQ:Fn:=⟨2,6,(.cons (.set 2 (.lis AAV)) (.cons (.set 3 (.call 40 (.cons (.var 0) (.cons (.ref 2) (.cons (.con (.int 8)) .nil))))) (.cons (.ite (.cmp .lt (.var 3) AAP) (.cons (.set 4 (.call 44 (.cons (.var 0) (.cons (.ref 2) (.cons AAP ABg))))) (.cons (.ret (.tup (.cons (.var 4) (.cons (.call 45 (.cons (.var 0) (.cons (.ref 2) (.cons (.var 4) ABg)))) .nil)))) .nil)) .nil) (.cons (.ite (.cmp .eq (.var 3) AAP) (.cons (.ret (.tup (.cons (.call 44 (.cons (.var 0) (.cons (.ref 2) (.cons AAH ABg)))) (.cons (.tup (.cons (.tup .nil) (.cons (.tup (.cons (.tup .nil) .nil)) .nil))) .nil)))) .nil) .nil) (.cons (.ite (.cmp .eq (.var 3) AAX) (.cons (.set 4 (.call 46 ACZ)) (.cons (.ite ACW (.cons (.ret (.tup (.cons (.var 4) (.cons (.tup (.cons (.tup .nil) (.cons (.tup (.cons (.tup .nil) .nil)) .nil))) .nil)))) .nil) .nil) (.cons (.ret (.tup (.cons (.var 4) (.cons (.tup (.cons (.tup (.cons ACm .nil)) (.cons (.tup (.cons (.tup (.cons (.tup (.cons ACm ADb)) .nil)) (.cons (.tup (.cons (.tup (.cons ACm ABO)) .nil)) .nil))) .nil))) .nil)))) .nil))) .nil) (.cons (.ite (.cmp .lt (.var 3) (.con (.int 6))) (.cons (.setT [4,5] (.call 47 ACZ)) .nil) (.cons (.setT [4,5] (.call 48 ACZ)) .nil)) (.cons (.ite (.and (.cons (.cmp .eq (.op .mod (.var 3) AAP) AAG) (.cons ACW .nil))) (.cons (.set 4 (.call 49 (.cons (.var 0) (.cons (.ref 2) ADf)))) .nil) .nil) (.cons (.ret (.tup (.cons (.var 4) AAa))) .nil))))))))⟩
def dU(n:Nat)(p0 p1:Sl):pg.fn (n+1) 50 [p0,p1]=fin 2 (ex (pg.cf n) bQ.body [p0,p1,.un,.un,.un,.un]):=aX (g:=bQ)
noncomputable def pR:Fn:=⟨1,1,ADK⟩
def yL(n:Nat)(p0:Sl):pg.fn (n+1) 51 [p0]=fin 1 (ex (pg.cf n) pR.body [p0]):=aX (g:=pR)
noncomputable def jT:Fn:=⟨3,5,(.cons (.ite (.cmp .eq AAb ABL) (.cons (.ret ADH) .nil) .nil) (.cons (.ite (.cmp .eq AAb ABk) (.cons (.ret (.not ADH)) .nil) .nil) (.cons (.ite (.cmp .eq AAb ABM) AAz .nil) (.cons (.set 4 (.comp 1 (.name 0) AAc AAL (.idx (.var 2) (.var 0)))) (.cons (.ite (.cmp .eq AAb ABp) ACo .nil) (.cons (.ite (.cmp .eq AAb ABl) ACj .nil) (.cons (.ite (.cmp .eq AAb ABq) ADR .nil) (.cons (.ite ABo ACS .nil) ADg))))))))⟩
def cY(n:Nat)(p0 p1 p2:Sl):pg.fn (n+1) 52 [p0,p1,p2]=fin 3 (ex (pg.cf n) jT.body [p0,p1,p2,.un,.un]):=aX (g:=jT)
noncomputable def ir:Fn:=⟨2,3,(.cons ACx (.cons (.ret (.comp 1 (.name 0) AAc AAp AAb)) .nil))⟩
def uh(n:Nat)(p0 p1:Sl):pg.fn (n+1) 53 [p0,p1]=fin 2 (ex (pg.cf n) ir.body [p0,p1,.un]):=aX (g:=ir)
noncomputable def jV:Fn:=⟨3,4,(.cons (.set 3 (.comp 1 (.name 0) ACc ACt AAb)) (.cons ADV (.cons (.ret (.comp 1 (.name 0) ACQ ACM (.var 0))) .nil)))⟩
def yK(n:Nat)(p0 p1 p2:Sl):pg.fn (n+1) 54 [p0,p1,p2]=fin 3 (ex (pg.cf n) jV.body [p0,p1,p2,.un]):=aX (g:=jV)
noncomputable def o8:Fn:=⟨4,8,(.cons (.set 4 ACQ) (.cons (.set 5 (.bi .tuple (.comp 1 (.name 0) (.range1 ADu) AAL (.cmp .ne ADs ACJ)))) (.cons (.ite ACO ACl .nil) (.cons (.for_ (.tup [6,7]) ACc (.cons (.ite (.cmp .eq (.var 6) (.var 3)) ACe .nil) .nil)) AAq))))⟩
def Hb(n:Nat)(p0 p1 p2 p3:Sl):pg.fn (n+1) 55 [p0,p1,p2,p3]=fin 4 (ex (pg.cf n) o8.body [p0,p1,p2,p3,.un,.un,.un,.un]):=aX (g:=o8)
noncomputable def jl:Fn:=⟨2,7,(.cons ACz (.cons ADU (.cons (.set 4 AAH) (.cons (.while_ (.cmp .lt (.var 4) ABW) (.cons (.for_ (.name 5) ACk (.cons ACb (.cons (.ite (.and (.cons ADN ABQ)) ABe .nil) .nil))) (.cons (.set 4 ABd) .nil))) (.cons (.ret (.tup AAr)) .nil)))))⟩
def wz(n:Nat)(p0 p1:Sl):pg.fn (n+1) 56 [p0,p1]=fin 2 (ex (pg.cf n) jl.body [p0,p1,.un,.un,.un,.un,.un]):=aX (g:=jl)
noncomputable def jm:Fn:=⟨1,5,(.cons (.set 1 ABr) (.cons (.for_ (.name 2) AAc (.cons (.for_ (.name 3) ACQ (.cons (.for_ (.name 4) (.tup AAv) (.cons (.ite ADd ACN .nil) .nil)) .nil)) .nil)) ACv))⟩
def wA(n:Nat)(p0:Sl):pg.fn (n+1) 57 [p0]=fin 1 (ex (pg.cf n) jm.body [p0,.un,.un,.un,.un]):=aX (g:=jm)
noncomputable def cP:Fn:=⟨1,1,(.cons (.ite (.cmp .ne AAb ABM) (.cons (.ret AAH) .nil) .nil) (.cons (.ret (.op .add AAG (.call 58 (.cons AAc .nil)))) .nil))⟩
def dR(n:Nat)(p0:Sl):pg.fn (n+1) 58 [p0]=fin 1 (ex (pg.cf n) cP.body [p0]):=aX (g:=cP)
noncomputable def jX:Fn:=⟨2,6,(.cons (.ite (.cmp .fQ ADq ABs) ABz .nil) (.cons (.set 2 (.call 57 AAQ)) (.cons (.for_ (.name 3) (.var 2) (.cons (.ite (.cmp .fQ AAo ABs) ACL .nil) .nil)) (.cons (.for_ (.name 4) (.range1 ABW) (.cons (.for_ (.name 5) (.slc (.var 2) ABd .noneE) (.cons (.ite (.and (.cons ADT (.cons (.cmp .fQ ACH ABs) .nil))) ADc .nil) .nil)) .nil)) AAq))))⟩
def yN(n:Nat)(p0 p1:Sl):pg.fn (n+1) 59 [p0,p1]=fin 2 (ex (pg.cf n) jX.body [p0,p1,.un,.un,.un,.un]):=aX (g:=jX)
noncomputable def Od:Fn:=⟨1,3,(.cons ABv (.cons (.ite (.or (.cons (.cmp .gt ACq ADj) (.cons (.cmp .gt ADr (.con (.int 30))) .nil))) ADX .nil) ABU))⟩
def abq(n:Nat)(p0:Sl):pg.fn (n+1) 60 [p0]=fin 1 (ex (pg.cf n) Od.body [p0,.un,.un]):=aX (g:=Od)
end Tx
end
end
section
open PySem Mini
namespace Tx
abbrev sc(ns:List Int):D:=.lst (ns.map .int)
def Oh(ns:List Int)(i:Int)(h0:0<=i)(h:i<ns.length):∃r:Int,at? (ns.map D.int) i=some (.int r):=by
 unfold at? ix?
 rw[QAq,if_neg (by omega:¬i<0)]
 rw[if_pos ⟨h0,h⟩]
 have:i.toNat<ns.length:=by omega
 exact⟨ns[i.toNat],by simp[this]⟩
def K8(ns:List Int):mC (ns.map D.int)=true:=by
 induction ns with
 |nil=>rfl
 |cons i r ih=>simp[mC,nd,ih]
def Ip(ns:List Int):iD (ns.map D.int)=0:=by
 induction ns with
 |nil=>rfl
 |cons i r ih=>simp[iD,dep,ih]
def M8(ns:List Int):aQ .eq (.lst (ns.map .int)) (.lst [])=some ns.isEmpty:=by
 cases ns with
 |nil=>rfl
 |cons i ns=>simp[aQ,sU,flat,nd,mC,dep,iD,cQ,qe,K8,Ip]
def CZ n ns k(hk:0<=k):∃r:Int,pg.fn (n+1) 38 [.val (sc ns),.val (.int k)]=.ok (.val (.int r)) [.val (sc ns),.val (.int k)]:=by
 by_cases h:k<ns.length
 ·obtain⟨r,e⟩:=Oh ns k hk h
  exact⟨r,by rw[ig];simp[dI,h,e]⟩
 ·by_cases hn:ns=[]
  ·subst hn
   have h0:¬k<0:=by omega
   exact⟨0,by rw[ig];simp[dI,h0,aV,fits,M8 []]⟩
  ·have hl':=List.length_pos_iff.mpr hn
   have hl:(0:Int)<ns.length:=by omega
   obtain⟨r,e⟩:=Oh ns (k%ns.length) (Int.emod_nonneg _ (by omega)) (Int.emod_lt_of_pos _ hl)
   have he:ns.isEmpty=false:=by simpa using hn
   exact⟨r*31+k,by rw[ig];simp[dI,h,e,aV,fits,M8,he,hl,hl',small]⟩
@[simp]theorem ahA(n:Nat):(pg.cf n).fn=pg.fn n:=rfl
@[simp]theorem ahz(n:Nat):(pg.cf n).gl=pg.gl:=rfl
@[simp]theorem acN(n:Nat):(pg.cf n).turns=1000:=rfl
def Le n ns k many(hk:0<=k)(hm:0<many):∃r:Int,0<=r/\r<many/\
  pg.fn (n+2) 39 [.val (sc ns),.val (.int k),.val (.int many)]=.ok (.val (.int r)) [.val (sc ns),.val (.int k),.val (.int many)]:=by
 obtain⟨c,e⟩:=CZ n ns k hk
 have b:∀x:Int,small (x%2147483647)=true:=fun x=>by
  simp[small]
  omega
 have s1:small 7919=true:=by decide
 have s2:small 48271=true:=by decide
 refine⟨_,?_,?_,by rw[yM];simp[jW,e,s1,s2,s3,b,hm];rfl⟩
 ·exact Int.emod_nonneg _ (by omega)
 ·exact Int.emod_lt_of_pos _ hm
def Pa{k:Int}(h:0<=k):0<=k+1:=Int.le_trans h (Int.le_add_one (Int.le_refl k))
def bH n ns k many(hk:0<=k)(hm:0<many):∃r:Int,0<=r/\r<many/\
  pg.fn (n+3) 40 [.val (sc ns),.bor (.lst [.int k]),.val (.int many)]=.ok (.val (.int r)) [.val (sc ns),.bor (.lst [.int (k+1)]),.val (.int many)]:=by
 obtain⟨r,h1,h2,e⟩:=Le n ns _ many (Pa hk) hm
 refine⟨r,h1,h2,?_⟩
 rw[Bh]
 simp[lX,at?,ix?,oK,e]
end Tx
end
section
open PySem Mini
namespace Tx
def qO:E:=AAy
def yz:S:=ABa
abbrev someσ(ns:List Int)(k:Int)(xs:List D)(least most:Int)(row:List D):Ev:=[.val (sc ns),.bor (.lst [.int k]),.val (.tup xs),.val (.int least),.val (.int most),.own (.lst row)]
def JG n ns k(hk:0<=k)xs row least most(h0:0<row.length)(hf:row.length<=1000):
  ∃j:Nat,j<row.length/\ex (pg.cf (n+3)) yz (someσ ns k xs least most row)=.next (someσ ns (k+1) xs least most (row.eraseIdx j)):=by
 obtain⟨r,h1,h2,e⟩:=bH n ns k row.length hk (by omega)
 refine⟨r.toNat,by omega,?_⟩
 have f:fits row.length=true:=by simp[fits];omega
 have hx:ix? row.length r=some r.toNat:=by
  unfold ix?
  rw[if_neg (by omega:¬r<0),if_pos ⟨h1,h2⟩]
 have hr:row[r.toNat]? =some _:=QXq (by omega)
 simp[yz,e,cZ,rA,f,hx,hr,uR]
theorem GX(n:Nat)(ns:List Int)(xs:List D)(least most:Int)(hx:xs.length<=1000)(hl:0<=least)(hlm:least<=most):∀(L:Nat)(row:List D)(k:Int)(fuel:Nat),row.length=L->L<fuel->0<=k->row.Sublist xs->least<=row.length->
  ∃ys k',ys.Sublist xs/\least<=ys.length/\ys.length<=most/\0<=k'/\cF (ev (pg.cf (n+3)) qO) (ex (pg.cf (n+3)) yz) fuel (someσ ns k xs least most row)=.next (someσ ns k' xs least most ys):=by
 intro L
 induction L with
 |zero=>
  intro row k fuel hL hf hk hs hr
  obtain⟨fuel,rfl⟩:∃f,fuel=f+1:=⟨fuel-1,by omega⟩
  have:¬least<row.length:=by omega
  exact⟨row,k,hs,hr,by omega,hk,by simp[cF,qO,this]⟩
 |succ L ih=>
  intro row k fuel hL hf hk hs hr
  obtain⟨fuel,rfl⟩:∃f,fuel=f+1:=⟨fuel-1,by omega⟩
  have hrl:=hs.length_le
  by_cases h1:least<row.length
  ·--the row is longer than the least
   have cont:∀k1:Int,0<=k1->∃ys k',ys.Sublist xs/\least<=ys.length/\ys.length<=most/\0<=k'/\
     (ex _ yz _).turn _=.next (someσ ns k' xs least most ys):=fun k1 hk1=>by
    obtain⟨j,hj,e⟩:=JG n ns k1 hk1 xs row least most (by omega) (by omega)
    have el:(row.eraseIdx j).length=L:=by rw[List.length_eraseIdx_of_lt hj];omega
    obtain⟨ys,k',a1,a2,a3,a4,a5⟩:=ih _ (k1+1) fuel el (by omega) (by omega) ((List.eraseIdx_sublist row j).trans hs) (by omega)
    exact⟨ys,k',a1,a2,a3,a4,by rw[e];exact a5⟩
   by_cases h2:most<row.length
   ·obtain⟨ys,k',a1,a2,a3,a4,a5⟩:=cont k hk
    refine⟨ys,k',a1,a2,a3,a4,?_⟩
    rw[<-a5]
    simp[cF,qO,h1,h2]
   ·obtain⟨r,b1,b2,e⟩:=bH n ns k 2 hk (by omega)
    by_cases h3:r=1
    ·subst h3
     obtain⟨ys,k',a1,a2,a3,a4,a5⟩:=cont (k+1) (by omega)
     refine⟨ys,k',a1,a2,a3,a4,?_⟩
     rw[<-a5]
     simp[cF,qO,h1,h2,e]
    ·exact⟨row,k+1,hs,by omega,by omega,by omega,by simp[cF,qO,h1,h2,e,h3]⟩
  ·exact⟨row,k,hs,by omega,by omega,hk,by simp[cF,qO,h1]⟩
def DP n ns k(hk:0<=k)xs least most(hx:xs.length<=900)(hl:0<=least)(hlm:least<=most)(hxl:least<=xs.length):
  ∃ys k',ys.Sublist xs/\least<=ys.length/\ys.length<=most/\0<=k'/\
   pg.fn (n+4) 41 [.val (sc ns),.bor (.lst [.int k]),.val (.tup xs),.val (.int least),.val (.int most)]=.ok (.val (.tup ys)) [.val (sc ns),.bor (.lst [.int k']),.val (.tup xs),.val (.int least),.val (.int most)]:=by
 obtain⟨ys,k',a1,a2,a3,a4,a5⟩:=GX n ns xs least most (by omega) hl hlm xs.length xs k 1000 rfl (by omega) hk (List.Sublist.refl _) hxl
 refine⟨ys,k',a1,a2,a3,a4,?_⟩
 rw[Be]
 have hb:lV.body=.cons _ (.cons (.while_ qO yz) _):=rfl
 rw[hb]
 simp[a5]
end Tx
end
section
open PySem Mini
namespace Tx
def uc(s:Sl):Prop:=s=.un\/∃d,s=.val d
def jK(h:uc s)d(r:Ev):bj (.name 0) d (s::r)=some (.val d::r):=by
 rcases h with rfl|⟨e,rfl⟩<;>simp[bj]
def pQ:E:=AAh
def xJ n ns k(hk:0<=k)d(rest:Ev):∃b:Bool,ev (pg.cf (n+3)) pQ (.val d:: .val (sc ns):: .bor (.lst [.int k])::rest)=.ok (.val (.bl b)) (.val d:: .val (sc ns):: .bor (.lst [.int (k+1)])::rest):=by
 obtain⟨r,h1,h2,e⟩:=bH n ns k 2 hk (by omega)
 exact⟨r==1,by simp[pQ,e]⟩
theorem Ny(n:Nat)(ns:List Int)(rest:Ev):∀(xs acc:List D)(k:Int)(s:Sl),0<=k->uc s->∃bs k' s',bs.length=xs.length/\0<=k'/\uc s'/\
  aY (.name 0) (ev (pg.cf (n+3)) pQ) (ev (pg.cf (n+3)) (.var 0)) xs acc (s:: .val (sc ns):: .bor (.lst [.int k])::rest)=.ok (acc++m8 bs xs) (s':: .val (sc ns):: .bor (.lst [.int k'])::rest)
 |[]=>fun acc k s hk hs=>⟨[],k,s,rfl,hk,hs,by simp[aY,m8]⟩
 |x::xs=>fun acc k s hk hs=>by
  obtain⟨b,e⟩:=xJ n ns k hk x rest
  cases b with
  |true=>
   obtain⟨bs,k',s',a1,a2,a3,a4⟩:=Ny n ns rest xs _ (k+1) _ (by omega) (.inr ⟨x,rfl⟩)
   refine⟨true::bs,k',s',by simp[a1],a2,a3,?_⟩
   rw[aY,jK hs]
   simp only[e,dH,if_true]
   have e0:ev (pg.cf (n+3)) (.var 0) (.val x:: .val (sc ns):: .bor (.lst [.int (k+1)])::rest)=.ok (.val x) (.val x:: .val (sc ns):: .bor (.lst [.int (k+1)])::rest):=by simp
   rw[e0,bV,a4]
   simp[m8]
  |false=>
   obtain⟨bs,k',s',a1,a2,a3,a4⟩:=Ny n ns rest xs acc (k+1) _ (by omega) (.inr ⟨x,rfl⟩)
   refine⟨false::bs,k',s',by simp[a1],a2,a3,?_⟩
   rw[aY,jK hs]
   simp only[e,dH,Qxq,if_false]
   rw[a4]
   simp[m8]
noncomputable def SN(b:Bool):E:=(.comp 1 (.name 0) (.var 4) AAL (.op .add (.var 0) (.tup (.cons (.con (.bl b)) .nil))))
def ww:S:=(.cons (.set 4 (.op .add (SN false) (SN true))) .nil)
theorem Ot(c:Cf)(b:Bool)(rest:Ev):∀(rs:List (List Bool))(acc:List D)(s:Sl),uc s->(∀r∈rs,r.length<=1000)->∃s',uc s'/\
  aY (.name 0) (ev c AAL) (ev c (.op .add (.var 0) (.tup (.cons (.con (.bl b)) .nil)))) (rs.map aH) acc (s::rest)=.ok (acc++(rs.map (· ++[b])).map aH) (s'::rest)
 |[]=>fun acc s hs _=>⟨s,hs,by simp[aY]⟩
 |r::rs=>fun acc s hs hl=>by
  obtain⟨s',a1,a2⟩:=Ot c b rest rs _ _ (.inr ⟨_,rfl⟩) fun q hq=>hl q (QYq _ hq)
  have h1:=hl r QYz
  refine⟨s',a1,?_⟩
  rw[Qyz,aY,jK hs]
  have e0:ev c (.op .add (.var 0) (.tup (.cons (.con (.bl b)) .nil))) (.val (aH r)::rest)=.ok (.val (aH (r++[b]))) (.val (aH r)::rest):=by
   have f:fits (r.length+1)=true:=by simp[fits];omega
   simp[aV,aH,f]
  have e1:ev c AAL (.val (aH r)::rest)=.ok (.val (.bl true)) (.val (aH r)::rest):=by simp
  simp only[e1,dH,if_true]
  rw[e0,bV,a2]
  simp
def Ou c b(rs:List (List Bool))(hl:∀r∈rs,r.length<=1000)(hs:s=.own (.lst (rs.map aH))\/s=.val (.lst (rs.map aH)))s0 s1 s2 s3 s5:ev c (SN b) [s0,s1,s2,s3,s,s5]=.ok (.new (.lst ((rs.map (· ++[b])).map aH))) [s0,s1,s2,s3,.val (.lst (rs.map aH)),s5]:=by
 obtain⟨s',_,a⟩:=Ot c b [s0,s1,s2,s3,.val _,s5] rs [] .un (.inl rfl) hl
 have h:ev c (.var 4) [s0,s1,s2,s3,s,s5]=.ok (.val (.lst (rs.map aH))) [s0,s1,s2,s3,.val (.lst (rs.map aH)),s5]:=by
  rcases hs with rfl|rfl<;>simp
 unfold SN
 rw[mJ,h,bV]
 simp only[items]
 rw[show List.replicate 1 Sl.un++[s0,s1,s2,s3,.val _,s5]=Sl.un::[s0,s1,s2,s3,.val _,s5]from rfl,a]
 simp
def G8 c(rs:List (List Bool))(hl:∀r∈rs,r.length<=1000)(hn:rs.length<=1000)(hs:s=.own (.lst (rs.map aH)))s0 s1 s2 s3 s5:
  ex c ww [s0,s1,s2,s3,s,s5]=.next [s0,s1,s2,s3,.own (.lst ((rs.map (· ++[false])++rs.map (· ++[true])).map aH)),s5]:=by
 have f:fits (rs.length+rs.length)=true:=by simp[fits];omega
 unfold ww
 simp only[x_0,x_1,x_5,v_5]
 rw[Ou c false rs hl (.inl hs),lB]
 rw[Ou c true rs hl (.inr rfl),lB]
 simp[f]
theorem uK(c:Cf)(s0 s1 s2 s3:Sl):∀(ys:List D)(k:Nat)(s5:Sl),uc s5->k+ys.length<=9->∃Θ,uc Θ/\aG (.name 5) (ex c ww) ys [s0,s1,s2,s3,.own (.lst ((dX k).map aH)),s5]=.next [s0,s1,s2,s3,.own (.lst ((dX (k+ys.length)).map aH)),Θ]
 |[]=>fun k s5 h5 _=>⟨s5,h5,by simp[aG]⟩
 |y::ys=>fun k s5 h5 hk=>by
  simp only[QBq]at hk
  obtain⟨Θ,a1,a2⟩:=uK c s0 s1 s2 s3 ys (k+1) _ (.inr ⟨y,rfl⟩) (by omega)
  refine⟨Θ,a1,?_⟩
  have st:bj (.name 5) y [s0,s1,s2,s3,.own (.lst ((dX k).map aH)),s5]=some [s0,s1,s2,s3,.own (.lst ((dX k).map aH)),.val y]:=by
   rcases h5 with rfl|⟨e,rfl⟩<;>simp[bj]
  have lens:∀k,∀r∈dX k,r.length=k:=by
   intro k
   induction k with
   |zero=>intro r hr;simp[dX]at hr;subst hr;rfl
   |succ k ih=>
    intro r hr
    simp only[dX,QXz,QDq]at hr
    rcases hr with ⟨q,hq,rfl⟩|⟨q,hq,rfl⟩<;>simp[ih q hq]
  have hn:(dX k).length<=1000:=by
   rw[oF]
   have:2 ^k<=2 ^9:=Nat.pow_le_pow_right (by omega) (by omega)
   omega
  rw[aG,st]
  simp only
  rw[G8 c _ (fun r hr=>by rw[lens k r hr];omega) hn rfl,nZ]
  rw[show(dX k).map _++(dX k).map _=dX (k+1)from rfl,a2]
  rw[show k+1+ys.length=k+(y::ys).length by simp;omega]
def qu:E:=.comp 1 (.name 0) (.var 4) pQ (.var 0)
def CP n ns k(hk:0<=k)zs s2 s3 s5:∃bs k',bs.length=zs.length/\0<=k'/\
  ev (pg.cf (n+3)) qu [.val (sc ns),.bor (.lst [.int k]),s2,s3,.own (.lst zs),s5]=.ok (.new (.lst (m8 bs zs))) [.val (sc ns),.bor (.lst [.int k']),s2,s3,.val (.lst zs),s5]:=by
 obtain⟨bs,k',s',c1,c2,c3,c4⟩:=Ny n ns [s2,s3,.val _,s5] zs [] k .un hk (.inl rfl)
 refine⟨bs,k',c1,c2,?_⟩
 have h:ev (pg.cf (n+3)) (.var 4) [.val (sc ns),.bor (.lst [.int k]),s2,s3,.own (.lst zs),s5]=.ok (.val (.lst zs)) [.val (sc ns),.bor (.lst [.int k]),s2,s3,.val (.lst zs),s5]:=by simp
 unfold qu
 rw[mJ,h,bV]
 simp only[items]
 rw[show List.replicate 1 Sl.un++[.val _,.bor _,s2,s3,.val _,s5]=Sl.un:: .val _:: .bor _::[s2,s3,.val _,s5]from rfl,c4]
 simp
def Jy n ns k(hk:0<=k)xs(hx:xs.length<=900)(h1:1<=xs.length):
  ∃ys rs k',ys.Sublist xs/\1<=ys.length/\ys.length<=3/\(∀r∈rs,r.length=ys.length)/\zB rs=true/\0<=k'/\
   pg.fn (n+5) 42 [.val (sc ns),.bor (.lst [.int k]),.val (.tup xs)]=.ok (.val (.tup [.str "table",.tup ys,.tup (rs.map aH)])) [.val (sc ns),.bor (.lst [.int k']),.val (.tup xs)]:=by
 obtain⟨ys,k1,a1,a2,a3,a4,a5⟩:=DP n ns k hk xs 1 3 hx (by omega) (by omega) (by omega)
 obtain⟨s5,b1,b2⟩:=uK (pg.cf (n+4)) (.val (sc ns)) (.bor (.lst [.int k1])) (.val (.tup xs)) (.val (.tup ys)) ys 0 .un (.inl rfl) (by omega)
 obtain⟨bs,k2,c1,c2,c4⟩:=CP (n+1) ns k1 a4 ((dX ys.length).map aH) (.val (.tup xs)) (.val (.tup ys)) s5
 rw[QAq,oF]at c1
 obtain⟨rs,d1,d2,d3⟩:=GR ys.length (by omega) (by omega) bs c1
 refine⟨ys,rs,k2,a1,by omega,by omega,d2,d3,c2,?_⟩
 rw[yJ]
 have hb:jU=⟨3,6,.cons _ (.cons _ (.cons (.for_ _ _ ww)
  (.cons (.ret (.tup (.cons _ (.cons _ (.cons (.bi .tuple (.bi .sorted qu)) .nil))))) .nil)))⟩:=rfl
 rw[hb]
 have e1:([D.tup []])=(dX 0).map aH:=rfl
 have e2:(dX 0).length=1:=rfl
 have q:qu.aB=none:=rfl
 simp[a5,aV,items,e1,e2,b2,c4,d1,q]
end Tx
end
section
open PySem Mini
namespace Tx
inductive bz(xs:List D):Nat->D->Prop
 |same {n:Nat} {x:D}:x∈xs->bz xs n (.tup [.str "same",x])
 |not {n:Nat} {x:D}:x∈xs->bz xs n (.tup [.str "not",x])
 |and {n:Nat} {ys:List D}:ys.Sublist xs->2<=ys.length->ys.length<=3->bz xs n (.tup [.str "and",.tup ys])
 |or {n:Nat} {ys:List D}:ys.Sublist xs->2<=ys.length->ys.length<=3->bz xs n (.tup [.str "or",.tup ys])
 |both {n:Nat} {ys:List D}:ys.Sublist xs->2<=ys.length->ys.length<=3->bz xs n (.tup [.str "both",.tup ys])
 |table {n:Nat} {ys:List D} {rs:List (List Bool)}:ys.Sublist xs->1<=ys.length->ys.length<=3->(∀r∈rs,r.length=ys.length)->zB rs=true->bz xs n (.tup [.str "table",.tup ys,.tup (rs.map aH)])
 |held {n:Nat} {k x:D} {b:Bool}:bz xs n k->x∈xs->bz xs (n+1) (.tup [.str "held",k,x,.bl b])
def bz.up{xs:List D}{k:Nat}{d:D}(h:bz xs k d):∀{m:Nat},k<=m->bz xs m d:=by
 induction h with
 |same h=>intro m _;exact .same h
 |not h=>intro m _;exact .not h
 |and a b c=>intro m _;exact .and a b c
 |or a b c=>intro m _;exact .or a b c
 |both a b c=>intro m _;exact .both a b c
 |table a b c d e=>intro m _;exact .table a b c d e
 |held _ hx ih=>
  intro m hm
  obtain⟨m,rfl⟩:∃q,m=q+1:=⟨m-1,by omega⟩
  exact .held (ih (by omega)) hx
def Og xs r(h1:0<=r)(h2:r<xs.length):∃d,at? xs r=some d/\d∈xs:=by
 unfold at? ix?
 rw[if_neg (Int.not_lt.mpr h1),if_pos ⟨h1,h2⟩]
 have:=(Int.toNat_lt h1).mpr h2
 exact⟨xs[r.toNat],by simp[this],List.getElem_mem this⟩
def Rh(r:Int):r%2=0\/r%2=1:=by omega
def M4{r:Int}(h1:¬r<4)(h2:r<7):r-4=0\/r-4=1\/r-4=2:=by omega
def eight{r:Int}(h1:¬r<7)(h2:r<9)(h3:¬r=7):r=8:=by omega
def YM(n:Nat):¬((n:Int)+1=0):=by omega
def vd m ns xs(hx:xs.length<=900)(h1:1<=xs.length)deep
  (rec:∀dp,deep=dp+1->∀k:Int,0<=k->∃d k',bz xs dp d/\0<=k'/\pg.fn (m+5) 43 [.val (sc ns),.bor (.lst [.int k]),.val (.tup xs),.val (.int dp)]=.ok (.val d) [.val (sc ns),.bor (.lst [.int k']),.val (.tup xs),.val (.int dp)])
  k(hk:0<=k):∃d k',bz xs deep d/\0<=k'/\
  pg.fn (m+6) 43 [.val (sc ns),.bor (.lst [.int k]),.val (.tup xs),.val (.int deep)]=.ok (.val d) [.val (sc ns),.bor (.lst [.int k']),.val (.tup xs),.val (.int deep)]:=by
 obtain⟨r,r1,r2,er⟩:=bH (m+2) ns k 9 hk (by decide)
 have hk1:=Pa hk
 by_cases c1:r<4\/xs.length<2
 ·obtain⟨q,q1,q2,eq⟩:=bH (m+2) ns _ xs.length hk1 (Int.ofNat_lt.mpr h1)
  obtain⟨x,ex,mx⟩:=Og xs q q1 q2
  obtain⟨w,ew,kw⟩:∃w,at? [.str "same",.str "not"] (r%2)=some _/\bz xs deep (.tup [.str w,x]):=by
   rcases Rh r with h|h<;>rw[h]
   ·exact⟨_,rfl,.same mx⟩
   ·exact⟨_,rfl,.not mx⟩
  refine⟨_,k+1+1,kw,Pa hk1,?_⟩
  rw[iT]
  by_cases c4:r<4
  ·simp[di,er,c4,eq,ex,aV,ew]
  ·have c6:=c1.resolve_left c4
   have c5:(xs.length:Int)<2:=Int.ofNat_lt.mpr c6
   simp[di,er,c4,c5,c6,eq,ex,aV,ew]
 ·have c2:¬r<4:=fun h=>c1 (.inl h)
  have c3':=fun h=>c1 (.inr h)
  have c3:¬(xs.length:Int)<2:=fun h=>c3' (Int.ofNat_lt.mp h)
  by_cases c7:r<7
  ·obtain⟨ys,k',a1,a2,a3,a4,a5⟩:=DP (m+1) ns _ hk1 xs 2 3 hx (by decide) (by decide) (Int.not_lt.mp c3)
   have a2:=Int.ofNat_le.mp a2
   have a3:=Int.ofNat_le.mp a3
   obtain⟨w,ew,kw⟩:∃w,at? [.str "and",.str "or",.str "both"] (r-4)=some _/\bz xs deep (.tup [.str w,.tup ys]):=by
    rcases M4 c2 c7 with h|h|h<;>rw[h]
    ·exact⟨_,rfl,.and a1 a2 a3⟩
    ·exact⟨_,rfl,.or a1 a2 a3⟩
    ·exact⟨_,rfl,.both a1 a2 a3⟩
   exact⟨_,k',kw,a4,by rw[iT];simp[di,er,c2,c3,c3',c7,a5,aV,ew]⟩
  ·by_cases c8:r=7\/deep=0
   ·obtain⟨ys,rs,k',a1,a2,a3,a4,a5,a6,a7⟩:=Jy m ns _ hk1 xs hx h1
    refine⟨_,k',.table a1 a2 a3 a4 a5,a6,?_⟩
    rw[iT]
    by_cases c9:r=7
    ·subst c9
     simp[di,er,c3,c3',a7]
    ·have c10:=c8.resolve_left c9
     subst c10
     simp[di,er,c2,c3,c3',c7,c9,beq_false_of_ne c9,a7]
   ·obtain⟨dp,rfl⟩:=Nat.exists_eq_succ_of_ne_zero (fun h=>c8 (.inr h))
    have c9:=eight c7 r2 fun h=>c8 (.inl h)
    subst c9
    obtain⟨d,k1,b1,b2,b3⟩:=rec dp rfl _ hk1
    obtain⟨q,q1,q2,eq⟩:=bH (m+2) ns k1 xs.length b2 (Int.ofNat_lt.mpr h1)
    obtain⟨x,ex,mx⟩:=Og xs q q1 q2
    obtain⟨z,z1,z2,ez⟩:=bH (m+2) ns _ 2 (Pa b2) (by decide)
    refine⟨_,k1+1+1,.held (b:=z==1) b1 mx,Pa (Pa b2),?_⟩
    rw[iT]
    have e1:=YM dp
    simp[di,er,c3,c3',beq_false_of_ne e1,e1,(Int.add_sub_cancel _ _),b3,eq,ex,ez,aV]
def afZ m deep:m+deep+1+5=m+6+deep:=by omega
def afY m deep:m+6+(deep+1)=m+deep+1+6:=by omega
theorem wU ns xs(hx:xs.length<=900)(h1:1<=xs.length):∀(deep m:Nat)(k:Int),0<=k->∃d k',bz xs deep d/\0<=k'/\
  pg.fn (m+6+deep) 43 [.val (sc ns),.bor (.lst [.int k]),.val (.tup xs),.val (.int deep)]=.ok (.val d) [.val (sc ns),.bor (.lst [.int k']),.val (.tup xs),.val (.int deep)]
 |0=>fun m k hk=>vd m ns xs hx h1 0 (fun dp h=>nomatch h) k hk
 |deep+1=>fun m k hk=>by
  have:=vd _ ns xs hx h1 (deep+1) (fun dp h k hk=>by
   cases h
   rw[afZ m deep]
   exact(wU ns xs hx h1 deep m k hk)) k hk
  rw[afY m deep]
  exact this
end Tx
end
section
open PySem Mini
namespace Tx
def Fj:E:=(.tup ABb)
def Lr n ns k(hk:0<=k)xs(hx:xs.length<=900)(h1:1<=xs.length)x s3 s4 s5 s6 s8:∃d k',bz xs 1 d/\0<=k'/\
  ev (pg.cf (n+7)) Fj [.val x,.val (sc ns),.bor (.lst [.int k]),s3,s4,s5,s6,.val (.tup xs),s8]=.ok (.val (.tup [x,d])) [.val x,.val (sc ns),.bor (.lst [.int k']),s3,s4,s5,s6,.val (.tup xs),s8]:=by
 obtain⟨d,k',a1,a2,a3⟩:=wU ns xs hx h1 1 n k hk
 refine⟨d,k',a1,a2,?_⟩
 simp only[Int.natCast_one,show n+6+1=n+7 from rfl]at a3
 simp[Fj,a3,aV]
theorem zu(n:Nat)(ns:List Int)(xs:List D)(hx:xs.length<=900)(h1:1<=xs.length)(s3 s4 s5 s6 s8:Sl):∀(row acc:List D)(k:Int)(s:Sl),0<=k->uc s->∃ks k' s',ks.length=row.length/\(∀d∈ks,bz xs 1 d)/\0<=k'/\uc s'/\
  aY (.name 0) (ev (pg.cf (n+7)) AAL) (ev (pg.cf (n+7)) Fj) row acc [s,.val (sc ns),.bor (.lst [.int k]),s3,s4,s5,s6,.val (.tup xs),s8]
   =.ok (acc++aO row ks) [s',.val (sc ns),.bor (.lst [.int k']),s3,s4,s5,s6,.val (.tup xs),s8]
 |[]=>fun acc k s hk hs=>⟨[],k,s,rfl,fun d h=>(by cases h),hk,hs,by simp[aY,aO]⟩
 |x::row=>fun acc k s hk hs=>by
  obtain⟨d,k1,a1,a2,a3⟩:=Lr n ns k hk xs hx h1 x s3 s4 s5 s6 s8
  obtain⟨ks,k',s',b1,b2,b3,b4,b5⟩:=zu n ns xs hx h1 s3 s4 s5 s6 s8 row _ k1 _ a2 (.inr ⟨x,rfl⟩)
  refine⟨d::ks,k',s',by simp[b1],fun e h=>?_,b3,b4,?_⟩
  ·rcases QCq.mp h with rfl|h
   ·exact a1
   ·exact b2 e h
  ·rw[aY,jK hs]
   have e1:∀σ,ev (pg.cf (n+7)) AAL σ=.ok (.val (.bl true)) σ:=fun σ=>by simp
   simp only[e1,dH,if_true]
   rw[a3,bV,b5]
   simp[aO]
theorem su(n:Nat)(ns:List Int)(rest:Ev):∀(xs acc:List D)(k:Int)(s:Sl),0<=k->uc s->∃(bs:List Bool)(k':Int)(s':Sl),bs.length=xs.length/\0<=k'/\uc s'/\
  aY (.name 0) (ev (pg.cf (n+3)) AAL) (ev (pg.cf (n+3)) pQ) xs acc (s:: .val (sc ns):: .bor (.lst [.int k])::rest)=.ok (acc++bs.map .bl) (s':: .val (sc ns):: .bor (.lst [.int k'])::rest)
 |[]=>fun acc k s hk hs=>⟨[],k,s,rfl,hk,hs,by simp[aY]⟩
 |x::xs=>fun acc k s hk hs=>by
  obtain⟨b,e⟩:=xJ n ns k hk x rest
  obtain⟨bs,k',s',a1,a2,a3,a4⟩:=su n ns rest xs _ _ _ (Pa hk) (.inr ⟨x,rfl⟩)
  refine⟨b::bs,k',s',by simp[a1],a2,a3,?_⟩
  rw[aY,jK hs]
  have e1:∀σ,ev (pg.cf (n+3)) AAL σ=.ok (.val (.bl true)) σ:=fun σ=>by simp
  simp only[e1,dH,if_true]
  rw[e,bV,a4]
  simp
def Er:E:=(.comp 1 (.name 0) (.var 5) AAL Fj)
def Fg:E:=(.comp 1 (.name 0) (.var 6) AAL pQ)
noncomputable def wI:S:=(.cons ADl (.cons (.set 7 (.bi .tuple Er)) (.cons (.ret (.tup (.cons (.var 4) (.cons (.var 7) (.cons (.bi .tuple Fg) .nil))))) .nil)))
def K5 n ns k(hk:0<=k)ν row(hx:ν.length+row.length<=900)(h1:1<=row.length)s2 s3:∃(ks:List D)(ls:List Bool)(k':Int),ks.length=row.length/\(∀d∈ks,bz (ν++row) 1 d)/\ls.length=(ν++row).length/\0<=k'/\
  ex (pg.cf (n+7)) wI [.val (sc ns),.bor (.lst [.int k]),s2,s3,.val (.tup ν),.val (.tup row),.un,.un]
   =.ret (.val (.tup [.tup ν,.tup (aO row ks),.tup (ls.map .bl)])) [.val (sc ns),.bor (.lst [.int k']),s2,s3,.val (.tup ν),.val (.tup row),.val (.tup (ν++row)),.val (.tup (aO row ks))]:=by
 obtain⟨ks,k1,s',a1,a2,a3,a4,a5⟩:=zu n ns (ν++row) (by simpa using hx) (by simp;omega) s2 s3 _ _ .un row [] k .un hk (.inl rfl)
 obtain⟨ls,k',s'',b1,b2,b3,b4⟩:=su _ ns [s2,s3,.val _,.val _,.val _,.val _] _ [] k1 .un a3 (.inl rfl)
 refine⟨ks,ls,k',a1,a2,b1,b2,?_⟩
 have f:fits (ν.length+row.length)=true:=by simp[fits];omega
 have em:ev (pg.cf (n+7)) Er [.val (sc ns),.bor (.lst [.int k]),s2,s3,.val (.tup ν),.val (.tup row),.val (.tup (ν++row)),.un]=.ok (.new (.lst (aO row ks))) [.val (sc ns),.bor (.lst [.int k1]),s2,s3,.val (.tup ν),.val (.tup row),.val (.tup (ν++row)),.un]:=by
  have h:ev (pg.cf (n+7)) (.var 5) [.val (sc ns),.bor (.lst [.int k]),s2,s3,.val (.tup ν),.val (.tup row),.val (.tup (ν++row)),.un]=.ok (.val (.tup row)) [.val (sc ns),.bor (.lst [.int k]),s2,s3,.val (.tup ν),.val (.tup row),.val (.tup (ν++row)),.un]:=by simp
  unfold Er
  rw[mJ,h,bV]
  simp only[items]
  rw[show List.replicate 1 Sl.un++[.val _,.bor _,s2,s3,.val _,.val _,.val _,.un]=[.un,.val _,.bor _,s2,s3,.val _,.val _,.val _,.un]from rfl,a5]
  simp
 have el:ev (pg.cf (n+7)) Fg [.val (sc ns),.bor (.lst [.int k1]),s2,s3,.val (.tup ν),.val (.tup row),.val (.tup (ν++row)),.val (.tup (aO row ks))]=.ok (.new (.lst (ls.map .bl))) [.val (sc ns),.bor (.lst [.int k']),s2,s3,.val (.tup ν),.val (.tup row),.val (.tup (ν++row)),.val (.tup (aO row ks))]:=by
  have h:ev (pg.cf (n+7)) (.var 6) [.val (sc ns),.bor (.lst [.int k1]),s2,s3,.val (.tup ν),.val (.tup row),.val (.tup (ν++row)),.val (.tup (aO row ks))]=.ok (.val (.tup (ν++row))) [.val (sc ns),.bor (.lst [.int k1]),s2,s3,.val (.tup ν),.val (.tup row),.val (.tup (ν++row)),.val (.tup (aO row ks))]:=by simp
  unfold Fg
  rw[mJ,h,bV]
  simp only[items]
  rw[show List.replicate 1 Sl.un++[.val _,.bor _,s2,s3,.val _,.val _,.val _,.val _]=.un:: .val _:: .bor _::[s2,s3,.val _,.val _,.val _,.val _]from rfl,b4]
  simp
 have q1:Er.aB=none:=rfl
 have q2:Fg.aB=none:=rfl
 simp[wI,f,em,el,q1,q2,aV]
def hd(h:Nat):List D:=([.str "a",.str "b",.str "come"]:List D).take h
def bC(g:Nat):List D:=([.str "p",.str "q",.str "rr",.str "go",.str "abcdef"]:List D).take g
def gA(h2:h<=2):(hd h).length=h:=List.length_take_of_le (Nat.le_succ_of_le h2)
def b7(g4:g<=5):(bC g).length=g:=List.length_take_of_le g4
noncomputable def aF(h g:Nat)(ks:List D)(ls:List Bool):D:=.tup [.tup (hd h),.tup (aO (bC g) ks),.tup (ls.map .bl)]
structure j6(h g:Nat)(ks:List D)(ls:List Bool):Prop where
 h2:h<=2
 g1:1<=g
 g5:g<=5
 kl:ks.length=g
 kk:∀d∈ks,bz (hd h++bC g) 1 d
 ll:ls.length=h+g
structure Nk(h g:Nat)(ks:List D)(ls:List Bool):Prop where
 h2:h<=2
 g1:1<=g
 g5:g<=5
 kl:ks.length=g
 kk:∀d∈ks,bz (hd h++bC g) 2 d
 ll:ls.length=h+g
def j6.nk{h g:Nat}{ks:List D}{ls:List Bool}(O:j6 h g ks ls):Nk h g ks ls:=⟨O.h2,O.g1,O.g5,O.kl,fun d m=>(O.kk d m).up (by decide),O.ll⟩
def XF{h:Nat}(i2:ni<=2)(r2:(h:Int)<ni+1):h<=2:=by omega
def K6 n ns k(hk:0<=k)ni(i0:0<=ni)(i2:ni<=2):∃h g ks ls k',j6 h g ks ls/\0<=k'/\
  pg.fn (n+8) 44 [.val (sc ns),.bor (.lst [.int k]),.val (.int ni),.val (.int 4)]=.ok (.val (aF h g ks ls)) [.val (sc ns),.bor (.lst [.int k']),.val (.int ni),.val (.int 4)]:=by
 obtain⟨r,r1,r2,er⟩:=bH (n+4) ns k _ hk (Int.lt_add_one_of_le i0)
 obtain⟨q,q1,q2,eq⟩:=bH (n+4) ns _ 4 (Pa hk) (by decide)
 obtain⟨h,rfl⟩:=Int.eq_ofNat_of_zero_le r1
 obtain⟨g,rfl⟩:=Int.eq_ofNat_of_zero_le q1
 have h2:=XF i2 r2
 have g3:=Int.ofNat_lt.mp q2
 have g1:=Nat.le_add_right 1 g
 have g5:=Nat.add_le_add_left (Nat.le_of_lt g3) 1
 have lh:=gA h2
 have lg:=b7 g5
 obtain⟨ks,ls,k',a1,a2,a3,a4,a5⟩:=K5 n ns _ (Pa (Pa hk)) (hd h) (bC _) (by rw[lh,lg];exact Nat.le_trans (Nat.add_le_add h2 g5) (by decide)) (by rw[lg];exact g1) (.val (.int ni)) (.val (.int 4))
 refine⟨h,1+g,ks,ls,k',⟨h2,g1,g5,a1.trans lg,a2,by rw[a3,QTq,lh,lg]⟩,a4,?_⟩
 rw[Ha]
 have hb:o7=⟨4,8,(.cons _ (.cons _ wI))⟩:=rfl
 rw[hb]
 have c1:dO (.tup [.str "a",.str "b",.str "come"]) none (some h)=some (.val (.tup (hd h))):=by
  rcases h with _|_|_|h
  ·rfl
  ·rfl
  ·rfl
  ·exact absurd h2 (by simp)
 have c2:dO (.tup [.str "p",.str "q",.str "rr",.str "go",.str "abcdef"]) none (some (1+g))=some (.val (.tup (bC (1+g)))):=by
  rcases g with _|_|_|_|g
  ·rfl
  ·rfl
  ·rfl
  ·rfl
  ·exact absurd g3 (by simp)
 simp[er,eq,aV,cC,E.fQ,c1,c2,a5,aF]
end Tx
end
section
open PySem Mini
namespace Tx
def bf n xs a b(h1:a<=xs.length)(h2:xs.length<=b):pg.fn (n+1) 3 [.val (.tup xs),.val (.int a),.val (.int b)]=.ok (.val (.bl true)) [.val (.tup xs),.val (.int a),.val (.int b)]:=by
 rw[Bj]
 simp[lY,h1,h2]
def Vg:E:=.bi .all ACs
def vo n bs m(h:m=bs.length):pg.fn (n+2) 7 [.val (aH bs),.val (.int m)]=.ok (.val (.bl true)) [.val (aH bs),.val (.int m)]:=by
 subst h
 have e:ev (pg.cf (n+1)) Vg [.val (aH bs),.val (.int bs.length)]=.ok (.val (.bl true)) [.val (aH bs),.val (.int bs.length)]:=by
  refine all1 (r:=.val (aH bs)) (by simp) rfl rfl fun x hx=>?_
  obtain⟨b,_,rfl⟩:=QDq.mp hx
  simp
 have t:pg.fn _ 3 [.val (aH bs),.val _,.val _]=.ok _ [.val _,.val _,.val _]:=bf n _ bs.length bs.length (by simp) (by simp)
 rw[J4]
 have hb:tO=⟨2,2,(.cons (.ret (.and (.cons _ (.cons Vg .nil)))) .nil)⟩:=rfl
 rw[hb]
 simp[t,e]
def cD(xs:List D):Prop:=∀x∈xs,∃s,x=.str s
def kZ(h:cD xs):xs.all flat=true:=by
 rw[List.all_eq_true]
 intro x hx
 obtain⟨s,rfl⟩:=h x hx
 rfl
def gR{x:D}(hx:x∈xs)(h:cD xs):aJ x xs=true:=by
 induction xs with
 |nil=>cases hx
 |cons y ys ih=>
  unfold aJ
  rcases QCq.mp hx with rfl|hx
  ·obtain⟨s,rfl⟩:=h x QYz
   simp[cQ]
  ·simp[ih hx fun z hz=>h z (QYq _ hz)]
def CN(h:cD xs)(nd:xs.Nodup)(hx:x∈xs):gC x xs=1:=by
 induction xs with
 |nil=>cases hx
 |cons y ys ih=>
  have hys:=fun z hz=>h z (QYq _ hz)
  obtain⟨s,rfl⟩:=h y QYz
  rw[List.nodup_cons]at nd
  have zero:∀{zs:List D},cD zs->D.str s∉zs->gC (.str s) zs=0:=by
   intro zs
   induction zs with
   |nil=>intro _ _;rfl
   |cons z zs ihz=>
    intro hz hn
    obtain⟨q,rfl⟩:=hz z QYz
    have ne:q≠s:=fun e=>hn (by rw[e];exact QYz)
    simp[gC,cQ,ne,ihz (fun w hw=>hz w (QYq _ hw)) fun hw=>hn (QYq _ hw)]
  rcases QCq.mp hx with rfl|hx
  ·simp[gC,cQ,zero hys nd.1]
  ·obtain⟨q,rfl⟩:=hys x hx
   have ne:s≠q:=fun e=>nd.1 (by rw[e];exact hx)
   simp[gC,cQ,ne,ih hys nd.2 hx]
def jc n{d:D}(dd:d=.tup xs\/d=.lst xs)(h:cD xs)(hx:x∈xs):pg.fn (n+1) 8 [.val x,.val d]=.ok (.val (.bl true)) [.val x,.val d]:=by
 obtain⟨s,rfl⟩:=h x hx
 rw[uQ]
 have o:eX (.str s) xs=true:=by
  unfold eX
  rw[kZ h]
  rfl
 have e:aQ .isin (.str s) d=some true:=by
  rcases dd with rfl|rfl<;>(show(if eX _ xs then some _ else none)=_;rw[o,gR hx h];rfl)
 simp[lC,e]
def vZ:E:=.bi .all ACY
def lJ n{d:D}(hd:d=.tup xs\/d=.lst xs)(h:cD xs)(nd:xs.Nodup):pg.fn (n+1) 6 [.val d]=.ok (.val (.bl true)) [.val d]:=by
 have e:ev (pg.cf n) vZ [.val d]=.ok (.val (.bl true)) [.val d]:=by
  refine all1 (r:=.val d) (by simp) rfl (by rcases hd with rfl|rfl<;>rfl) fun x hx=>?_
  obtain⟨s,rfl⟩:=h x hx
  have e1:zW (.tup xs) (.str s)=some (.val (.int 1)):=by
   simp only[zW]
   rw[kZ h,CN h nd hx]
   rfl
  have e2:zW (.lst xs) _=some _:=e1
  rcases hd with rfl|rfl<;>simp[e1,e2]
 have hb:jo=⟨1,1,(.cons (.ret vZ) .nil)⟩:=rfl
 rw[wC,hb]
 have q:vZ.aB=none:=rfl
 simp[e,q]
def o5:D->D
 |.tup (a::_)=>a
 |_=>.non
theorem vY:∀(gs ks:List D),ks.length=gs.length->(aO gs ks).map o5=gs
 |[],ks=>fun _=>by simp[aO]
 |g::gs,[]=>fun h=>by simp at h
 |g::gs,k::ks=>fun h=>by simp[aO,o5,vY gs ks (by simpa using h)]
def vC(it:E):E:=.comp 1 (.name 0) it AAL AAb
def nF{σ:Ev}gs ks(hl:ks.length=gs.length)(hi:ev c it σ=.ok (.val (.tup (aO gs ks))) σ):ev c (vC it) σ=.ok (.new (.lst gs)) σ:=by
 have:=sY (el:=.idx (.var 0) AAH) o5 hi rfl rfl fun y hy=>by
  rw[b8]at hy
  obtain⟨p,_,rfl⟩:=QDq.mp hy
  simp[pairD,o5]
 rw[vY gs ks hl]at this
 exact this
def dB n hs gs ks x(hl:ks.length=gs.length)(hf:hs.length+gs.length<=1000):
  pg.fn (n+1) 13 [.val (.tup [.tup hs,.tup (aO gs ks),x])]=.ok (.new (.lst (hs++gs))) [.val (.tup [.tup hs,.tup (aO gs ks),x])]:=by
 have f:fits (hs.length+gs.length)=true:=by simp[fits];omega
 have hb:jk=⟨1,1,.cons (.ret (.op .add _ (vC _))) .nil⟩:=rfl
 rw[mU,hb]
 simp[nF (c:=pg.cf n) (it:=.idx (.var 0) AAG) (σ:=[.val (.tup [.tup hs,.tup (aO gs ks),x])]) gs ks hl (by simp),f]
end Tx
end
section
open PySem Mini
namespace Tx
@[simp↓]theorem Te:decide (Str.ofString "same"=Str.ofString "same")=true:=rfl
@[simp↓]theorem Zj:decide (Str.ofString "not"=Str.ofString "not")=true:=rfl
@[simp↓]theorem Zq:decide (Str.ofString "and"=Str.ofString "and")=true:=rfl
@[simp↓]theorem adg:decide (Str.ofString "or"=Str.ofString "or")=true:=rfl
@[simp↓]theorem Tu:decide (Str.ofString "both"=Str.ofString "both")=true:=rfl
@[simp↓]theorem O8:decide (Str.ofString "table"=Str.ofString "table")=true:=rfl
@[simp↓]theorem Tp:decide (Str.ofString "held"=Str.ofString "held")=true:=rfl
@[simp]theorem Vo:decide (Str.ofString "same"=Str.ofString "not")=false:=rfl
@[simp]theorem Vp:decide (Str.ofString "same"=Str.ofString "and")=false:=rfl
@[simp]theorem Zf:decide (Str.ofString "same"=Str.ofString "or")=false:=rfl
@[simp]theorem Th:decide (Str.ofString "same"=Str.ofString "both")=false:=rfl
@[simp]theorem Pr:decide (Str.ofString "same"=Str.ofString "table")=false:=rfl
@[simp]theorem Tf:decide (Str.ofString "same"=Str.ofString "held")=false:=rfl
@[simp]theorem Vr:decide (Str.ofString "not"=Str.ofString "same")=false:=rfl
@[simp]theorem Zk:decide (Str.ofString "not"=Str.ofString "and")=false:=rfl
@[simp]theorem aau:decide (Str.ofString "not"=Str.ofString "or")=false:=rfl
@[simp]theorem Vt:decide (Str.ofString "not"=Str.ofString "both")=false:=rfl
@[simp]theorem Ti:decide (Str.ofString "not"=Str.ofString "table")=false:=rfl
@[simp]theorem Vs:decide (Str.ofString "not"=Str.ofString "held")=false:=rfl
@[simp]theorem Vy:decide (Str.ofString "and"=Str.ofString "same")=false:=rfl
@[simp]theorem Zo:decide (Str.ofString "and"=Str.ofString "not")=false:=rfl
@[simp]theorem aav:decide (Str.ofString "and"=Str.ofString "or")=false:=rfl
@[simp]theorem VB:decide (Str.ofString "and"=Str.ofString "both")=false:=rfl
@[simp]theorem Tv:decide (Str.ofString "and"=Str.ofString "table")=false:=rfl
@[simp]theorem Vz:decide (Str.ofString "and"=Str.ofString "held")=false:=rfl
@[simp]theorem Zg:decide (Str.ofString "or"=Str.ofString "same")=false:=rfl
@[simp]theorem aas:decide (Str.ofString "or"=Str.ofString "not")=false:=rfl
@[simp]theorem aat:decide (Str.ofString "or"=Str.ofString "and")=false:=rfl
@[simp]theorem Zi:decide (Str.ofString "or"=Str.ofString "both")=false:=rfl
@[simp]theorem Vq:decide (Str.ofString "or"=Str.ofString "table")=false:=rfl
@[simp]theorem Zh:decide (Str.ofString "or"=Str.ofString "held")=false:=rfl
@[simp]theorem Tr:decide (Str.ofString "both"=Str.ofString "same")=false:=rfl
@[simp]theorem Vw:decide (Str.ofString "both"=Str.ofString "not")=false:=rfl
@[simp]theorem Vx:decide (Str.ofString "both"=Str.ofString "and")=false:=rfl
@[simp]theorem Zn:decide (Str.ofString "both"=Str.ofString "or")=false:=rfl
@[simp]theorem Px:decide (Str.ofString "both"=Str.ofString "table")=false:=rfl
@[simp]theorem Tt:decide (Str.ofString "both"=Str.ofString "held")=false:=rfl
@[simp]theorem Pk:decide (Str.ofString "table"=Str.ofString "same")=false:=rfl
@[simp]theorem Tc:decide (Str.ofString "table"=Str.ofString "not")=false:=rfl
@[simp]theorem Td:decide (Str.ofString "table"=Str.ofString "and")=false:=rfl
@[simp]theorem Vn:decide (Str.ofString "table"=Str.ofString "or")=false:=rfl
@[simp]theorem Pq:decide (Str.ofString "table"=Str.ofString "both")=false:=rfl
@[simp]theorem Pn:decide (Str.ofString "table"=Str.ofString "held")=false:=rfl
@[simp]theorem Tj:decide (Str.ofString "held"=Str.ofString "same")=false:=rfl
@[simp]theorem Vu:decide (Str.ofString "held"=Str.ofString "not")=false:=rfl
@[simp]theorem Vv:decide (Str.ofString "held"=Str.ofString "and")=false:=rfl
@[simp]theorem Zm:decide (Str.ofString "held"=Str.ofString "or")=false:=rfl
@[simp]theorem Tq:decide (Str.ofString "held"=Str.ofString "both")=false:=rfl
@[simp]theorem Pu:decide (Str.ofString "held"=Str.ofString "table")=false:=rfl
@[simp]theorem U0:aQ .isin (.str "same") (.tup [.str "same",.str "not"])=some true:=rfl
@[simp]theorem X8:aQ .isin (.str "not") (.tup [.str "same",.str "not"])=some true:=rfl
@[simp]theorem Yd:aQ .isin (.str "and") (.tup [.str "same",.str "not"])=some false:=rfl
@[simp]theorem ZV:aQ .isin (.str "or") (.tup [.str "same",.str "not"])=some false:=rfl
@[simp]theorem U4:aQ .isin (.str "both") (.tup [.str "same",.str "not"])=some false:=rfl
@[simp]theorem Rr:aQ .isin (.str "table") (.tup [.str "same",.str "not"])=some false:=rfl
@[simp]theorem U3:aQ .isin (.str "held") (.tup [.str "same",.str "not"])=some false:=rfl
@[simp]theorem X7:aQ .isin (.str "same") (.tup [.str "and",.str "or"])=some false:=rfl
@[simp]theorem ZW:aQ .isin (.str "not") (.tup [.str "and",.str "or"])=some false:=rfl
@[simp]theorem ZX:aQ .isin (.str "and") (.tup [.str "and",.str "or"])=some true:=rfl
@[simp]theorem acu:aQ .isin (.str "or") (.tup [.str "and",.str "or"])=some true:=rfl
@[simp]theorem Yc:aQ .isin (.str "both") (.tup [.str "and",.str "or"])=some false:=rfl
@[simp]theorem UW:aQ .isin (.str "table") (.tup [.str "and",.str "or"])=some false:=rfl
@[simp]theorem Yb:aQ .isin (.str "held") (.tup [.str "and",.str "or"])=some false:=rfl
def gl5:pg.gl 5=some (.int 4):=rfl
def gl6:pg.gl 6=some (.int 8):=rfl
def gl7:pg.gl 7=some (.int 3):=rfl
def Jl:E:=.bi .all ACg
def dq n{d:D}(dd:d=.tup xs\/d=.lst xs)(h:cD xs)(nd:xs.Nodup)(hs:ys.Sublist xs)a b(h1:a<=ys.length)(h2:ys.length<=b):
  pg.fn (n+2) 9 [.val (.tup ys),.val d,.val (.int a),.val (.int b)]=.ok (.val (.bl true)) [.val (.tup ys),.val d,.val (.int a),.val (.int b)]:=by
 have e:ev (pg.cf (n+1)) Jl [.val (.tup ys),.val d,.val (.int a),.val (.int b)]=.ok (.val (.bl true)) [.val (.tup ys),.val d,.val (.int a),.val (.int b)]:=by
  refine all1 (r:=.val (.tup ys)) (by simp) rfl rfl fun x hx=>?_
  simp[jc n dd h (hs.subset hx)]
 have hb:j5=⟨4,4,(.cons _ (.cons (.ret (.and (.cons Jl _))) .nil))⟩:=rfl
 rw[yS,hb]
 simp[bf n ys a b h1 h2,e,lJ n (.inl rfl) (fun z hz=>h z (hs.subset hz)) (hs.nodup nd)]
def agt xs:cut xs (some 1) none=xs.tail:=by
 cases xs with
 |nil=>rfl
 |cons x xs=>
  have:clip (xs.length+1) 1=1:=by simp[clip];omega
  simp[cut,this]
theorem vp:∀(rs:List (List Bool)),zB rs=true->∀p∈rs.zip rs.tail,lE p.1 p.2=true
 |[]=>fun _ p h=>by simp at h
 |[a]=>fun _ p h=>by simp at h
 |a::b::r=>fun hi p h=>by
  simp only[zB,QUq]at hi
  simp only[List.tail_cons,List.zip_cons_cons,QCq]at h
  rcases h with rfl|h
  ·exact hi.1
  ·exact vp _ hi.2 p (by simpa using h)
def T3:E:=.bi .all ACh
def upC:E:=.bi .all ABm
def z8 n rs(m:Nat)(h:∀r∈rs,r.length=m)(hi:zB rs=true):
  pg.fn (n+3) 10 [.val (.tup (rs.map aH)),.val (.int m)]=.ok (.val (.bl true)) [.val (.tup (rs.map aH)),.val (.int m)]:=by
 have e1:ev (pg.cf (n+2)) T3 [.val (.tup (rs.map aH)),.val (.int m)]=.ok (.val (.bl true)) [.val (.tup (rs.map aH)),.val (.int m)]:=by
  refine all1 (r:=.val (.tup (rs.map aH))) (by simp) rfl rfl fun x hx=>?_
  obtain⟨r,hr,rfl⟩:=QDq.mp hx
  simp[vo n r m (by rw[h r hr])]
 have e2:ev (pg.cf (n+2)) upC [.val (.tup (rs.map aH)),.val (.int m)]=.ok (.val (.bl true)) [.val (.tup (rs.map aH)),.val (.int m)]:=by
  have hz:aO (rs.map aH) (rs.map aH).tail=((rs.zip rs.tail).map fun p=>(aH p.1,aH p.2)).map pairD:=by
   rw[b8,<-List.map_tail,List.zip_map]
   rfl
  refine all2 (r:=.val (.lst (aO _ (rs.map aH).tail))) ?_ rfl (by show some _=some _;rw[hz]) fun x hx=>?_
  ·simp[cC,E.fQ,dO,agt]
  ·obtain⟨p,hp,rfl⟩:=QDq.mp hx
   have lt:aQ .lt (aH p.1) (aH p.2)=some true:=by
    simp[aQ,ltD,aH,jP,vp rs hi p hp]
   simp[lt]
 have hb:mz=⟨2,2,(.cons (.ite (.or (.cons _ (.cons (.not T3) .nil))) _ .nil) (.cons (.ret upC) .nil))⟩:=rfl
 have q:upC.aB=none:=rfl
 rw[Bp,hb]
 simp[e1,e2,q]
def HX n k:n+4+2*k=n+2+2*k+1+1:=by omega
def Rn n k:n+1+2*k+2=n+2+2*k+1:=by omega
def afX n k:n+2*k+3=n+2+2*k+1:=by omega
def afW n k:n+3+2*k+1=n+4+2*k:=by omega
def afV n k:n+4+2*(k+1)=n+4+2*k+1+1:=by omega
def Fb{a:Nat}(h1:c<=a)(h2:d<=c):(d:Int)<=a:=Int.ofNat_le.mpr (Nat.le_trans h2 h1)
def Fd{a:Nat}(h1:a<=c)(h2:c<=d):(a:Int)<=d:=Int.ofNat_le.mpr (Nat.le_trans h1 h2)
theorem rP{xs:List D}(h:cD xs)(nd:xs.Nodup):∀{k:Nat}{d:D},bz xs k d->∀(n:Nat)(dp:Int),dp+k<=3->
  pg.fn (n+4+2*k) 11 [.val d,.val (.lst xs),.val (.int dp)]=.ok (.val (.bl true)) [.val d,.val (.lst xs),.val (.int dp)]:=by
 intro k d hk
 induction hk with
 | @same k x hx=>
  intro n dp _
  rw[HX,eQ]
  simp[dj,bf (n+2+2*k) [.str "same",x] 2 4 (by simp) (by simp),jc (n+2+2*k) (.inr rfl) h hx,aV]
 | @not k x hx=>
  intro n dp _
  rw[HX,eQ]
  simp[dj,bf (n+2+2*k) [.str "not",x] 2 4 (by simp) (by simp),jc (n+2+2*k) (.inr rfl) h hx,aV]
 | @and k ys hs h1 h2=>
  intro n dp _
  have w:=dq (n+1+2*k) (.inr rfl) h nd hs 1 4 (Fb h1 (by decide)) (Fd h2 (by decide))
  rw[Rn]at w
  rw[HX,eQ]
  simp[dj,bf (n+2+2*k) [.str "and",.tup ys] 2 4 (by simp) (by simp),w,aV,gl5]
 | @or k ys hs h1 h2=>
  intro n dp _
  have w:=dq (n+1+2*k) (.inr rfl) h nd hs 1 4 (Fb h1 (by decide)) (Fd h2 (by decide))
  rw[Rn]at w
  rw[HX,eQ]
  simp[dj,bf (n+2+2*k) [.str "or",.tup ys] 2 4 (by simp) (by simp),w,aV,gl5]
 | @both k ys hs h1 h2=>
  intro n dp _
  have w:=dq (n+1+2*k) (.inr rfl) h nd hs 2 4 (Fb h1 (by decide)) (Fd h2 (by decide))
  rw[Rn]at w
  rw[HX,eQ]
  simp[dj,bf (n+2+2*k) [.str "both",.tup ys] 2 4 (by simp) (by simp),w,aV,gl5]
 | @table k ys rs hs h1 h2 hr hi=>
  intro n dp _
  have w:=dq (n+1+2*k) (.inr rfl) h nd hs 1 8 (Fb h1 (by decide)) (Fd h2 (by decide))
  rw[Rn]at w
  have z:=z8 (n+2*k) rs ys.length hr hi
  rw[afX]at z
  rw[HX,eQ]
  simp[dj,bf (n+2+2*k) [.str "table",.tup ys,.tup (rs.map aH)] 2 4 (by simp) (by simp),w,z,aV,gl6]
 | @held k d x b hk hx ih=>
  intro n dp hd
  have w:=jc (n+3+2*k) (.inr rfl) h hx
  rw[afW]at w
  have hl:pg.fn (n+4+2*k+1) 12 [.val (.tup [.str "held",d,x,.bl b]),.val (.lst xs),.val (.int (dp+1))]=.ok (.val (.bl true)) [.val (.tup [.str "held",d,x,.bl b]),.val (.lst xs),.val (.int (dp+1))]:=by
   rw[Hd]
   simp[ph,ih n (dp+1) (by omega),w]
  have lt:dp<3:=by omega
  rw[afV,eQ]
  simp[dj,bf (n+4+2*k) [.str "held",d,x,.bl b] 2 4 (by simp) (by simp),hl,aV,gl7,lt]
end Tx
end
section
open PySem Mini
namespace Tx
noncomputable def Ul(h g:Nat):List Str:=(["a","b","come"]:List Str).take h++(["p","q","rr","go","abcdef"]:List Str).take g
def names(h g:Nat):List D:=hd h++bC g
def m7 h g:names h g=(Ul h g).map .str:=by
 simp[names,Ul,hd,bC,List.map_take]
def um{ss:List Str}(h:ss.Nodup):(ss.map D.str).Nodup:=by
 induction ss with
 |nil=>simp
 |cons s ss ih=>
  rw[List.nodup_cons]at h
  rw[Qyz,List.nodup_cons]
  exact⟨fun z=>h.1 (by simpa using z),ih h.2⟩
def names_nodup(h2:h<=2)(g1:1<=g)(g4:g<=5):(names h g).Nodup:=by
 rw[m7]
 exact um (((List.take_sublist h _).append (List.take_sublist g _)).nodup (by decide))
def bu h g:cD (names h g):=fun x hx=>by
 rw[m7]at hx
 obtain⟨s,_,rfl⟩:=QDq.mp hx
 exact⟨s,rfl⟩
def cT(h2:h<=2)(g4:g<=5):(names h g).length=h+g:=by
 rw[names,QTq,gA h2,b7 g4]
def Rc n s(hs:s∈Ul 3 5):pg.fn (n+1) 5 [.val (.str s)]=.ok (.val (.bl true)) [.val (.str s)]:=by
 have:Ul 3 5=(["a","b","come","p","q","rr","go","abcdef"]:List Str):=by rfl
 rw[this]at hs
 simp only[QCq,QAz,or_false]at hs
 rcases hs with rfl|rfl|rfl|rfl|rfl|rfl|rfl|rfl<;>kernel_rfl
def Ep{s:Str}(hs:s∈Ul h g):s∈Ul 3 5:=by
 unfold Ul at*
 rw[QXz]at*
 rcases hs with hs|hs
 ·exact .inl (by have:=List.mem_of_mem_take hs;simpa using this)
 ·exact .inr (by have:=List.mem_of_mem_take hs;simpa using this)
def gl3:pg.gl 3=some (.int 3):=rfl
def gl4:pg.gl 4=some (.int 5):=rfl
def Bt:E:=.bi .all (.comp 1 (.name 0) AAc AAL AAw)
def ql(h:ys.length=xs.length):(aO xs ys).length=xs.length:=by
 rw[b8];simp[h]
section
def iW(h g:Nat)(ks:List D)(X:D):D:=.tup [.tup (hd h),.tup (aO (bC g) ks),X]
def zF(n:Nat)(O:Nk h g ks ls)(X:D):pg.fn (n+2) 2 [.val (iW h g ks X)]=.ok (.val (.bl true)) [.val (iW h g ks X)]:=by
 have lg:=b7 O.g5
 have lh:=gA O.h2
 have lz:(aO (bC g) ks).length=g:=by rw[ql (by rw[lg,O.kl]),lg]
 have e:ev (pg.cf (n+1)) Bt [.val (iW h g ks X)]=.ok (.val (.bl true)) [.val (iW h g ks X)]:=by
  refine all1 (d:=.tup (aO (bC g) ks)) (xs:=aO (bC g) ks) (r:=.val (.tup (aO (bC g) ks))) (by simp[iW]) rfl rfl fun x hx=>?_
  rw[b8]at hx
  obtain⟨p,_,rfl⟩:=QDq.mp hx
  have t:=bf n [p.1,p.2] 2 2 (by simp) (by simp)
  simp[pairD,t]
 have t1:=bf n (hd h) 0 3 (by omega) (by have:=O.h2;omega)
 have t2:=bf n (aO (bC g) ks) 1 5 (by have:=O.g1;omega) (by have:=O.g5;omega)
 have hb:j4=⟨1,1,(.cons (.ite AAx AAS .nil) (.cons (.ret Bt) .nil))⟩:=rfl
 have q:Bt.aB=none:=rfl
 rw[yR,hb]
 simp only[iW]at*
 simp[t1,t2,gl3,gl4,e,q]
def Uo:E:=.bi .all ADQ
def UL:E:=.bi .all ACP
def Mg(n:Nat)(O:Nk h g ks ls)(X:D)(b:Bool)(t5:pg.fn (n+8) 7 [.val X,.val (.int (names h g).length)]=.ok (.val (.bl b)) [.val X,.val (.int (names h g).length)]):pg.fn (n+9) 1 [.val (iW h g ks X)]=.ok (.val (.bl b)) [.val (iW h g ks X)]:=by
 have lg:=b7 O.g5
 have lh:=gA O.h2
 have T:=bu h g
 have Nd:=names_nodup O.h2 O.g1 O.g5
 have L:=cT (g:=g) O.h2 O.g5
 have t1:=bf (n+7) [.tup (hd h),.tup (aO (bC g) ks),X] 3 3 (by simp) (by simp)
 have t2:=zF (n+6) O X
 have t3:=dB (n+7) (hd h) (bC g) ks X (by rw[O.kl,lg]) (by have:=O.h2;have:=O.g5;omega)
 have t4:=lJ (n+7) (d:=.lst (names h g)) (.inr rfl) T Nd
 have e1:ev (pg.cf (n+8)) Uo [.val (iW h g ks X),.own (.lst (names h g))]=.ok (.val (.bl true)) [.val (iW h g ks X),.val (.lst (names h g))]:=by
  refine all1 (d:=.lst (names h g)) (xs:=names h g) (r:=.val (.lst (names h g))) (by simp) rfl rfl fun x hx=>?_
  rw[m7]at hx
  obtain⟨s,hs,rfl⟩:=QDq.mp hx
  have w:=Rc (n+7) s (Ep hs)
  simp[w]
 have e2:ev (pg.cf (n+8)) UL [.val (iW h g ks X),.val (.lst (names h g))]=.ok (.val (.bl true)) [.val (iW h g ks X),.val (.lst (names h g))]:=by
  refine all2 (d:=.tup (aO (bC g) ks)) (ps:=(bC g).zip ks) (r:=.val (.tup (aO (bC g) ks))) (by simp[iW]) rfl (by show some _=some _;rw[b8]) fun x hx=>?_
  have hk:=O.kk x.2 (List.of_mem_zip hx).2
  have w:=rP T Nd hk n 0 (by decide)
  rw[show n+4+2*2=n+8 from rfl]at w
  simp[w]
 have hb:tQ=⟨1,2,(.cons (.ite ABZ AAS .nil) (.cons (.set 1 ABi) (.cons (.ite (.or (.cons (.not Uo) ADx)) AAS .nil) (.cons (.ret (.and (.cons UL ADk))) .nil))))⟩:=rfl
 rw[J5,hb]
 have nn:hd h++bC g=names h g:=rfl
 rw[nn]at t3
 have g2:getD (iW h g ks X) (.int 2)=some X:=by simp[iW]
 have t1':pg.fn (n+8) 3 [.val (iW h g ks X),.val (.int 3),.val (.int 3)]=.ok (.val (.bl true)) [.val (iW h g ks X),.val (.int 3),.val (.int 3)]:=t1
 have t3':pg.fn (n+8) 13 [.val (iW h g ks X)]=.ok (.new (.lst (names h g))) [.val (iW h g ks X)]:=t3
 simp[t1',t2,t3',e1,t4,e2,g2,t5]
def HY(n:Nat)(O:Nk h g ks ls):pg.fn (n+9) 1 [.val (aF h g ks ls)]=.ok (.val (.bl true)) [.val (aF h g ks ls)]:=
 Mg n O (aH ls) true (vo (n+6) ls (names h g).length (by rw[cT O.h2 O.g5,O.ll]))
def lQ(n:Nat)(O:Nk h g ks ls):pg.fn (n+10) 0 [.val (aF h g ks ls)]=.ok (.val (aF h g ks ls)) [.val (aF h g ks ls)]:=by
 have t:=HY n O
 rw[Hg]
 simp[pA,t]
end
end Tx
end
section
open PySem Mini
namespace Tx
theorem goD(τ:Int->Ev){cond elt:Ev->Out Rv}(P:D->D->Prop)(all:Bool):∀(xs acc:List D)(k:Int)(s:Sl),0<=k->bh s->
  (∀x∈xs,∀k,0<=k->∃b k',0<=k'/\(all=true->b=true)/\cond (.val x::τ k)=.ok (.val (.bl b)) (.val x::τ k'))->
  (∀x∈xs,∀k,0<=k->∃y k',0<=k'/\P x y/\elt (.val x::τ k)=.ok (.val y) (.val x::τ k'))->
  ∃(zs:List (D×D))(k':Int)(s':Sl),(zs.map (·.1)).Sublist xs/\(all=true->zs.map (·.1)=xs)/\(∀p∈zs,P p.1 p.2)/\0<=k'/\aY (.name 0) cond elt xs acc (s::τ k)=.ok (acc++zs.map (·.2)) (s'::τ k')
 |[]=>fun acc k s hk _ _ _=>⟨[],k,s,List.Sublist.refl _,fun _=>rfl,fun p h=>(by cases h),hk,by simp[aY]⟩
 |x::xs=>fun acc k s hk hs hc he=>by
  obtain⟨b,k1,a1,a2,a3⟩:=hc x QYz k hk
  rw[aY,oE hs]
  simp only[a3,dH]
  cases b with
  |true=>
   obtain⟨y,k2,b1,b2,b3⟩:=he x QYz k1 a1
   obtain⟨zs,k',s',c1,c2,c3,c4,c5⟩:=goD τ P all xs _ k2 _ b1 (.inr ⟨_,rfl⟩) (fun z hz=>hc z (QYq _ hz)) fun z hz=>he z (QYq _ hz)
   refine⟨(x,y)::zs,k',s',c1.cons_cons x,fun h=>by simp[c2 h],fun p hp=>?_,c4,?_⟩
   ·rcases QCq.mp hp with rfl|hp
    ·exact b2
    ·exact c3 p hp
   ·rw[if_pos rfl,b3,bV,c5]
    simp
  |false=>
   obtain⟨zs,k',s',c1,c2,c3,c4,c5⟩:=goD τ P all xs acc k1 _ a1 (.inr ⟨_,rfl⟩) (fun z hz=>hc z (QYq _ hz)) fun z hz=>he z (QYq _ hz)
   exact⟨zs,k',s',c1.cons x,fun h=>by simpa using a2 h,c3,c4,by rw[if_neg (by simp),c5]⟩
def Nu{σ:Ev}{r:Rv}{xs:List D}(τ:Int->Ev)(P:D->D->Prop)(all:Bool)(hk:0<=k)(hi:ev c it σ=.ok r (τ k))(hr:r.jA=some d)(hd:items d=some xs)
  (hc:∀x∈xs,∀k,0<=k->∃b k',0<=k'/\(all=true->b=true)/\ev c co (.val x::τ k)=.ok (.val (.bl b)) (.val x::τ k'))
  (he:∀x∈xs,∀k,0<=k->∃y k',0<=k'/\P x y/\ev c el (.val x::τ k)=.ok (.val y) (.val x::τ k')):
  ∃(zs:List (D×D))(k':Int),(zs.map (·.1)).Sublist xs/\(all=true->zs.map (·.1)=xs)/\(∀p∈zs,P p.1 p.2)/\0<=k'/\ev c (.comp 1 (.name 0) it co el) σ=.ok (.new (.lst (zs.map (·.2)))) (τ k'):=by
 obtain⟨zs,k',s',a1,a2,a3,a4,a5⟩:=goD τ P all xs [] k .un hk (.inl rfl) hc he
 refine⟨zs,k',a1,a2,a3,a4,?_⟩
 rw[mJ,hi]
 have b:∀{β:Type}(g:D->Ev->Out β),(Out.ok r (τ k)).ao g=g d (τ k):=fun g=>by cases r<;>simp[Rv.jA]at hr<;>subst hr<;>rfl
 rw[b]
 simp only[hd]
 rw[show List.replicate 1 Sl.un++τ k=.un::τ k from rfl,a5]
 simp
def nU(m:D×Nat):D:=.tup [m.1,.int m.2]
def fB(st:List (D×Nat)):D:=.tup (st.map nU)
def aK(os:List D)(sts:List (List (D×Nat))):D:=.tup [.tup os,.tup (sts.map fB)]
structure cj(h g:Nat)(os:List D)(sts:List (List (D×Nat))):Prop where
 ou:os.Sublist (bC g)
 s1:1<=sts.length
 s4:sts.length<=4
 mv:∀st∈sts,(st.map (·.1)).Sublist (hd h++os)/\∀m∈st,m.2<sts.length
def QZ:E:=.comp 1 (.name 0) AAe ABG AAb
def TX:E:=.comp 1 (.name 0) ADW pQ (.var 0)
def Xq:E:=(.tup ACR)
def Xr:E:=.comp 1 (.name 0) (.var 8) AAL Xq
def yh:S:=(.cons (.set 8 TX) (.cons (.append 6 (.bi .tuple Xr)) .nil))
def V7{zs:List (D×D)}(h:(zs.map (·.1)).Sublist xs)(e:∀p∈zs,p.2=p.1):(zs.map (·.2)).Sublist xs:=by
 rw[show zs.map (·.2)=zs.map (·.1)from List.map_congr_left e];exact h
section
variable(n:Nat)(ns:List Int)(hs os gs:List D)(x:D)(s3 s5 s6 s7 s8:Sl)
def JH(k:Int)(hk:0<=k)(hl:hs.length+os.length<=900):∃(ys:List D)(k':Int),ys.Sublist (hs++os)/\0<=k'/\
  ev (pg.cf (n+3)) TX [.val (sc ns),.bor (.lst [.int k]),.val (.tup [.tup hs,.tup gs,x]),s3,.val (.tup os),s5,s6,s7,s8]=.ok (.new (.lst ys)) [.val (sc ns),.bor (.lst [.int k']),.val (.tup [.tup hs,.tup gs,x]),s3,.val (.tup os),s5,s6,s7,s8]:=by
 have f:fits (hs.length+os.length)=true:=by simp[fits];omega
 obtain⟨zs,k',a1,a2,a3,a4,a5⟩:=Nu (it:=ADW) (el:=.var 0) (σ:=[.val (sc ns),.bor (.lst [.int k]),.val (.tup [.tup hs,.tup gs,x]),s3,.val (.tup os),s5,s6,s7,s8]) (fun k=>[.val (sc ns),.bor (.lst [.int k]),.val (.tup [.tup hs,.tup gs,x]),s3,.val (.tup os),s5,s6,s7,s8])
  (fun x y=>y=x) false hk (r:=.val (.tup (hs++os))) (by simp[f]) rfl rfl
  (fun x _ k hk=>by obtain⟨b,e⟩:=xJ n ns k hk x [.val _,s3,.val _,s5,s6,s7,s8];exact⟨b,k+1,by omega,by simp,e⟩) fun x _ k hk=>⟨x,k,hk,rfl,by simp⟩
 exact⟨_,k',V7 a1 a3,a4,a5⟩
theorem Rg(k:Int)(hk:0<=k)(ys:List D)(many:Nat)(h1:1<=many)(net:D)(s4:Sl):∃(st:List (D×Nat))(k':Int),st.map (·.1)=ys/\(∀m∈st,m.2<many)/\0<=k'/\
  ev (pg.cf (n+3)) Xr [.val (sc ns),.bor (.lst [.int k]),.val net,s3,s4,.val (.int many),s6,s7,.own (.lst ys)]=.ok (.new (.lst (st.map nU))) [.val (sc ns),.bor (.lst [.int k']),.val net,s3,s4,.val (.int many),s6,s7,.val (.lst ys)]:=by
 obtain⟨zs,k',a1,a2,a3,a4,a5⟩:=Nu (c:=pg.cf (n+3)) (it:=.var 8) (co:=.con (.bl true)) (el:=Xq) (σ:=[.val (sc ns),.bor (.lst [.int k]),.val net,s3,s4,.val (.int many),s6,s7,.own (.lst ys)]) (fun k=>[.val (sc ns),.bor (.lst [.int k]),.val net,s3,s4,.val (.int many),s6,s7,.val (.lst ys)])
  (fun x y=>∃j:Nat,j<many/\y=nU (x,j)) true hk (r:=.val (.lst ys)) (by simp) rfl rfl
  (fun x _ k hk=>⟨true,k,hk,fun _=>rfl,by simp⟩) fun x _ k hk=>by
   obtain⟨q,q1,q2,e⟩:=bH n ns k many hk (by omega)
   obtain⟨j,rfl⟩:∃j:Nat,q=j:=⟨q.toNat,by omega⟩
   exact⟨_,k+1,by omega,⟨j,by omega,rfl⟩,by simp[Xq,e,aV,nU]⟩
 have pick:∀(zs:List (D×D)),(∀p∈zs,∃j:Nat,j<many/\p.2=nU (p.1,j))->∃st:List _,st.map (·.1)=zs.map (·.1)/\(∀m∈st,m.2<many)/\st.map nU=zs.map (·.2):=by
  intro zs
  induction zs with
  |nil=>exact fun _=>⟨[],rfl,fun m h=>(by cases h),rfl⟩
  |cons z zs ih=>
   intro h
   obtain⟨j,j1,j2⟩:=h z QYz
   obtain⟨st,b1,b2,b3⟩:=ih fun p hp=>h p (QYq _ hp)
   refine⟨(z.1,j)::st,by simp[b1],fun m hm=>?_,by simp[b3,j2]⟩
   rcases QCq.mp hm with rfl|hm
   ·exact j1
   ·exact b2 m hm
 obtain⟨st,b1,b2,b3⟩:=pick zs a3
 exact⟨st,k',by rw[b1,a2 rfl],b2,a4,by rw[b3];exact a5⟩
def GJ(k:Int)(hk:0<=k)(hl:hs.length+os.length<=900)(many:Nat)(h1:1<=many)(acc:List D)(ha:acc.length<=1000)(h8:bh s8):∃(st:List (D×Nat))(k':Int)(s':Sl),(st.map (·.1)).Sublist (hs++os)/\(∀m∈st,m.2<many)/\0<=k'/\bh s'/\
  ex (pg.cf (n+3)) yh [.val (sc ns),.bor (.lst [.int k]),.val (.tup [.tup hs,.tup gs,x]),s3,.val (.tup os),.val (.int many),.own (.lst acc),s7,s8]=.next [.val (sc ns),.bor (.lst [.int k']),.val (.tup [.tup hs,.tup gs,x]),s3,.val (.tup os),.val (.int many),.own (.lst (acc++[fB st])),s7,s']:=by
 obtain⟨ys,k1,a1,a2,a3⟩:=JH n ns hs os gs x s3 (.val (.int many)) (.own (.lst acc)) s7 s8 k hk hl
 obtain⟨st,k',b1,b2,b3,b4⟩:=Rg n ns s3 (.own (.lst acc)) s7 k1 a2 ys many h1 (.tup [.tup hs,.tup gs,x]) (.val (.tup os))
 have f:fits (acc.length+1)=true:=by simp[fits];omega
 have q:Xr.aB=none:=rfl
 refine⟨st,k',.val (.lst ys),by rw[b1];exact a1,b2,b3,.inr ⟨_,rfl⟩,?_⟩
 rcases h8 with rfl|⟨e,rfl⟩<;>simp[yh,a3,b4,cZ,uR,f,q,fB]
theorem uE(hl:hs.length+os.length<=900)(many:Nat)(h1:1<=many):∀(xs:List D)(acc:List (List (D×Nat)))(k:Int)(s7 s8:Sl),0<=k->bh s7->bh s8->acc.length+xs.length<=1000->∃(sts:List (List (D×Nat)))(k':Int)(t7 t8:Sl),sts.length=xs.length/\(∀st∈sts,(st.map (·.1)).Sublist (hs++os)/\∀m∈st,m.2<many)/\0<=k'/\
  aG (.name 7) (ex (pg.cf (n+3)) yh) xs [.val (sc ns),.bor (.lst [.int k]),.val (.tup [.tup hs,.tup gs,x]),s3,.val (.tup os),.val (.int many),.own (.lst (acc.map fB)),s7,s8]=.next [.val (sc ns),.bor (.lst [.int k']),.val (.tup [.tup hs,.tup gs,x]),s3,.val (.tup os),.val (.int many),.own (.lst ((acc++sts).map fB)),t7,t8]
 |[]=>fun acc k s7 s8 hk _ _ _=>⟨[],k,s7,s8,rfl,fun st h=>(by cases h),hk,by simp[aG]⟩
 |y::xs=>fun acc k s7 s8 hk h7 h8 hx=>by
  simp only[QBq]at hx
  obtain⟨st,k1,s',a1,a2,a3,a4,a5⟩:=GJ n ns hs os gs x s3 _ s8 k hk hl many h1 (acc.map fB) (by simp;omega) h8
  obtain⟨sts,k',t7,t8,b1,b2,b3,b4⟩:=uE hl many h1 xs (acc++[st]) k1 _ s' a3 (.inr ⟨_,rfl⟩) a4 (by simp;omega)
  refine⟨st::sts,k',t7,t8,by simp[b1],fun q hq=>?_,b3,?_⟩
  ·rcases QCq.mp hq with rfl|hq
   ·exact⟨a1,a2⟩
   ·exact b2 q hq
  ·rw[aG]
   have st1:bj (.name 7) y [.val (sc ns),.bor (.lst [.int k]),.val (.tup [.tup hs,.tup gs,x]),s3,.val (.tup os),.val (.int many),.own (.lst (acc.map fB)),s7,s8]=some [.val (sc ns),.bor (.lst [.int k]),.val (.tup [.tup hs,.tup gs,x]),s3,.val (.tup os),.val (.int many),.own (.lst (acc.map fB)),.val y,s8]:=by
    rcases h7 with rfl|⟨e,rfl⟩<;>simp[bj]
   rw[st1]
   simp only
   rw[a5,nZ]
   rw[show acc.map fB++[fB st]=(acc++[st]).map fB by simp,b4]
   simp
end
theorem oH:∀(m:Nat)(lo:Int),(bF lo m).length=m
 |0=>fun _=>rfl
 |m+1=>fun lo=>by simp[bF,oH m]
def QX(n:Nat)(ns:List Int)(k:Int)(hk:0<=k)(hs gs ks:List D)(x:D)(hl:ks.length=gs.length)(s3 s4 s5 s6 s7 s8:Sl):∃(os:List D)(k':Int),os.Sublist gs/\0<=k'/\
  ev (pg.cf (n+3)) QZ [.val (sc ns),.bor (.lst [.int k]),.val (.tup [.tup hs,.tup (aO gs ks),x]),s3,s4,s5,s6,s7,s8]=.ok (.new (.lst os)) [.val (sc ns),.bor (.lst [.int k']),.val (.tup [.tup hs,.tup (aO gs ks),x]),s3,s4,s5,s6,s7,s8]:=by
 obtain⟨zs,k',a1,a2,a3,a4,a5⟩:=Nu (c:=pg.cf (n+3)) (it:=AAe) (co:=ABG) (el:=AAb) (σ:=[.val (sc ns),.bor (.lst [.int k]),.val (.tup [.tup hs,.tup (aO gs ks),x]),s3,s4,s5,s6,s7,s8]) (fun k=>[.val (sc ns),.bor (.lst [.int k]),.val (.tup [.tup hs,.tup (aO gs ks),x]),s3,s4,s5,s6,s7,s8])
  (fun x y=>y=o5 x) false hk (r:=.val (.tup (aO gs ks))) (by simp) rfl rfl
  (fun x _ k hk=>by
   obtain⟨q,_,_,e⟩:=bH n ns k 3 hk (by omega)
   exact⟨decide (0<q),k+1,by omega,by simp,by simp[e]⟩) fun x hx k hk=>by
   rw[b8]at hx
   obtain⟨p,_,rfl⟩:=QDq.mp hx
   exact⟨_,k,hk,rfl,by simp[pairD,o5]⟩
 refine⟨_,k',?_,a4,a5⟩
 have:=a1.map o5
 rw[vY gs ks hl]at this
 rw[show zs.map (·.2)=(zs.map (·.1)).map o5 by rw[List.map_map];exact List.map_congr_left a3]
 exact this
def PL(n:Nat)(ns:List Int)(k:Int)(hk:0<=k){ks:List D}(O:j6 h g ks ls):∃os sts k',cj h g os sts/\0<=k'/\
  pg.fn (n+4) 45 [.val (sc ns),.bor (.lst [.int k]),.val (aF h g ks ls),.val (.int 4)]=.ok (.val (aK os sts)) [.val (sc ns),.bor (.lst [.int k']),.val (aF h g ks ls),.val (.int 4)]:=by
 have lg:=b7 O.g5
 have lh:=gA O.h2
 obtain⟨os,k1,a1,a2,a3⟩:=QX n ns k hk (hd h) (bC g) ks _ (by rw[O.kl,lg]) _ .un .un .un .un .un
 obtain⟨q,q1,q2,eq⟩:=bH n ns k1 4 a2 (by omega)
 obtain⟨m,rfl⟩:∃m:Nat,q=m:=⟨q.toNat,by omega⟩
 have lo:=a1.length_le
 have:=O.h2
 have:=O.g5
 obtain⟨sts,k',t7,t8,b1,b2,b3,b4⟩:=uE n ns (hd h) os _ _ _ (by omega) (1+m) (by omega) (bF 0 (1+m)) [] (k1+1) .un .un (by omega) (.inl rfl) (.inl rfl) (by simp[oH];omega)
 rw[oH]at b1
 refine⟨os,sts,k',⟨a1,by omega,by omega,fun st hst=>?_⟩,b3,?_⟩
 ·rw[b1];exact b2 st hst
 ·have hb:lU=⟨4,9,.cons (.set 4 (.bi .tuple QZ)) (.cons _ (.cons _ (.cons (.for_ _ _ yh) _)))⟩:=rfl
  rw[Bc,hb]
  have q0:QZ.aB=none:=rfl
  have fm:fits (1+m)=true:=by simp[fits];omega
  have md:Ag (1+m)=true:=by simp[Ag];omega
  have tn:(1+(m:Int)).toNat=1+m:=by omega
  have b4':aG (.name 7) (ex (pg.cf (n+3)) yh) (bF 0 (1+m)) [.val (sc ns),.bor (.lst [.int (k1+1)]),.val (aF h g ks ls),.val (.int 4),.val (.tup os),.val (.int (1+m)),.own (.lst []),.un,.un]=.next [.val (sc ns),.bor (.lst [.int k']),.val (aF h g ks ls),.val (.int 4),.val (.tup os),.val (.int (1+m)),.own (.lst (sts.map fB)),t7,t8]:=by simpa[aF]using b4
  have a3':ev _ QZ [.val _,.bor _,.val (aF h g ks ls),.val (.int 4),.un,.un,.un,.un,.un]=.ok _ [.val _,.bor _,.val (aF h g ks ls),.val _,.un,.un,.un,.un,.un]:=a3
  simp[a3',q0,eq,aV,fm,md,tn,b4',items,aK]
end Tx
end
section
open PySem Mini
namespace Tx
def Ff:E:=(.comp 1 (.name 0) (.var 2) AAL pQ)
def Lq n ns k(hk:0<=k)xs s3 s4:∃(bs:List Bool)(k':Int),bs.length=xs.length/\0<=k'/\
  ev (pg.cf (n+3)) Ff [.val (sc ns),.bor (.lst [.int k]),.own (.lst xs),s3,s4]=.ok (.new (.lst (bs.map .bl))) [.val (sc ns),.bor (.lst [.int k']),.val (.lst xs),s3,s4]:=by
 obtain⟨bs,k',s',a1,a2,a3,a4⟩:=su n ns [.val _,s3,s4] xs [] k .un hk (.inl rfl)
 refine⟨bs,k',a1,a2,?_⟩
 have h:ev (pg.cf (n+3)) (.var 2) [.val (sc ns),.bor (.lst [.int k]),.own (.lst xs),s3,s4]=.ok (.val (.lst xs)) [.val (sc ns),.bor (.lst [.int k]),.val (.lst xs),s3,s4]:=by simp
 unfold Ff
 rw[mJ,h,bV]
 simp only[items]
 rw[show List.replicate 1 Sl.un++[.val _,.bor _,.val _,s3,s4]=.un:: .val _:: .bor _::[.val _,s3,s4]from rfl,a4]
 simp
def T4:S:=AAg
def rk(a b:String):D:=.tup [.str "held",.tup [.str "same",.str a],.str b,.bl false]
noncomputable def yE:Nat->List D
 |3=>[rk "rr" "q",rk "p" "rr",rk "q" "p"]
 |4=>[rk "go" "q",rk "p" "rr",rk "q" "go",rk "rr" "p"]
 |_=>[rk "abcdef" "q",rk "p" "rr",rk "q" "go",rk "rr" "abcdef",rk "go" "p"]
def G9 c s0 s1 g(hg:g=3\/g=4\/g=5):∃s4,aG (.name 4) (ex c T4) (bF 0 g) [s0,s1,.own (.lst (bC g)),.own (.lst []),.un]=.next [s0,s1,.own (.lst (bC g)),.own (.lst (aO (bC g) (yE g))),s4]:=by
 refine⟨.val (.int (g-1)),?_⟩
 rcases hg with rfl|rfl|rfl
 all_goals
  try rfl
def Az g(hg:g=3\/g=4\/g=5):∀d∈yE g,bz (hd 0++bC g) 1 d:=by
 intro d h
 rcases hg with rfl|rfl|rfl<;>simp only[yE,QCq,QAz,or_false]at h<;>rcases h with rfl|rfl|rfl|rfl|rfl<;>exact .held (.same (by simp[hd,bC])) (by simp[hd,bC])
def Qt n ns k(hk:0<=k):∃g ks ls k',j6 0 g ks ls/\3<=g/\0<=k'/\pg.fn (n+4) 46 [.val (sc ns),.bor (.lst [.int k])]=.ok (.val (aF 0 g ks ls)) [.val (sc ns),.bor (.lst [.int k'])]:=by
 obtain⟨r,r1,r2,er⟩:=bH n ns k 3 hk (by omega)
 obtain⟨g,hg,hr⟩:∃g:Nat,(g=3\/g=4\/g=5)/\3+r=g:=⟨(3+r).toNat,by omega,by omega⟩
 have lg:(bC g).length=g:=b7 (by omega)
 obtain⟨s4,a⟩:=G9 (pg.cf (n+3)) (.val (sc ns)) (.bor (.lst [.int (k+1)])) g hg
 obtain⟨bs,k',b1,b2,b3⟩:=Lq n ns (k+1) (by omega) (bC g) (.own (.lst (aO (bC g) (yE g)))) s4
 refine⟨g,yE g,bs,k',⟨by omega,by omega,by omega,?_,Az g hg,by omega⟩,by omega,b2,?_⟩
 ·rcases hg with rfl|rfl|rfl<;>rfl
 ·have hb:lW=⟨2,5,(.cons _ (.cons _ (.cons (.for_ _ _ T4) (.cons (.ret (.tup (.cons _ (.cons _ (.cons (.bi .tuple Ff) .nil))))) .nil))))⟩:=rfl
  rw[Bg,hb]
  have sl:dO (.lst [.str "p",.str "q",.str "rr",.str "go",.str "abcdef"]) none (some g)=some (.new (.lst (bC g))):=by
   rcases hg with rfl|rfl|rfl<;>rfl
  have fg:fits g=true:=by simp[fits];omega
  have md:Ag g=true:=by simp[Ag];omega
  have q:Ff.aB=none:=rfl
  simp[er,hr,sl,aV,cC,E.fQ,lg,fg,md,items,a,b3,q,aF,hd]
def o6:S:=(.cons (.set 7 AAd) AAi)
def Sw xs b:at? (xs++[b]) (-1)=some b:=by
 unfold at? ix?
 have e:(-1+((xs.length:Int)+1)).toNat=xs.length:=by omega
 have e2:(0:Int)<= -1+(xs.length+1):=by omega
 have e3: -1+((xs.length:Int)+1)<xs.length+1:=by omega
 simp[e,e2,e3]
def CW n ns k(hk:0<=k)s2 s7(h7:bh s7)a x ls l acc(hl:ls.length<=1000)(ha:acc.length<=1000):
  ∃(w:Str)(b:Bool)(t7:Sl),(w="same"\/w="not")/\bh t7/\ex (pg.cf (n+3)) o6 [.val (sc ns),.bor (.lst [.int k]),s2,.val a,.own (.lst ((ls++[l]).map .bl)),.own (.lst acc),.val x,s7]
   =.next [.val (sc ns),.bor (.lst [.int (k+1)]),s2,.val x,.own (.lst ((ls++[l]++[b]).map .bl)),.own (.lst (acc++[.tup [x,.tup [.str w,a]]])),.val x,t7]:=by
 obtain⟨r,r1,r2,er⟩:=bH n ns k 2 hk (by omega)
 have fa:fits (acc.length+1)=true:=by simp[fits];omega
 have fb:fits (ls.length+1+1)=true:=by simp[fits];omega
 have al:at? (ls.map D.bl++[.bl l]) (-1)=some _:=Sw _ _
 rcases (by omega:r=0\/r=1)with rfl|rfl
 ·refine⟨"same",l==true,.val (.int 0),.inl rfl,.inr ⟨_,rfl⟩,?_⟩
  rcases h7 with rfl|⟨e,rfl⟩<;>simp[o6,er,aV,fa,fb,cZ,uR,al]
 ·refine⟨"not",l==false,.val (.int 1),.inr rfl,.inr ⟨_,rfl⟩,?_⟩
  rcases h7 with rfl|⟨e,rfl⟩<;>simp[o6,er,aV,fa,fb,cZ,uR,al]
theorem sZ(n:Nat)(ns:List Int)(s2:Sl):∀(xs acc:List D)(k:Int)(s6 s7:Sl)(a:D)(ls:List Bool)(l:Bool),0<=k->bh s6->bh s7->ls.length+xs.length<=1000->acc.length+xs.length<=1000->
  ∃(ks:List D)(bs:List Bool)(k':Int)(t3 t6 t7:Sl),ks.length=xs.length/\bs.length=xs.length/\0<=k'/\(∀d∈ks,∃y∈a::xs,d=.tup [.str "same",y]\/d=.tup [.str "not",y])/\
   aG (.name 6) (ex (pg.cf (n+3)) o6) xs [.val (sc ns),.bor (.lst [.int k]),s2,.val a,.own (.lst ((ls++[l]).map .bl)),.own (.lst acc),s6,s7]=.next [.val (sc ns),.bor (.lst [.int k']),s2,t3,.own (.lst ((ls++[l]++bs).map .bl)),.own (.lst (acc++aO xs ks)),t6,t7]
 |[]=>fun acc k s6 s7 a ls l hk _ _ _ _=>⟨[],[],k,.val a,s6,s7,rfl,rfl,hk,fun d h=>(by cases h),by simp[aG,aO]⟩
 |x::xs=>fun acc k s6 s7 a ls l hk h6 h7 hl ha=>by
  simp only[QBq]at hl ha
  obtain⟨w,b,t,a1,a2,a3⟩:=CW n ns k hk s2 s7 h7 a x ls l acc (by omega) (by omega)
  obtain⟨ks,bs,k',t3,t6,t7,b1,b2,b3,b4,b5⟩:=sZ n ns s2 xs (acc++[.tup [x,.tup [.str w,a]]]) (k+1) (.val x) t x (ls++[l]) b (by omega) (.inr ⟨_,rfl⟩) a2 (by simp;omega) (by simp;omega)
  refine⟨.tup [.str w,a]::ks,b::bs,k',t3,t6,t7,by simp[b1],by simp[b2],b3,fun d hd=>?_,?_⟩
  ·rcases QCq.mp hd with rfl|hd
   ·exact⟨a,QYz,by rcases a1 with rfl|rfl<;>simp⟩
   ·obtain⟨y,hy,e⟩:=b4 d hd
    exact⟨y,QYq _ hy,e⟩
  ·have st:bj (.name 6) x [.val (sc ns),.bor (.lst [.int k]),s2,.val a,.own (.lst ((ls++[l]).map .bl)),.own (.lst acc),s6,s7]=some [.val (sc ns),.bor (.lst [.int k]),s2,.val a,.own (.lst ((ls++[l]).map .bl)),.own (.lst acc),.val x,s7]:=by
    rcases h6 with rfl|⟨e,rfl⟩<;>simp[bj]
   rw[aG,st]
   simp only
   rw[a3,nZ,b5]
   simp[aO]
def NP n ns k(hk:0<=k):∃h g ks ls os sts k',j6 h g ks ls/\cj h g os sts/\0<=k'/\pg.fn (n+4) 47 [.val (sc ns),.bor (.lst [.int k])]=.ok (.val (.tup [aF h g ks ls,aK os sts])) [.val (sc ns),.bor (.lst [.int k'])]:=by
 obtain⟨r,r1,r2,er⟩:=bH n ns k 4 hk (by omega)
 obtain⟨g,hg,hr⟩:∃g:Nat,(g=1\/g=2\/g=3\/g=4)/\1+r=g:=⟨(1+r).toNat,by omega,by omega⟩
 have lg:(bC g).length=g:=b7 (by omega)
 obtain⟨q,q1,q2,eq⟩:=bH n ns (k+1) 2 (by omega) (by omega)
 obtain⟨ks,bs,k',t3,t6,t7,b1,b2,b3,b4,b5⟩:=sZ n ns _ (bC g) [] (k+1+1) .un .un _ [] _ (by omega) (.inl rfl) (.inl rfl) (by simp;omega) (by simp;omega)
 obtain⟨z,z1,z2⟩:∃z,at? (bC g) (-1)=some z/\z∈bC g:=by
  rcases hg with rfl|rfl|rfl|rfl
  ·exact⟨.str "p",rfl,by simp[bC]⟩
  ·exact⟨.str "q",rfl,by simp[bC]⟩
  ·exact⟨.str "rr",rfl,by simp[bC]⟩
  ·exact⟨.str "go",rfl,by simp[bC]⟩
 refine⟨1,g,ks,(q==1)::bs,[z],[[(.str "a",1)],[(z,0)]],k',⟨by omega,by omega,by omega,by omega,fun d dm=>?_,by simp[b2,lg];omega⟩,⟨by simpa using z2,by simp,by simp,fun st h=>?_⟩,b3,?_⟩
 ·obtain⟨y,hy,e⟩:=b4 d dm
  have hy':y∈hd 1++bC g:=by simpa[hd]using hy
  rcases e with rfl|rfl
  ·exact .same hy'
  ·exact .not hy'
 ·simp only[QCq,QAz,or_false]at h
  rcases h with rfl|rfl<;>simp[hd]
 ·have hb:jY=⟨2,8,(.cons _ (.cons _ (.cons _ (.cons _ (.cons (.for_ _ _ o6) _)))))⟩:=rfl
  rw[yO,hb]
  have sl:dO (.lst [.str "p",.str "q",.str "rr",.str "go"]) none (some g)=some (.new (.lst (bC g))):=by
   rcases hg with rfl|rfl|rfl|rfl<;>rfl
  have b5':aG (.name 6) (ex (pg.cf (n+3)) o6) (bC g) [.val (sc ns),.bor (.lst [.int (k+1+1)]),.val (.lst (bC g)),.val (.str "a"),.own (.lst [.bl (q==1)]),.own (.lst []),.un,.un]=.next [.val (sc ns),.bor (.lst [.int k']),.val (.lst (bC g)),t3,.own (.lst (.bl (q==1)::bs.map .bl)),.own (.lst (aO (bC g) ks)),t6,t7]:=by simpa using b5
  simp[er,hr,eq,sl,aV,cC,E.fQ,items,b5',z1,aF,aK,fB,nU,hd]
end Tx
end
section
open PySem Mini
namespace Tx
def n6:S->S
 |.cons _ t=>t
 |s=>s
def hdS:S->S
 |.cons t _=>t
 |s=>s
def zj:S:=n6 (n6 (n6 aR.body))
def Hx n ns k(hk:0<=k):∃(kd:D)(s2:Sl),(∀g,bz (hd 2++bC g) 1 kd)/\
  ex (pg.cf (n+3)) aR.body [.val (sc ns),.bor (.lst [.int k]),.un,.un,.un,.un,.un,.un]=ex (pg.cf (n+3)) zj [.val (sc ns),.bor (.lst [.int (k+1)]),s2,.val kd,.un,.un,.un,.un]:=by
 obtain⟨r,r1,r2,er⟩:=bH n ns k 6 hk (by omega)
 have hb:aR.body=.cons (hdS aR.body) (.cons (hdS (n6 aR.body)) (.cons (hdS (n6 (n6 aR.body))) zj)):=rfl
 have sb:∀g,([.str "a",.str "b"]:List D).Sublist (hd 2++bC g):=fun g=>List.sublist_append_left _ _
 have at6:=gF
 have hh:∀g,bz (hd 2++bC g) 1 (.tup [.str "held",.tup [.str "same",.str "a"],.str "b",.bl true]):=fun g=>.held (.same (by simp[hd])) (by simp[hd])
 rcases (by omega:r=0\/r=1\/r=2\/r=3\/r=4\/r=5)with rfl|rfl|rfl|rfl|rfl|rfl
 ·refine⟨.tup [.str "both",.tup [.str "a",.str "b"]],.val (.int 0),fun g=>.both (sb g) (by simp) (by simp),?_⟩
  rw[hb];simp[aR,hdS,n6,er,aV,at?,ix?]
 ·refine⟨.tup [.str "both",.tup [.str "a",.str "b"]],.val (.int 1),fun g=>.both (sb g) (by simp) (by simp),?_⟩
  rw[hb];simp[aR,hdS,n6,er,aV,at?,ix?]
 ·refine⟨.tup [.str "and",.tup [.str "a",.str "b"]],.val (.int 2),fun g=>.and (sb g) (by simp) (by simp),?_⟩
  rw[hb];simp[aR,hdS,n6,er,aV,at?,ix?]
 ·refine⟨.tup [.str "or",.tup [.str "a",.str "b"]],.val (.int 3),fun g=>.or (sb g) (by simp) (by simp),?_⟩
  rw[hb];simp[aR,hdS,n6,er,aV,at?,ix?]
 ·refine⟨_,.val (.int 4),hh,?_⟩
  rw[hb];simp[aR,hdS,n6,er,aV,at?,ix?]
 ·refine⟨_,.val (.int 5),hh,?_⟩
  rw[hb];simp[aR,hdS,n6,er,aV,at?,ix?]
noncomputable def dZ:List (List (D×Nat)):=[[(.str "a",1),(.str "b",2)],[(.str "b",3)],[(.str "a",3)],[(.str "p",0)]]
def oR g(h1:1<=g):cj 2 g [.str "p"] dZ:=by
 refine⟨?_,by simp[dZ],by simp[dZ],fun st h=>?_⟩
 ·obtain⟨j,rfl⟩:∃j,g=j+1:=⟨g-1,by omega⟩
  simp[bC]
 ·simp only[dZ,QCq,QAz,or_false]at h
  rcases h with rfl|rfl|rfl|rfl<;>simp[hd,dZ]
def BJ n ns k(hk:0<=k):∃h g ks ls os sts k',j6 h g ks ls/\cj h g os sts/\0<=k'/\pg.fn (n+4) 48 [.val (sc ns),.bor (.lst [.int k])]=.ok (.val (.tup [aF h g ks ls,aK os sts])) [.val (sc ns),.bor (.lst [.int k'])]:=by
 obtain⟨kd,s2,a1,a2⟩:=Hx n ns k hk
 obtain⟨q,q1,q2,eq⟩:=bH n ns (k+1) 2 (by omega) (by omega)
 rcases (by omega:q=0\/q=1)with rfl|rfl
 ·obtain⟨z,z1,z2,ez⟩:=bH n ns (k+1+1) 2 (by omega) (by omega)
  refine⟨2,1,[kd],[z==1,z==1,z==1],[.str "p"],dZ,k+1+1+1,⟨by omega,by omega,by omega,rfl,fun d h=>?_,rfl⟩,oR 1 (by omega),by omega,?_⟩
  ·cases QDz.mp h;exact a1 1
  ·rw[ie,a2]
   simp[zj,aR,n6,eq,ez,aV,aF,hd,bC,aO,aK,fB,nU,dZ]
 ·obtain⟨w,w1,w2,ew⟩:=bH n ns (k+1+1) 2 (by omega) (by omega)
  obtain⟨z,z1,z2,ez⟩:=bH n ns (k+1+1+1) 2 (by omega) (by omega)
  rcases (by omega:w=0\/w=1)with rfl|rfl
  ·refine⟨2,2,[kd,.tup [.str "same",.str "p"]],[z==1,z==1,z==1,z==1],[.str "p"],dZ,k+1+1+1+1,⟨by omega,by omega,by omega,rfl,fun d h=>?_,rfl⟩,oR 2 (by omega),by omega,?_⟩
   ·simp only[QCq,QAz,or_false]at h
    rcases h with rfl|rfl
    ·exact a1 2
    ·exact .same (by simp[hd,bC])
   ·rw[ie,a2]
    simp[zj,aR,n6,eq,ew,ez,aV,aF,hd,bC,aO,aK,fB,nU,dZ,cZ,uR]
  ·refine⟨2,2,[kd,.tup [.str "not",.str "p"]],[z==1,z==1,z==1, !(z==1)],[.str "p"],dZ,k+1+1+1+1,⟨by omega,by omega,by omega,rfl,fun d h=>?_,rfl⟩,oR 2 (by omega),by omega,?_⟩
   ·simp only[QCq,QAz,or_false]at h
    rcases h with rfl|rfl
    ·exact a1 2
    ·exact .not (by simp[hd,bC])
   ·rw[ie,a2]
    simp[zj,aR,n6,eq,ew,ez,aV,aF,hd,bC,aO,aK,fB,nU,dZ,cZ,uR]
end Tx
end
section
open PySem Mini
namespace Tx
theorem Ds:∀(gs ks:List D)(i:Nat)(x d:D),gs[i]? =some x->ks.length=gs.length->(aO gs ks).set i (.tup [x,d])=aO gs (ks.set i d)
 |[],_,_=>fun _ _ h _=>by simp at h
 |g::gs,[],_=>fun _ _ _ h=>by simp at h
 |g::gs,k::ks,0=>fun x d h _=>by simp at h;subst h;simp[aO]
 |g::gs,k::ks,i+1=>fun x d h hl=>by simp[aO,Ds gs ks i x d (by simpa using h) (by simpa using hl)]
theorem zip_get:∀(gs ks:List D)(i:Nat),i<gs.length->ks.length=gs.length->∃x d,(aO gs ks)[i]? =some (.tup [x,d])/\gs[i]? =some x
 |[],_,_=>fun h _=>by simp at h
 |g::gs,[],_=>fun _ h=>by simp at h
 |g::gs,k::ks,0=>fun _ _=>⟨g,k,by simp[aO],rfl⟩
 |g::gs,k::ks,i+1=>fun h hl=>by
  obtain⟨x,d,a,b⟩:=zip_get gs ks i (by simpa using h) (by simpa using hl)
  exact⟨x,d,by simp[aO,a],by simpa using b⟩
def GQ n ns k(hk:0<=k){ks:List D}(O:j6 h g ks ls):∃ks' k',j6 h g ks' ls/\0<=k'/\
  pg.fn (n+8) 49 [.val (sc ns),.bor (.lst [.int k]),.val (aF h g ks ls)]=.ok (.val (aF h g ks' ls)) [.val (sc ns),.bor (.lst [.int k']),.val (aF h g ks ls)]:=by
 have lg:=b7 O.g5
 have lh:=gA O.h2
 have h2:=O.h2
 have g1:=O.g1
 have g5:=O.g5
 have kl:=O.kl
 have lz:(aO (bC g) ks).length=g:=by rw[ql (by rw[lg,kl]),lg]
 obtain⟨q,q1,q2,eq⟩:=bH (n+4) ns k g hk (by omega)
 obtain⟨i,rfl⟩:∃i:Nat,q=i:=⟨q.toNat,by omega⟩
 obtain⟨d,k',a1,a2,a3⟩:=wU ns (hd h++bC g) (by simp;omega) (by simp;omega) 1 n (k+1) (by omega)
 simp only[Int.natCast_one,show n+6+1=n+7 from rfl]at a3
 obtain⟨x,y,b1,b2⟩:=zip_get (bC g) ks i (by omega) (by omega)
 refine⟨ks.set i d,k',⟨h2,g1,g5,by simp[kl],fun e he=>?_,O.ll⟩,a2,?_⟩
 ·rcases List.mem_or_eq_of_mem_set he with he|rfl
  ·exact O.kk e he
  ·exact a1
 ·have hb:cV=⟨3,6,.cons (.set 3 (.op .add _ (.bi .tuple (vC _)))) _⟩:=rfl
  have f:fits ((hd h).length+(bC g).length)=true:=by simp[fits];omega
  have i1:at? (aO (bC g) ks) i=some (.tup [x,y]):=by rw[gF _ _ (by omega),b1]
  have i2:ix? g i=some i:=by simp[ix?];omega
  have q0:∀it,(vC it).aB=none:=fun _=>rfl
  have n0:getD (aF h g ks ls) (.int 0)=some (.tup (hd h)):=by simp[aF]
  have n1:getD (aF h g ks ls) (.int 1)=some (.tup (aO (bC g) ks)):=by simp[aF]
  have n2:getD (aF h g ks ls) (.int 2)=some (.tup (ls.map .bl)):=by simp[aF]
  rw[mV,hb]
  simp[cV,n6,nF (c:=pg.cf (n+7)) (it:=.idx (.var 2) AAG) (σ:=[.val (sc ns),.bor (.lst [.int k]),.val (aF h g ks ls),.un,.un,.un]) (bC g) ks (by omega) (by simp[aF]),q0,f,n0,n1,n2,lz,eq,a3,i1,i2,oK,Ds _ ks i x d b2 (by omega),aV]
  simp[aF]
def uU h g:cj h g [] [[]]:=⟨by simp,by simp,by simp,fun st h=>by cases QDz.mp h;simp⟩
def WK g(h3:3<=g):cj 0 g [.str "q"] [[(.str "q",1)],[(.str "q",0)]]:=by
 refine⟨?_,by simp,by simp,fun st h=>?_⟩
 ·obtain⟨j,rfl⟩:∃j,g=j+2:=⟨g-2,by omega⟩
  simp[bC]
 ·simp only[QCq,QAz,or_false]at h
  rcases h with rfl|rfl<;>simp[hd]
def vN:S:=n6 (n6 (n6 (n6 (n6 bQ.body))))
def zY:S:=n6 vN
def R8 n ns k(hk:0<=k):∃h g ks ls os sts,j6 h g ks ls/\cj h g os sts/\pg.fn (n+9) 50 [.val (sc ns),.val (.int k)]=.ok (.val (.tup [aF h g ks ls,aK os sts])) [.val (sc ns),.val (.int k)]:=by
 obtain⟨r,r1,r2,er⟩:=bH (n+5) ns k 8 hk (by omega)
 by_cases c2:r<2
 ·obtain⟨h,g,ks,ls,k1,O,a1,a2⟩:=K6 n ns (k+1) (by omega) 2 (by omega) (by omega)
  obtain⟨os,sts,k2,T,b1,b2⟩:=PL (n+4) ns k1 a1 O
  exact⟨h,g,ks,ls,os,sts,O,T,by rw[dU];simp[bQ,er,c2,a2,b2,aV]⟩
 have c2b:=c2
 by_cases c3:r=2
 ·subst c3
  obtain⟨h,g,ks,ls,k1,O,a1,a2⟩:=K6 n ns (k+1) (by omega) 0 (by omega) (by omega)
  exact⟨h,g,ks,ls,[],[[]],O,uU h g,by rw[dU];simp[bQ,er,a2,aV,aK,fB]⟩
 by_cases c4:r=3
 ·subst c4
  obtain⟨g,ks,ls,k1,O,g3,a1,a2⟩:=Qt (n+4) ns (k+1) (by omega)
  obtain⟨q,q1,q2,eq⟩:=bH (n+5) ns k1 2 a1 (by omega)
  rcases (by omega:q=1\/q=0)with rfl|rfl
  ·exact⟨0,g,ks,ls,[],[[]],O,uU 0 g,by rw[dU];simp[bQ,er,a2,eq,aV,aK,fB]⟩
  ·exact⟨0,g,ks,ls,_,_,O,WK g g3,by rw[dU];simp[bQ,er,a2,eq,aV,aK,fB,nU]⟩
 have e2:(r==2)=false:=by simpa using c3
 have e3:(r==3)=false:=by simpa using c4
 have main:∃h g ks ls os sts k1,j6 h g ks ls/\cj h g os sts/\0<=k1/\ex (pg.cf (n+8)) bQ.body [.val (sc ns),.val (.int k),.un,.un,.un,.un]=ex (pg.cf (n+8)) zY [.val (sc ns),.val (.int k),.own (.lst [.int k1]),.val (.int r),.val (aF h g ks ls),.val (aK os sts)]:=by
  have hb:bQ.body=.cons _ (.cons _ (.cons _ (.cons _ (.cons _ (.cons _ zY))))):=rfl
  by_cases c6:r<6
  ·obtain⟨h,g,ks,ls,os,sts,k1,O,T,a1,a2⟩:=NP (n+4) ns (k+1) (by omega)
   refine⟨h,g,ks,ls,os,sts,k1,O,T,a1,?_⟩
   rw[hb]
   simp[bQ,hdS,n6,vN,er,c2,e2,e3,c3,c4,c6,a2,aV,bj,iQ,bU]
  ·obtain⟨h,g,ks,ls,os,sts,k1,O,T,a1,a2⟩:=BJ (n+4) ns (k+1) (by omega)
   refine⟨h,g,ks,ls,os,sts,k1,O,T,a1,?_⟩
   rw[hb]
   simp[bQ,hdS,n6,vN,er,c2,e2,e3,c3,c4,c6,a2,aV,bj,iQ,bU]
 obtain⟨h,g,ks,ls,os,sts,k1,O,T,a1,a2⟩:=main
 by_cases c7:r%2=1
 ·obtain⟨q,q1,q2,eq⟩:=bH (n+5) ns k1 2 a1 (by omega)
  rcases (by omega:q=1\/q=0)with rfl|rfl
  ·obtain⟨ks',k2,O',b1,b2⟩:=GQ n ns (k1+1) (by omega) O
   refine⟨h,g,ks',ls,os,sts,O',T,?_⟩
   rw[dU,a2]
   simp[zY,vN,bQ,n6,c7,eq,b2,aV]
  ·refine⟨h,g,ks,ls,os,sts,O,T,?_⟩
   rw[dU,a2]
   simp[zY,vN,bQ,n6,c7,eq,aV]
 ·refine⟨h,g,ks,ls,os,sts,O,T,?_⟩
  have c8:r%2=0:=by omega
  rw[dU,a2]
  simp[zY,vN,bQ,n6,c8,aV]
end Tx
end
section
open PySem Mini
namespace Tx
def Uq:E:=.bi .all ADp
def Ld:E:=.bi .all ABh
def YJ:E:=.comp 1 (.name 0) (.var 0) AAL AAb
def zA n(h:cD xs)(nd:xs.Nodup)st(N:Nat)(hs:(st.map (·.1)).Sublist xs)(hn:∀m∈st,m.2<N):
  pg.fn (n+3) 19 [.val (fB st),.val (.tup xs),.val (.int N)]=.ok (.val (.bl true)) [.val (fB st),.val (.tup xs),.val (.int N)]:=by
 have ll:=hs.length_le
 have e1:ev (pg.cf (n+2)) Uq [.val (fB st),.val (.tup xs),.val (.int N)]=.ok (.val (.bl true)) [.val (fB st),.val (.tup xs),.val (.int N)]:=by
  refine all1 (r:=.val (fB st)) (by simp) rfl rfl fun x hx=>?_
  obtain⟨m,_,rfl⟩:=QDq.mp hx
  simp[nU,bf (n+1) [m.1,.int m.2] 2 2 (by simp) (by simp)]
 have e2:ev (pg.cf (n+2)) Ld [.val (fB st),.val (.tup xs),.val (.int N)]=.ok (.val (.bl true)) [.val (fB st),.val (.tup xs),.val (.int N)]:=by
  refine all1 (r:=.val (fB st)) (by simp) rfl rfl fun x hx=>?_
  obtain⟨m,hm,rfl⟩:=QDq.mp hx
  have t:pg.fn (n+2) 4 [.val (.int m.2),.val (.int 0),.val (.int (N-1))]=.ok (.val (.bl true)) [.val (.int m.2),.val (.int 0),.val (.int (N-1))]:=by
   rw[yP]
   have:=Int.le_sub_one_of_lt (Int.ofNat_lt.mpr (hn m hm))
   simp[jZ,aea,this]
  simp[nU,t]
 have e3:ev (pg.cf (n+2)) YJ [.val (fB st),.val (.tup xs),.val (.int N)]=.ok (.new (.lst (st.map (·.1)))) [.val (fB st),.val (.tup xs),.val (.int N)]:=by
  have:=sY (c:=pg.cf (n+2)) (it:=.var 0) (σ:=[.val (fB st),.val (.tup xs),.val (.int N)]) (el:=.idx (.var 0) AAH) o5 (r:=.val (fB st)) (by simp;rfl) rfl rfl fun y hy=>by
   obtain⟨m,_,rfl⟩:=QDq.mp hy
   simp[nU,o5]
  rw[List.map_map]at this
  exact this
 have hb:lZ=⟨3,3,(.cons (.ite (.or (.cons _ (.cons (.not Uq) .nil))) _ .nil) (.cons (.ite (.not (.call 9 (.cons (.bi .tuple YJ) _))) _ .nil) (.cons (.ret Ld) .nil)))⟩:=rfl
 rw[Bk,hb]
 have q1:YJ.aB=none:=rfl
 have q2:Ld.aB=none:=rfl
 have t1':pg.fn _ 3 [.val (fB st),.val _,.val _]=.ok _ [.val _,.val _,.val _]:=bf (n+1) (st.map nU) 0 xs.length (by omega) (by simpa using ll)
 simp[t1',e1,e3,q1,dq n (.inl rfl) h nd hs 0 xs.length (by omega) (by simpa using ll),e2,q2]
def gl8:pg.gl 8=some (.int 12):=rfl
def v7:E:=.bi .all ABj
section
variable{os:List D}
def cj.sub(T:cj h g os sts):(hd h++os).Sublist (names h g):=(List.Sublist.refl _).append T.ou
def wu:(bC g).Sublist (names h g):=List.sublist_append_right _ _
def BR(n:Nat)(O:Nk h g ks ls)(T:cj h g os sts):pg.fn (n+4) 18 [.val (aF h g ks ls),.val (aK os sts)]=.ok (.val (.bl true)) [.val (aF h g ks ls),.val (aK os sts)]:=by
 have lg:=b7 O.g5
 have lh:=gA O.h2
 have h2:=O.h2
 have g5:=O.g5
 have s1:=T.s1
 have s4:=T.s4
 have lo:=T.ou.length_le
 have X:=bu h g
 have Nd:=names_nodup O.h2 O.g1 O.g5
 have t1:pg.fn (n+3) 3 [.val (aK os sts),.val (.int 2),.val (.int 2)]=.ok (.val (.bl true)) [.val (aK os sts),.val (.int 2),.val (.int 2)]:=bf (n+2) [.tup os,.tup (sts.map fB)] 2 2 (by simp) (by simp)
 have gc:=nF (c:=pg.cf (n+3)) (it:=.idx (.var 0) AAG) (σ:=[.val (aF h g ks ls),.val (aK os sts),.un,.un]) (bC g) ks (by rw[O.kl,lg]) (by simp[aF])
 have t2:=dq (n+1) (d:=.lst (bC g)) (ys:=os) (.inr rfl) (fun x hx=>X x (wu.subset hx)) (wu.nodup Nd) T.ou 0 g (by omega) (by omega)
 have t3:=bf (n+2) (sts.map fB) 1 12 (by simp;omega) (by simp;omega)
 have hb:o9=⟨2,4,(.cons (.ite ACi AAS .nil) (.cons (.set 2 (vC AAc)) (.cons (.ite AAs AAS .nil) (.cons (.set 3 (.op .add AAb AAj)) (.cons (.ret v7) .nil)))))⟩:=rfl
 have q:v7.aB=none:=rfl
 have f:fits ((hd h).length+os.length)=true:=by simp[fits];omega
 have n0:getD (aF h g ks ls) (.int 0)=some (.tup (hd h)):=by simp[aF]
 have m0:getD (aK os sts) (.int 0)=some (.tup os):=by simp[aK]
 have m1:getD (aK os sts) (.int 1)=some (.tup (sts.map fB)):=by simp[aK]
 have e':ev (pg.cf (n+3)) v7 [.val (aF h g ks ls),.val (aK os sts),.val (.lst (bC g)),.val (.tup (hd h++os))]=.ok (.val (.bl true)) [.val (aF h g ks ls),.val (aK os sts),.val (.lst (bC g)),.val (.tup (hd h++os))]:=by
  refine all1 (d:=.tup (sts.map fB)) (xs:=sts.map fB) (r:=.val (.tup (sts.map fB))) (by simp[aK]) rfl rfl fun x hx=>?_
  obtain⟨st,hst,rfl⟩:=QDq.mp hx
  have t:=zA n (xs:=hd h++os) (fun x hx=>X x (T.sub.subset hx)) (T.sub.nodup Nd) st sts.length (T.mv st hst).1 (T.mv st hst).2
  simp[aK,t]
 rw[Hc,hb]
 simp[t1,gc,m0,m1,n0,lg,t2,t3,gl8,f,e',q]
def qg(n:Nat)(O:Nk h g ks ls)(T:cj h g os sts):pg.fn (n+11) 17 [.val (aF h g ks ls),.val (aK os sts)]=.ok (.val (aK os sts)) [.val (aF h g ks ls),.val (aK os sts)]:=by
 have t:=BR (n+6) O T
 have c:=lQ n O
 rw[q9]
 simp[gD,c,t]
end
end Tx
end
section
open PySem Mini
namespace Tx
noncomputable def lk(x:D):List (D×Nat)->Option Nat
 |[]=>none
 |m::st=>if cQ m.1 x then some m.2 else lk x st
abbrev ik(st:List (D×Nat)):List D:=st.map (·.1)
abbrev ue(st:List (D×Nat)):List D:=st.map fun m=>.int m.2
theorem Es x:∀st,bZ x (ik st) (ue st)=(lk x st).map fun j:Nat=>D.int j
 |[]=>rfl
 |m::st=>by
  simp only[Qyz,bZ,lk]
  split
  ·rfl
  ·exact Es x st
theorem Et x:∀st,aJ x (ik st)=(lk x st).isSome
 |[]=>rfl
 |m::st=>by
  simp only[Qyz,aJ,lk,Et x st]
  cases cQ m.1 x<;>simp
theorem je:∀(st:List (D×Nat))(ks vs:List D),cD (ks++ik st)->(ks++ik st).Nodup->dictOf ks vs (st.map nU)=some (ks++ik st,vs++ue st)
 |[]=>fun ks vs _ _=>by simp[dictOf]
 |m::st=>fun ks vs h nd=>by
  obtain⟨s,e⟩:=h m.1 (by simp)
  have no:aJ m.1 ks=false:=by
   rw[e]
   have hn:=fun hm=>by
    rw[show ik _=m.1::ik st from rfl,List.nodup_append]at nd
    exact nd.2.2 _ hm _ QYz rfl
   rw[e]at hn
   have hk:=fun x hx=>h x (QWz _ hx)
   clear nd h
   induction ks with
   |nil=>rfl
   |cons y ys ih=>
    obtain⟨q,rfl⟩:=hk y QYz
    have ne:¬q=s:=fun c=>hn (by rw[c];exact QYz)
    simp[aJ,cQ,ne,ih (fun c=>hn (QYq _ c)) fun x hx=>hk x (QYq _ hx)]
  have r:=je st (ks++[m.1]) (vs++[.int m.2]) (by simpa using h) (by simpa using nd)
  rw[Qyz,show nU m=.tup [m.1,.int m.2]from rfl,dictOf,if_pos (by rw[e];rfl)]
  simp only[putD,no]
  rw[if_neg (by simp),r]
  simp
def bw(sts:List (List (D×Nat)))(i:Nat):List (D×Nat):=sts.getD i []
end Tx
end
section
open PySem Mini
namespace Tx
def m9 n hs gs ks x(hl:ks.length=gs.length)(hf:hs.length+gs.length<=1000):
  pg.fn (n+1) 51 [.val (.tup [.tup hs,.tup (aO gs ks),x])]=.ok (.new (.lst (hs++gs))) [.val (.tup [.tup hs,.tup (aO gs ks),x])]:=
 ((yL n _).trans (mU n _).symm).trans (dB n hs gs ks x hl hf)
def rT{xs:List D}(h:cD xs)(hn:D.str s∉xs):aJ (.str s) xs=false:=by
 induction xs with
 |nil=>rfl
 |cons x xs ih=>
  obtain⟨q,rfl⟩:=h x QYz
  have ne:q≠s:=fun e=>hn (by rw[e];exact QYz)
  simp[aJ,cQ,ne,ih (fun z hz=>h z (QYq _ hz)) fun hz=>hn (QYq _ hz)]
theorem Ga:∀(xs ys ks vs:List D),ys.length=xs.length->cD xs->cD ks->(ks++xs).Nodup->dictOf ks vs (aO xs ys)=some (ks++xs,vs++ys)
 |[],ys=>fun ks vs hl _ _ _=>by
  have:ys=[]:=by cases ys<;>simp_all
  subst this
  simp[aO,dictOf]
 |x::xs,[]=>fun ks vs hl _ _ _=>by simp at hl
 |x::xs,y::ys=>fun ks vs hl h hk nd=>by
  obtain⟨s,rfl⟩:=h x QYz
  have hn:=fun z=>by
   have:=List.nodup_append.mp nd
   exact this.2.2 _ z _ QYz rfl
  have ih:=Ga xs ys (ks++[.str s]) (vs++[y]) (by simpa using hl) (fun z hz=>h z (QYq _ hz)) (fun z hz=>by
   rcases QXz.mp hz with hz|hz
   ·exact hk z hz
   ·simp at hz;exact⟨s,hz⟩) (by simpa using nd)
  simp only[aO,dictOf,keyOk,if_true,putD,rT hk hn,Qxq,if_false]
  rw[ih]
  simp
def zQ(hl:ys.length=xs.length)(h:cD xs)(nd:xs.Nodup):dictOf [] [] (aO xs ys)=some (xs,ys):=by
 have:=Ga xs ys [] [] hl h (fun z hz=>by cases hz) (by simpa using nd)
 simpa using this
noncomputable def bK(xs:List D)(bs:List Bool)(x:D):Bool:=match bZ x xs (bs.map .bl)with
 |some (.bl b)=>b
 |_=>false
theorem u9{x:D}:∀{xs:List D}{bs:List Bool},cD xs->bs.length=xs.length->x∈xs->bZ x xs (bs.map .bl)=some (.bl (bK xs bs x))
 |[],_=>fun _ _ hx=>by cases hx
 |y::ys,[]=>fun _ hl _=>by simp at hl
 |y::ys,b::bs=>fun h hl hx=>by
  obtain⟨q,rfl⟩:=h x hx
  obtain⟨s,rfl⟩:=h y QYz
  by_cases e:s=q
  ·subst e
   simp[bK,bZ,cQ]
  ·have hx':D.str q∈ys:=by
    rcases QCq.mp hx with z|z
    ·cases z;exact absurd rfl e
    ·exact z
   have l:bZ (.str q) (.str s::ys) ((b::bs).map .bl)=bZ (.str q) ys (bs.map .bl):=by simp[bZ,cQ,e]
   have v:bK (.str s::ys) (b::bs) (.str q)=bK ys bs (.str q):=by
    unfold bK
    rw[l]
   rw[l,v]
   exact u9 (fun z hz=>h z (QYq _ hz)) (by simpa using hl) hx'
def fG{xs:List D}(h:cD xs)(hl:bs.length=xs.length)(hx:x∈xs):getD (.cR xs (bs.map .bl)) x=some (.bl (bK xs bs x)):=by
 obtain⟨q,rfl⟩:=h x hx
 exact u9 h hl hx
theorem rW:∀(bs:List Bool),aJ (.bl false) (bs.map .bl)= !bs.all id
 |[]=>rfl
 |b::bs=>by cases b<;>simp[aJ,cQ,rW bs]
theorem wX:∀(bs:List Bool),aJ (.bl true) (bs.map .bl)=bs.any id
 |[]=>rfl
 |b::bs=>by cases b<;>simp[aJ,cQ,wX bs]
def sE(bs:List Bool):(bs.map D.bl).all flat=true:=by
 rw[List.all_eq_true]
 intro x hx
 obtain⟨b,_,rfl⟩:=QDq.mp hx
 rfl
def wW b(bs:List Bool):aQ .isin (.bl b) (.lst (bs.map .bl))=some (aJ (.bl b) (bs.map .bl)):=by
 have o:eX (.bl b) (bs.map .bl)=true:=by
  unfold eX
  rw[sE]
  rfl
 show(if eX _ _ then some _ else none)=_
 rw[o]
 rfl
def KY b(bs:List Bool):aQ .notin (.bl b) (.lst (bs.map .bl))=some (!aJ (.bl b) (bs.map .bl)):=by
 have o:eX (.bl b) (bs.map .bl)=true:=by
  unfold eX
  rw[sE]
  rfl
 show(if eX _ _ then some _ else none)=_
 rw[o]
 rfl
def uV(bs:List Bool):mC (bs.map D.bl)=true:=by
 induction bs with
 |nil=>rfl
 |cons b bs ih=>simp[mC,nd,ih]
def CJ(bs:List Bool):iD (bs.map D.bl)=0:=by
 induction bs with
 |nil=>rfl
 |cons b bs ih=>simp[iD,dep,ih]
def K7(rs:List (List Bool)):mC (rs.map aH)=true:=by
 induction rs with
 |nil=>rfl
 |cons r rs ih=>simp[mC,nd,aH,uV,ih]
def Ma(bs:List Bool)(rs:List (List Bool)):∃b,aQ .isin (.tup (bs.map .bl)) (.tup (rs.map aH))=some b:=by
 have o:eX (.tup (bs.map .bl)) (rs.map aH)=true:=by
  simp[eX,nd,dep,uV,CJ,K7]
 refine⟨aJ (.tup (bs.map .bl)) (rs.map aH),?_⟩
 show(if eX _ _ then some _ else none)=_
 rw[o]
 rfl
end Tx
end
section
open PySem Mini
namespace Tx
def rM:E:=.comp 1 (.name 0) AAc AAL (.idx (.var 3) (.var 0))
def rK:E:=.comp 1 (.name 0) AAc AAL (.idx (.var 2) (.var 0))
noncomputable def mL:Fn:=⟨3,5,(.cons (.set 3 AAb) (.cons (.ite (.cmp .eq (.var 3) ABL) (.cons (.ret ADG) .nil) .nil) (.cons (.ite (.cmp .eq (.var 3) ABk) (.cons (.ret (.not ADG)) .nil) .nil) (.cons (.ite ADa ADw .nil) (.cons (.set 4 (.bi .tuple rM)) (.cons (.ite (.cmp .eq (.var 3) ABl) ADi .nil) (.cons (.ite (.cmp .eq (.var 3) ABq) ADh .nil) (.cons (.ite ADZ ADS .nil) ABS))))))))⟩
def gM:Di=mL:=rfl
noncomputable def gZ:Fn:=⟨3,5,(.cons (.ite (.cmp .eq AAb ABL) (.cons (.ret ADH) .nil) .nil) (.cons (.ite (.cmp .eq AAb ABk) (.cons (.ret (.not ADH)) .nil) .nil) (.cons (.ite (.cmp .eq AAb ABM) AAz .nil) (.cons (.set 4 rK) (.cons (.ite (.cmp .eq AAb ABp) ACo .nil) (.cons (.ite (.cmp .eq AAb ABl) ACj .nil) (.cons (.ite (.cmp .eq AAb ABq) ADR .nil) (.cons (.ite ABo ACS .nil) ADg))))))))⟩
def tells_eq:jT=gZ:=rfl
section
variable{bs:List Bool}
def HQ n(h:cD xs)(hl:bs.length=xs.length)(hs:ys.Sublist xs)w r s1 s3 s4:
  ev (pg.cf n) rM [.val (.tup (w:: .tup ys::r)),s1,.val (.cR xs (bs.map .bl)),s3,s4]=.ok (.new (.lst ((ys.map (bK xs bs)).map .bl))) [.val (.tup (w:: .tup ys::r)),s1,.val (.cR xs (bs.map .bl)),s3,s4]:=by
 have:=sY (c:=pg.cf n) (it:=.idx (.var 0) AAG) (el:=.idx (.var 3) (.var 0)) (σ:=[.val (.tup (w:: .tup ys::r)),s1,.val (.cR xs (bs.map .bl)),s3,s4]) (fun x=>.bl (bK xs bs x)) (r:=.val (.tup ys)) (τ:=[.val (.tup (w:: .tup ys::r)),s1,.val (.cR xs (bs.map .bl)),s3,s4]) (by simp) rfl rfl fun x hx=>by
  simp[fG h hl (hs.subset hx)]
 rw[rM,this]
 simp
def HN n(h:cD xs)(hl:bs.length=xs.length)(hs:ys.Sublist xs)w r s2 s3 s4:
  ev (pg.cf n) rK [.val (.tup (w:: .tup ys::r)),.val (.cR xs (bs.map .bl)),s2,s3,s4]=.ok (.new (.lst ((ys.map (bK xs bs)).map .bl))) [.val (.tup (w:: .tup ys::r)),.val (.cR xs (bs.map .bl)),s2,s3,s4]:=by
 have:=sY (c:=pg.cf n) (it:=.idx (.var 0) AAG) (el:=.idx (.var 2) (.var 0)) (σ:=[.val (.tup (w:: .tup ys::r)),.val (.cR xs (bs.map .bl)),s2,s3,s4]) (fun x=>.bl (bK xs bs x)) (r:=.val (.tup ys)) (τ:=[.val (.tup (w:: .tup ys::r)),.val (.cR xs (bs.map .bl)),s2,s3,s4]) (by simp) rfl rfl fun x hx=>by
  simp[fG h hl (hs.subset hx)]
 rw[rK,this]
 simp
def nu(h:cD xs)(hl:bs.length=xs.length)(hs:ys.Sublist xs)w r:∃row:List Bool,row.length=ys.length/\
  (∀(n:Nat)(s1 s3 s4:Sl),ev (pg.cf n) rM [.val (.tup (w:: .tup ys::r)),s1,.val (.cR xs (bs.map .bl)),s3,s4]=.ok (.new (.lst (row.map .bl))) [.val (.tup (w:: .tup ys::r)),s1,.val (.cR xs (bs.map .bl)),s3,s4])/\
  (∀(n:Nat)(s2 s3 s4:Sl),ev (pg.cf n) rK [.val (.tup (w:: .tup ys::r)),.val (.cR xs (bs.map .bl)),s2,s3,s4]=.ok (.new (.lst (row.map .bl))) [.val (.tup (w:: .tup ys::r)),.val (.cR xs (bs.map .bl)),s2,s3,s4]):=
 ⟨ys.map _,by simp,fun n s1 s3 s4=>HQ n h hl hs w r s1 s3 s4,fun n s2 s3 s4=>HN n h hl hs w r s2 s3 s4⟩
def Agree(xs:List D)(bs:List Bool)(i j:Nat)(d:D)(own b:Bool):Prop:=
 pg.fn i 15 [.val d,.val (.bl own),.val (.cR xs (bs.map .bl))]=.ok (.val (.bl b)) [.val d,.val (.bl own),.val (.cR xs (bs.map .bl))]/\
 pg.fn j 52 [.val d,.val (.cR xs (bs.map .bl)),.val (.bl own)]=.ok (.val (.bl b)) [.val d,.val (.cR xs (bs.map .bl)),.val (.bl own)]
def HR n k:n+1+2*k=n+2*k+1:=Nat.add_right_comm n 1 _
def p6 m k:m+1+k=m+k+1:=Nat.add_right_comm m 1 k
def afw n k:n+1+2*(k+1)=n+1+2*k+1+1:=rfl
def yg(h:cD xs)(hl:bs.length=xs.length):∀{k:Nat}{d:D},bz xs k d->∀own:Bool,∃b,∀n m:Nat,Agree xs bs (n+1+2*k) (m+1+k) d own b:=by
 intro k d hk
 have q1:rM.aB=none:=rfl
 have q2:rK.aB=none:=rfl
 induction hk with
 | @same k x hx=>
  intro own
  have e:=fG h hl hx
  refine⟨bK xs bs x,fun n m=>⟨?_,?_⟩⟩
  ·rw[HR,jL,gM]
   simp[mL,e]
  ·rw[p6,cY,tells_eq]
   simp[gZ,e]
 | @not k x hx=>
  intro own
  have e:=fG h hl hx
  refine⟨!bK xs bs x,fun n m=>⟨?_,?_⟩⟩
  ·rw[HR,jL,gM]
   simp[mL,e]
  ·rw[p6,cY,tells_eq]
   simp[gZ,e]
 | @and k ys hs h1 h2=>
  intro own
  obtain⟨row,_,e1,e2⟩:=nu h hl hs (.str "and") []
  refine⟨row.all id,fun n m=>⟨?_,?_⟩⟩
  ·rw[HR,jL,gM]
   simp[mL,e1,q1,jP row]
  ·rw[p6,cY,tells_eq]
   simp[gZ,e2,q2,KY,rW]
 | @or k ys hs h1 h2=>
  intro own
  obtain⟨row,_,e1,e2⟩:=nu h hl hs (.str "or") []
  refine⟨row.any id,fun n m=>⟨?_,?_⟩⟩
  ·rw[HR,jL,gM]
   simp[mL,e1,q1,jP row]
  ·rw[p6,cY,tells_eq]
   simp[gZ,e2,q2,wW,wX]
 | @both k ys hs h1 h2=>
  intro own
  obtain⟨row,hr,e1,e2⟩:=nu h hl hs (.str "both") []
  refine⟨row.all id||(own&&row.any id),fun n m=>⟨?_,?_⟩⟩
  ·rw[HR,jL,gM]
   cases ha:row.all id<;>cases own<;>simp[mL,e1,q1,jP row,ha]
  ·obtain⟨b0,row',rfl⟩:∃b0 row',row=b0::row':=by
    cases row with
    |nil=>simp at hr;omega
    |cons b r=>exact⟨b,r,rfl⟩
   rw[p6,cY,tells_eq]
   have i1:=wW true (b0::row')
   have i2:=wW false (b0::row')
   rw[wX]at i1
   rw[rW]at i2
   cases ha:(b0::row').all id with
   |true=>
    have hb0:b0=true:=by simp at ha;exact ha.1
    have hn:(b0::row').any id=true:=by simp[hb0]
    rw[ha]at i2
    simp[gZ,e2,q2,i1,i2,hb0]
    simp_all
   |false=>
    cases hn:(b0::row').any id with
    |true=>
     rw[hn]at i1
     rw[ha]at i2
     simp only[Qyz]at i1 i2 e2
     simp[gZ,e2,q2,i1,i2]
    |false=>
     rw[hn]at i1
     simp[gZ,e2,q2,i1,i2,(by simp at hn;exact hn.1)]
     simp_all
 | @table k ys rs hs h1 h2 hr hi=>
  intro own
  obtain⟨row,_,e1,e2⟩:=nu h hl hs (.str "table") [.tup (rs.map aH)]
  obtain⟨b,eb⟩:=Ma row rs
  refine⟨b,fun n m=>⟨?_,?_⟩⟩
  ·rw[HR,jL,gM]
   simp[mL,e1,q1,eb]
  ·rw[p6,cY,tells_eq]
   simp[gZ,e2,q2,eb]
 | @held k d x bb hk hx ih=>
  intro own
  obtain⟨b,ib⟩:=ih own
  have e:=fG h hl hx
  have hh:∀n,pg.fn (n+1+2*k+1) 16 [.val (.tup [.str "held",d,x,.bl bb]),.val (.bl own),.val (.cR xs (bs.map .bl))]=.ok (.val (.bl (if _==bb then b else own))) [.val (.tup [.str "held",d,x,.bl bb]),.val (.bl own),.val (.cR xs (bs.map .bl))]:=fun n=>by
   rw[pI]
   cases hc:((bK xs bs x==b)==bb)<;>simp[gY,(fun n=>(ib n 0).1),e,hc]
  refine⟨if (bK xs bs x==b)==bb then b else own,fun n m=>⟨?_,?_⟩⟩
  ·rw[afw,jL,gM]
   simp[mL,hh]
  ·rw[<-Nat.add_assoc,cY,tells_eq]
   have hx2:(bK xs bs x==(b==bb))=((bK xs bs x==b)==bb):=by cases bK xs bs x<;>cases b<;>cases bb<;>rfl
   cases hc:((bK xs bs x==b)==bb)<;>rw[hc]at hx2<;>simp[gZ,(fun m=>(ib 0 m).2),e,hx2,aV,b2i]
def Agree.one{i j:Nat}{d:D}{own b b':Bool}(a:Agree xs bs i j d own b)(a':Agree xs bs i j d own b'):b=b':=by
 have:=a.1.symm.trans a'.1
 simpa using this
def Tl(xs:List D)(bs:List Bool)(d:D)(own b:Bool):Prop:=∀n m:Nat,Agree xs bs (n+5) (m+3) d own b
def PJ(h:cD xs)(hl:bs.length=xs.length){d x:D}{bb own:Bool}(hk:bz xs 1 d)(hx:x∈xs)(a:Tl xs bs (.tup [.str "held",d,x,.bl bb]) own (!own)):Tl xs bs d own (!own):=by
 obtain⟨b,ib⟩:=yg h hl hk own
 have e:=fG h hl hx
 have i1:=(ib 0 0).1
 have hh:pg.fn 4 16 [.val (.tup [.str "held",d,x,.bl bb]),.val (.bl own),.val (.cR xs (bs.map .bl))]=.ok (.val (.bl (if (bK xs bs x==b)==bb then b else own))) [.val (.tup [.str "held",d,x,.bl bb]),.val (.bl own),.val (.cR xs (bs.map .bl))]:=by
  rw[pI]
  cases hc:((bK xs bs x==b)==bb)<;>simp[gY,i1,e,hc]
 have t:pg.fn 5 15 [.val (.tup [.str "held",d,x,.bl bb]),.val (.bl own),.val (.cR xs (bs.map .bl))]=.ok (.val (.bl (if (bK xs bs x==b)==bb then b else own))) [.val (.tup [.str "held",d,x,.bl bb]),.val (.bl own),.val (.cR xs (bs.map .bl))]:=by
  rw[jL,gM]
  simp[mL,hh]
 have z:=(a 0 0).1.symm.trans t
 have z':(!own)=if (bK xs bs x==b)==bb then b else own:=by simpa using z
 have eb:b= !own:=by
  revert z'
  cases ((bK xs bs x==b)==bb)<;>cases own<;>cases b<;>simp
 rw[<-eb]
 exact fun n m=>ib (n+2) (m+1)
end
end Tx
end
section
open PySem Mini
namespace Tx
section
def Jp:E:=.comp 2 (.tup [0,1]) AAc AAl (.var 0)
def Jo:E:=.comp 1 (.name 0) AAc AAp AAb
theorem Fz:∀{prs:List (D×D)},(prs.map (·.1)).Nodup->∀{p q:D×D},p∈prs->q∈prs->p.1=q.1->p=q
 |[],_,_,_,h,_,_=>by cases h
 |r::prs,nd,p,q,hp,hq,e=>by
  rw[Qyz,List.nodup_cons]at nd
  rcases QCq.mp hp with hp1|hp1<;>rcases QCq.mp hq with hq1|hq1
  ·rw[hp1,hq1]
  ·rw[hp1]at e;exact absurd (QTz (f:=(·.1)) hq1) (by rw[<-e];exact nd.1)
  ·rw[hq1]at e;exact absurd (QTz (f:=(·.1)) hp1) (by rw[e];exact nd.1)
  ·exact Fz nd.2 hp1 hq1 e
theorem IW(O:Nk h g ks ls)(hl:bs.length=(names h g).length):∃zs:List D,zs.Sublist (bC g)/\(∀x d,(x,d)∈(bC g).zip ks->(x∈zs↔Tl (names h g) bs d (bK (names h g) bs x) (!bK (names h g) bs x)))/\∀n m:Nat,
  pg.fn (n+6) 14 [.val (aF h g ks ls),.val (aH bs)]=.ok (.new (.lst zs)) [.val (aF h g ks ls),.val (aH bs)]/\
  pg.fn (m+4) 53 [.val (aF h g ks ls),.val (aH bs)]=.ok (.new (.lst zs)) [.val (aF h g ks ls),.val (aH bs)]:=by
 have T:=bu h g
 have Nd:=names_nodup O.h2 O.g1 O.g5
 have lg:=b7 O.g5
 have lh:=gA O.h2
 have ag:∀(k:D)(own:Bool),∃b,bz (names h g) 2 k->∀n m,Agree (names h g) bs (n+5) (m+3) k own b:=fun k own=>by
  by_cases hk:bz (names h g) 2 k
  ·obtain⟨b,z⟩:=yg T hl hk own
   exact⟨b,fun _=>z⟩
  ·exact⟨true,fun z=>absurd z hk⟩
 have sk:∃F:D->Bool->Bool,∀k own,bz (names h g) 2 k->∀n m,Agree (names h g) bs (n+5) (m+3) k own (F k own):=
  ⟨fun k own=>Classical.choose (ag k own),fun k own=>Classical.choose_spec (ag k own)⟩
 obtain⟨F,hF⟩:=sk
 let p:D×D->Bool:=fun x=> !(F x.2 (bK (names h g) bs x.1)==bK (names h g) bs x.1)
 have mem:∀x∈(bC g).zip ks,x.1∈names h g/\bz (names h g) 2 x.2:=fun x hx=>⟨QVq _ (List.of_mem_zip hx).1,O.kk x.2 (List.of_mem_zip hx).2⟩
 obtain⟨x0,ps,zeq⟩:∃x0 ps,(bC g).zip ks=x0::ps:=by
  cases q:(bC g).zip ks with
  |nil=>
   have:=congrArg List.length q
   rw[List.length_zip,lg,O.kl]at this
   have:=O.g1
   simp at*
   omega
  |cons x ps=>exact⟨x,ps,rfl⟩
 have dz:dictOf [] [] (aO (names h g) (bs.map .bl))=some (names h g,bs.map .bl):=zQ (by simpa using hl) T Nd
 refine⟨(((bC g).zip ks).filter p).map (·.1),?_,fun x d hx=>?_,fun n m=>?_⟩
 ·have s1:((((bC g).zip ks).filter p).map (·.1)).Sublist (((bC g).zip ks).map (·.1)):=(List.filter_sublist).map _
  have s2:((bC g).zip ks).map (·.1)=bC g:=List.map_fst_zip (by rw[lg,O.kl];exact QVz _)
  rw[s2]at s1
  exact s1
 ·have tf:=hF d (bK (names h g) bs x) (mem _ hx).2
  have nd1:(((bC g).zip ks).map (·.1)).Nodup:=by
   rw[List.map_fst_zip (by rw[lg,O.kl];exact QVz _)]
   exact(List.sublist_append_right (hd h) (bC g)).nodup Nd
  have st:Tl (names h g) bs d (bK (names h g) bs x) (!bK (names h g) bs x)↔F d (bK (names h g) bs x)= !bK (names h g) bs x:=
   ⟨fun a=>(tf 0 0).one (a 0 0),fun e=>by rw[<-e];exact tf⟩
  rw[st]
  constructor
  ·intro z
   obtain⟨⟨x',d'⟩,z1,rfl⟩:=QDq.mp z
   obtain⟨z2,z3⟩:=List.mem_filter.mp z1
   have:(x',d')=(x',d):=Fz nd1 z2 hx rfl
   cases this
   simp only[p]at z3
   revert z3
   simp only
   cases F d (bK (names h g) bs x')<;>cases bK (names h g) bs x'<;>simp
  ·intro z
   refine QDq.mpr ⟨(x,d),List.mem_filter.mpr ⟨hx,?_⟩,rfl⟩
   simp only[p,z]
   cases bK (names h g) bs x<;>rfl
 have w1:pg.fn (n+5) 13 [.val (aF h g ks ls)]=.ok (.new (.lst (names h g))) [.val (aF h g ks ls)]:=
  dB (n+4) (hd h) (bC g) ks (.tup (ls.map .bl)) (by rw[O.kl,lg]) (by have:=O.h2;have:=O.g5;omega)
 have w2:pg.fn (m+3) 51 [.val (aF h g ks ls)]=.ok (.new (.lst (names h g))) [.val (aF h g ks ls)]:=
  m9 (m+2) (hd h) (bC g) ks (.tup (ls.map .bl)) (by rw[O.kl,lg]) (by have:=O.h2;have:=O.g5;omega)
 have e1:ev (pg.cf (n+5)) Jp [.val (aF h g ks ls),.val (aH bs),.own (.dct (names h g) (bs.map .bl))]=.ok (.new (.lst ((((bC g).zip ks).filter p).map (·.1)))) [.val (aF h g ks ls),.val (aH bs),.val (.cR (names h g) (bs.map .bl))]:=by
  rw[zeq]at mem⊢
  have c0:∀x,x∈x0::ps->∀s:Sl,(s=.own (.dct (names h g) (bs.map .bl))\/s=.val (.cR (names h g) (bs.map .bl)))->ev (pg.cf (n+5)) AAl [.val x.1,.val x.2,.val (aF h g ks ls),.val (aH bs),s]=.ok (.val (.bl (p x))) [.val x.1,.val x.2,.val (aF h g ks ls),.val (aH bs),.val (.cR (names h g) (bs.map .bl))]:=fun x hx s hs=>by
   obtain⟨m1,m2⟩:=mem x hx
   have gl:=fG T hl m1
   have a:=(hF x.2 (bK (names h g) bs x.1) m2 n m).1
   rcases hs with rfl|rfl<;>simp[gl,a,p]
  have it:items (.tup (aO (bC g) ks))=some ((x0::ps).map pairD):=by show some _=some _;rw[b8,zeq]
  exact YT (·.1) p (r:=.val (.tup (aO (bC g) ks))) (τ0:=[.val (aF h g ks ls),.val (aH bs),.own (.dct (names h g) (bs.map .bl))]) (by simp[aF]) rfl it (c0 x0 QYz _ (.inl rfl)) (fun x hx=>c0 x (QYq _ hx) _ (.inr rfl)) (fun x _ _=>by simp)
 have e2:ev (pg.cf (m+3)) Jo [.val (aF h g ks ls),.val (aH bs),.own (.dct (names h g) (bs.map .bl))]=.ok (.new (.lst ((((bC g).zip ks).filter p).map (·.1)))) [.val (aF h g ks ls),.val (aH bs),.val (.cR (names h g) (bs.map .bl))]:=by
  rw[zeq]at mem⊢
  let p':D->Bool:=fun d=>match d with|.tup [a,k]=>p (a,k)|_=>false
  let f':D->D:=fun d=>match d with|.tup (a::_)=>a|_=>.non
  have fm:∀xs:List (D×D),((xs.map pairD).filter p').map f'=(xs.filter p).map (·.1):=by
   intro xs
   induction xs with
   |nil=>rfl
   |cons x xs ih=>
    have hp:p' (pairD x)=p x:=rfl
    rw[Qyz,List.filter_cons,List.filter_cons,hp]
    cases p x with
    |true=>simp only[if_true,Qyz,ih];rfl
    |false=>simp only[Qxq,if_false,ih]
  have c0:∀x,x∈x0::ps->∀s:Sl,(s=.own (.dct (names h g) (bs.map .bl))\/s=.val (.cR (names h g) (bs.map .bl)))->ev (pg.cf (m+3)) AAp [.val (pairD x),.val (aF h g ks ls),.val (aH bs),s]=.ok (.val (.bl (p' (pairD x)))) [.val (pairD x),.val (aF h g ks ls),.val (aH bs),.val (.cR (names h g) (bs.map .bl))]:=fun x hx s hs=>by
   obtain⟨m1,m2⟩:=mem x hx
   have gl:=fG T hl m1
   have a:=(hF x.2 (bK (names h g) bs x.1) m2 n m).2
   rcases hs with rfl|rfl<;>simp[gl,a,p',p,pairD]
  have it:items (.tup (aO (bC g) ks))=some (pairD x0::ps.map pairD):=by show some _=some _;rw[b8,zeq];rfl
  have:=YX (c:=pg.cf (m+3)) (el:=.idx (.var 0) AAH) (it:=.idx (.var 0) AAG) (σ:=[.val (aF h g ks ls),.val (aH bs),.own (.dct (names h g) (bs.map .bl))]) (τ:=[.val (aF h g ks ls),.val (aH bs),.val (.cR (names h g) (bs.map .bl))]) f' p' (r:=.val (.tup (aO (bC g) ks))) (τ0:=[.val (aF h g ks ls),.val (aH bs),.own (.dct (names h g) (bs.map .bl))]) (by simp[aF]) rfl it (c0 x0 QYz _ (.inl rfl)) (fun y hy=>by
   obtain⟨x,hx,rfl⟩:=QDq.mp hy
   exact c0 x (QYq _ hx) _ (.inr rfl)) (fun y hy _=>by
   rw[<-Qyz]at hy
   obtain⟨x,hx,rfl⟩:=QDq.mp hy
   simp[pairD,f'])
  rw[<-Qyz,fm]at this
  exact this
 refine⟨?_,?_⟩
 ·have hb:fH=⟨2,3,(.cons (.set 2 (.bi .dict ACy)) (.cons (.ret Jp) .nil))⟩:=rfl
  have q:Jp.aB=none:=rfl
  have z:bN (aH bs)=some (bs.map .bl):=rfl
  rw[pW,hb]
  simp[w1,z,dz,e1,q]
 ·have hb:ir=⟨2,3,(.cons ACx (.cons (.ret Jo) .nil))⟩:=rfl
  have q:Jo.aB=none:=rfl
  have z:bN (aH bs)=some (bs.map .bl):=rfl
  rw[uh,hb]
  simp[w2,z,dz,e2,q]
end
end Tx
end
section
open PySem Mini
namespace Tx
structure Wt(h g:Nat)(ks:List D)(ls:List Bool)(W:List Bool->List D):Prop where
 sub:∀bs,bs.length=(names h g).length->(W bs).Sublist (bC g)
 pr:∀bs,bs.length=(names h g).length->∀n,pg.fn (n+6) 14 [.val (aF h g ks ls),.val (aH bs)]=.ok (.new (.lst (W bs))) [.val (aF h g ks ls),.val (aH bs)]
 lw:∀bs,bs.length=(names h g).length->∀n,pg.fn (n+4) 53 [.val (aF h g ks ls),.val (aH bs)]=.ok (.new (.lst (W bs))) [.val (aF h g ks ls),.val (aH bs)]
 wm:∀bs,bs.length=(names h g).length->∀x d,(x,d)∈(bC g).zip ks->(x∈W bs↔Tl (names h g) bs d (bK (names h g) bs x) (!bK (names h g) bs x))
def S7{h g:Nat}{ks:List D}{ls:List Bool}(O:Nk h g ks ls):∃W,Wt h g ks ls W:=by
 have ag:∀bs:List Bool,∃zs:List D,bs.length=(names h g).length->zs.Sublist (bC g)/\(∀x d,(x,d)∈(bC g).zip ks->(x∈zs↔Tl (names h g) bs d (bK (names h g) bs x) (!bK (names h g) bs x)))/\∀n m:Nat,pg.fn (n+6) 14 [.val (aF h g ks ls),.val (aH bs)]=.ok (.new (.lst zs)) [.val (aF h g ks ls),.val (aH bs)]/\pg.fn (m+4) 53 [.val (aF h g ks ls),.val (aH bs)]=.ok (.new (.lst zs)) [.val (aF h g ks ls),.val (aH bs)]:=fun bs=>by
  by_cases hl:bs.length=(names h g).length
  ·obtain⟨zs,z⟩:=IW O hl
   exact⟨zs,fun _=>z⟩
  ·exact⟨[],fun z=>absurd z hl⟩
 exact⟨fun bs=>Classical.choose (ag bs),fun bs hl=>(Classical.choose_spec (ag bs) hl).1,fun bs hl n=>((Classical.choose_spec (ag bs) hl).2.2 n 0).1,fun bs hl n=>((Classical.choose_spec (ag bs) hl).2.2 0 n).2,fun bs hl=>(Classical.choose_spec (ag bs) hl).2.1⟩
def lM{xs:List D}(h:cD xs):aJ (.str s) xs=true↔D.str s∈xs:=by
 constructor
 ·intro z
  by_cases c:D.str s∈xs
  ·exact c
  ·rw[rT h c]at z;cases z
 ·intro z;exact gR z h
theorem UT(hw:p8 .str w=false):∀{xs:List D},cD xs->aJ w xs=false
 |[]=>fun _=>rfl
 |x::xs=>fun h=>by
  obtain⟨s,rfl⟩:=h x QYz
  rw[aJ,UT hw fun y hy=>h y (QYq _ hy),Bool.or_false]
  cases w<;>first|rfl|cases hw
def Cq{W L:List D}(s:W.Sublist L):cD L->L.Nodup->L.filter (fun x=>aJ x W)=W:=by
 induction s with
 |slnil=>intro _ _;rfl
 | @cons l₁ l₂ a s ih=>
  intro t nd
  rw[List.nodup_cons]at nd
  obtain⟨q,rfl⟩:=t a QYz
  have t2:=fun x hx=>t x (QYq _ hx)
  rw[List.filter_cons,rT (fun x hx=>t2 x (s.subset hx)) fun z=>nd.1 (s.subset z)]
  exact ih t2 nd.2
 | @cons_cons l₁ l₂ a s ih=>
  intro t nd
  rw[List.nodup_cons]at nd
  obtain⟨q,rfl⟩:=t a QYz
  have t2:=fun x hx=>t x (QYq _ hx)
  have yes:aJ (.str q) (D.str q::l₁)=true:=by simp[aJ,cQ]
  rw[List.filter_cons,yes,if_pos rfl]
  congr 1
  refine Eq.trans (List.filter_congr fun x hx=>?_) (ih t2 nd.2)
  obtain⟨u,rfl⟩:=t2 x hx
  have ne:¬q=u:=fun e=>nd.1 (by rw[e];exact hx)
  simp[aJ,cQ,ne]
theorem oZ x:∀xs ys:List D,aJ x (xs++ys)=(aJ x xs||aJ x ys)
 |[]=>fun ys=>rfl
 |y::xs=>fun ys=>by simp[aJ,oZ x xs ys,Bool.or_assoc]
abbrev St:=List Bool×Nat
def au(s:St):D:=.tup [aH s.1,.int s.2]
section
variable{os:List D}{sts:List (List (D×Nat))}
structure Jf(h g:Nat)(sts:List (List (D×Nat)))(s:St):Prop where
 l:s.1.length=(names h g).length
 j:s.2<sts.length
noncomputable def jJ(h:Nat)(sts:List (List (D×Nat)))(W:List Bool->List D)(s:St):List D:=(hd h).filter (fun x=>(lk x (bw sts s.2)).isSome)++W s.1
def gU h:cD (hd h):=fun x hx=>bu h 0 x (QWz _ hx)
def bD g:cD (bC g):=fun x hx=>bu 0 g x (QVq _ hx)
def mQ(hj:j<sts.length):bw sts j∈sts:=by simp[bw,hj]
def oh(hj:j<sts.length):at? (sts.map fB) (j:Int)=some (fB (bw sts j)):=by
 rw[gF _ _ (by simpa using hj)]
 simp[bw,hj]
def qM(Wk:Wt h g ks ls W)(S:Jf h g sts s):(jJ h sts W s).Sublist (names h g):=(List.filter_sublist).append (Wk.sub s.1 S.l)
def gO(T:cj h g os sts)(O:Nk h g ks ls){j:Nat}(hj:j<sts.length):cD (ik (bw sts j))/\(ik (bw sts j)).Nodup:=by
 have:=(T.mv _ (mQ hj)).1
 exact⟨fun x hx=>bu h g x (T.sub.subset (this.subset hx)),this.nodup (T.sub.nodup (names_nodup O.h2 O.g1 O.g5))⟩
def stC:E:=.comp 1 (.name 0) AAb ACM (.var 0)
def yx(n:Nat)(O:Nk h g ks ls)(T:cj h g os sts)(Wk:Wt h g ks ls W){s:St}(S:Jf h g sts s):
  pg.fn (n+7) 21 [.val (aF h g ks ls),.val (aK os sts),.val (au s)]=.ok (.new (.lst (jJ h sts W s))) [.val (aF h g ks ls),.val (aK os sts),.val (au s)]:=by
 have K:=gO T O S.j
 have d:=je (bw sts s.2) [] [] (by simpa using K.1) (by simpa using K.2)
 have e:ev (pg.cf (n+6)) stC [.val (aF h g ks ls),.val (aK os sts),.val (au s),.own (.dct (ik (bw sts s.2)) (ue (bw sts s.2)))]=.ok (.new (.lst ((hd h).filter fun x=>(lk x (bw sts s.2)).isSome))) [.val (aF h g ks ls),.val (aK os sts),.val (au s),.own (.dct (ik (bw sts s.2)) (ue (bw sts s.2)))]:=by
  have:=sX (c:=pg.cf (n+6)) (it:=.idx (.var 0) AAH) (co:=.cmp .isin (.var 0) (.var 4)) (el:=.var 0) (σ:=[.val (aF h g ks ls),.val (aK os sts),.val (au s),.own (.dct (ik (bw sts s.2)) (ue (bw sts s.2)))]) (τ:=[.val (aF h g ks ls),.val (aK os sts),.val (au s),.own (.dct (ik (bw sts s.2)) (ue (bw sts s.2)))]) (d:=.tup (hd h)) (xs:=hd h) (r:=.val (.tup (hd h))) (fun x=>x) (fun x=>(lk x (bw sts s.2)).isSome) (by simp[aF]) rfl rfl (fun x hx=>by
   obtain⟨q,rfl⟩:=gU h x hx
   have:aQ .isin (.str q) (.cR (ik (bw sts s.2)) (ue (bw sts s.2)))=some (lk (.str q) (bw sts s.2)).isSome:=by rw[<-Et];rfl
   simp[this,Ob.d]) (fun x _ _=>by simp)
  rw[List.map_id']at this
  exact this
 have w:=Wk.pr s.1 S.l n
 have t1:getD (aK os sts) (.int 1)=some (.tup (sts.map fB)):=by simp[aK]
 have s0:getD (au s) (.int 0)=some (aH s.1):=by simp[au]
 have s1:getD (au s) (.int 1)=some (.int s.2):=by simp[au]
 have st:=oh S.j
 have sl:=(qM Wk S).length_le
 have nl:=cT (g:=g) O.h2 O.g5
 have h2:=O.h2
 have g5:=O.g5
 have f:fits (((hd h).filter fun x=>(lk x (bw sts s.2)).isSome).length+(W s.1).length)=true:=by
  simp only[jJ,QTq]at sl
  simp[fits]
  omega
 have hb:lR=⟨3,4,(.cons (.set 3 (.bi .dict ACc)) (.cons (.ret (.op .add stC (.call 14 ABR))) .nil))⟩:=rfl
 rw[Bb,hb]
 simp[t1,s0,s1,st,fB,d,e,w,f,jJ]
end
end Tx
end
section
open PySem Mini
namespace Tx
section
variable{os:List D}
theorem Lj{x:D}:∀{st:List (D×Nat)},cD (ik st)->(∃s,x=.str s)->((lk x st).isSome=true↔x∈ik st)
 |[],_,_=>by simp[lk]
 |m::st,t,⟨s,hs⟩=>by
  subst hs
  rw[<-Et,lM t]
def lsM:E:=.comp 1 (.name 0) ACc ACt AAb
def lsN:E:=.comp 1 (.name 0) ACQ ACM (.var 0)
def Fv(h:Nat)(st:List (D×Nat)):List D:=(st.filter fun m=>aJ m.1 (hd h)).map (·.1)
def lN(n:Nat)(O:Nk h g ks ls):pg.fn (n+1) 51 [.val (aF h g ks ls)]=.ok (.new (.lst (names h g))) [.val (aF h g ks ls)]:=
 m9 n (hd h) (bC g) ks (.tup (ls.map .bl)) (by rw[O.kl,b7 O.g5]) (by rw[gA O.h2,b7 O.g5];have:=O.h2;have:=O.g5;omega)
def zE(O:Nk h g ks ls){x:D}(hx:x∈hd h):x∉bC g:=fun hs=>by
 have nd:=names_nodup O.h2 O.g1 O.g5
 rw[names,List.nodup_append]at nd
 exact nd.2.2 _ hx _ hs rfl
def JF(O:Nk h g ks ls)(T:cj h g os sts)(Wk:Wt h g ks ls W){s:St}(S:Jf h g sts s):(names h g).filter (fun x=>aJ x (Fv h (bw sts s.2)++W s.1))=jJ h sts W s:=by
 have K:=gO T O S.j
 have ws:=Wk.sub s.1 S.l
 have tW:cD (W s.1):=fun x hx=>bD g x (ws.subset hx)
 have iA:cD (Fv h (bw sts s.2)):=fun x hx=>by
  obtain⟨m,hm,rfl⟩:=QDq.mp hx
  exact K.1 m.1 (QTz (List.mem_filter.mp hm).1)
 have tI:cD (Fv h (bw sts s.2)++W s.1):=fun x hx=>by
  rcases QXz.mp hx with z|z
  ·exact iA x z
  ·exact tW x z
 have hI:∀q:Str,D.str q∈Fv h (bw sts s.2)↔D.str q∈hd h/\D.str q∈ik (bw sts s.2):=fun q=>by
  constructor
  ·intro z
   obtain⟨m,hm,e⟩:=QDq.mp z
   obtain⟨a,b⟩:=List.mem_filter.mp hm
   rw[e]at b
   exact⟨(lM (gU h)).mp b,by rw[<-e];exact QTz a⟩
  ·rintro ⟨a,b⟩
   obtain⟨m,hm,e⟩:=QDq.mp b
   refine QDq.mpr ⟨m,List.mem_filter.mpr ⟨hm,?_⟩,e⟩
   rw[show m.1=D.str q from e]
   exact(lM (gU h)).mpr a
 rw[names,List.filter_append,jJ]
 congr 1
 ·refine List.filter_congr fun x hx=>?_
  obtain⟨q,rfl⟩:=gU h x hx
  rw[Bool.eq_iff_iff,lM tI,Lj K.1 ⟨q,rfl⟩,QXz,hI]
  exact⟨fun z=>z.elim (fun a=>a.2) fun a=>absurd (ws.subset a) (zE O hx),fun z=>.inl ⟨hx,z⟩⟩
 ·refine Eq.trans (List.filter_congr fun x hx=>?_) (Cq ws (bD g) ((List.sublist_append_right (hd h) (bC g)).nodup (names_nodup O.h2 O.g1 O.g5)))
  obtain⟨q,rfl⟩:=bD g x hx
  rw[Bool.eq_iff_iff,lM tI,lM tW,QXz,hI]
  exact⟨fun z=>z.elim (fun a=>absurd hx (zE O a.1)) fun a=>a,.inr⟩
def fD{xs:List D}(t:cD xs):aQ .isin (.str q) (.lst xs)=some (aJ (.str q) xs)/\aQ .isin (.str q) (.tup xs)=some (aJ (.str q) xs)/\aQ .notin (.str q) (.tup xs)=some (!aJ (.str q) xs):=by
 have o:eX (.str q) xs=true:=by unfold eX;rw[kZ t];rfl
 refine⟨?_,?_,?_⟩
 ·show(if eX _ xs then some _ else none)=_;rw[o];rfl
 ·show(if eX _ xs then some _ else none)=_;rw[o];rfl
 ·show(if eX _ xs then some _ else none)=_;rw[o];rfl
theorem gB(p:D->Bool):∀st:List (D×Nat),((st.map nU).filter fun d=>match d with|.tup (a::_)=>p a|_=>false).map o5=(st.filter fun m=>p m.1).map (·.1)
 |[]=>rfl
 |m::st=>by
  rw[Qyz,List.filter_cons,List.filter_cons,show(match nU m with|.tup (a::_)=>p a|_=>false)=p m.1 from rfl]
  cases p m.1
  ·exact gB p st
  ·simp only[if_true,Qyz,gB p st];rfl
def wR(n:Nat)(O:Nk h g ks ls)(T:cj h g os sts)(Wk:Wt h g ks ls W){s:St}(S:Jf h g sts s):
  pg.fn (n+5) 54 [.val (aF h g ks ls),.val (aK os sts),.val (au s)]=.ok (.new (.lst (jJ h sts W s))) [.val (aF h g ks ls),.val (aK os sts),.val (au s)]:=by
 have K:=gO T O S.j
 have t1:getD (aK os sts) (.int 1)=some (.tup (sts.map fB)):=by simp[aK]
 have n0:getD (aF h g ks ls) (.int 0)=some (.tup (hd h)):=by simp[aF]
 have s0:getD (au s) (.int 0)=some (aH s.1):=by simp[au]
 have s1:getD (au s) (.int 1)=some (.int s.2):=by simp[au]
 have st:=oh S.j
 have w:=Wk.lw s.1 S.l n
 have e1:ev (pg.cf (n+4)) lsM [.val (aF h g ks ls),.val (aK os sts),.val (au s),.un]=.ok (.new (.lst (Fv h (bw sts s.2)))) [.val (aF h g ks ls),.val (aK os sts),.val (au s),.un]:=by
  have:=sX (c:=pg.cf (n+4)) (it:=.idx AAf AAe) (co:=.cmp .isin AAb AAj) (el:=.idx (.var 0) AAH) (σ:=[.val (aF h g ks ls),.val (aK os sts),.val (au s),.un]) (τ:=[.val (aF h g ks ls),.val (aK os sts),.val (au s),.un]) (d:=fB (bw sts s.2)) (xs:=(bw sts s.2).map nU) (r:=.val (fB (bw sts s.2))) o5 (fun d=>match d with|.tup (a::_)=>aJ a (hd h)|_=>false) (by simp[t1,s1,st]) rfl rfl (fun x hx=>by
   obtain⟨m,hm,rfl⟩:=QDq.mp hx
   obtain⟨q,eq⟩:=K.1 m.1 (QTz hm)
   have i:=(fD (q:=q) (gU h)).2.1
   simp[nU,n0,eq,i]) (fun x hx _=>by
   obtain⟨m,hm,rfl⟩:=QDq.mp hx
   simp[nU,o5])
  rw[gB fun a=>aJ a (hd h)]at this
  exact this
 have tI:cD (Fv h (bw sts s.2)++W s.1):=fun x hx=>by
  rcases QXz.mp hx with z|z
  ·obtain⟨m,hm,rfl⟩:=QDq.mp z
   exact K.1 m.1 (QTz (List.mem_filter.mp hm).1)
  ·exact bD g x ((Wk.sub s.1 S.l).subset z)
 have ln:=lN (n+3) O
 have e2:ev (pg.cf (n+4)) lsN [.val (aF h g ks ls),.val (aK os sts),.val (au s),.own (.lst (Fv h (bw sts s.2)++W s.1))]=.ok (.new (.lst (jJ h sts W s))) [.val (aF h g ks ls),.val (aK os sts),.val (au s),.own (.lst (Fv h (bw sts s.2)++W s.1))]:=by
  have:=sX (c:=pg.cf (n+4)) (it:=.call 51 AAQ) (co:=.cmp .isin (.var 0) (.var 4)) (el:=.var 0) (σ:=[.val (aF h g ks ls),.val (aK os sts),.val (au s),.own (.lst (Fv h (bw sts s.2)++W s.1))]) (τ:=[.val (aF h g ks ls),.val (aK os sts),.val (au s),.own (.lst (Fv h (bw sts s.2)++W s.1))]) (d:=.lst (names h g)) (xs:=names h g) (r:=.new (.lst (names h g))) (fun x=>x) (fun x=>aJ x (Fv h (bw sts s.2)++W s.1)) (by simp[ln]) rfl rfl (fun x hx=>by
   obtain⟨q,rfl⟩:=bu h g x hx
   have i:=(fD (q:=q) tI).1
   simp[i,Ob.d]) (fun x _ _=>by simp)
  rw[List.map_id',JF O T Wk S]at this
  exact this
 have f:fits ((Fv h (bw sts s.2)).length+(W s.1).length)=true:=by
  have a:(Fv h (bw sts s.2)).length<=(bw sts s.2).length:=by rw[Fv,QAq];exact List.length_filter_le _ _
  have b:=(T.mv _ (mQ S.j)).1.length_le
  have c:=(Wk.sub s.1 S.l).length_le
  have d:=T.sub.length_le
  have nl:=cT (g:=g) O.h2 O.g5
  have h2:=O.h2
  have g5:=O.g5
  have:=b7 O.g5
  simp at b
  simp only[QTq]at d
  simp[fits]
  omega
 have hb:jV=⟨3,4,(.cons (.set 3 lsM) (.cons ADV (.cons (.ret lsN) .nil)))⟩:=rfl
 have q:lsN.aB=none:=rfl
 rw[yK,hb]
 simp[e1,w,s0,f,Ob.d,e2,q]
end
end Tx
end
section
open PySem Mini
namespace Tx
section
noncomputable def dF(xs:List D)(bs:List Bool)(x:D):List Bool:=(xs.zip bs).map fun p=>if cQ p.1 x then !p.2 else p.2
def sy{bs:List Bool}(hl:bs.length=xs.length)x:(dF xs bs x).length=xs.length:=by simp[dF,hl]
def chF(x:D)(p:D×D):D:=match p.2 with
 |.bl b=>.bl (if cQ p.1 x then !b else b)
 |d=>d
theorem Gm x:∀(xs:List D)(bs:List Bool),(xs.zip (bs.map D.bl)).map (chF x)=(dF xs bs x).map .bl
 |[],bs=>by simp[dF]
 |_::_,[]=>by simp[dF]
 |y::xs,b::bs=>by
  have:=Gm x xs bs
  simp only[dF]at this⊢
  simp[chF,this]
def chC:E:=.comp 2 (.tup [0,1]) ACy AAL (.ite ACw (.not (.var 1)) (.var 1))
def CV(n:Nat)(O:Nk h g ks ls){bs:List Bool}(hl:bs.length=(names h g).length){x:D}(hx:∃s,x=.str s):
  pg.fn (n+2) 24 [.val (aF h g ks ls),.val (aH bs),.val x]=.ok (.val (aH (dF (names h g) bs x))) [.val (aF h g ks ls),.val (aH bs),.val x]:=by
 obtain⟨q,rfl⟩:=hx
 have w:pg.fn (n+1) 13 [.val (aF h g ks ls)]=.ok (.new (.lst (names h g))) [.val (aF h g ks ls)]:=
  dB n (hd h) (bC g) ks (.tup (ls.map .bl)) (by rw[O.kl,b7 O.g5]) (by rw[gA O.h2,b7 O.g5];have:=O.h2;have:=O.g5;omega)
 have e:ev (pg.cf (n+1)) chC [.val (aF h g ks ls),.val (aH bs),.val (.str q)]=.ok (.new (.lst ((dF (names h g) bs (.str q)).map .bl))) [.val (aF h g ks ls),.val (aH bs),.val (.str q)]:=by
  have:=Nv (c:=pg.cf (n+1)) (it:=.zip ABi (.var 1)) (el:=.ite ACw (.not (.var 1)) (.var 1)) (σ:=[.val (aF h g ks ls),.val (aH bs),.val (.str q)]) (τ:=[.val (aF h g ks ls),.val (aH bs),.val (.str q)]) (d:=.lst (aO (names h g) (bs.map .bl))) (ps:=(names h g).zip (bs.map .bl)) (r:=.val (.lst (aO (names h g) (bs.map .bl)))) (chF (.str q)) (by
    have z:bN (aH bs)=some (bs.map .bl):=rfl
    simp[w,z]) rfl (by show some _=some _;rw[b8]) (fun p hp=>by
    obtain⟨u,eu⟩:=bu h g p.1 (List.of_mem_zip hp).1
    obtain⟨b,_,eb⟩:=QDq.mp (List.of_mem_zip hp).2
    rw[<-eb,eu]
    have e1:chF (.str q) p=.bl (if decide (u=q)then !b else b):=by
     unfold chF
     rw[<-eb,eu]
     rfl
    rw[e1]
    cases c:decide (u=q)<;>simp[c])
  rw[Gm]at this
  exact this
 have hb:pB=⟨3,3,(.cons (.ret (.bi .tuple chC)) .nil)⟩:=rfl
 have qv:chC.aB=none:=rfl
 rw[Hh,hb]
 simp[e,qv]
 rfl
theorem uP:∀(L pre:List D),(bF pre.length L.length).map (fun d=>match d with|.int i=>(pre++L).getD i.toNat .non|_=>.non)=L
 |[]=>fun pre=>rfl
 |x::L=>fun pre=>by
  have:=uP L (pre++[x])
  simp only[QTq,QBq,List.length_nil,QLq,QLz,List.nil_append]at this
  simp only[QBq,bF,Qyz]
  rw[show((pre.length:Int)+1)=((pre.length+(0+1):Nat)) by simp,this]
  simp[List.getD]
def fgC:E:=.comp 1 (.name 0) (.range1 ADu) AAL (.cmp .ne ADs ACJ)
theorem uO:∀(n:Nat)(lo:Int)(x:D),x∈bF lo n->∃j:Nat,j<n/\x=.int (lo+j)
 |0=>fun _ _ h=>by cases h
 |n+1=>fun lo x h=>by
  rcases QCq.mp h with rfl|h
  ·exact⟨0,by omega,by simp⟩
  ·obtain⟨j,hj,rfl⟩:=uO n _ x h
   exact⟨j+1,by omega,by congr 1;omega⟩
def RX(n:Nat)(O:Nk h g ks ls)(T:D){s:St}(S:Jf h g sts s){q:Str}(s5 s6 s7:Sl):
  ev (pg.cf n) fgC [.val (aF h g ks ls),.val T,.val (au s),.val (.str q),.own (.lst (names h g)),s5,s6,s7]=.ok (.new (.lst ((dF (names h g) s.1 (.str q)).map .bl))) [.val (aF h g ks ls),.val T,.val (au s),.val (.str q),.own (.lst (names h g)),s5,s6,s7]:=by
 have nl:=cT (g:=g) O.h2 O.g5
 have h2:=O.h2
 have g5:=O.g5
 have fl:=sy S.l (.str q)
 have f1:fits (names h g).length=true:=by simp[fits];omega
 have f2:Ag (names h g).length=true:=by simp[Ag];omega
 have s0:getD (au s) (.int 0)=some (aH s.1):=by simp[au]
 have:=sY (c:=pg.cf n) (it:=.range1 ADu) (el:=.cmp .ne ADs ACJ) (σ:=[.val (aF h g ks ls),.val T,.val (au s),.val (.str q),.own (.lst (names h g)),s5,s6,s7]) (τ:=[.val (aF h g ks ls),.val T,.val (au s),.val (.str q),.own (.lst (names h g)),s5,s6,s7]) (d:=.lst (bF 0 (names h g).length)) (xs:=bF 0 (names h g).length) (r:=.val (.lst (bF 0 (names h g).length))) (fun d=>match d with|.int i=>([]++(dF (names h g) s.1 (.str q)).map D.bl).getD i.toNat .non|_=>.non) (by simp[f1,f2,Ob.d]) rfl rfl (fun x hx=>by
  obtain⟨j,hj,rfl⟩:=uO _ _ _ hx
  have hb:j<s.1.length:=by rw[S.l];exact hj
  obtain⟨u,eu⟩:=bu h g _ (List.getElem_mem hj)
  have a1:at? (names h g) (j:Int)=some (.str u):=by rw[gF _ _ hj,QXq hj,eu]
  have a2:at? (s.1.map D.bl) (j:Int)=some (.bl s.1[j]):=by rw[gF _ _ (by simpa using hb)];simp[hb]
  have a3:getD (aH s.1) (.int j)=some (.bl s.1[j]):=by simpa[aH]using a2
  have fj:(dF (names h g) s.1 (.str q)).length=(names h g).length:=fl
  have v:([]++(dF (names h g) s.1 (.str q)).map D.bl).getD ((0:Int)+(j:Int)).toNat .non=.bl (!(s.1[j]==decide (u=q))):=by
   rw[List.nil_append,Int.zero_add,Int.toNat_natCast,List.getD_eq_getElem?_getD,QFz,QXq (by rw[fj];exact hj)]
   have e2:cQ (names h g)[j] (.str q)=decide (u=q):=by rw[eu];rfl
   simp only[dF,List.getElem_map,List.getElem_zip,Option.map_some,Option.getD_some,e2]
   cases decide (u=q)<;>cases s.1[j]<;>rfl
  simp only[v]
  simp[s0,a3,a1,Ob.d])
 have fl':((dF (names h g) s.1 (.str q)).map D.bl).length=(names h g).length:=by rw[QAq,fl]
 have rg:=uP ((dF (names h g) s.1 (.str q)).map D.bl) []
 rw[fl']at rg
 rw[show((([]:List D).length:Nat):Int)=0 from rfl]at rg
 rw[rg]at this
 exact this
end
end Tx
end
section
open PySem Mini
namespace Tx
section
variable{os:List D}
noncomputable def wQ(h g:Nat)(os:List D)(sts:List (List (D×Nat)))(s:St)(x:D):Option St:=
 if aJ x (hd h)||aJ x os then(lk x (bw sts s.2)).map fun j=>(dF (names h g) s.1 x,j)else some (dF (names h g) s.1 x,s.2)
def iV:Option St->D
 |none=>.non
 |some s=>au s
def sdE a(j:Nat):D.tup [aH a,.int j]=au (a,j):=rfl
def mZ(T:cj h g os sts):cD os:=fun x hx=>bD g x (T.ou.subset hx)
theorem Uw{x:D}{N:Nat}:∀{st:List (D×Nat)},(∀m∈st,m.2<N)->∀{j:Nat},lk x st=some j->j<N
 |[],_,_,e=>by cases e
 |m::st,hm,j,e=>by
  simp only[lk]at e
  split at e
  ·cases e;exact hm m QYz
  ·exact Uw (fun q hq=>hm q (QYq _ hq)) e
def XD(T:cj h g os sts)(S:Jf h g sts s)(e:wQ h g os sts s x=some s'):Jf h g sts s':=by
 unfold wQ at e
 split at e
 ·obtain⟨j,hj,rfl⟩:=QJz.mp e
  exact⟨sy S.l x,Uw (T.mv _ (mQ S.j)).2 hj⟩
 ·cases e
  exact⟨sy S.l x,S.j⟩
def qD(n:Nat)(O:Nk h g ks ls)(T:cj h g os sts){s:St}(S:Jf h g sts s)(q:Str):
  pg.fn (n+1) 22 [.val (aK os sts),.val (au s),.val (.str q)]=.ok (.val (.bl (aJ (.str q) os&& !(lk (.str q) (bw sts s.2)).isSome))) [.val (aK os sts),.val (au s),.val (.str q)]:=by
 have K:=gO T O S.j
 have d:=je (bw sts s.2) [] [] (by simpa using K.1) (by simpa using K.2)
 have t0:getD (aK os sts) (.int 0)=some (.tup os):=by simp[aK]
 have t1:getD (aK os sts) (.int 1)=some (.tup (sts.map fB)):=by simp[aK]
 have s1:getD (au s) (.int 1)=some (.int s.2):=by simp[au]
 have st:=oh S.j
 have i:=(fD (q:=q) (mZ T)).2.1
 have i2:aQ .notin (.str q) (.cR (ik (bw sts s.2)) (ue (bw sts s.2)))=some (!(lk (.str q) (bw sts s.2)).isSome):=by rw[<-Et];rfl
 rw[wB]
 cases c:aJ (.str q) os<;>rw[c]at i<;>simp[jn,t0,i,t1,s1,st,fB,d,Ob.d,i2]
def EY(O:Nk h g ks ls)(T:cj h g os sts)(Wk:Wt h g ks ls W){s:St}(S:Jf h g sts s){q:Str}(hx:D.str q∈jJ h sts W s):(aJ (.str q) os&& !(lk (.str q) (bw sts s.2)).isSome)=true/\wQ h g os sts s (.str q)=none\/(aJ (.str q) os&& !(lk (.str q) (bw sts s.2)).isSome)=false/\wQ h g os sts s (.str q)=some (dF (names h g) s.1 (.str q),(lk (.str q) (bw sts s.2)).getD s.2):=by
 have K:=gO T O S.j
 unfold wQ
 rcases QXz.mp hx with z|z
 ·obtain⟨z1,z2⟩:=List.mem_filter.mp z
  have no:aJ (.str q) os=false:=rT (mZ T) fun w=>zE O z1 (T.ou.subset w)
  have yes:aJ (.str q) (hd h)=true:=gR z1 (gU h)
  rw[no,yes]
  obtain⟨j,hj⟩:=Option.isSome_iff_exists.mp z2
  rw[hj]
  exact .inr ⟨rfl,rfl⟩
 ·have zr:=(Wk.sub s.1 S.l).subset z
  have no:aJ (.str q) (hd h)=false:=rT (gU h) fun w=>zE O w zr
  rw[no]
  cases ho:aJ (.str q) os with
  |true=>
   cases hj:lk (.str q) (bw sts s.2)with
   |none=>exact .inl ⟨rfl,rfl⟩
   |some j=>exact .inr ⟨rfl,rfl⟩
  |false=>
   have hn:lk (.str q) (bw sts s.2)=none:=by
    cases hj:lk (.str q) (bw sts s.2)with
    |none=>rfl
    |some j=>
     have m:=(Lj K.1 ⟨q,rfl⟩).mp (by rw[hj];rfl)
     rcases QXz.mp ((T.mv _ (mQ S.j)).1.subset m)with w|w
     ·exact absurd zr (zE O w)
     ·rw[gR w (mZ T)]at ho;cases ho
   rw[hn]
   exact .inr ⟨rfl,rfl⟩
def HH(n:Nat)(O:Nk h g ks ls)(T:cj h g os sts)(Wk:Wt h g ks ls W){s:St}(S:Jf h g sts s){x:D}(hx:x∈jJ h sts W s):
  pg.fn (n+3) 23 [.val (aF h g ks ls),.val (aK os sts),.val (au s),.val x]=.ok (.val (iV (wQ h g os sts s x))) [.val (aF h g ks ls),.val (aK os sts),.val (au s),.val x]:=by
 have K:=gO T O S.j
 have d:=je (bw sts s.2) [] [] (by simpa using K.1) (by simpa using K.2)
 obtain⟨q,rfl⟩:=bu h g x ((qM Wk S).subset hx)
 have u:=qD (n+1) O T S q
 have c:=CV n O S.l ⟨q,rfl⟩
 have t1:getD (aK os sts) (.int 1)=some (.tup (sts.map fB)):=by simp[aK]
 have s0:getD (au s) (.int 0)=some (aH s.1):=by simp[au]
 have s1:getD (au s) (.int 1)=some (.int s.2):=by simp[au]
 have st:=oh S.j
 have gt:rZ (.cR (ik (bw sts s.2)) (ue (bw sts s.2))) (.str q) (.int s.2)=some (.int ((lk (.str q) (bw sts s.2)).getD s.2)):=by
  show(if keyOk (.str q)then some ((bZ (.str q) (ik (bw sts s.2)) (ue (bw sts s.2))).getD (.int s.2))else none)=_
  rw[Es]
  cases lk (.str q) (bw sts s.2)<;>rfl
 have key:=EY O T Wk S hx
 rw[J3]
 rcases key with ⟨k1,k2⟩|⟨k1,k2⟩
 ·rw[k1]at u
  rw[k2]
  simp[nQ,u,iV]
 ·rw[k1]at u
  rw[k2]
  simp[nQ,u,t1,s0,s1,st,fB,d,Ob.d,c,rR,gt,aV,iV,sdE]
def ZL:S:=(.cons (.ite (.cmp .eq (.var 6) (.var 3)) ACe .nil) .nil)
theorem Uy(c:Cf)(a b e F:D)(N:Sl){q:Str}:∀(st:List (D×Nat))(s6 s7:Sl),cD (ik st)->bh s6->bh s7->
  (∀j,lk (.str q) st=some j->∃Ξ s7',aG (.tup [6,7]) (ex c ZL) (st.map nU) [.val a,.val b,.val e,.val (.str q),N,.val F,s6,s7]=.ret (.val (.tup [F,.int j])) [.val a,.val b,.val e,.val (.str q),N,.val F,Ξ,s7'])/\
  (lk (.str q) st=none->∃Ξ s7',aG (.tup [6,7]) (ex c ZL) (st.map nU) [.val a,.val b,.val e,.val (.str q),N,.val F,s6,s7]=.next [.val a,.val b,.val e,.val (.str q),N,.val F,Ξ,s7'])
 |[]=>fun s6 s7 _ _ _=>⟨fun j z=>(by cases z),fun _=>⟨s6,s7,rfl⟩⟩
 |m::st=>fun s6 s7 t h6 h7=>by
  obtain⟨u,eu⟩:=t m.1 QYz
  have tt:bj (.tup [6,7]) (nU m) [.val a,.val b,.val e,.val (.str q),N,.val F,s6,s7]=some [.val a,.val b,.val e,.val (.str q),N,.val F,.val m.1,.val (.int m.2)]:=by
   rcases h6 with rfl|⟨d,rfl⟩<;>rcases h7 with rfl|⟨d,rfl⟩<;>simp[bj,iQ,bU,nU]
  have ih:=Uy c a b e F N (q:=q) st (.val m.1) (.val (.int m.2)) (fun x hx=>t x (QYq _ hx)) (.inr ⟨_,rfl⟩) (.inr ⟨_,rfl⟩)
  rw[Qyz,aG,tt]
  have e1:lk (.str q) (m::st)=if decide (u=q)then some m.2 else lk (.str q) st:=by rw[lk,eu];rfl
  rw[e1,eu]at*
  by_cases cq:u=q
  ·subst cq
   refine⟨fun j z=>?_,fun z=>by simp at z⟩
   simp at z
   subst z
   exact⟨.val (.str u),.val (.int m.2),by simp[ZL,aV]⟩
  ·have sk:(ex c ZL [.val a,.val b,.val e,.val (.str q),N,.val F,.val (.str u),.val (.int m.2)])=.next [.val a,.val b,.val e,.val (.str q),N,.val F,.val (.str u),.val (.int m.2)]:=by simp[ZL,cq]
   simp only[sk]
   simp only[cq,decide_false,Qxq,if_false]
   exact ih
theorem BL(n:Nat)(O:Nk h g ks ls)(T:cj h g os sts){s:St}(S:Jf h g sts s){x:D}(hx:∃q,x=.str q):
  pg.fn (n+2) 55 [.val (aF h g ks ls),.val (aK os sts),.val (au s),.val x]=.ok (.val (iV (wQ h g os sts s x))) [.val (aF h g ks ls),.val (aK os sts),.val (au s),.val x]:=by
 obtain⟨q,rfl⟩:=hx
 have K:=gO T O S.j
 have ln:=lN n O
 have n0:getD (aF h g ks ls) (.int 0)=some (.tup (hd h)):=by simp[aF]
 have t0:getD (aK os sts) (.int 0)=some (.tup os):=by simp[aK]
 have t1:getD (aK os sts) (.int 1)=some (.tup (sts.map fB)):=by simp[aK]
 have s1:getD (au s) (.int 1)=some (.int s.2):=by simp[au]
 have st:=oh S.j
 have i1:=(fD (q:=q) (gU h)).2.2
 have i2:=(fD (q:=q) (mZ T)).2.2
 have fe:=RX (n+1) O (aK os sts) S (q:=q) .un .un .un
 have lg:=Uy (pg.cf (n+1)) (aF h g ks ls) (aK os sts) (au s) (aH (dF (names h g) s.1 (.str q))) (.own (.lst (names h g))) (q:=q) (bw sts s.2) .un .un K.1 (.inl rfl) (.inl rfl)
 have it:items (fB (bw sts s.2))=some ((bw sts s.2).map nU):=rfl
 have rd:D.tup ((dF (names h g) s.1 (.str q)).map D.bl)=aH (dF (names h g) s.1 (.str q)):=rfl
 have hb:o8=⟨4,8,(.cons (.set 4 ACQ) (.cons (.set 5 (.bi .tuple fgC)) (.cons (.ite ACO ACl .nil) (.cons (.for_ (.tup [6,7]) ACc ZL) AAq))))⟩:=rfl
 have qv:fgC.aB=none:=rfl
 rw[Hb,hb]
 unfold wQ
 cases c1:aJ (.str q) (hd h)with
 |false=>
  cases c2:aJ (.str q) os with
  |false=>
   rw[c1]at i1
   rw[c2]at i2
   simp[ln,fe,qv,rd,n0,t0,i1,i2,s1,aV,iV,sdE]
  |true=>
   rw[c1]at i1
   rw[c2]at i2
   cases hj:lk (.str q) (bw sts s.2)with
   |none=>
    obtain⟨s6,s7,e⟩:=lg.2 hj
    simp[ln,fe,qv,rd,n0,t0,i1,i2,t1,s1,st,it,e,iV]
   |some j=>
    obtain⟨s6,s7,e⟩:=lg.1 j hj
    simp[ln,fe,qv,rd,n0,t0,i1,i2,t1,s1,st,it,e,iV,sdE]
 |true=>
  rw[c1]at i1
  cases hj:lk (.str q) (bw sts s.2)with
  |none=>
   obtain⟨s6,s7,e⟩:=lg.2 hj
   simp[ln,fe,qv,rd,n0,i1,t1,s1,st,it,e,iV]
  |some j=>
   obtain⟨s6,s7,e⟩:=lg.1 j hj
   simp[ln,fe,qv,rd,n0,i1,t1,s1,st,it,e,iV,sdE]
end
end Tx
end
section
open PySem Mini
namespace Tx
structure Cs where
 h:Nat
 g:Nat
 ks:List D
 ls:List Bool
 os:List D
 sts:List (List (D×Nat))
 W:List Bool->List D
namespace Cs
variable(C:Cs)
structure Ok:Prop where
 o:Nk C.h C.g C.ks C.ls
 t:cj C.h C.g C.os C.sts
 w:Wt C.h C.g C.ks C.ls C.W
def n:D:=aF C.h C.g C.ks C.ls
def t:D:=aK C.os C.sts
abbrev nm:List D:=names C.h C.g
abbrev S(s:St):Prop:=Jf C.h C.g C.sts s
def st(s:St):List D:=jJ C.h C.sts C.W s
def led(s:St)(x:D):Option St:=wQ C.h C.g C.os C.sts s x
end Cs
section
variable{C:Cs}
namespace Cs.Ok
variable(K:C.Ok)
include K
def sub(S:C.S s):(C.st s).Sublist C.nm:=qM K.w S
def Gy(S:C.S s):cD (C.st s):=fun x hx=>bu C.h C.g x ((K.sub S).subset hx)
def wtx(S:C.S s):cD (C.W s.1):=fun x hx=>bD C.g x ((K.w.sub s.1 S.l).subset hx)
def HF{t:St}(S:C.S s)(e:C.led s x=some t):C.S t:=XD K.t S e
def fc m(S:C.S s):pg.fn (m+7) 21 [.val C.n,.val C.t,.val (au s)]=.ok (.new (.lst (C.st s))) [.val C.n,.val C.t,.val (au s)]:=yx m K.o K.t K.w S
def HJ m(S:C.S s):pg.fn (m+5) 54 [.val C.n,.val C.t,.val (au s)]=.ok (.new (.lst (C.st s))) [.val C.n,.val C.t,.val (au s)]:=wR m K.o K.t K.w S
def jM m(S:C.S s)(hx:x∈C.st s):pg.fn (m+3) 23 [.val C.n,.val C.t,.val (au s),.val x]=.ok (.val (iV (C.led s x))) [.val C.n,.val C.t,.val (au s),.val x]:=HH m K.o K.t K.w S hx
def Rm m(S:C.S s)(hx:∃q,x=.str q):pg.fn (m+2) 55 [.val C.n,.val C.t,.val (au s),.val x]=.ok (.val (iV (C.led s x))) [.val C.n,.val C.t,.val (au s),.val x]:=BL m K.o K.t S hx
def checked m:pg.fn (m+11) 17 [.val C.n,.val C.t]=.ok (.val C.t) [.val C.n,.val C.t]:=qg m K.o K.t
def wpr m(S:C.S s):pg.fn (m+6) 14 [.val C.n,.val (aH s.1)]=.ok (.new (.lst (C.W s.1))) [.val C.n,.val (aH s.1)]:=K.w.pr s.1 S.l m
def unasked m(S:C.S s)(hx:D.str q∈C.st s):pg.fn (m+1) 22 [.val C.t,.val (au s),.val (.str q)]=.ok (.val (.bl (C.led s (.str q)).isNone)) [.val C.t,.val (au s),.val (.str q)]:=by
 have u:=qD m K.o K.t S q
 rcases EY K.o K.t K.w S hx with ⟨a,b⟩|⟨a,b⟩<;>rw[a]at u<;>rw[Cs.led,b]<;>exact u
end Cs.Ok
def R9(m:Nat)(ns:List Int)(k:Int)(hk:0<=k):∃C:Cs,C.Ok/\(∀d∈C.ks,bz C.nm 1 d)/\pg.fn (m+9) 50 [.val (.lst (ns.map .int)),.val (.int k)]=.ok (.val (.tup [C.n,C.t])) [.val (.lst (ns.map .int)),.val (.int k)]:=by
 obtain⟨h,g,ks,ls,os,sts,O,T,e⟩:=R8 m ns k hk
 obtain⟨W,w⟩:=S7 O.nk
 exact⟨⟨h,g,ks,ls,os,sts,W⟩,⟨O.nk,T,w⟩,O.kk,e⟩
def La:getD C.n (.int 2)=some (aH C.ls):=by simp[Cs.n,aF];rfl
def V3:getD C.t (.int 0)=some (.tup C.os):=by simp[Cs.t,aK]
def aaM:getD C.t (.int 1)=some (.tup (C.sts.map fB)):=by simp[Cs.t,aK]
def aa0 s:getD (au s) (.int 0)=some (aH s.1):=by simp[au]
def ael s:getD (au s) (.int 1)=some (.int s.2):=by simp[au]
end
abbrev Rs:=List (St×List D)
def kD(R:Rs):List D:=R.map fun p=>au p.1
def vD(R:Rs):List D:=R.map fun p=>.lst p.2
def BP R N:kD (R++N)=kD R++kD N:=List.map_append
def VN R N:vD (R++N)=vD R++vD N:=List.map_append
def oW R:(kD R).length=R.length:=QAq _
theorem Ea:∀a b:List Bool,qe (a.map .bl) (b.map .bl)=decide (a=b)
 |[],[]=>rfl
 |[],_::_=>rfl
 |_::_,[]=>rfl
 |x::a,y::b=>by
  simp only[Qyz,qe,cQ,Ea a b,List.cons.injEq]
  by_cases e:x=y<;>by_cases e':a=b<;>simp[e,e']
def DN a b:cQ (au a) (au b)=decide (a=b):=by
 obtain⟨a,i⟩:=a
 obtain⟨b,j⟩:=b
 simp only[au,aH,cQ,qe,Ea,Bool.and_true,Prod.mk.injEq]
 by_cases e:a=b<;>by_cases e':i=j<;>simp[e,e']<;>omega
theorem Ml t:∀R:Rs,aJ (au t) (kD R)=decide (t∈R.map (·.1))
 |[]=>by simp[kD,aJ]
 |p::R=>by
  have:=Ml t R
  simp only[kD]at this
  simp only[kD,Qyz,aJ,DN,this,QCq]
  by_cases e:p.1=t
  ·simp[e]
  ·have:¬t=p.1:=fun z=>e z.symm
   simp[e,this]
def Lk(s:St):Rs->Option (List D)
 |[]=>none
 |p::R=>if p.1=s then some p.2 else Lk s R
theorem Ux s:∀R:Rs,bZ (au s) (kD R) (vD R)=(Lk s R).map D.lst
 |[]=>rfl
 |p::R=>by
  have:=Ux s R
  simp only[kD,vD]at this
  simp only[kD,vD,Qyz,bZ,DN,this,Lk]
  by_cases e:p.1=s<;>simp[e]
theorem Eu{r:List D}N:∀{R:Rs},Lk s R=some r->Lk s (R++N)=some r
 |[]=>fun e=>by cases e
 |p::R=>fun e=>by
  simp only[QLz,Lk]at e⊢
  split
  ·rename_i z;rw[if_pos z]at e;exact e
  ·rename_i z;rw[if_neg z]at e;exact Eu N e
theorem wL{s:St}{r:List D}:∀{R:Rs}{k:Nat},(R.map (·.1)).Nodup->R[k]? =some (s,r)->Lk s R=some r
 |[],_=>fun _ e=>by cases e
 |p::R,0=>fun _ e=>by cases e;simp[Lk]
 |p::R,k+1=>fun nd e=>by
  have e':R[k]? =some (s,r):=e
  rw[Qyz,List.nodup_cons]at nd
  rw[Lk,if_neg (fun z=>nd.1 (by rw[z];exact QTz (QBz e')))]
  exact wL nd.2 e'
theorem Ly:∀bs:List Bool,Lz (bs.map .bl)=true
 |[]=>rfl
 |b::bs=>by simp[Lz,kA,Ly bs]
theorem Gb:∀bs:List Bool,iD (bs.map .bl)=0
 |[]=>rfl
 |b::bs=>by simp[iD,dep,Gb bs]
def jN(s:St):cN (au s)=true:=by
 simp[au,cN,aH,Lz,kA,Ly,iD,dep,Gb]
def Ek t R:aQ .notin (au t) (.g8 (kD R) (vD R))=some (!decide (t∈R.map (·.1))):=by
 show(if cN _ then some _ else none)=_
 rw[jN,Ml]
 rfl
def MJ{r:List D}(e:Lk s R=some r):getD (.g8 (kD R) (vD R)) (au s)=some (.lst r):=by
 show(if cN _ then bZ _ (kD R) (vD R)else none)=_
 rw[jN,Ux,e]
 rfl
def Uh{r:List D}(e:t∉R.map (·.1))(f:R.length+1<=1000):oK (au t) (.lst r) (.sdt (kD R) (vD R))=some (.sdt (kD (R++[(t,r)])) (vD (R++[(t,r)]))):=by
 have f':fits ((kD R).length+1)=true:=by rw[oW];simp[fits];omega
 show(if cN _&&fits _ then some _ else none)=_
 have i:aJ (au t) (kD R)=false:=by rw[Ml];simpa using e
 have p:putD (au t) (.lst r) (kD R) (vD R)=(kD R++[au t],vD R++[.lst r]):=by unfold putD;rw[i];rfl
 rw[jN,f',p,BP,VN]
 rfl
section
variable{C:Cs}
structure Cs.Ro(C:Cs)(R:Rs):Prop where
 nd:(R.map (·.1)).Nodup
 ok:∀p∈R,C.S p.1
 le:∀p∈R,p.2.length<=R.length
 wr:∀p∈R,∀x∈p.2,x∈C.nm
noncomputable def Cs.new(C:Cs)(s:St)(r:List D):List D->Rs->Rs
 |[],_=>[]
 |x::xs,R=>match C.led s x with
  |none=>C.new s r xs R
  |some t=>if t∈R.map (·.1)then C.new s r xs R else(t,r++[x])::C.new s r xs (R++[(t,r++[x])])
def Bv(Y:C.Ro R)(S:C.S t)(hr:r.length<=R.length+1)(ht:t∉R.map (·.1))(hw:∀x∈r,x∈C.nm):C.Ro (R++[(t,r)]):=by
 refine⟨?_,fun p hp=>?_,fun p hp=>?_,fun p hp=>?_⟩
 ·rw[List.map_append,List.nodup_append]
  exact⟨Y.nd,by simp,fun a ha b hb e=>ht (by
   have:b=t:=by simpa using hb
   rw[<-this,<-e];exact ha)⟩
 ·rcases QXz.mp hp with z|z
  ·exact Y.ok p z
  ·rw[QDz.mp z];exact S
 ·rw[QTq]
  rcases QXz.mp hp with z|z
  ·exact Nat.le_succ_of_le (Y.le p z)
  ·rw[QDz.mp z];exact hr
 ·rcases QXz.mp hp with z|z
  ·exact Y.wr p z
  ·rw[QDz.mp z];exact hw
def qz{x:D}(hw:∀x∈r,x∈C.nm)(hx:x∈C.nm):∀y∈r++[x],y∈C.nm:=fun y hy=>by
 rcases QXz.mp hy with z|z
 ·exact hw y z
 ·rw[QDz.mp z];exact hx
theorem lK(K:C.Ok){s:St}(S:C.S s){r:List D}(hw:∀x∈r,x∈C.nm):∀(xs:List D){R:Rs},(∀x∈xs,x∈C.nm)->C.Ro R->r.length<=R.length->C.Ro (R++C.new s r xs R)
 |[],R,_,Y,_=>by simpa[Cs.new]using Y
 |x::xs,R,hx,Y,hr=>by
  have hx':=fun y hy=>hx y (QYq _ hy)
  rw[Cs.new]
  split
  ·exact lK K S hw xs hx' Y hr
  ·rename_i t e
   split
   ·exact lK K S hw xs hx' Y hr
   ·rename_i ht
    have:=lK K S hw xs hx' (Bv Y (K.HF S e) (by simp;omega) ht (qz hw (hx x QYz))) (by simp;omega)
    rw[QLq]at this
    exact this
noncomputable def allB:Nat->List (List Bool)
 |0=>[[]]
 |n+1=>(allB n).map (true:: ·)++(allB n).map (false:: ·)
theorem z9:∀n,(allB n).length=2 ^n
 |0=>rfl
 |n+1=>by rw[allB,QTq,QAq,QAq,z9 n,Nat.pow_succ];omega
theorem tV:∀bs:List Bool,bs∈allB bs.length
 |[]=>by simp[allB]
 |b::bs=>by
  rw[QBq,allB,QXz]
  cases b
  ·exact .inr (QTz (tV bs))
  ·exact .inl (QTz (tV bs))
noncomputable def Oq(n:Nat):List St:=(allB n).map (·,0)++((allB n).map (·,1)++((allB n).map (·,2)++(allB n).map (·,3)))
def Oo n:(Oq n).length=4*2 ^n:=by
 simp only[Oq,QTq,QAq,z9]
 omega
def Om(h:s.2<4):s∈Oq s.1.length:=by
 obtain⟨bs,j⟩:=s
 have m:=tV bs
 simp only[Oq,QXz,QDq]
 rcases j with _|_|_|_|j
 ·exact .inl ⟨bs,m,rfl⟩
 ·exact .inr (.inl ⟨bs,m,rfl⟩)
 ·exact .inr (.inr (.inl ⟨bs,m,rfl⟩))
 ·exact .inr (.inr (.inr ⟨bs,m,rfl⟩))
 ·simp at h;omega
theorem za:∀(l L:List St),l.Nodup->(∀x∈l,x∈L)->l.length<=L.length
 |[]=>fun _ _ _=>QIq _
 |x::l=>fun L nd m=>by
  rw[List.nodup_cons]at nd
  have mx:=m x QYz
  have:=za l (L.erase x) nd.2 fun y hy=>(List.mem_erase_of_ne fun e=>nd.1 (by rw[<-e];exact hy)).mpr (m y (QYq _ hy))
  rw[List.length_erase_of_mem mx]at this
  have:=List.length_pos_of_mem mx
  rw[QBq]
  omega
def Cs.Ro.pL(K:C.Ok)(X:C.Ro R):R.length<=512:=by
 have a:=za _ (Oq (C.nm).length) X.nd fun s hs=>by
  obtain⟨p,hp,rfl⟩:=QDq.mp hs
  have S:=X.ok p hp
  rw[<-S.l]
  exact Om (Qvq S.j K.t.s4)
 rw[QAq,Oo,cT K.o.h2 K.o.g5]at a
 have h2:=K.o.h2
 have g5:=K.o.g5
 have:2 ^(C.h+C.g)<=2 ^7:=Nat.pow_le_pow_right (by omega) (by omega)
 omega
noncomputable def Cs.nO(C:Cs):Nat->Nat->Rs->Rs
 |0,_,R=>R
 |f+1,k,R=>match R[k]? with
  |none=>R
  |some p=>C.nO f (k+1) (R++C.new p.1 p.2 (C.st p.1) R)
theorem N8(K:C.Ok):∀(f k:Nat){R:Rs},C.Ro R->C.Ro (C.nO f k R)
 |0,_,_,X=>X
 |f+1,k,R,X=>by
  rw[Cs.nO]
  split
  ·exact X
  ·rename_i p e
   have m:=QBz e
   exact N8 K f _ (lK K (X.ok p m) (X.wr p m) _ (fun x hx=>(K.sub (X.ok p m)).subset hx) X (X.le p m))
def sI(ls:List Bool):St:=(ls,0)
def TY(K:C.Ok):C.S (sI C.ls):=⟨by rw[cT K.o.h2 K.o.g5];exact K.o.ll,K.t.s1⟩
def R0(ls:List Bool):Rs:=[(sI ls,[])]
def Gr(K:C.Ok):C.Ro (R0 C.ls):=⟨by simp[R0],fun p hp=>by rw[QDz.mp hp];exact TY K,fun p hp=>by rw[QDz.mp hp];simp,fun p hp=>by rw[QDz.mp hp];simp⟩
end
end Tx
end
section
open PySem Mini
namespace Tx
section
variable{C:Cs}
def kY(s:St):aP (au s)=false:=rfl
def M6 n:pg.fn (n+1) 20 [.val C.n]=.ok (.val (au (sI C.ls))) [.val C.n]:=by
 rfl
def Um:S:=(.cons ACX (.cons (.ite (.and (.cons ADP ABQ)) ABc .nil) .nil))
theorem Eo(n:Nat)(K:C.Ok){s:St}(S:C.S s){r:List D}:∀(xs:List D)(R:Rs)(M:List D)(s5 s6:Sl),(∀x∈xs,x∈C.st s)->C.Ro R->Lk s R=some r->r.length<=R.length->(∀x∈r,x∈C.nm)->M.length<=R.length->bh s5->bh s6->∃Θ Ξ,
  aG (.name 5) (ex (pg.cf (n+3)) Um) xs [.val C.n,.val C.t,.val (au s),.bor (.sdt (kD R) (vD R)),.own (.lst M),s5,s6]=.next [.val C.n,.val C.t,.val (au s),.bor (.sdt (kD (R++C.new s r xs R)) (vD (R++C.new s r xs R))),.own (.lst (M++kD (C.new s r xs R))),Θ,Ξ]
 |[]=>fun R M s5 s6 _ _ _ _ _ _ _ _=>⟨s5,s6,by simp[aG,Cs.new,kD]⟩
 |x::xs=>fun R M s5 s6 hx X lr rl rw_' ml h5 h6=>by
  have lt:=K.jM n S (hx x QYz)
  have hx':=fun y hy=>hx y (QYq _ hy)
  have tt:bj (.name 5) x [.val C.n,.val C.t,.val (au s),.bor (.sdt (kD R) (vD R)),.own (.lst M),s5,s6]=some [.val C.n,.val C.t,.val (au s),.bor (.sdt (kD R) (vD R)),.own (.lst M),.val x,s6]:=by
   rcases h5 with rfl|⟨d,rfl⟩<;>simp[bj,bU]
  rw[aG,tt]
  simp only[Cs.new]
  have c6:∀d,wk 6 [.val C.n,.val C.t,.val (au s),.bor (.sdt (kD R) (vD R)),.own (.lst M),.val x,s6] (.val d) (some s6)=some [.val C.n,.val C.t,.val (au s),.bor (.sdt (kD R) (vD R)),.own (.lst M),.val x,.val d]:=fun d=>by
   rcases h6 with rfl|⟨d,rfl⟩<;>simp
  cases e:C.led s x with
  |none=>
   rw[e]at lt
   have go:ex (pg.cf (n+3)) Um [.val C.n,.val C.t,.val (au s),.bor (.sdt (kD R) (vD R)),.own (.lst M),.val x,s6]=.next [.val C.n,.val C.t,.val (au s),.bor (.sdt (kD R) (vD R)),.own (.lst M),.val x,.val .non]:=by
    simp[Um,lt,c6,iV]
   simp only[go]
   exact Eo n K S xs R M _ _ hx' X lr rl rw_' ml (.inr ⟨_,rfl⟩) (.inr ⟨_,rfl⟩)
  |some t=>
   rw[e]at lt
   have ni:=Ek t R
   by_cases ht:t∈R.map (·.1)
   ·have go:ex (pg.cf (n+3)) Um [.val C.n,.val C.t,.val (au s),.bor (.sdt (kD R) (vD R)),.own (.lst M),.val x,s6]=.next [.val C.n,.val C.t,.val (au s),.bor (.sdt (kD R) (vD R)),.own (.lst M),.val x,.val (au t)]:=by
     rw[QFq ht]at ni
     simp[Um,lt,c6,iV,kY,ni,Ob.d]
    simp only[go,if_pos ht]
    exact Eo n K S xs R M _ _ hx' X lr rl rw_' ml (.inr ⟨_,rfl⟩) (.inr ⟨_,rfl⟩)
   ·have rb:=X.pL K
    have f1:fits (r.length+1)=true:=by simp[fits];omega
    have f2:fits (M.length+1)=true:=by simp[fits];omega
    have go:ex (pg.cf (n+3)) Um [.val C.n,.val C.t,.val (au s),.bor (.sdt (kD R) (vD R)),.own (.lst M),.val x,s6]=.next [.val C.n,.val C.t,.val (au s),.bor (.sdt (kD (R++[(t,r++[x])])) (vD (R++[(t,r++[x])]))),.own (.lst (M++[au t])),.val x,.val (au t)]:=by
     rw[QEz ht]at ni
     simp[Um,lt,c6,iV,kY,ni,Ob.d,MJ lr,aV,f1,Uh (r:=r++[x]) ht (by omega),f2,uR,cZ]
    simp only[go,if_neg ht]
    obtain⟨a,b,z⟩:=Eo n K S xs _ (M++[au t]) _ _ hx' (Bv X (K.HF S e) (by simp;omega) ht (qz rw_' ((K.sub S).subset (hx x QYz)))) (Eu _ lr) (by simp;omega) rw_' (by simp;omega) (.inr ⟨_,rfl⟩) (.inr ⟨_,rfl⟩)
    refine⟨a,b,?_⟩
    rw[show(Fl.next [.val C.n,.val C.t,.val _,.bor _,.own _,.val x,.val _]).turn _=_ from z]
    simp only[QLq,QLz,List.nil_append]
    rfl
def K4 n(K:C.Ok)(X:C.Ro R){k:Nat}{s:St}(e:R[k]? =some (s,r)):
  pg.fn (n+8) 25 [.val C.n,.val C.t,.val (au s),.bor (.sdt (kD R) (vD R))]=.ok (.new (.lst (kD (C.new s r (C.st s) R)))) [.val C.n,.val C.t,.val (au s),.bor (.sdt (kD (R++C.new s r (C.st s) R)) (vD (R++C.new s r (C.st s) R)))]:=by
 have m:=QBz e
 have S:=X.ok _ m
 obtain⟨a,b,z⟩:=Eo (n+4) K S _ R [] .un .un (fun x hx=>hx) X (wL X.nd e) (X.le _ m) (X.wr _ m) (QIq _) (.inl rfl) (.inl rfl)
 have hb:jR=⟨4,7,(.cons _ (.cons (.for_ _ _ Um) _))⟩:=rfl
 rw[yI,hb]
 simp[aV,K.fc n S,items,z,Ob.d]
def R5 x xs:cut (x::xs) (some 1) none=xs:=by
 have a:clip (xs.length+1) 1=1:=by
  unfold clip
  simp
  intro z
  omega
 simp[cut,a]
def Sv x xs:at? (x::xs) 0=some x:=by
 simp
end
end Tx
end
section
open PySem Mini
namespace Tx
section
variable{C:Cs}
def Ri:S:=(.cons ACb (.cons (.ite (.and (.cons ADP ABQ)) ABe .nil) .nil))
def Vh{R:Rs}{k:Nat}{s:St}{r:List D}(e:R[k]? =some (s,r)):at? (kD R) (k:Int)=some (au s):=by
 have l:k<R.length:=(QCz.mp e).1
 rw[gF _ _ (by rw[oW];exact l)]
 simp[kD,e]
theorem Ex(n:Nat)(K:C.Ok){k:Nat}{s:St}(S:C.S s){r:List D}:∀(xs:List D)(R:Rs)(s5 s6:Sl),(∀x∈xs,x∈C.nm)->C.Ro R->R[k]? =some (s,r)->bh s5->bh s6->∃Θ Ξ,bh Θ/\bh Ξ/\
  aG (.name 5) (ex (pg.cf (n+2)) Ri) xs [.val C.n,.val C.t,.own (.lst (kD R)),.own (.sdt (kD R) (vD R)),.val (.int k),s5,s6]=.next [.val C.n,.val C.t,.own (.lst (kD (R++C.new s r xs R))),.own (.sdt (kD (R++C.new s r xs R)) (vD (R++C.new s r xs R))),.val (.int k),Θ,Ξ]
 |[]=>fun R s5 s6 _ _ _ h5 h6=>⟨s5,s6,h5,h6,by simp[aG,Cs.new]⟩
 |x::xs=>fun R s5 s6 hx X er h5 h6=>by
  have ld:=K.Rm n S (bu C.h C.g x (hx x QYz))
  have hx':∀y∈xs,y∈C.nm:=fun y hy=>hx y (QYq _ hy)
  have ak:=Vh er
  have lr:=wL X.nd er
  have rl:=X.le _ (QBz er)
  have tt:bj (.name 5) x [.val C.n,.val C.t,.own (.lst (kD R)),.own (.sdt (kD R) (vD R)),.val (.int k),s5,s6]=some [.val C.n,.val C.t,.own (.lst (kD R)),.own (.sdt (kD R) (vD R)),.val (.int k),.val x,s6]:=by
   rcases h5 with rfl|⟨d,rfl⟩<;>simp[bj,bU]
  rw[aG,tt]
  simp only[Cs.new]
  have c6:∀d,wk 6 [.val C.n,.val C.t,.own (.lst (kD R)),.own (.sdt (kD R) (vD R)),.val (.int k),.val x,s6] (.val d) (some s6)=some [.val C.n,.val C.t,.own (.lst (kD R)),.own (.sdt (kD R) (vD R)),.val (.int k),.val x,.val d]:=fun d=>by
   rcases h6 with rfl|⟨d,rfl⟩<;>simp
  cases e:C.led s x with
  |none=>
   rw[e]at ld
   have go:ex (pg.cf (n+2)) Ri [.val C.n,.val C.t,.own (.lst (kD R)),.own (.sdt (kD R) (vD R)),.val (.int k),.val x,s6]=.next [.val C.n,.val C.t,.own (.lst (kD R)),.own (.sdt (kD R) (vD R)),.val (.int k),.val x,.val .non]:=by
    simp[Ri,ak,ld,c6,iV,Ob.d]
   simp only[go]
   exact Ex n K S xs R (.val x) (.val .non) hx' X er (.inr ⟨_,rfl⟩) (.inr ⟨_,rfl⟩)
  |some t=>
   rw[e]at ld
   have ni:=Ek t R
   by_cases ht:t∈R.map (·.1)
   ·have go:ex (pg.cf (n+2)) Ri [.val C.n,.val C.t,.own (.lst (kD R)),.own (.sdt (kD R) (vD R)),.val (.int k),.val x,s6]=.next [.val C.n,.val C.t,.own (.lst (kD R)),.own (.sdt (kD R) (vD R)),.val (.int k),.val x,.val (au t)]:=by
     rw[QFq ht]at ni
     simp[Ri,ak,ld,c6,iV,kY,ni,Ob.d]
    simp only[go,if_pos ht]
    exact Ex n K S xs R (.val x) (.val (au t)) hx' X er (.inr ⟨_,rfl⟩) (.inr ⟨_,rfl⟩)
   ·have rb:=X.pL K
    have pr:=Uh (t:=t) (r:=r++[x]) (R:=R) ht (by omega)
    have ge:=MJ lr
    have f1:fits (r.length+1)=true:=by have:r.length<=R.length:=rl;simp[fits];omega
    have f2:fits ((kD R).length+1)=true:=by rw[oW];simp[fits];omega
    have ka:kD R++[au t]=kD (R++[(t,r++[x])]):=by rw[BP];rfl
    have go:ex (pg.cf (n+2)) Ri [.val C.n,.val C.t,.own (.lst (kD R)),.own (.sdt (kD R) (vD R)),.val (.int k),.val x,s6]=.next [.val C.n,.val C.t,.own (.lst (kD (R++[(t,r++[x])]))),.own (.sdt (kD (R++[(t,r++[x])])) (vD (R++[(t,r++[x])]))),.val (.int k),.val x,.val (au t)]:=by
     rw[QEz ht]at ni
     simp[Ri,ak,ld,c6,iV,kY,ni,Ob.d,ge,aV,f1,pr,f2,uR,cZ,ka]
    simp only[go,if_neg ht]
    have er':(R++[(t,r++[x])])[k]? =some (s,r):=by
     rw[Qwz (QCz.mp er).1];exact er
    obtain⟨a,b,ha,hb,z⟩:=Ex n K S (r:=r) xs (R++[(t,r++[x])]) (.val x) (.val (au t)) hx' (Bv X (K.HF S e) (by have:r.length<=R.length:=rl;simp;omega) ht (qz (X.wr _ (QBz er)) (hx x QYz))) er' (.inr ⟨_,rfl⟩) (.inr ⟨_,rfl⟩)
    refine⟨a,b,ha,hb,?_⟩
    rw[show(Fl.next [.val C.n,.val C.t,.own (.lst (kD (R++[(t,r++[x])]))),.own (.sdt (kD (R++[(t,r++[x])])) (vD (R++[(t,r++[x])]))),.val (.int k),.val x,.val (au t)]).turn (aG (.name 5) (ex (pg.cf (n+2)) Ri) xs)=_ from z]
    simp only[QLq,QLz,List.nil_append]
def Xw:E:=(.cmp .lt (.var 4) ABW)
def ZG:S:=(.cons (.for_ (.name 5) ACk Ri) (.cons (.set 4 ABd) .nil))
theorem Uu(n:Nat)(K:C.Ok):∀(f k:Nat)(R:Rs)(s5 s6:Sl),C.Ro R->k<=R.length->512<f+k->bh s5->bh s6->∃s4' Θ Ξ,
  cF (ev (pg.cf (n+5)) Xw) (ex (pg.cf (n+5)) ZG) f [.val C.n,.val C.t,.own (.lst (kD R)),.own (.sdt (kD R) (vD R)),.val (.int k),s5,s6]=.next [.val C.n,.val C.t,.own (.lst (kD (C.nO f k R))),.own (.sdt (kD (C.nO f k R)) (vD (C.nO f k R))),s4',Θ,Ξ]
 |0=>fun k R _ _ X hk hf _ _=>by have:=X.pL K;omega
 |f+1=>fun k R s5 s6 X hk hf h5 h6=>by
  have rb:=X.pL K
  have l:=oW R
  by_cases c:k<R.length
  ·obtain⟨p,e⟩:∃p,R[k]? =some p:=⟨_,QXq c⟩
   obtain⟨s,r⟩:=p
   have m:=QBz e
   have S:=X.ok _ m
   have st:=K.HJ n S
   have ak:=Vh e
   obtain⟨a,b,ha,hb,z⟩:=Ex (n+3) K S (C.st s) R s5 s6 (fun x hx=>(K.sub S).subset hx) X e h5 h6
   have X':=lK K S (X.wr _ m) (C.st s) (fun x hx=>(K.sub S).subset hx) X (X.le _ m)
   obtain⟨q4,q5,q6,zz⟩:=Uu n K f (k+1) _ a b X' (by simp;omega) (by omega) ha hb
   refine⟨q4,q5,q6,?_⟩
   have go:ex (pg.cf (n+5)) ZG [.val C.n,.val C.t,.own (.lst (kD R)),.own (.sdt (kD R) (vD R)),.val (.int k),s5,s6]=.next [.val C.n,.val C.t,.own (.lst (kD (R++C.new s r (C.st s) R))),.own (.sdt (kD (R++C.new s r (C.st s) R)) (vD (R++C.new s r (C.st s) R))),.val (.int ((k+1:Nat):Int)),a,b]:=by
    simp[ZG,ak,st,Ob.d,items,z]
   have lt:(k:Int)< (R.length:Int):=by omega
   have te:ev (pg.cf (n+5)) Xw [.val C.n,.val C.t,.own (.lst (kD R)),.own (.sdt (kD R) (vD R)),.val (.int k),s5,s6]=.ok (.val (.bl true)) [.val C.n,.val C.t,.own (.lst (kD R)),.own (.sdt (kD R) (vD R)),.val (.int k),s5,s6]:=by
    simp[Xw,Ob.d,l,c]
   rw[cF,te]
   simp only[Cs.nO,e]
   refine Eq.trans ?_ zz
   show(ex (pg.cf (n+5)) ZG _).turn _=_
   rw[go]
   rfl
  ·have ge:R[k]? =none:=List.getElem?_eq_none (by omega)
   have te:ev (pg.cf (n+5)) Xw [.val C.n,.val C.t,.own (.lst (kD R)),.own (.sdt (kD R) (vD R)),.val (.int k),s5,s6]=.ok (.val (.bl false)) [.val C.n,.val C.t,.own (.lst (kD R)),.own (.sdt (kD R) (vD R)),.val (.int k),s5,s6]:=by
    simp[Xw,Ob.d,l]
    omega
   refine⟨.val (.int k),s5,s6,?_⟩
   rw[cF,te,Cs.nO,ge]
   rfl
def ur(n:Nat)(K:C.Ok):
  pg.fn (n+6) 56 [.val C.n,.val C.t]=.ok (.val (.tup [.lst (kD (C.nO 1000 0 (R0 C.ls))),.g8 (kD (C.nO 1000 0 (R0 C.ls))) (vD (C.nO 1000 0 (R0 C.ls)))])) [.val C.n,.val C.t]:=by
 obtain⟨a,b,c,z⟩:=Uu n K 1000 0 (R0 C.ls) .un .un (Gr K) (QIq _) (by omega) (.inl rfl) (.inl rfl)
 have n2:=La (C:=C)
 have k1:kD (R0 C.ls)=[au (sI C.ls)]:=rfl
 have v1:vD (R0 C.ls)=[.lst []]:=rfl
 rw[k1,v1]at z
 have z':cF (ev (pg.cf (n+5)) Xw) (ex (pg.cf (n+5)) ZG) 1000 [.val C.n,.val C.t,.own (.lst [au (sI C.ls)]),.own (.sdt [au (sI C.ls)] [.lst []]),.val (.int 0),.un,.un]=_:=z
 have tn:(pg.cf (n+5)).turns=1000:=rfl
 have ds:zP [au (sI C.ls),.lst []]=some (.new (.sdt [au (sI C.ls)] [.lst []])):=by
  have:Im [au (sI C.ls),.lst []]=some (.new (.sdt [au (sI C.ls)] [.lst []])):=by
   show(if cN (au (sI C.ls))then _ else none)=_
   rw[jN];rfl
  unfold zP
  rw[this]
  rfl
 have se:D.tup [aH C.ls,.int 0]=au (sI C.ls):=rfl
 have hb:jl=⟨2,7,(.cons ACz (.cons ADU (.cons (.set 4 AAH) (.cons (.while_ Xw ZG) (.cons (.ret (.tup AAr)) .nil)))))⟩:=rfl
 rw[wz,hb]
 simp[n2,aV,se,ds,Ob.d,tn,z']
end
end Tx
end
section
open PySem Mini
namespace Tx
section
variable{C:Cs}
end
mutual
theorem xm:∀d:D,nd d=true->cQ d d=true
 |.non=>fun _=>rfl
 |.bl b=>fun _=>by cases b<;>rfl
 |.int i=>fun _=>by simp[cQ]
 |.str s=>fun _=>by simp[cQ]
 |.tup xs=>fun h=>by simpa[cQ]using sO xs h
 |.lst xs=>fun h=>by simpa[cQ]using sO xs h
 |.cR _ _=>fun h=>by simp[nd]at h
 |.g8 _ _=>fun h=>by simp[nd]at h
theorem sO:∀xs:List D,mC xs=true->qe xs xs=true
 |[]=>fun _=>rfl
 |x::xs=>fun h=>by
  simp only[mC,QUq]at h
  simp[qe,xm x h.1,sO xs h.2]
end
def acH(h:nd d=true/\dep d<=50):aQ .eq d d=some true/\aQ .ne d d=some false:=by
 have o:sU d d=true:=by simp[sU,h.1,h.2]
 constructor
 ·show(if sU d d then some _ else none)=_
  rw[xm _ h.1,o];rfl
 ·show(if sU d d then some _ else none)=_
  rw[xm _ h.1,o];rfl
end Tx
end
section
open PySem Mini
namespace Tx
section
variable{C:Cs}
def Cs.gone(C:Cs)(s t:St)(x:D):List D:=(C.W s.1).filter fun y=> !aJ y (C.W t.1++[x])
def Jv(r:List D):List D->D
 |[]=>.non
 |y::_=>.tup [.str "taken",.lst r,y]
noncomputable def Cs.sf(C:Cs)(s:St)(r:List D)(x:D):D:=
 match C.led s x with
 |none=>.tup [.str "unasked",.lst r]
 |some t=>Jv r (C.gone s t x)
def eY(f:D->D):List D->D
 |[]=>.non
 |x::xs=>if aP (f x)then eY f xs else f x
def ul(os:List D)(st:List (D×Nat)):Bool:=st.any fun m=>aJ m.1 os
noncomputable def Cs.flt(C:Cs)(s:St)(r:List D):D:=
 if (C.st s).isEmpty then(if ul C.os (bw C.sts s.2)then .tup [.str "stuck",.lst r]else .non)else eY (fun x=>C.sf s (r++[x]) x) (C.st s)
def Hs{xs:List D}(t:cD xs):aQ .notin (.str q) (.lst xs)=some (!aJ (.str q) xs):=by
 have o:eX (.str q) xs=true:=by unfold eX;rw[kZ t];rfl
 show(if eX _ xs then some _ else none)=_;rw[o];rfl
def Va:S:=(.cons (.ite ABy ACV .nil) .nil)
def Rq u q ws:aJ (.str u) (ws++[.str q])=(aJ (.str u) ws||decide (u=q)):=by
 rw[oZ]
 congr 1
 simp[aJ,cQ]
 by_cases e:u=q
 ·simp[e]
 ·simp[e]
  exact fun z=>e z.symm
theorem U9(c:Cf)(a b e:Sl)(q:Str)(r:List D){ws:List D}(tw:cD ws):∀(xs:List D)(s6:Sl),cD xs->bh s6->∃Ξ,
  aG (.name 6) (ex c Va) xs [a,b,e,.val (.str q),.val (.lst r),.own (.lst ws),s6]=match xs.filter (fun y=> !aJ y (ws++[.str q]))with
   |[]=>.next [a,b,e,.val (.str q),.val (.lst r),.own (.lst ws),Ξ]
   |y::ys=>.ret (.val (Jv r (y::ys))) [a,b,e,.val (.str q),.val (.lst r),.own (.lst ws),Ξ]
 |[]=>fun s6 _ _=>⟨s6,rfl⟩
 |x::xs=>fun s6 t h6=>by
  obtain⟨u,rfl⟩:=t x QYz
  have tt:bj (.name 6) (.str u) [a,b,e,.val (.str q),.val (.lst r),.own (.lst ws),s6]=some [a,b,e,.val (.str q),.val (.lst r),.own (.lst ws),.val (.str u)]:=by
   rcases h6 with rfl|⟨d,rfl⟩<;>simp[bj,bU]
  obtain⟨Ξ,z⟩:=U9 c a b e q r tw xs _ (fun y hy=>t y (QYq _ hy)) (.inr ⟨_,rfl⟩)
  have ni:=Hs (q:=u) tw
  rw[aG,tt,List.filter_cons,Rq]
  cases c1:aJ _ ws with
  |true=>
   refine⟨Ξ,?_⟩
   rw[c1]at ni
   have go:ex c Va [a,b,e,.val (.str q),.val (.lst r),.own (.lst ws),.val (.str u)]=.next [a,b,e,.val (.str q),.val (.lst r),.own (.lst ws),.val (.str u)]:=by
    by_cases cq:u=q<;>simp[Va,cq,ni,Ob.d]
   simp only[go]
   exact z
  |false=>
   rw[c1]at ni
   by_cases cq:u=q
   ·refine⟨Ξ,?_⟩
    have go:ex c Va [a,b,e,.val (.str q),.val (.lst r),.own (.lst ws),.val (.str u)]=.next [a,b,e,.val (.str q),.val (.lst r),.own (.lst ws),.val (.str u)]:=by
     simp[Va,cq]
    simp only[go,QFq cq]
    exact z
   ·refine⟨.val (.str u),?_⟩
    have go:ex c Va [a,b,e,.val (.str q),.val (.lst r),.own (.lst ws),.val (.str u)]=.ret (.val (.tup [.str "taken",.lst r,.str u])) [a,b,e,.val (.str q),.val (.lst r),.own (.lst ws),.val (.str u)]:=by
     simp[Va,cq,ni,Ob.d,aV]
    simp only[go,QEz cq]
    rfl
theorem YK n(K:C.Ok)(S:C.S s)(hx:x∈C.st s)r:
  pg.fn (n+7) 29 [.val C.n,.val C.t,.val (au s),.val x,.val (.lst r)]=.ok (.val (C.sf s r x)) [.val C.n,.val C.t,.val (au s),.val x,.val (.lst r)]:=by
 have lt:=K.jM (n+3) S hx
 obtain⟨q,rfl⟩:=bu C.h C.g x ((K.sub S).subset hx)
 have u:=K.unasked (n+5) S hx
 have s0:=aa0 s
 have hb:fK=⟨5,7,(.cons _ (.cons _ (.cons (.for_ _ _ Va) _)))⟩:=rfl
 rw[pY,hb]
 unfold Cs.sf
 cases e:C.led s _ with
 |none=>
  rw[e]at u
  simp[u,aV]
 |some t=>
  rw[e]at u lt
  have St:=K.HF S e
  have w1:=K.wpr n St
  have w2:=K.wpr n S
  have t0:=aa0 t
  obtain⟨s6,z⟩:=U9 (pg.cf (n+6)) (.val C.n) (.val C.t) (.val (au s)) q r (K.wtx St) _ .un (K.wtx S) (.inl rfl)
  show _=Res.ok (.val (Jv r ((C.W s.1).filter fun y=> !aJ y _))) _
  cases hf:(C.W s.1).filter _ with
  |nil=>
   rw[hf]at z
   simp[u,lt,iV,t0,w1,w2,s0,Ob.d,items,z,Jv]
  |cons y ys=>
   rw[hf]at z
   simp[u,lt,iV,t0,w1,w2,s0,Ob.d,items,z]
def hoC:E:=.comp 1 (.name 0) (.idx AAc AAf) AAL ACt
theorem Ca n(K:C.Ok)(S:C.S s):
  pg.fn (n+1) 28 [.val C.t,.val (au s)]=.ok (.val (.bl (ul C.os (bw C.sts s.2)))) [.val C.t,.val (au s)]:=by
 have st:=oh S.j
 have e:=sY (c:=pg.cf n) (it:=.idx AAc AAf) (el:=.cmp .isin AAb AAj) (σ:=[.val C.t,.val (au s)]) (τ:=[.val C.t,.val (au s)]) (r:=.val (fB (bw C.sts s.2))) (fun d=>match d with|.tup (a::_)=>.bl (aJ a C.os)|_=>.non) (by simp[aaM (C:=C),ael s,st]) rfl rfl (fun x hx=>by
  obtain⟨m,hm,rfl⟩:=QDq.mp hx
  obtain⟨q,eq⟩:=(gO K.t K.o S.j).1 m.1 (QTz hm)
  simp[nU,V3 (C:=C),eq,(fD (q:=q) (mZ K.t)).2.1])
 have e':ev (pg.cf n) hoC [.val C.t,.val (au s)]=.ok (.new (.lst ((bw C.sts s.2).map fun m=>.bl (aJ m.1 C.os)))) [.val C.t,.val (au s)]:=by
  rw[List.map_map]at e
  exact e
 have bs:∀st:List (D×Nat),bools (st.map fun m=>D.bl (aJ m.1 C.os))=some (st.map fun m=>aJ m.1 C.os):=fun st=>by
  induction st with
  |nil=>rfl
  |cons m st ih=>simp only[Qyz,bools,ih,Option.map_some]
 have ba:b1 .any (.lst ((bw C.sts s.2).map fun m=>D.bl (aJ m.1 C.os)))=some (.val (.bl (ul C.os (bw C.sts s.2)))):=by
  show(bools _).map _=_
  rw[bs]
  simp[ul,List.any_map]
 have hb:pq=⟨2,2,(.cons (.ret (.bi .any hoC)) .nil)⟩:=rfl
 have q:hoC.aB=none:=rfl
 rw[Hf,hb]
 simp[q,e',Ob.d,ba]
def Z0:S:=(.cons ABP (.cons (.ite ADP (.cons (.ret (.var 6)) .nil) .nil) .nil))
theorem Vb(n:Nat)(K:C.Ok){s:St}(S:C.S s){r:List D}(hr:r.length<=512)(a4:Sl):∀(xs:List D)(s5 s6:Sl),(∀x∈xs,x∈C.st s)->bh s5->bh s6->∃Θ Ξ,
  aG (.name 5) (ex (pg.cf (n+7)) Z0) xs [.val C.n,.val C.t,.val (au s),.val (.lst r),a4,s5,s6]=if aP (eY (fun x=>C.sf s (r++[x]) x) xs)then .next [.val C.n,.val C.t,.val (au s),.val (.lst r),a4,Θ,Ξ]
   else .ret (.val (eY (fun x=>C.sf s (r++[x]) x) xs)) [.val C.n,.val C.t,.val (au s),.val (.lst r),a4,Θ,Ξ]
 |[]=>fun s5 s6 _ _ _=>⟨s5,s6,rfl⟩
 |x::xs=>fun s5 s6 hx h5 h6=>by
  have fo:=YK n K S (hx x QYz) (r++[x])
  have f1:fits (r.length+1)=true:=by simp[fits];omega
  have tt:bj (.name 5) x [.val C.n,.val C.t,.val (au s),.val (.lst r),a4,s5,s6]=some [.val C.n,.val C.t,.val (au s),.val (.lst r),a4,.val x,s6]:=by
   rcases h5 with rfl|⟨d,rfl⟩<;>simp[bj,bU]
  have c6:∀d,wk 6 [.val C.n,.val C.t,.val (au s),.val (.lst r),a4,.val x,s6] (.val d) (some s6)=some [.val C.n,.val C.t,.val (au s),.val (.lst r),a4,.val x,.val d]:=fun d=>by
   rcases h6 with rfl|⟨d,rfl⟩<;>simp
  rw[aG,tt]
  simp only[eY]
  cases e:aP (C.sf s _ x)with
  |true=>
   have en:C.sf s (r++[x]) x=.non:=by
    cases he:C.sf s _ x<;>first|rfl|(rw[he]at e;cases e)
   rw[en]at fo
   have go:ex (pg.cf (n+7)) Z0 [.val C.n,.val C.t,.val (au s),.val (.lst r),a4,.val x,s6]=.next [.val C.n,.val C.t,.val (au s),.val (.lst r),a4,.val x,.val .non]:=by
    simp[Z0,aV,Ob.d,f1,fo,c6]
   simp only[go,if_true]
   exact Vb n K S hr a4 xs _ _ (fun y hy=>hx y (QYq _ hy)) (.inr ⟨_,rfl⟩) (.inr ⟨_,rfl⟩)
  |false=>
   refine⟨.val x,.val (C.sf s (r++[x]) x),?_⟩
   have go:ex (pg.cf (n+7)) Z0 [.val C.n,.val C.t,.val (au s),.val (.lst r),a4,.val x,s6]=.ret (.val (C.sf s (r++[x]) x)) [.val C.n,.val C.t,.val (au s),.val (.lst r),a4,.val x,.val (C.sf s (r++[x]) x)]:=by
    simp[Z0,aV,Ob.d,f1,fo,c6,e]
   simp only[go,Qxq,if_false,e]
   rfl
theorem zM n(K:C.Ok)(S:C.S s)(hr:r.length<=512):
  pg.fn (n+8) 27 [.val C.n,.val C.t,.val (au s),.val (.lst r)]=.ok (.val (C.flt s r)) [.val C.n,.val C.t,.val (au s),.val (.lst r)]:=by
 have st:=K.fc n S
 have ho:=Ca (n+6) K S
 obtain⟨a,b,z⟩:=Vb n K S hr (.val (.lst (C.st s))) _ .un .un (fun x hx=>hx) (.inl rfl) (.inl rfl)
 have hb:my=⟨4,7,(.cons _ (.cons _ (.cons (.for_ _ _ Z0) _)))⟩:=rfl
 rw[Bo,hb]
 unfold Cs.flt
 cases c:(C.st s).isEmpty with
 |true=>
  cases co:ul C.os _ with
  |true=>
   rw[co]at ho
   simp[st,Ob.d,c,ho,aV]
  |false=>
   rw[co]at ho
   simp[st,Ob.d,ho,List.isEmpty_iff.mp c,items,aG]
 |false=>
  cases cn:aP (eY _ _)with
  |true=>
   have en:eY (fun x=>C.sf s (r++[x]) x) (C.st s)=.non:=by
    cases he:eY _ _<;>first|rfl|(rw[he]at cn;cases cn)
   rw[cn,if_pos rfl]at z
   rw[en]
   simp[st,Ob.d,c,items,z]
  |false=>
   rw[cn,if_neg (by simp)]at z
   simp[st,Ob.d,c,items,z]
end
end Tx
end
section
open PySem Mini
namespace Tx
section
variable{C:Cs}
def K1(e:aP d=true):d=.non:=by
 cases d<;>first|rfl|cases e
theorem xP:∀(f k:Nat)(R:Rs),∃Z,C.nO f k R=R++Z
 |0=>fun _ R=>⟨[],by simp[Cs.nO]⟩
 |f+1=>fun k R=>by
  rw[Cs.nO]
  split
  ·exact⟨[],by simp⟩
  ·rename_i p e
   obtain⟨Z,z⟩:=xP f _ _
   exact⟨_,by rw[z,QLq]⟩
def Cs.ff(C:Cs):Rs->D
 |[]=>.non
 |p::R=>if aP (C.flt p.1 p.2)then C.ff R else C.flt p.1 p.2
def ZZ:S:=(.cons ABn (.cons (.ite (.cmp .notN (.var 4) ABX) ABf .nil) ABN))
theorem U8(n:Nat)(K:C.Ok):∀(f k:Nat)(R:Rs)(s4:Sl),C.Ro R->k<=R.length->512<f+k->bh s4->∃a b c,
  cF (ev (pg.cf (n+8)) (.var 3)) (ex (pg.cf (n+8)) ZZ) f [.val C.n,.val C.t,.own (.sdt (kD R) (vD R)),.own (.lst (kD (R.drop k))),s4]=
   if aP (C.ff ((C.nO f k R).drop k))then .next [.val C.n,.val C.t,a,b,c]else .ret (.val (C.ff ((C.nO f k R).drop k))) [.val C.n,.val C.t,a,b,c]
 |0=>fun k R _ X hk hf _=>by have:=X.pL K;omega
 |f+1=>fun k R s4 X hk hf h4=>by
  by_cases c:k<R.length
  ·obtain⟨p,e⟩:∃p,R[k]? =some p:=⟨_,QXq c⟩
   obtain⟨s,r⟩:=p
   have m:=QBz e
   have S:=X.ok _ m
   have fa:=zM n K S (Nat.le_trans (X.le _ m) (X.pL K))
   have ge:=MJ (wL X.nd e)
   have dr:kD (R.drop k)=au s::kD (R.drop (k+1)):=by
    rw[List.drop_eq_getElem_cons c]
    rw[QXq c]at e
    simp only[Option.some.injEq]at e
    simp[kD,e]
   have X':=lK K S (X.wr _ m) _ (fun x hx=>(K.sub S).subset hx) X (X.le _ m)
   have rb':=X'.pL K
   simp only[QTq]at rb'
   have fi:fits ((kD (R.drop (k+1))).length+(kD (C.new s r (C.st s) R)).length)=true:=by
    rw[oW,oW,List.length_drop];simp[fits];omega
   have az:=Sv (au s) (kD (R.drop (k+1)))
   have c4:∀d,wk 4 [.val C.n,.val C.t,.own (.sdt (kD R) (vD R)),.val (.lst (au s::kD (R.drop (k+1)))),s4] (.val d) (some s4)=some [.val C.n,.val C.t,.own (.sdt (kD R) (vD R)),.val (.lst (au s::kD (R.drop (k+1)))),.val d]:=fun d=>by
    rcases h4 with rfl|⟨d,rfl⟩<;>simp
   have bd:(C.nO (f+1) k R).drop k=(s,r)::(C.nO f (k+1) (R++C.new s r (C.st s) R)).drop (k+1):=by
    have b1:C.nO (f+1) k R=C.nO f (k+1) (R++C.new s r (C.st s) R):=by simp only[Cs.nO,e]
    obtain⟨Z,z⟩:=xP f _ _
    rw[b1,z,QLq,List.drop_eq_getElem_cons (by simp;omega),List.getElem_append_left c]
    rw[QXq c]at e
    simp only[Option.some.injEq]at e
    rw[e]
   rw[bd,dr,cF]
   simp only[Cs.ff,ago,JW]
   cases cn:aP (C.flt s r)with
   |true=>
    have dd:kD ((R++C.new s r (C.st s) R).drop (k+1))=kD (R.drop (k+1))++kD (C.new s r (C.st s) R):=by
     rw[List.drop_append_of_le_length (by omega),BP]
    rw[K1 cn]at fa
    have go:ex (pg.cf (n+8)) ZZ [.val C.n,.val C.t,.own (.sdt (kD R) (vD R)),.val (.lst (au s::kD (R.drop (k+1)))),s4]=.next [.val C.n,.val C.t,.own (.sdt (kD (R++C.new s r (C.st s) R)) (vD (R++C.new s r (C.st s) R))),.own (.lst (kD ((R++C.new s r (C.st s) R).drop (k+1)))),.val .non]:=by
     rw[dd]
     simp[ZZ,cC,E.fQ,dO,R5,az,K4 n K X e,fi,Ob.d,ge,fa,c4]
    obtain⟨a,b,c',z⟩:=U8 n K f (k+1) _ _ X' (by simp;omega) (by omega) (.inr ⟨_,rfl⟩)
    refine⟨a,b,c',?_⟩
    simp only[if_true]
    rw[<-z]
    simp[Ob.d,go,Out.FN]
    rfl
   |false=>
    have go:ex (pg.cf (n+8)) ZZ [.val C.n,.val C.t,.own (.sdt (kD R) (vD R)),.val (.lst (au s::kD (R.drop (k+1)))),s4]=.ret (.val (C.flt s r)) [.val C.n,.val C.t,.own (.sdt (kD R) (vD R)),.val (.lst (au s::kD (R.drop (k+1)))),.val (C.flt s r)]:=by
     simp[ZZ,az,Ob.d,ge,fa,c4,cn]
    refine⟨.own (.sdt (kD R) (vD R)),.val (.lst (au s::kD (R.drop (k+1)))),.val (C.flt s r),?_⟩
    simp[Ob.d,go,Out.FN,cn]
    rfl
  ·have dk:R.drop k=[]:=List.drop_eq_nil_of_le (by omega)
   refine⟨.own (.sdt (kD R) (vD R)),.val (.lst []),s4,?_⟩
   rw[cF,Cs.nO,(List.getElem?_eq_none (by omega))]
   simp[kD,Ob.d,Out.FN,dk,Cs.ff,aP]
   rfl
theorem M7 n(K:C.Ok):
  pg.fn (n+12) 26 [.val C.n,.val C.t]=.ok (.val (C.ff (C.nO 1000 0 (R0 C.ls)))) [.val C.n,.val C.t]:=by
 have c:=K.checked n
 have f:=M6 (n+10) (C:=C)
 obtain⟨q1,q2,q3,z⟩:=U8 (n+3) K 1000 0 _ .un (Gr K) (QIq _) (by omega) (.inl rfl)
 have k0:kD ((R0 C.ls).drop 0)=[au _]:=rfl
 have k1:kD (R0 C.ls)=[au _]:=rfl
 have v1:vD (R0 C.ls)=[.lst []]:=rfl
 rw[k0,k1,v1,List.drop_zero]at z
 have tn:(pg.cf (n+11)).turns=1000:=rfl
 have ds:zP [au (sI C.ls),.lst []]=some (.new (.sdt [au (sI C.ls)] [.lst []])):=by
  have:Im [au (sI C.ls),.lst []]=some (.new (.sdt [au (sI C.ls)] [.lst []])):=by
   show(if cN _ then _ else none)=_
   rw[jN];rfl
  unfold zP
  rw[this]
  rfl
 have hb:xQ=⟨2,5,(.cons _ (.cons _ (.cons _ (.cons (.while_ _ ZZ) _))))⟩:=rfl
 have bl:∀ks vs:List D,b1 .list (.g8 ks vs)=some _:=fun _ _=>rfl
 rw[Qx,hb]
 generalize C.ff _=d at*
 cases cn:aP d with
 |true=>
  rw[cn,if_pos rfl]at z
  rw[K1 cn]
  simp[c,f,aV,ds,bl,Ob.d,tn,z]
 |false=>
  rw[cn,if_neg (by simp)]at z
  simp[c,f,aV,ds,bl,Ob.d,tn,z]
end
end Tx
end
section
open PySem Mini
namespace Tx
section
variable{C:Cs}
noncomputable def Cs.run(C:Cs):List D->St->Option St
 |[],s=>some s
 |w::ws,s=>if aJ w (C.st s)then(C.led s w).bind (C.run ws)else none
theorem qU:∀(a b:List D)(s:St),C.run (a++b) s=(C.run a s).bind (C.run b)
 |[]=>fun b s=>rfl
 |w::a=>fun b s=>by
  simp only[QLz,Cs.run]
  split
  ·cases C.led s w with
   |none=>rfl
   |some s'=>exact qU a b s'
  ·rfl
end
end Tx
end
section
open PySem Mini
namespace Tx
section
variable{C:Cs}
theorem m6{r:List D}:∀{xs:List D}{R:Rs},p∈C.new s r xs R->∃x∈xs,C.led s x=some p.1/\p.2=r++[x]
 |[],R,hp=>by cases hp
 |x::xs,R,hp=>by
  rw[Cs.new]at hp
  split at hp
  ·obtain⟨y,hy,z⟩:=m6 hp
   exact⟨y,QYq _ hy,z⟩
  ·rename_i t e
   split at hp
   ·obtain⟨y,hy,z⟩:=m6 hp
    exact⟨y,QYq _ hy,z⟩
   ·rcases QCq.mp hp with rfl|hp
    ·exact⟨x,QYz,e,rfl⟩
    ·obtain⟨y,hy,z⟩:=m6 hp
     exact⟨y,QYq _ hy,z⟩
theorem qp{r:List D}(e:C.led s x=some t):∀{xs:List D}{R:Rs},x∈xs->t∈(R++C.new s r xs R).map (·.1)
 |[],R,hx=>by cases hx
 |y::xs,R,hx=>by
  rw[Cs.new]
  split
  ·rename_i ey
   rcases QCq.mp hx with rfl|hx
   ·rw[e]at ey;cases ey
   ·exact qp e hx
  ·rename_i u ey
   split
   ·rename_i hu
    rcases QCq.mp hx with rfl|hx
    ·rw[e]at ey;cases ey
     rw[List.map_append];exact QWz _ hu
    ·exact qp e hx
   ·rcases QCq.mp hx with rfl|hx
    ·rw[e]at ey;cases ey
     simp
    ·have:=qp (r:=r) (R:=R++[(u,r++[y])]) e hx
     rw[QLq]at this
     exact this
structure Cs.Bf(C:Cs)(k:Nat)(R:Rs):Prop where
 run:∀p∈R,C.run p.2 (sI C.ls)=some p.1
 srt:∀(i j:Nat)(p q:St×List D),i<=j->R[i]? =some p->R[j]? =some q->p.2.length<=q.2.length
 clo:∀(j:Nat)(p:St×List D),j<k->R[j]? =some p->∀x∈C.st p.1,∀t,C.led p.1 x=some t->t∈R.map (·.1)
 lvl:∀q,R[k]? =some q->∀p∈R,p.2.length<=q.2.length+1
def xd{R N:Rs}{i:Nat}(e:(R++N)[i]? =some p):R[i]? =some p\/R.length<=i/\p∈N:=by
 by_cases c:i<R.length
 ·rw[Qwz c]at e;exact .inl e
 ·rw[QIz (by omega)]at e
  exact .inr ⟨by omega,QBz e⟩
def Su(K:C.Ok){R:Rs}(X:C.Ro R)(B:C.Bf k R){s:St}(e:R[k]? =some (s,r)):
  C.Bf (k+1) (R++C.new s r (C.st s) R):=by
 have m:=QBz e
 have S:=X.ok _ m
 have nl:∀p∈C.new s r (C.st s) R,p.2.length=r.length+1:=fun p hp=>by
  obtain⟨x,_,_,z⟩:=m6 hp
  rw[z];simp
 have al:∀p∈R++C.new s r _ R,p.2.length<=r.length+1:=fun p hp=>by
  rcases QXz.mp hp with z|z
  ·exact B.lvl _ e p z
  ·rw[nl p z];exact QVz _
 have up:∀i p,R[i]? =some p->(R++C.new s r (C.st s) R)[i]? =some p:=fun i p ei=>by
  rw[Qwz (QCz.mp ei).1];exact ei
 refine⟨fun p hp=>?_,fun i j p q hij ei ej=>?_,fun j p hj ej x hx t et=>?_,fun q eq p hp=>?_⟩
 ·rcases QXz.mp hp with z|z
  ·exact B.run p z
  ·obtain⟨x,hx,ex_,z⟩:=m6 z
   rw[z,qU,B.run _ m]
   have i:aJ x (C.st s)=true:=by
    obtain⟨q,rfl⟩:=K.Gy S x hx
    exact gR hx (K.Gy S)
   simp[Cs.run,i,ex_]
 ·rcases xd ej with z|⟨z1,z2⟩
  ·rcases xd ei with y|⟨y1,y2⟩
   ·exact B.srt i j p q hij y z
   ·have:=(QCz.mp z).1
    omega
  ·rw[nl q z2]
   exact al p (QBz ei)
 ·by_cases c:j=k
  ·subst c
   rw[up _ _ e]at ej
   cases ej
   exact qp et hx
  ·rw[Qwz (by have:=(QCz.mp e).1;omega)]at ej
   rw[List.map_append]
   exact QWz _ (B.clo j p (by omega) ej x hx t et)
 ·have le:r.length<=q.2.length:=by
   rcases xd eq with z|⟨z1,z2⟩
   ·exact B.srt k _ (s,r) q (by omega) e z
   ·rw[nl q z2];omega
  have:=al p hp
  omega
theorem Gq(K:C.Ok):∀(f k:Nat)(R:Rs),C.Ro R->k<=R.length->512<f+k->C.Bf k R->∃m,(C.nO f k R).length<=m/\C.Bf m (C.nO f k R)
 |0=>fun k R X hk hf _=>by have:=X.pL K;omega
 |f+1=>fun k R X hk hf B=>by
  rw[Cs.nO]
  split
  ·rename_i e
   exact⟨k,List.getElem?_eq_none_iff.mp e,B⟩
  ·rename_i p e
   obtain⟨s,r⟩:=p
   have m:=QBz e
   have S:=X.ok _ m
   have kl:=(QCz.mp e).1
   exact Gq K f _ _ (lK K S (X.wr _ m) _ (fun x hx=>(K.sub S).subset hx) X (X.le _ m)) (by simp;omega) (by omega) (Su K X B e)
def Ss:C.Bf 0 (R0 C.ls):=by
 refine⟨fun p hp=>?_,fun i j p q _ ei ej=>?_,fun j p hj=>(by omega),fun q _ p hp=>?_⟩
 ·rw[QDz.mp hp];rfl
 ·have:=QDz.mp (QBz ei)
  rw[this];exact QIq _
 ·rw[QDz.mp hp];exact QIq _
structure Cs.Fi(C:Cs)(F:Rs):Prop where
 ok:C.Ro F
 fst:sI C.ls∈F.map (·.1)
 run:∀p∈F,C.run p.2 (sI C.ls)=some p.1
 srt:∀(i j:Nat)(p q:St×List D),i<=j->F[i]? =some p->F[j]? =some q->p.2.length<=q.2.length
 clo:∀s∈F.map (·.1),∀x∈C.st s,∀t,C.led s x=some t->t∈F.map (·.1)
def Cp(K:C.Ok):C.Fi (C.nO 1000 0 (R0 C.ls)):=by
 obtain⟨m,hm,B⟩:=Gq K 1000 0 _ (Gr K) (QIq _) (by omega) (Ss)
 refine⟨N8 K 1000 0 (Gr K),?_,B.run,B.srt,fun s hs x hx t et=>?_⟩
 ·obtain⟨Z,z⟩:=xP 1000 0 _
  rw[z]
  simp[R0]
 ·obtain⟨p,hp,rfl⟩:=QDq.mp hs
  obtain⟨j,ej⟩:=List.getElem?_of_mem hp
  exact B.clo j p (Qvq (QCz.mp ej).1 hm) ej x hx t et
theorem vH f:∀xs:List D,aP (eY f xs)=xs.all fun x=>aP (f x)
 |[]=>rfl
 |x::xs=>by
  rw[eY,List.all_cons,<-vH f xs]
  cases e:aP (f x)
  ·simp[e]
  ·simp
def GP s r r' x:aP (C.sf s r x)=aP (C.sf s r' x):=by
 unfold Cs.sf
 split
 ·rfl
 ·unfold Jv
  split<;>rfl
theorem sG:∀{R:Rs},aP (C.ff R)=true->∀p∈R,aP (C.flt p.1 p.2)=true
 |[]=>fun _ p hp=>by cases hp
 |q::R=>fun e p hp=>by
  rw[Cs.ff]at e
  cases c:aP (C.flt q.1 q.2)with
  |false=>rw[c]at e;simp only[Qxq,if_false]at e;rw[c]at e;cases e
  |true=>
   rw[c]at e
   rcases QCq.mp hp with rfl|hp
   ·exact c
   ·exact sG (by simpa using e) p hp
theorem jd:∀{R:Rs},aP (C.ff R)=false->∃(k:Nat)(s:St)(r:List D),R[k]? =some (s,r)/\(∀(j:Nat)(p:St×List D),j<k->R[j]? =some p->aP (C.flt p.1 p.2)=true)/\aP (C.flt s r)=false/\C.ff R=C.flt s r
 |[]=>fun e=>by cases e
 |q::R=>fun e=>by
  rw[Cs.ff]at e⊢
  cases c:aP (C.flt q.1 q.2)with
  |false=>exact⟨0,q.1,q.2,rfl,fun j p hj=>(by omega),c,by simp⟩
  |true=>
   rw[c]at e
   obtain⟨k,s,r,a,b,d1,d2⟩:=jd (R:=R) (by simpa using e)
   refine⟨k+1,s,r,a,fun j p hj ej=>?_,d1,by simpa using d2⟩
   cases j with
   |zero=>cases ej;exact c
   |succ j=>exact b j p (by omega) ej
theorem zL{f:D->D}:∀{xs:List D},aP (eY f xs)=false->∃x∈xs,eY f xs=f x/\aP (f x)=false
 |[]=>fun e=>by cases e
 |x::xs=>fun e=>by
  rw[eY]at e⊢
  cases c:aP (f x)with
  |false=>exact⟨x,QYz,by simp,c⟩
  |true=>
   rw[c]at e
   obtain⟨y,hy,a,b⟩:=zL (f:=f) (xs:=xs) (by simpa using e)
   exact⟨y,QYq _ hy,by simpa using a,b⟩
theorem vG(s:St)(r:List D)(e:aP (C.flt s r)=false):
  (C.st s=[]/\ul C.os (bw C.sts s.2)=true/\C.flt s r=.tup [.str "stuck",.lst r])\/
  (∃x∈C.st s,C.led s x=none/\C.flt s r=.tup [.str "unasked",.lst (r++[x])])\/
  (∃x∈C.st s,∃t y,C.led s x=some t/\y∈C.W s.1/\aJ y (C.W t.1++[x])=false/\C.flt s r=.tup [.str "taken",.lst (r++[x]),y]):=by
 unfold Cs.flt at e⊢
 cases c:(C.st s).isEmpty with
 |true=>
  rw[c]at e
  cases co:ul C.os (bw C.sts s.2)with
  |true=>exact .inl ⟨List.isEmpty_iff.mp c,rfl,by simp⟩
  |false=>rw[co]at e;cases e
 |false=>
  rw[c]at e
  simp only[Qxq,if_false]at e⊢
  obtain⟨x,hx,a,b⟩:=zL e
  rw[a]
  unfold Cs.sf at b⊢
  cases el:C.led s x with
  |none=>exact .inr (.inl ⟨x,hx,el,rfl⟩)
  |some t=>
   rw[el]at b
   simp only at b⊢
   cases eg:C.gone s t x with
   |nil=>rw[eg]at b;cases b
   |cons y ys=>
    have hy:y∈C.gone s t x:=by rw[eg];exact QYz
    obtain⟨y1,y2⟩:=List.mem_filter.mp hy
    exact .inr (.inr ⟨x,hx,t,y,el,y1,by simpa using y2,rfl⟩)
end
end Tx
end
section
open PySem Mini
namespace Tx
structure Pt where
 x:D
 y:D
 b:Bool
def aL(p:Pt):D:=.tup [p.x,p.y,.bl p.b]
def hk(p:Pt)(q:D×D):D:=if cQ q.1 p.x then .tup [.str "held",q.2,p.y,.bl p.b]else q.2
noncomputable def wOf(h g:Nat)(ks:List D)(ls:List Bool):List Bool->List D:=Classical.epsilon (Wt h g ks ls)
def hks(g:Nat)(ks:List D)(p:Pt):List D:=((bC g).zip ks).map (hk p)
noncomputable def Cs.hl(C:Cs)(p:Pt):Cs:=⟨C.h,C.g,hks C.g C.ks p,C.ls,C.os,C.sts,wOf C.h C.g (hks C.g C.ks p) C.ls⟩
structure Cs.P(C:Cs)(p:Pt):Prop where
 x:p.x∈bC C.g
 y:p.y∈C.nm
def Cs.L1(C:Cs)(x:D):Prop:=∀d,(x,d)∈(bC C.g).zip C.ks->bz C.nm 1 d
theorem jC(f:D×D->D):∀as bs:List D,as.zip ((as.zip bs).map f)=(as.zip bs).map fun q=>(q.1,f q)
 |[],_=>by simp
 |_::_,[]=>by simp
 |a::as,b::bs=>by simp[jC f as bs]
theorem Jj:∀{xs ys:List D}{x:D},ys.length=xs.length->x∈xs->∃d,(x,d)∈xs.zip ys
 |[],_,_,_,h=>by cases h
 |_::_,[],_,h,_=>by simp at h
 |a::xs,b::ys,x,hl,h=>by
  rcases QCq.mp h with rfl|h
  ·exact⟨b,by simp⟩
  ·obtain⟨d,hd⟩:=Jj (ys:=ys) (by simpa using hl) h
   exact⟨d,QYq _ hd⟩
theorem zm{x:D}:∀{xs ys:List D},ys.length=xs.length->cD xs->x∈xs->∃d,bZ x xs ys=some d/\(x,d)∈xs.zip ys
 |[],_=>fun _ _ h=>by cases h
 |_::_,[]=>fun h _ _=>by simp at h
 |a::xs,b::ys=>fun hl t h=>by
  obtain⟨s,rfl⟩:=t x h
  obtain⟨q,rfl⟩:=t a QYz
  by_cases e:q=s
  ·subst e
   exact⟨b,by simp[bZ,cQ],by simp⟩
  ·obtain⟨d,h1,h2⟩:=zm (x:=.str s) (ys:=ys) (by simpa using hl) (fun y hy=>t y (QYq _ hy)) (by
    rcases QCq.mp h with z|z
    ·cases z;exact absurd rfl e
    ·exact z)
   exact⟨d,by simp[bZ,cQ,e,h1],QYq _ h2⟩
def dM{x y:D}(hx:∃s,x=.str s)(hy:∃s,y=.str s):cQ x y=true↔x=y:=by
 obtain⟨s,rfl⟩:=hx
 obtain⟨t,rfl⟩:=hy
 simp[cQ]
section
variable{C:Cs}{p q:Pt}
def Cs.Ok.lz(K:C.Ok):C.ks.length=(bC C.g).length:=by rw[K.o.kl,b7 K.o.g5]
def Mm(K:C.Ok){x d:D}:(x,d)∈(bC (C.hl p).g).zip (C.hl p).ks↔ ∃d',(x,d')∈(bC C.g).zip C.ks/\d=hk p (x,d'):=by
 show(x,d)∈(bC C.g).zip (((bC C.g).zip C.ks).map (hk p))↔_
 rw[jC,QDq]
 constructor
 ·rintro ⟨⟨a,b⟩,h,e⟩
  cases e
  exact⟨b,h,rfl⟩
 ·rintro ⟨d',h,rfl⟩
  exact⟨_,h,rfl⟩
def U5(K:C.Ok)(P:C.P p)(l:C.L1 p.x):Nk C.h C.g (hks C.g C.ks p) C.ls:=
 ⟨K.o.h2,K.o.g1,K.o.g5,by simp[hks,K.lz,b7 K.o.g5],fun d hd=>by
  obtain⟨⟨x,d'⟩,hq,rfl⟩:=QDq.mp hd
  simp only[hk]
  split
  ·rename_i e
   rw[dM (bD C.g x (List.of_mem_zip hq).1) (bD C.g p.x P.x)]at e
   subst e
   exact .held (l d' hq) P.y
  ·exact K.o.kk d' (List.of_mem_zip hq).2,K.o.ll⟩
def vq(K:C.Ok)(P:C.P p)(l:C.L1 p.x):(C.hl p).Ok:=⟨U5 K P l,K.t,Classical.epsilon_spec (S7 (U5 K P l))⟩
def Mp(K:C.Ok)(P:C.P p){x:D}(hx:x∈bC C.g)(ne:x≠p.x)(l:C.L1 x):(C.hl p).L1 x:=fun d hd=>by
 obtain⟨d',h,rfl⟩:=(Mm K).mp hd
 have e:¬cQ x p.x=true:=fun z=>ne ((dM (bD C.g x hx) (bD C.g p.x P.x)).mp z)
 rw[hk,if_neg e]
 exact l d' h
def Rw(P:C.P q):(C.hl p).P q:=⟨P.x,P.y⟩
def Rt(K:C.Ok)(P:C.P p)(Q:C.P q)(ne:p.x≠q.x):(C.hl p).hl q=(C.hl q).hl p:=by
 have e:hks C.g (hks C.g C.ks p) q=hks C.g (hks C.g C.ks q) p:=by
  simp only[hks]
  rw[jC,jC,List.map_map,List.map_map]
  refine List.map_congr_left fun z hz=>?_
  obtain⟨x,d⟩:=z
  have tx:=bD C.g x (List.of_mem_zip hz).1
  have e1:=dM tx (bD C.g p.x P.x)
  have e2:=dM tx (bD C.g q.x Q.x)
  simp only[Function.comp,hk]
  cases c1:cQ x p.x with
  |false=>simp
  |true=>
   have:cQ x q.x=false:=by
    cases c2:cQ x q.x
    ·rfl
    ·exact absurd ((e1.mp c1).symm.trans (e2.mp c2)) ne
   simp[this]
 show Cs.mk C.h C.g (hks C.g (hks C.g C.ks p) q) C.ls C.os C.sts _=Cs.mk C.h C.g (hks C.g (hks C.g C.ks q) p) C.ls C.os C.sts _
 rw[Cs.mk.injEq]
 refine⟨rfl,rfl,e,rfl,rfl,rfl,?_⟩
 show wOf C.h C.g (hks C.g (hks C.g C.ks p) q) C.ls=wOf C.h C.g (hks C.g (hks C.g C.ks q) p) C.ls
 rw[e]
def Ru(K:C.Ok)(P:C.P p)(l:C.L1 p.x){bs:List Bool}(hb:bs.length=C.nm.length){x:D}:
  (x∈(C.hl p).W bs->x∈C.W bs)/\(x≠p.x->x∈C.W bs->x∈(C.hl p).W bs):=by
 have K':=vq K P l
 have go:x∈bC C.g->(x∈(C.hl p).W bs->x∈C.W bs)/\(x≠p.x->x∈C.W bs->x∈(C.hl p).W bs):=fun hx=>by
  obtain⟨d,hd⟩:=Jj K.lz hx
  have m:=K.w.wm bs hb x d hd
  have m':=K'.w.wm bs hb x (hk p (x,d)) ((Mm K).mpr ⟨d,hd,rfl⟩)
  have e:=dM (bD C.g x hx) (bD C.g p.x P.x)
  rw[m,m']
  constructor
  ·intro z
   simp only[hk]at z
   split at z
   ·rename_i c
    have:=e.mp c
    subst this
    exact PJ (bu C.h C.g) hb (l d hd) P.y z
   ·exact z
  ·intro ne z
   rw[hk,if_neg fun c=>ne (e.mp c)]
   exact z
 exact⟨fun z=>(go ((K'.w.sub bs hb).subset z)).1 z,fun ne z=>(go ((K.w.sub bs hb).subset z)).2 ne z⟩
end
end Tx
end
section
open PySem Mini
namespace Tx
section
variable{C:Cs}{p:Pt}
def Cs.all(C:Cs):Rs:=C.nO 1000 0 (R0 C.ls)
def Cs.fl(C:Cs):D:=C.ff C.all
def fP(x:D):D->Bool
 |.tup (_:: .lst r::ys)=>aJ x r||aJ x ys
 |_=>false
def BW{w:D}{xs:List D}(t:cD xs)(e:aJ w xs=true):w∈xs:=by
 cases c:p8 .str w with
 |false=>rw[UT c t]at e;cases e
 |true=>
  obtain⟨s,rfl⟩:∃s,w=.str s:=by cases w<;>first|exact⟨_,rfl⟩|cases c
  exact(lM t).mp e
def Wh(K:C.Ok)(P:C.P p)(l:C.L1 p.x){s:St}(S:C.S s){x:D}(hx:x∈(C.hl p).st s):x∈C.st s:=by
 rcases QXz.mp hx with z|z
 ·exact QWz _ z
 ·exact QVq _ ((Ru K P l S.l).1 z)
def v8(K:C.Ok)(P:C.P p)(l:C.L1 p.x){s:St}(S:C.S s){x:D}(hx:x∈C.st s)(ne:x≠p.x):x∈(C.hl p).st s:=by
 rcases QXz.mp hx with z|z
 ·exact QWz _ z
 ·exact QVq _ ((Ru K P l S.l).2 ne z)
theorem yD(K:C.Ok)(P:C.P p)(l:C.L1 p.x):∀(r:List D){s t:St},C.S s->C.run r s=some t->(∀x∈r,x≠p.x)->(C.hl p).run r s=some t
 |[],s,t,_,e,_=>e
 |x::r,s,t,S,e,ne=>by
  rw[Cs.run]at e⊢
  split at e
  ·rename_i c
   have K':=vq K P l
   have m:=BW (K.Gy S) c
   have m':=v8 K P l S m (ne x QYz)
   obtain⟨q,rfl⟩:=K.Gy S x m
   have c':aJ (.str q) ((C.hl p).st s)=true:=gR m' (K'.Gy S)
   rw[if_pos c']
   show(C.led s (.str q)).bind _=_
   cases el:C.led s (.str q)with
   |none=>rw[el]at e;cases e
   |some u=>
    rw[el]at e
    exact yD K P l r (K.HF S el) e fun y hy=>ne y (QYq _ hy)
  ·cases e
theorem JS(K:C.Ok){F:Rs}(X:C.Fi F):∀(r:List D){s t:St},s∈F.map (·.1)->C.run r s=some t->t∈F.map (·.1)
 |[],s,t,h,e=>by cases e;exact h
 |x::r,s,t,h,e=>by
  rw[Cs.run]at e
  split at e
  ·rename_i c
   obtain⟨p,hp,rfl⟩:=QDq.mp h
   have m:=BW (K.Gy (X.ok.ok p hp)) c
   cases el:C.led p.1 x with
   |none=>rw[el]at e;cases e
   |some u=>
    rw[el]at e
    exact JS K X r (X.clo _ h x m u el) e
  ·cases e
def RW{s:St}{r:List D}(e:aP (C.flt s r)=true):(C.st s=[]->ul C.os (bw C.sts s.2)=false)/\∀x∈C.st s,∀r',aP (C.sf s r' x)=true:=by
 unfold Cs.flt at e
 cases c:(C.st s).isEmpty with
 |true=>
  rw[c,if_pos rfl]at e
  have:=List.isEmpty_iff.mp c
  refine⟨fun _=>?_,fun x hx=>by rw[this]at hx;cases hx⟩
  cases co:ul C.os (bw C.sts s.2)
  ·rfl
  ·rw[co]at e;cases e
 |false=>
  rw[c,if_neg (by simp),vH,List.all_eq_true]at e
  refine⟨fun z=>(by rw[z]at c;cases c),fun x hx r'=>?_⟩
  rw[GP s r' (r++[x])]
  exact e x hx
def Ft{x y:D}{xs:List D}(hx:∃s,x=.str s)(e:aJ x xs=false)(hy:y∈xs):y≠x:=fun z=>by
 subst z
 obtain⟨s,rfl⟩:=hx
 induction xs with
 |nil=>cases hy
 |cons a xs ih=>
  rw[aJ,Bool.or_eq_false_iff]at e
  rcases QCq.mp hy with z|z
  ·subst z;simp[cQ]at e
  ·exact ih z e.2
def stays(K:C.Ok)(P:C.P p)(l:C.L1 p.x)(hn:aP C.fl=false)(hp:fP p.x C.fl=false):aP (C.hl p).fl=false:=by
 have K':=vq K P l
 have X:=Cp K
 have X':=Cp K'
 have tp:=bD C.g p.x P.x
 cases hb:aP (C.hl p).fl with
 |false=>rfl
 |true=>
  exfalso
  obtain⟨k,s,r,e,_,n,ef⟩:=jd hn
  have m:=QBz e
  have S:=X.ok.ok _ m
  have rn:=X.run _ m
  have ef':C.fl=C.flt s r:=ef
  rw[ef']at hp
  have rch:(∀x∈r,x≠p.x)->((C.hl p).st s=[]->ul C.os (bw C.sts s.2)=false)/\∀x∈(C.hl p).st s,∀r',aP ((C.hl p).sf s r' x)=true:=fun ne=>by
   have i:=JS K' X' r X'.fst (yD K P l r (TY K) rn ne)
   obtain⟨z,hz,rfl⟩:=QDq.mp i
   exact RW (sG hb z hz)
  rcases vG s r n with ⟨a,b,c⟩|⟨x,hx,el,c⟩|⟨x,hx,t,y,el,hy,hi,c⟩
  ·rw[c]at hp
   simp only[fP,Bool.or_eq_false_iff]at hp
   have z:=(rch fun x hx=>Ft tp hp.1 hx).1 (by
    cases h:(C.hl p).st s with
    |nil=>rfl
    |cons x xs=>
     have:=Wh K P l S (x:=x) (by rw[h];exact QYz)
     rw[a]at this
     cases this)
   rw[b]at z
   cases z
  ·rw[c]at hp
   simp only[fP,Bool.or_eq_false_iff]at hp
   have nx:=fun z=>Ft (y:=z) tp hp.1
   have z:=(rch fun z hz=>nx z (QWz _ hz)).2 x (v8 K P l S hx (nx x (by simp))) []
   unfold Cs.sf at z
   rw[show(C.hl p).led s x=none from el]at z
   cases z
  ·rw[c]at hp
   simp only[fP,Bool.or_eq_false_iff]at hp
   have nx:=fun z=>Ft (y:=z) tp hp.1
   have ny:y≠p.x:=Ft tp hp.2 (by simp)
   have St:=K.HF S el
   have z:=(rch fun z hz=>nx z (QWz _ hz)).2 x (v8 K P l S hx (nx x (by simp))) []
   unfold Cs.sf at z
   rw[show(C.hl p).led s x=some t from el]at z
   simp only at z
   have g:y∈(C.hl p).gone s t x:=by
    refine List.mem_filter.mpr ⟨(Ru K P l S.l).2 ny hy,?_⟩
    obtain⟨q,rfl⟩:=K.wtx S y hy
    have:aJ (D.str q) ((C.hl p).W t.1++[x])=false:=by
     rw[oZ,Bool.or_eq_false_iff]at hi⊢
     refine⟨?_,hi.2⟩
     cases h:aJ (D.str q) ((C.hl p).W t.1)with
     |false=>rfl
     |true=>
      have:=(Ru K P l St.l).1 (BW (K'.wtx St) h)
      rw[gR this (K.wtx St)]at hi
      exact hi.1
    rw[this]
    rfl
   cases h:(C.hl p).gone s t x with
   |nil=>rw[h]at g;cases g
   |cons a b=>rw[h]at z;cases z
end
end Tx
end
section
open PySem Mini
namespace Tx
section
variable{C:Cs}{p q:Pt}
def nC(n:Nat)(k x y z:D):pg.fn (n+1) 37 [.val k,.val (.tup [x,y,z])]=.ok (.val (.tup [.str "held",k,y,z])) [.val k,.val (.tup [x,y,z])]:=by
 rw[yQ]
 simp[j0,aV]
def pJ:getD C.n (.int 1)=some (.tup (aO (bC C.g) C.ks)):=by simp[Cs.n,aF]
def Xo:getD C.n (.int 0)=some (.tup (hd C.h)):=by simp[Cs.n,aF]
def S8(n:Nat)(K:C.Ok):pg.fn (n+1) 13 [.val C.n]=.ok (.new (.lst C.nm)) [.val C.n]:=
 dB n (hd C.h) (bC C.g) C.ks (.tup (C.ls.map .bl)) K.lz (by rw[gA K.o.h2,b7 K.o.g5];have:=K.o.h2;have:=K.o.g5;omega)
def yU(n:Nat)(K:C.Ok)(P:C.P p):pg.fn (n+11) 35 [.val C.n,.val (aL p)]=.ok (.val (.bl true)) [.val C.n,.val (aL p)]:=by
 have T:=bu C.h C.g
 have Nd:=names_nodup K.o.h2 K.o.g1 K.o.g5
 have TR:=bD C.g
 have d:=zQ K.lz TR (wu.nodup Nd)
 obtain⟨k,l,hm⟩:=zm K.lz TR P.x
 obtain⟨s,es⟩:=TR p.x P.x
 have t:=bf (n+9) [p.x,p.y,.bl p.b] 3 3 (by simp) (by simp)
 have i1:aJ (.str s) (bC C.g)=true:=by rw[<-es];exact gR P.x TR
 have w1:pg.fn (n+10) 8 [.val p.x,.val (.cR (bC C.g) C.ks)]=.ok (.val (.bl true)) [.val p.x,.val (.cR (bC C.g) C.ks)]:=by
  rw[uQ,es]
  have e:aQ .isin (.str s) (.cR (bC C.g) C.ks)=some true:=by
   show(if keyOk (.str s)then some (aJ (.str s) (bC C.g))else if cN (.str s)&&(bC C.g).isEmpty then some false else none)=_
   rw[i1];rfl
  simp[lC,e]
 have h1:=nC (n+9) k p.x p.y (.bl p.b)
 have nn:=S8 (n+9) K
 have i:=rP T Nd (.held (b:=p.b) (K.o.kk k (List.of_mem_zip hm).2) P.y) n 0 (by simp)
 have g2:getD (.cR (bC C.g) C.ks) p.x=some k:=by
  rw[es]at l⊢
  show(if keyOk (.str s)then bZ (.str s) (bC C.g) C.ks else none)=_
  rw[l];rfl
 have n1:=pJ (C:=C)
 have pe:aL p=.tup [p.x,p.y,.bl p.b]:=rfl
 rw[show n+4+2*(2+1)=n+10 from rfl]at i
 rw[Bl,pe]
 simp[mj,n1,d,t,w1,g2,h1,nn,i]
def wpC:E:=ABK
def af2(K:C.Ok):(C.hl p).n=.tup [.tup (hd C.h),.tup (((bC C.g).zip C.ks).map fun q=>pairD (q.1,hk p q)),.tup (C.ls.map .bl)]:=by
 show D.tup [.tup (hd C.h),.tup (aO (bC C.g) (((bC C.g).zip C.ks).map (hk p))),.tup (C.ls.map .bl)]=_
 rw[b8,jC,List.map_map]
 rfl
def ud(n:Nat)(K:C.Ok)(P:C.P p):pg.fn (n+2) 36 [.val C.n,.val (aL p)]=.ok (.val (C.hl p).n) [.val C.n,.val (aL p)]:=by
 have e:ev (pg.cf (n+1)) wpC [.val C.n,.val (aL p),.un]=.ok (.new (.lst (((bC C.g).zip C.ks).map fun q=>pairD (q.1,hk p q)))) [.val C.n,.val (aL p),.un]:=by
  refine Nv (d:=.tup (aO (bC C.g) C.ks)) (ps:=(bC C.g).zip C.ks) (r:=.val (.tup (aO (bC C.g) C.ks))) (fun q=>pairD (q.1,hk p q)) (by simp[pJ]) rfl (by show some _=some _;rw[b8]) fun q hq=>?_
  obtain⟨s,es⟩:=bD C.g q.1 (List.of_mem_zip hq).1
  obtain⟨t,et⟩:=bD C.g p.x P.x
  have h1:=nC n q.2 p.x p.y (.bl p.b)
  have pd:getD (aL p) (.int 0)=some p.x:=by simp[aL]
  have pe:aL p=.tup [p.x,p.y,.bl p.b]:=rfl
  rw[<-pe]at h1
  cases c:decide (s=t)<;>simp[pd,et,es,c,h1,hk,pairD,aV,cQ]
 have hb:jj=⟨2,3,(.cons (.set 2 wpC) ACI)⟩:=rfl
 rw[wy,hb,af2 K]
 have n2:=La (C:=C)
 simp[e,Xo,n2,aV]
 rfl
def hvB:S:=(.cons (.ite (.not (.call 35 AAr)) ABI .nil) ADn)
def wZ(n:Nat)(K:C.Ok)(P:C.P p)(a b s:Sl)(hs:bh s)(rest:List D):
  aG (.name 3) (ex (pg.cf (n+11)) hvB) (aL p::rest) [a,b,.val C.n,s]=aG (.name 3) (ex (pg.cf (n+11)) hvB) rest [a,b,.val (C.hl p).n,.val (aL p)]:=by
 have e:=yU n K P
 have w:=ud (n+9) K P
 have st:bj (.name 3) (aL p) [a,b,.val C.n,s]=some [a,b,.val C.n,.val (aL p)]:=by
  rcases hs with rfl|⟨d,rfl⟩<;>simp[bj,bU]
 have go:ex (pg.cf (n+11)) hvB [a,b,.val C.n,.val (aL p)]=.next [a,b,.val (C.hl p).n,.val (aL p)]:=by
  simp[hvB,e,w]
 rw[aG,st]
 simp only[go]
 rfl
def held_eq:Dj=⟨2,4,(.cons (.set 2 (.call 0 AAQ)) (.cons (.ite (.not (.isi (.var 1) .tup)) ABI .nil) (.cons (.for_ (.name 3) (.var 1) hvB) ACS)))⟩:=rfl
def Ms(n:Nat)(K:C.Ok)(P:C.P p):pg.fn (n+12) 30 [.val C.n,.val (.tup [aL p])]=.ok (.val (C.hl p).n) [.val C.n,.val (.tup [aL p])]:=by
 have c:pg.fn (n+11) 0 [.val C.n]=.ok (.val C.n) [.val C.n]:=lQ (n+1) K.o
 have z:=wZ n K P (.val C.n) (.val (.tup [aL p])) .un (.inl rfl) []
 rw[aG]at z
 rw[J6,held_eq]
 simp[c,items,z]
def Mr(n:Nat)(K:C.Ok)(P:C.P p)(l:C.L1 p.x)(Q:C.P q):pg.fn (n+12) 30 [.val C.n,.val (.tup [aL p,aL q])]=.ok (.val ((C.hl p).hl q).n) [.val C.n,.val (.tup [aL p,aL q])]:=by
 have c:pg.fn (n+11) 0 [.val C.n]=.ok (.val C.n) [.val C.n]:=lQ (n+1) K.o
 have z:=wZ n K P (.val C.n) (.val (.tup [aL p,aL q])) .un (.inl rfl) [aL q]
 have z':=wZ n (vq K P l) (Rw (p:=p) Q) (.val C.n) (.val (.tup [aL p,aL q])) (.val (aL p)) (.inr ⟨_,rfl⟩) []
 rw[z',aG]at z
 rw[J6,held_eq]
 simp[c,items,z]
def zK(n:Nat)(K:C.Ok):pg.fn (n+12) 26 [.val C.n,.val C.t]=.ok (.val C.fl) [.val C.n,.val C.t]:=M7 n K
end
end Tx
end
section
open PySem Mini
namespace Tx
section
variable{C:Cs}
def two(x y:D):List Pt:=[⟨x,y,false⟩,⟨x,y,true⟩]
def Cs.j8(C:Cs):List Pt:=(bC C.g).flatMap fun x=>C.nm.flatMap (two x)
def mX{p:Pt}(h:p∈C.j8):C.P p:=by
 obtain⟨x,hx,h⟩:=List.mem_flatMap.mp h
 obtain⟨y,hy,h⟩:=List.mem_flatMap.mp h
 simp only[two,QCq,QAz,or_false]at h
 rcases h with rfl|rfl<;>exact⟨hx,hy⟩
def R3{xs:List D}:∀{k:Nat}{d:D},bz xs k d->∃v:Nat,v<=k/\∀n:Nat,pg.fn (n+1+k) 58 [.val d]=.ok (.val (.int v)) [.val d]:=by
 intro k d hk
 induction hk with
 |same=>exact⟨0,by omega,fun n=>by rw[p6,dR];simp[cP]⟩
 |not=>exact⟨0,by omega,fun n=>by rw[p6,dR];simp[cP]⟩
 |and=>exact⟨0,by omega,fun n=>by rw[p6,dR];simp[cP]⟩
 |or=>exact⟨0,by omega,fun n=>by rw[p6,dR];simp[cP]⟩
 |both=>exact⟨0,by omega,fun n=>by rw[p6,dR];simp[cP]⟩
 |table=>exact⟨0,by omega,fun n=>by rw[p6,dR];simp[cP]⟩
 | @held k d x b hk hx ih=>
  obtain⟨v,hv,i⟩:=ih
  refine⟨1+v,by omega,fun n=>?_⟩
  have i:=i n
  rw[<-Nat.add_assoc,dR]
  simp[cP,i]
def piC:E:=.comp 1 (.name 0) (.tup AAv) (.call 35 ACU) (.tup AAt)
def piB:S:=.cons (.extend 4 piC) .nil
theorem Uj(n:Nat)(K:C.Ok){x:D}(hx:x∈bC C.g)(s1 s2:Sl):∀(ys acc:List D)(s5:Sl),(∀y∈ys,y∈C.nm)->acc.length+2*ys.length<=900->bh s5->∃Θ,bh Θ/\
  aG (.name 5) (ex (pg.cf (n+11)) piB) ys [.val C.n,s1,.val x,s2,.own (.lst acc),s5]=.next [.val C.n,s1,.val x,s2,.own (.lst (acc++(ys.flatMap (two x)).map aL)),Θ]
 |[]=>fun acc s5 _ _ h5=>⟨s5,h5,by simp[aG]⟩
 |y::ys=>fun acc s5 hy ha h5=>by
  have tt:bj (.name 5) y [.val C.n,s1,.val x,s2,.own (.lst acc),s5]=some [.val C.n,s1,.val x,s2,.own (.lst acc),.val y]:=by
   rcases h5 with rfl|⟨d,rfl⟩<;>simp[bj,bU]
  have pk:∀b:Bool,pg.fn (n+11) 35 [.val C.n,.val (.tup [x,y,.bl b])]=.ok (.val (.bl true)) [.val C.n,.val (.tup [x,y,.bl b])]:=fun b=>yU n K (p:=⟨x,y,b⟩) ⟨hx,hy y QYz⟩
  have e:ev (pg.cf (n+11)) piC [.val C.n,s1,.val x,s2,.own (.lst acc),.val y]=.ok (.new (.lst [.tup [x,y,.bl false],.tup [x,y,.bl true]])) [.val C.n,s1,.val x,s2,.own (.lst acc),.val y]:=by
   have:=sX (c:=pg.cf (n+11)) (it:=.tup AAv) (co:=.call 35 ACU) (el:=.tup AAt) (σ:=[.val C.n,s1,.val x,s2,.own (.lst acc),.val y]) (τ:=[.val C.n,s1,.val x,s2,.own (.lst acc),.val y]) (d:=.tup [.bl false,.bl true]) (xs:=[.bl false,.bl true]) (r:=.val (.tup [.bl false,.bl true])) (fun d=>.tup [x,y,d]) (fun _=>true) (by simp[aV]) rfl rfl (fun d hd=>by
    obtain⟨b,rfl⟩:∃b,d=.bl b:=by
     simp only[QCq,QAz,or_false]at hd
     rcases hd with rfl|rfl<;>exact⟨_,rfl⟩
    simp[aV,pk]) (fun d _ _=>by simp[aV])
   exact this
  have f:fits (acc.length+2)=true:=by
   simp only[QBq]at ha
   simp[fits];omega
  have go:ex (pg.cf (n+11)) piB [.val C.n,s1,.val x,s2,.own (.lst acc),.val y]=.next [.val C.n,s1,.val x,s2,.own (.lst (acc++(two x y).map aL)),.val y]:=by
   simp[piB,e,f,two,aL,uR,cZ]
  obtain⟨Θ,h5',z⟩:=Uj n K hx s1 s2 ys (acc++(two x y).map aL) (.val y) (fun z hz=>hy z (QYq _ hz)) (by simp[two]at ha⊢;omega) (.inr ⟨_,rfl⟩)
  refine⟨Θ,h5',?_⟩
  rw[aG,tt]
  simp only[go]
  rw[show(Fl.next [.val C.n,s1,.val x,s2,.own (.lst (acc++(two x y).map aL)),.val y]).turn (aG (.name 5) (ex (pg.cf (n+11)) piB) ys)=_ from z]
  simp
def poB:S:=.cons (.for_ (.name 5) (.var 1) piB) .nil
theorem Ui(n:Nat)(K:C.Ok)(s2:Sl):∀(xs acc:List D)(s1 s4 s5:Sl),(∀x∈xs,x∈bC C.g)->acc.length+20*xs.length<=900->(s1=.own (.lst C.nm)\/s1=.val (.lst C.nm))->bh s4->bh s5->∃s1' s4' Θ,
  aG (.name 2) (ex (pg.cf (n+11)) poB) xs [.val C.n,s1,s4,s2,.own (.lst acc),s5]=.next [.val C.n,s1',s4',s2,.own (.lst (acc++(xs.flatMap fun x=>C.nm.flatMap (two x)).map aL)),Θ]
 |[]=>fun acc s1 s4 s5 _ _ _ _ _=>⟨s1,s4,s5,by simp[aG]⟩
 |x::xs=>fun acc s1 s4 s5 hx ha h1 h4 h5=>by
  have nl:C.nm.length=C.h+C.g:=cT K.o.h2 K.o.g5
  have h2:=K.o.h2
  have g5:=K.o.g5
  have tt:bj (.name 2) x [.val C.n,s1,s4,s2,.own (.lst acc),s5]=some [.val C.n,s1,.val x,s2,.own (.lst acc),s5]:=by
   rcases h4 with rfl|⟨d,rfl⟩<;>simp[bj,bU]
  simp only[QBq]at ha
  obtain⟨a5,k5,z⟩:=Uj n K (hx x QYz) (.val (.lst C.nm)) s2 C.nm acc s5 (fun _ h=>h) (by omega) h5
  have go:ex (pg.cf (n+11)) poB [.val C.n,s1,.val x,s2,.own (.lst acc),s5]=.next [.val C.n,.val (.lst C.nm),.val x,s2,.own (.lst (acc++(C.nm.flatMap (two x)).map aL)),a5]:=by
   rcases h1 with rfl|rfl<;>simp[poB,items,z,Ob.d]
  have len:∀ys:List D,((ys.flatMap (two x)).map aL).length=2*ys.length:=fun ys=>by
   induction ys with
   |nil=>rfl
   |cons y ys ih=>simp[two]at ih⊢;omega
  obtain⟨a1,a4,a5',z'⟩:=Ui n K s2 xs (acc++(C.nm.flatMap (two x)).map aL) (.val (.lst C.nm)) (.val x) a5 (fun z hz=>hx z (QYq _ hz)) (by rw[QTq,len];omega) (.inr rfl) (.inr ⟨_,rfl⟩) k5
  refine⟨a1,a4,a5',?_⟩
  rw[aG,tt]
  simp only[go]
  rw[show(Fl.next [.val C.n,.val (.lst C.nm),.val x,s2,.own (.lst (acc++(C.nm.flatMap (two x)).map aL)),a5]).turn (aG (.name 2) (ex (pg.cf (n+11)) poB) xs)=_ from z']
  simp
def Hk(n:Nat)(K:C.Ok):pg.fn (n+12) 34 [.val C.n]=.ok (.new (.lst (C.j8.map aL))) [.val C.n]:=by
 have nl:=b7 K.o.g5
 have g5:=K.o.g5
 have w:=S8 (n+10) K
 have gc:=nF (c:=pg.cf (n+11)) (it:=.idx (.var 0) AAG) (σ:=[.val C.n,.own (.lst C.nm),.un,.un,.un,.un]) (bC C.g) C.ks K.lz (by simp[pJ])
 obtain⟨a1,a4,a5,z⟩:=Ui n K (.val (.lst (bC C.g))) (bC C.g) [] (.own (.lst C.nm)) .un .un (fun _ h=>h) (by simp;omega) (.inl rfl) (.inl rfl) (.inl rfl)
 have hb:jQ=⟨1,6,(.cons (.set 1 ABi) (.cons (.set 3 (vC AAc)) (.cons (.set 4 ABr) (.cons (.for_ (.name 2) (.var 3) poB) ABf))))⟩:=rfl
 rw[yH,hb]
 simp[w,gc,aV,items,z,Ob.d,Cs.j8]
end
end Tx
end
section
open PySem Mini
namespace Tx
section
variable{C:Cs}
def lpW:S:=.cons (.ite ADd ACN .nil) .nil
def lpI:S:=.cons (.for_ (.name 4) (.tup AAv) lpW) .nil
def lpB:S:=.cons (.for_ (.name 3) ACQ lpI) .nil
def XC(n:Nat)(K:C.Ok){x k:D}(hk:bz C.nm 2 k)(y:D)(acc:List D)(ha:acc.length+2<=900)(s4:Sl)(h4:bh s4):
  aG (.name 4) (ex (pg.cf (n+3)) lpW) [.bl false,.bl true] [.val C.n,.own (.lst acc),.val (.tup [x,k]),.val y,s4]=.next [.val C.n,.own (.lst (acc++(two x y).map aL)),.val (.tup [x,k]),.val y,.val (.bl true)]:=by
 obtain⟨v,hv,dk⟩:=R3 hk
 have dk:pg.fn (n+3) 58 [.val k]=.ok (.val (.int v)) [.val k]:=dk n
 have lt:(v:Int)<3:=by omega
 have tt:∀(acc:List D)(s4:Sl)(b:Bool),bh s4->bj (.name 4) (.bl b) [.val C.n,.own (.lst acc),.val (.tup [x,k]),.val y,s4]=some [.val C.n,.own (.lst acc),.val (.tup [x,k]),.val y,.val (.bl b)]:=fun acc s4 b h=>by
  rcases h with rfl|⟨d,rfl⟩<;>simp[bj,bU]
 have f1:fits (acc.length+1)=true:=by simp[fits];omega
 have f2:fits (acc.length+1+1)=true:=by simp[fits];omega
 have go:∀(acc:List D)(b:Bool),fits (acc.length+1)=true->ex (pg.cf (n+3)) lpW [.val C.n,.own (.lst acc),.val (.tup [x,k]),.val y,.val (.bl b)]=.next [.val C.n,.own (.lst (acc++[.tup [x,y,.bl b]])),.val (.tup [x,k]),.val y,.val (.bl b)]:=fun acc b f=>by
  simp[lpW,dk,lt,aV,f,uR,cZ]
 rw[aG,tt _ _ _ h4]
 simp only[go _ _ f1,Fl.turn]
 rw[aG,tt _ _ _ (.inr ⟨_,rfl⟩)]
 simp only[go (acc++[.tup [x,y,.bl false]]) true (by simpa using f2),Fl.turn]
 simp[aG,two,aL]
theorem Li(n:Nat)(K:C.Ok){x k:D}(hk:bz C.nm 2 k):∀(ys acc:List D)(s3 s4:Sl),acc.length+2*ys.length<=900->bh s3->bh s4->∃s3' s4',bh s3'/\bh s4'/\
  aG (.name 3) (ex (pg.cf (n+3)) lpI) ys [.val C.n,.own (.lst acc),.val (.tup [x,k]),s3,s4]=.next [.val C.n,.own (.lst (acc++(ys.flatMap (two x)).map aL)),.val (.tup [x,k]),s3',s4']
 |[]=>fun acc s3 s4 _ h3 h4=>⟨s3,s4,h3,h4,by simp[aG]⟩
 |y::ys=>fun acc s3 s4 ha h3 h4=>by
  simp only[QBq]at ha
  have tt:bj (.name 3) y [.val C.n,.own (.lst acc),.val (.tup [x,k]),s3,s4]=some [.val C.n,.own (.lst acc),.val (.tup [x,k]),.val y,s4]:=by
   rcases h3 with rfl|⟨d,rfl⟩<;>simp[bj,bU]
  have z:=XC n K hk y (x:=x) acc (by omega) s4 h4
  have go:ex (pg.cf (n+3)) lpI [.val C.n,.own (.lst acc),.val (.tup [x,k]),.val y,s4]=.next [.val C.n,.own (.lst (acc++(two x y).map aL)),.val (.tup [x,k]),.val y,.val (.bl true)]:=by
   simp[lpI,aV,items,z]
  obtain⟨a3,a4,k3,k4,z'⟩:=Li n K hk ys (acc++(two x y).map aL) (.val y) (.val (.bl true)) (by simp[two];omega) (.inr ⟨_,rfl⟩) (.inr ⟨_,rfl⟩)
  refine⟨a3,a4,k3,k4,?_⟩
  rw[aG,tt]
  simp only[go]
  rw[show(Fl.next [.val C.n,.own (.lst (acc++(two x y).map aL)),.val (.tup [x,k]),.val y,.val (.bl true)]).turn (aG (.name 3) (ex (pg.cf (n+3)) lpI) ys)=_ from z']
  simp
theorem Lh(n:Nat)(K:C.Ok):∀(qs:List (D×D))(acc:List D)(s2 s3 s4:Sl),(∀q∈qs,bz C.nm 2 q.2)->acc.length+20*qs.length<=900->bh s2->bh s3->bh s4->∃s2' s3' s4',
  aG (.name 2) (ex (pg.cf (n+3)) lpB) (qs.map pairD) [.val C.n,.own (.lst acc),s2,s3,s4]=.next [.val C.n,.own (.lst (acc++((qs.map (·.1)).flatMap fun x=>C.nm.flatMap (two x)).map aL)),s2',s3',s4']
 |[]=>fun acc s2 s3 s4 _ _ _ _ _=>⟨s2,s3,s4,by simp[aG]⟩
 |(x,k)::qs=>fun acc s2 s3 s4 hq ha h2 h3 h4=>by
  have nl:C.nm.length=C.h+C.g:=cT K.o.h2 K.o.g5
  have o2:=K.o.h2
  have g5:=K.o.g5
  simp only[QBq]at ha
  have tt:bj (.name 2) (.tup [x,k]) [.val C.n,.own (.lst acc),s2,s3,s4]=some [.val C.n,.own (.lst acc),.val (.tup [x,k]),s3,s4]:=by
   rcases h2 with rfl|⟨d,rfl⟩<;>simp[bj,bU]
  obtain⟨a3,a4,k3,k4,z⟩:=Li n K (hq _ QYz) (x:=x) C.nm acc s3 s4 (by omega) h3 h4
  have ln:pg.fn (n+3) 51 [.val C.n]=.ok (.new (.lst C.nm)) [.val C.n]:=lN (n+2) K.o
  have go:ex (pg.cf (n+3)) lpB [.val C.n,.own (.lst acc),.val (.tup [x,k]),s3,s4]=.next [.val C.n,.own (.lst (acc++(C.nm.flatMap (two x)).map aL)),.val (.tup [x,k]),a3,a4]:=by
   simp[lpB,ln,items,z,Ob.d]
  have len:∀ys:List D,((ys.flatMap (two x)).map aL).length=2*ys.length:=fun ys=>by
   induction ys with
   |nil=>rfl
   |cons y ys ih=>simp[two]at ih⊢;omega
  obtain⟨b2,b3,b4,z'⟩:=Lh n K qs (acc++(C.nm.flatMap (two x)).map aL) (.val (.tup [x,k])) a3 a4 (fun z hz=>hq z (QYq _ hz)) (by rw[QTq,len];omega) (.inr ⟨_,rfl⟩) k3 k4
  refine⟨b2,b3,b4,?_⟩
  rw[Qyz,show pairD (x,k)=.tup [x,k]from rfl,aG,tt]
  simp only[go]
  rw[show(Fl.next [.val C.n,.own (.lst (acc++(C.nm.flatMap (two x)).map aL)),.val (.tup [x,k]),a3,a4]).turn (aG (.name 2) (ex (pg.cf (n+3)) lpB) (qs.map pairD))=_ from z']
  simp
def ut(n:Nat)(K:C.Ok):pg.fn (n+4) 57 [.val C.n]=.ok (.new (.lst (C.j8.map aL))) [.val C.n]:=by
 have g5:=K.o.g5
 have s2:((bC C.g).zip C.ks).map (·.1)=bC C.g:=List.map_fst_zip (by rw[K.lz];exact QVz _)
 have ll:((bC C.g).zip C.ks).length=C.g:=by rw[<-QAq (f:=(·.1)),s2,b7 K.o.g5]
 obtain⟨a,b,c,z⟩:=Lh n K ((bC C.g).zip C.ks) [] .un .un .un (fun q hq=>K.o.kk q.2 (List.of_mem_zip hq).2) (by simp only[List.length_nil];omega) (.inl rfl) (.inl rfl) (.inl rfl)
 rw[s2]at z
 have hb:jm=⟨1,5,(.cons (.set 1 ABr) (.cons (.for_ (.name 2) AAc lpB) ACv))⟩:=rfl
 have it:items (.tup (aO (bC C.g) C.ks))=some (((bC C.g).zip C.ks).map pairD):=by show some _=some _;rw[b8]
 rw[wA,hb]
 simp[pJ,aV,it,z,Ob.d,Cs.j8]
end
end Tx
end
section
open PySem Mini
namespace Tx
section
variable{C:Cs}
def Em{x:D}(h:x∈C.nm):∃s,x=.str s/\Zy s=true:=by
 have ok:∀s∈Ul 3 5,Zy s=true:=by decide+kernel
 rw[Cs.nm,m7]at h
 obtain⟨s,hs,rfl⟩:=QDq.mp h
 exact⟨s,rfl,ok s (Ep hs)⟩
def P_x{p:Pt}(P:C.P p):p.x∈C.nm:=QVq _ P.x
def Fq{p:Pt}(P:C.P p):cN (aL p)=true:=by
 obtain⟨s,e,o⟩:=Em (P_x P)
 obtain⟨t,e',o'⟩:=Em P.y
 simp[aL,cN,e,e',Lz,kA,o,o',iD,dep]
def Vc{p q:Pt}(P:C.P p)(Q:C.P q):cQ (aL p) (aL q)=true↔p=q:=by
 have a:=dM (bD C.g p.x P.x) (bD C.g q.x Q.x)
 have b:=dM (bu C.h C.g p.y P.y) (bu C.h C.g q.y Q.y)
 obtain⟨px,py,pb⟩:=p
 obtain⟨qx,qy,qb⟩:=q
 simp only[aL,cQ,qe,Bool.and_true,QUq,a,b,Pt.mk.injEq,beq_iff_eq]
theorem UV{p:Pt}(P:C.P p):∀{l:List Pt},(∀q∈l,C.P q)->p∉l->aJ (aL p) (l.map aL)=false
 |[]=>fun _ _=>rfl
 |q::l=>fun h hn=>by
  have e:cQ (aL q) (aL p)=false:=by
   cases c:cQ (aL q) (aL p)
   ·rfl
   ·exact absurd ((Vc (h q QYz) P).mp c) fun z=>hn (by rw[z];exact QYz)
  rw[Qyz,aJ,e,UV P (fun q hq=>h q (QYq _ hq)) fun z=>hn (QYq _ z)]
  rfl
theorem Uv(F:Pt->D){p:Pt}(P:C.P p):∀{l:List Pt},(∀q∈l,C.P q)->p∈l->bZ (aL p) (l.map aL) (l.map F)=some (F p)
 |[]=>fun _ h=>by cases h
 |q::l=>fun h hm=>by
  simp only[Qyz,bZ]
  have e:=Vc (h q QYz) P
  by_cases c:q=p
  ·rw[if_pos (e.mpr c),c]
  ·rw[if_neg fun z=>c (e.mp z)]
   refine Uv F P (fun q hq=>h q (QYq _ hq)) ?_
   rcases QCq.mp hm with z|z
   ·exact absurd z.symm c
   ·exact z
def kJ(F:Pt->D):List Pt->Ob
 |[]=>.dct [] []
 |p::l=>.sdt (aL p::l.map aL) (F p::l.map F)
def abE(F:Pt->D){p:Pt}(P:C.P p){l:List Pt}(h:∀q∈l,C.P q)(hn:p∉l)(hl:l.length<=900):oK (aL p) (F p) (kJ F l)=some (kJ F (l++[p])):=by
 have i:=Fq P
 cases l with
 |nil=>
  show oK (aL p) (F p) (.dct [] [])=some (.sdt [aL p] [F p])
  unfold oK
  simp[show keyOk (aL p)=false from rfl,i]
 |cons q l=>
  have f:fits ((aL q::l.map aL).length+1)=true:=by simp at hl;simp[fits];omega
  have u:putD (aL p) (F p) (aL q::l.map aL) (F q::l.map F)=(aL q::l.map aL++[aL p],F q::l.map F++[F p]):=by
   have:=UV P h hn
   rw[Qyz]at this
   unfold putD
   rw[this]
   rfl
  show(if cN (aL p)&&fits ((aL q::l.map aL).length+1)then some (Ob.sdt (putD (aL p) (F p) (aL q::l.map aL) (F q::l.map F)).1 (putD (aL p) (F p) (aL q::l.map aL) (F q::l.map F)).2)else none)=_
  rw[i,f,u]
  simp[kJ]
def MK(F:Pt->D){p:Pt}(P:C.P p){l:List Pt}(h:∀q∈l,C.P q)(hm:p∈l):getD (kJ F l).d (aL p)=some (F p):=by
 cases l with
 |nil=>cases hm
 |cons q l=>
  show(if cN (aL p)then bZ (aL p) ((q::l).map aL) ((q::l).map F)else none)=_
  rw[Fq P,Uv F P h hm]
  rfl
def WQ(K:C.Ok):C.j8.Nodup:=by
 have Nd:=names_nodup K.o.h2 K.o.g1 K.o.g5
 have Rd:=(wu (h:=C.h) (g:=C.g)).nodup Nd
 refine List.pairwise_flatMap.mpr ⟨fun x _=>List.pairwise_flatMap.mpr ⟨fun y _=>by simp[two],Nd.imp fun{a b}ne p hp q hq e=>?_⟩,Rd.imp fun{a b}ne p hp q hq e=>?_⟩
 ·simp only[two,QCq,QAz,or_false]at hp hq
  rcases hp with rfl|rfl<;>rcases hq with rfl|rfl<;>exact ne (congrArg Pt.y e)
 ·obtain⟨y,_,hp⟩:=List.mem_flatMap.mp hp
  obtain⟨z,_,hq⟩:=List.mem_flatMap.mp hq
  simp only[two,QCq,QAz,or_false]at hp hq
  rcases hp with rfl|rfl<;>rcases hq with rfl|rfl<;>exact ne (congrArg Pt.x e)
def Ef(K:C.Ok):C.j8.length<=70:=by
 have a:∀(x:D)(ys:List D),(ys.flatMap (two x)).length=2*ys.length:=fun x ys=>by
  induction ys with
  |nil=>rfl
  |cons y ys ih=>simp[two]at ih⊢;omega
 have b:∀xs:List D,(xs.flatMap fun x=>C.nm.flatMap (two x)).length=xs.length*(2*C.nm.length):=fun xs=>by
  induction xs with
  |nil=>simp
  |cons x xs ih=>rw[List.flatMap_cons,QTq,ih,a,QBq,Nat.add_one_mul xs.length,Nat.add_comm]
 have nl:C.nm.length=C.h+C.g:=cT K.o.h2 K.o.g5
 have:=b (bC C.g)
 rw[b7 K.o.g5,nl]at this
 show((bC C.g).flatMap fun x=>C.nm.flatMap (two x)).length<=70
 rw[this]
 have h2:=K.o.h2
 have g5:=K.o.g5
 exact Nat.le_trans (Nat.mul_le_mul g5 (by omega:2*(C.h+C.g)<=14)) (by decide)
def RZ(K:C.Ok)(hn:aP C.fl=false):∃w r ys,C.fl=.tup (w:: .lst r::ys)/\(∀x∈r,x∈C.nm)/\(ys=[]\/∃y,ys=[y]/\y∈C.nm):=by
 have X:=Cp K
 obtain⟨k,s,r,e,_,n,ef⟩:=jd hn
 have ef:C.fl=C.flt s r:=ef
 have m:=QBz e
 have S:=X.ok.ok _ m
 have wr:=X.ok.wr _ m
 rcases vG s r n with ⟨a,b,c⟩|⟨x,hx,el,c⟩|⟨x,hx,t,y,el,hy,hi,c⟩
 ·exact⟨_,r,[],by rw[ef,c],wr,.inl rfl⟩
 ·exact⟨_,_,[],by rw[ef,c],qz wr ((K.sub S).subset hx),.inl rfl⟩
 ·exact⟨_,_,[y],by rw[ef,c],qz wr ((K.sub S).subset hx),.inr ⟨y,rfl,QVq _ ((K.w.sub s.1 S.l).subset hy)⟩⟩
def pM(n:Nat)(K:C.Ok)(hn:aP C.fl=false){x:D}(hx:∃s,x=.str s):pg.fn (n+1) 33 [.val x,.val C.fl]=.ok (.val (.bl (fP x C.fl))) [.val x,.val C.fl]:=by
 obtain⟨w,r,ys,e,hr,hy⟩:=RZ K hn
 obtain⟨s,rfl⟩:=hx
 have tr:cD r:=fun x hx=>bu C.h C.g x (hr x hx)
 have ty:cD ys:=fun x hx=>by
  rcases hy with rfl|⟨y,rfl,h⟩
  ·cases hx
  ·rw[QDz.mp hx];exact bu C.h C.g y h
 have i1:=(fD (q:=s) tr).1
 have i2:=(fD (q:=s) ty).2.1
 have c2:cut (w:: .lst r::ys) (some 2) none=ys:=by
  rcases hy with rfl|⟨y,rfl,h⟩<;>simp[cut,clip]
 rw[e,Bm]
 cases h1:aJ (.str s) r<;>rw[h1]at i1<;>simp[mq,fP,i1,h1,cC,E.fQ,dO,c2,i2]
noncomputable def eN(f:Pt->Pt->Bool):List Pt->Option (Pt×Pt)
 |[]=>none
 |p::ps=>match ps.find? (f p)with
  |some q=>some (p,q)
  |none=>eN f ps
noncomputable def Cs.F1(C:Cs)(p:Pt):D:=(C.hl p).fl
noncomputable def Cs.F2(C:Cs)(p q:Pt):D:=((C.hl p).hl q).fl
end
end Tx
end
section
open PySem Mini
namespace Tx
section
variable{C:Cs}
structure Cs.Lw(C:Cs):Prop where
 k:C.Ok
 l:∀x,C.L1 x
theorem Cs.Lw.hl(L:C.Lw){p:Pt}(P:C.P p):(C.hl p).Ok:=vq L.k P (L.l _)
def Cs.Lw.hl2(L:C.Lw){p q:Pt}(P:C.P p)(Q:C.P q)(ne:q.x≠p.x):((C.hl p).hl q).Ok:=vq (L.hl P) (Rw Q) (Mp L.k P Q.x ne (L.l _))
def Vm(n:Nat)(L:C.Lw){p:Pt}(P:C.P p):pg.fn (n+12) 30 [.val C.n,.val (.tup [aL p])]=.ok (.val (C.hl p).n) [.val C.n,.val (.tup [aL p])]/\pg.fn (n+12) 26 [.val (C.hl p).n,.val C.t]=.ok (.val (C.F1 p)) [.val (C.hl p).n,.val C.t]:=⟨Ms n L.k P,zK n (L.hl P)⟩
def Vl(n:Nat)(L:C.Lw){p q:Pt}(P:C.P p)(Q:C.P q)(ne:q.x≠p.x):pg.fn (n+12) 30 [.val C.n,.val (.tup [aL p,aL q])]=.ok (.val ((C.hl p).hl q).n) [.val C.n,.val (.tup [aL p,aL q])]/\pg.fn (n+12) 26 [.val ((C.hl p).hl q).n,.val C.t]=.ok (.val (C.F2 p q)) [.val ((C.hl p).hl q).n,.val C.t]:=⟨Mr n L.k P (L.l _) Q,zK n (L.hl2 P Q ne)⟩
noncomputable def ZD:S:=(.cons (.setIx 2 (.var 3) AAo) (.cons (.ite (.cmp .fQ (.idx (.var 2) (.var 3)) ABX) ACL .nil) .nil))
theorem Us(n:Nat)(L:C.Lw):∀(ps l:List Pt)(s3:Sl),(∀p∈l++ps,C.P p)->(l++ps).Nodup->(l++ps).length<=900->bh s3->∃s3' l',
  aG (.name 3) (ex (pg.cf (n+12)) ZD) (ps.map aL) [.val C.n,.val C.t,.own (kJ C.F1 l),s3]=match ps.find? fun p=>aP (C.F1 p)with
   |some p=>.ret (.val (.tup [aL p])) [.val C.n,.val C.t,.own (kJ C.F1 l'),s3']
   |none=>.next [.val C.n,.val C.t,.own (kJ C.F1 (l++ps)),s3']
 |[]=>fun l s3 _ _ _ _=>⟨s3,l,by simp[aG]⟩
 |p::ps=>fun l s3 hP nd hl h3=>by
  have P:=hP p (by simp)
  have Pl:∀q∈l,C.P q:=fun q hq=>hP q (QWz _ hq)
  have hn:p∉l:=fun z=>by
   rw[List.nodup_append]at nd
   exact nd.2.2 _ z _ QYz rfl
  have e1:l++p::ps=l++[p]++ps:=by simp
  have pt:=abE C.F1 P Pl hn (by simp at hl;omega)
  have gt:=MK C.F1 P (l:=l++[p]) (fun q hq=>hP q (by simp at hq⊢;rcases hq with h|h<;>simp[h])) (by simp)
  obtain⟨f1,f2⟩:=Vm n L P
  have tt:bj (.name 3) (aL p) [.val C.n,.val C.t,.own (kJ C.F1 l),s3]=some [.val C.n,.val C.t,.own (kJ C.F1 l),.val (aL p)]:=by
   rcases h3 with rfl|⟨d,rfl⟩<;>simp[bj,bU]
  rw[Qyz,aG,tt,List.find?_cons]
  cases c:aP (C.F1 p)with
  |true=>
   refine⟨.val (aL p),l++[p],?_⟩
   have go:ex (pg.cf (n+12)) ZD [.val C.n,.val C.t,.own (kJ C.F1 l),.val (aL p)]=.ret (.val (.tup [aL p])) [.val C.n,.val C.t,.own (kJ C.F1 (l++[p])),.val (aL p)]:=by
    simp[ZD,aV,f1,f2,pt,gt,c]
   simp only[go]
   rfl
  |false=>
   have go:ex (pg.cf (n+12)) ZD [.val C.n,.val C.t,.own (kJ C.F1 l),.val (aL p)]=.next [.val C.n,.val C.t,.own (kJ C.F1 (l++[p])),.val (aL p)]:=by
    simp[ZD,aV,f1,f2,pt,gt,c]
   rw[e1]at hP nd hl⊢
   obtain⟨a,b,z⟩:=Us n L ps (l++[p]) (.val (aL p)) hP nd hl (.inr ⟨_,rfl⟩)
   refine⟨a,b,?_⟩
   simp only[go]
   exact z
noncomputable def Cs.cd(C:Cs)(p q:Pt):Bool:= !cQ q.x p.x&&(fP q.x (C.F1 p)&&(fP p.x (C.F1 q)&&aP (C.F2 p q)))
noncomputable def Cs.cl(C:Cs)(p q:Pt):Bool:= !cQ q.x p.x&&aP (C.F2 p q)
def acO(L:C.Lw){p q:Pt}(P:C.P p)(Q:C.P q)(hp:aP (C.F1 p)=false)(hq:aP (C.F1 q)=false):C.cd p q=C.cl p q:=by
 unfold Cs.cd Cs.cl
 by_cases c:q.x=p.x
 ·rw[(dM (bD C.g q.x Q.x) (bD C.g p.x P.x)).mpr c]
  rfl
 ·cases e:aP (C.F2 p q)with
  |false=>simp
  |true=>
   have a:fP q.x (C.F1 p)=true:=by
    cases h:fP q.x (C.F1 p)
    ·have:=stays (C:=C.hl p) (p:=q) (L.hl P) (Rw Q) (Mp L.k P Q.x c (L.l _)) hp h
     rw[show aP ((C.hl p).hl q).fl=true from e]at this
     cases this
    ·rfl
   have b:fP p.x (C.F1 q)=true:=by
    cases h:fP p.x (C.F1 q)
    ·have:=stays (C:=C.hl q) (p:=p) (L.hl Q) (Rw P) (Mp L.k Q P.x (fun z=>c z.symm) (L.l _)) hq h
     rw[Rt L.k Q P c,show aP ((C.hl p).hl q).fl=true from e]at this
     cases this
    ·rfl
   rw[a,b]
   rfl
def QD(p:Pt):getD (aL p) (.int 0)=some p.x:=by simp[aL]
def Xp:S:=(.cons (.ite AAk (.cons (.ite (.cmp .fQ ABt ABX) ADM .nil) .nil) .nil) .nil)
theorem Up(n:Nat)(L:C.Lw){l:List Pt}(hl:∀q∈l,C.P q/\aP (C.F1 q)=false){p:Pt}(hp:p∈l)(s3 s4:Sl):∀(qs:List Pt)(s6:Sl),(∀q∈qs,q∈l)->bh s6->∃Ξ,bh Ξ/\
  aG (.name 6) (ex (pg.cf (n+12)) Xp) (qs.map aL) [.val C.n,.val C.t,.val (kJ C.F1 l).d,s3,s4,.val (aL p),s6]=match qs.find? (C.cd p)with
   |some q=>.ret (.val (.tup [aL p,aL q])) [.val C.n,.val C.t,.val (kJ C.F1 l).d,s3,s4,.val (aL p),Ξ]
   |none=>.next [.val C.n,.val C.t,.val (kJ C.F1 l).d,s3,s4,.val (aL p),Ξ]
 |[]=>fun s6 _ h6=>⟨s6,h6,by simp[aG]⟩
 |q::qs=>fun s6 hq h6=>by
  obtain⟨P,np⟩:=hl p hp
  have hm:=hq q QYz
  obtain⟨Q,nq⟩:=hl q hm
  have gp:=MK C.F1 P (fun q hq=>(hl q hq).1) hp
  have gq:=MK C.F1 Q (fun q hq=>(hl q hq).1) hm
  obtain⟨a,ea⟩:=bD C.g p.x P.x
  obtain⟨b,eb⟩:=bD C.g q.x Q.x
  have p0:=QD p
  have q0:=QD q
  have h1:=pM (n+11) (L.hl P) np (x:=q.x) ⟨b,eb⟩
  have h2:=pM (n+11) (L.hl Q) nq (x:=p.x) ⟨a,ea⟩
  have h1:pg.fn (n+12) 33 [.val q.x,.val (C.F1 p)]=.ok (.val (.bl (fP q.x (C.F1 p)))) [.val q.x,.val (C.F1 p)]:=h1
  have h2:pg.fn (n+12) 33 [.val p.x,.val (C.F1 q)]=.ok (.val (.bl (fP p.x (C.F1 q)))) [.val p.x,.val (C.F1 q)]:=h2
  have tt:bj (.name 6) (aL q) [.val C.n,.val C.t,.val (kJ C.F1 l).d,s3,s4,.val (aL p),s6]=some [.val C.n,.val C.t,.val (kJ C.F1 l).d,s3,s4,.val (aL p),.val (aL q)]:=by
   rcases h6 with rfl|⟨d,rfl⟩<;>simp[bj,bU]
  have go:ex (pg.cf (n+12)) Xp [.val C.n,.val C.t,.val (kJ C.F1 l).d,s3,s4,.val (aL p),.val (aL q)]=if C.cd p q then .ret (.val (.tup [aL p,aL q])) [.val C.n,.val C.t,.val (kJ C.F1 l).d,s3,s4,.val (aL p),.val (aL q)]else .next [.val C.n,.val C.t,.val (kJ C.F1 l).d,s3,s4,.val (aL p),.val (aL q)]:=by
   unfold Cs.cd
   by_cases c:q.x=p.x
   ·have ab:b=a:=by rw[ea,eb]at c;simpa using c
    rw[(dM ⟨b,eb⟩ ⟨a,ea⟩).mpr c]
    simp[Xp,p0,q0,ea,eb,ab]
   ·have ab:¬b=a:=fun z=>c (by rw[ea,eb,z])
    have ce:cQ q.x p.x=false:=by
     cases h:cQ q.x p.x
     ·rfl
     ·exact absurd ((dM ⟨b,eb⟩ ⟨a,ea⟩).mp h) c
    obtain⟨f1,f2⟩:=Vl n L P Q c
    rw[ce]
    rw[ea]at h2 p0
    rw[eb]at h1 q0
    rw[ea,eb]
    cases c1:fP (.str b) (C.F1 p)with
    |false=>
     rw[c1]at h1
     simp[Xp,p0,q0,ab,gp,h1]
    |true=>
     rw[c1]at h1
     cases c2:fP (.str a) (C.F1 q)with
     |false=>
      rw[c2]at h2
      simp[Xp,p0,q0,ab,gp,gq,h1,h2]
     |true=>
      rw[c2]at h2
      cases c3:aP (C.F2 p q)<;>simp[Xp,p0,q0,ab,gp,gq,h1,h2,aV,f1,f2,c3]
  rw[Qyz,aG,tt,List.find?_cons]
  simp only[go]
  cases c:C.cd p q with
  |true=>exact⟨.val (aL q),.inr ⟨_,rfl⟩,rfl⟩
  |false=>
   obtain⟨a,b,z⟩:=Up n L hl hp s3 s4 qs (.val (aL q)) (fun z hz=>hq z (QYq _ hz)) (.inr ⟨_,rfl⟩)
   exact⟨a,b,z⟩
end
end Tx
end
section
open PySem Mini
namespace Tx
section
variable{C:Cs}
def zV(xs:List D)(i:Nat)(h:i+1<=xs.length):cut xs (some ((i:Int)+1)) none=xs.drop (i+1):=by
 have a:clip xs.length ((i:Int)+1)=i+1:=by
  unfold clip
  simp only
  rw[if_neg (by omega),if_neg (by omega),if_neg (by omega)]
  omega
 simp[cut,a]
def vJ{l ps:List Pt}{i:Nat}{p:Pt}(e:l.drop i=p::ps):l.drop (i+1)=ps/\i+1<=l.length/\l[i]? =some p/\p∈l/\∀q∈ps,q∈l:=by
 have hi:i<l.length:=by
  apply Nat.lt_of_not_le
  intro z
  rw[List.drop_eq_nil_of_le z]at e
  cases e
 have e2:=e
 rw[List.drop_eq_getElem_cons hi]at e2
 simp only[List.cons.injEq]at e2
 refine⟨e2.2,hi,by rw[QXq hi,e2.1],?_,fun q hq=>?_⟩
 ·rw[<-e2.1];exact List.getElem_mem hi
 ·exact List.mem_of_mem_drop (i:=i) (by rw[e];exact QYq _ hq)
def od(xs:List D):(Ob.lst xs).d=.lst xs:=rfl
def v4:Option (Pt×Pt)->D
 |none=>.non
 |some z=>.tup [aL z.1,aL z.2]
def ZF:S:=.cons (.for_ (.name 6) (.slc (.var 3) ABd .noneE) Xp) .nil
theorem Ut(n:Nat)(L:C.Lw){l:List Pt}(hl:∀q∈l,C.P q/\aP (C.F1 q)=false):∀(ps:List Pt)(i:Nat)(s4 s5 s6:Sl),l.drop i=ps->bh s4->bh s5->bh s6->∃a b c,
  aG (.tup [4,5]) (ex (pg.cf (n+12)) ZF) (aO (bF i ps.length) (ps.map aL)) [.val C.n,.val C.t,.val (kJ C.F1 l).d,.val (.lst (l.map aL)),s4,s5,s6]=match eN C.cd ps with
   |some z=>.ret (.val (.tup [aL z.1,aL z.2])) [.val C.n,.val C.t,.val (kJ C.F1 l).d,.val (.lst (l.map aL)),a,b,c]
   |none=>.next [.val C.n,.val C.t,.val (kJ C.F1 l).d,.val (.lst (l.map aL)),a,b,c]
 |[]=>fun i s4 s5 s6 _ _ _ _=>⟨s4,s5,s6,by simp[aG,aO,bF,eN]⟩
 |p::ps=>fun i s4 s5 s6 e h4 h5 h6=>by
  obtain⟨e1,hi,_,hp,hs⟩:=vJ e
  have tt:bj (.tup [4,5]) (.tup [.int i,aL p]) [.val C.n,.val C.t,.val (kJ C.F1 l).d,.val (.lst (l.map aL)),s4,s5,s6]=some [.val C.n,.val C.t,.val (kJ C.F1 l).d,.val (.lst (l.map aL)),.val (.int i),.val (aL p),s6]:=by
   rcases h4 with rfl|⟨d,rfl⟩<;>rcases h5 with rfl|⟨d',rfl⟩<;>simp[bj,bU,iQ]
  obtain⟨Ξ,h6',z⟩:=Up n L hl hp (.val (.lst (l.map aL))) (.val (.int i)) ps s6 hs h6
  have ct:=zV (l.map aL) i (by simpa using hi)
  rw[<-List.map_drop,e1]at ct
  rw[QBq,bF,Qyz,aO,aG,tt,eN]
  simp only
  cases c:ps.find? (C.cd p)with
  |some q=>
   rw[c]at z
   refine⟨.val (.int i),.val (aL p),Ξ,?_⟩
   have go:ex (pg.cf (n+12)) ZF [.val C.n,.val C.t,.val (kJ C.F1 l).d,.val (.lst (l.map aL)),.val (.int i),.val (aL p),s6]=.ret (.val (.tup [aL p,aL q])) [.val C.n,.val C.t,.val (kJ C.F1 l).d,.val (.lst (l.map aL)),.val (.int i),.val (aL p),Ξ]:=by
    simp[ZF,cC,E.fQ,dO,ct,items,z,od]
   simp only[go]
   rfl
  |none=>
   rw[c]at z
   have go:ex (pg.cf (n+12)) ZF [.val C.n,.val C.t,.val (kJ C.F1 l).d,.val (.lst (l.map aL)),.val (.int i),.val (aL p),s6]=.next [.val C.n,.val C.t,.val (kJ C.F1 l).d,.val (.lst (l.map aL)),.val (.int i),.val (aL p),Ξ]:=by
    simp[ZF,cC,E.fQ,dO,ct,items,z,od]
   obtain⟨a,b,d,z'⟩:=Ut n L hl ps (i+1) (.val (.int i)) (.val (aL p)) Ξ e1 (.inr ⟨_,rfl⟩) (.inr ⟨_,rfl⟩) h6'
   refine⟨a,b,d,?_⟩
   simp only[go]
   exact z'
def WP(K:C.Ok):∃p l,C.j8=p::l:=by
 cases h:C.j8 with
 |cons p l=>exact⟨p,l,rfl⟩
 |nil=>
  exfalso
  have g1:=K.o.g1
  have lr:=b7 K.o.g5
  cases hr:bC C.g with
  |nil=>rw[hr]at lr;simp at lr;omega
  |cons x xs=>
   have m:(⟨x,x,true⟩:Pt)∈C.j8:=List.mem_flatMap.mpr ⟨x,by rw[hr];exact QYz,List.mem_flatMap.mpr ⟨x,QVq _ (by rw[hr];exact QYz),by simp[two]⟩⟩
   rw[h]at m
   cases m
theorem V1(n:Nat)(L:C.Lw)(hl:∀q∈C.j8,aP (C.F1 q)=false):
  pg.fn (n+13) 32 [.val C.n,.val C.t,.val (kJ C.F1 C.j8).d]=.ok (.val (v4 (eN C.cd C.j8))) [.val C.n,.val C.t,.val (kJ C.F1 C.j8).d]:=by
 obtain⟨a,b,c,z⟩:=Ut n L (l:=C.j8) (fun q hq=>⟨mX hq,hl q hq⟩) C.j8 0 .un .un .un rfl (.inl rfl) (.inl rfl) (.inl rfl)
 have bl:b1 .list (kJ C.F1 C.j8).d=some (.new (.lst (C.j8.map aL))):=by
  obtain⟨p,l,e⟩:=WP L.k
  rw[e]
  rfl
 have hb:fJ=⟨3,7,(.cons ACr (.cons (.for_ (.tup [4,5]) (.enum (.var 3)) ZF) (.cons (.ret ABX) .nil)))⟩:=rfl
 have z0:(((0:Nat):Int))=0:=rfl
 rw[z0]at z
 rw[pX,hb]
 cases f:eN C.cd C.j8 with
 |none=>rw[f]at z;simp[bl,gr,items,z,v4,od]
 |some w=>rw[f]at z;simp[bl,gr,items,z,v4,od]
noncomputable def Cs.Lf(C:Cs)(f:Pt->Pt->Bool):D:=
 if aP C.fl then .tup []else match C.j8.find? fun p=>aP (C.F1 p)with
  |some p=>.tup [aL p]
  |none=>v4 (eN f C.j8)
def gl9:pg.gl 9=some (.int 4):=rfl
def Hw(n:Nat)(L:C.Lw)(g4:C.g<=4):pg.fn (n+14) 31 [.val C.n,.val C.t]=.ok (.val (C.Lf C.cd)) [.val C.n,.val C.t]:=by
 have K:=L.k
 have ck:=K.checked (n+2)
 have f0:=zK (n+1) K
 have po:=Hk (n+1) K
 have pl:=Ef K
 obtain⟨a,b,z⟩:=Us (n+1) L C.j8 [] .un (fun p hp=>mX hp) (WQ K) (by simp;omega) (.inl rfl)
 have hb:tL=⟨2,4,(.cons ADe (.cons (.ite ADt ABI .nil) (.cons (.ite (.cmp .fQ ADq ABX) ABz .nil) (.cons (.set 2 .emp) (.cons (.for_ (.name 3) (.call 34 AAQ) ZD) ADv)))))⟩:=rfl
 have lz:(aO (bC C.g) C.ks).length=C.g:=by rw[ql K.lz,b7 K.o.g5]
 have n4:¬(4:Int)<C.g:=by omega
 rw[J2,hb]
 have e0:kJ C.F1 []=.dct [] []:=rfl
 rw[e0]at z
 unfold Cs.Lf
 cases c0:aP C.fl with
 |true=>simp[ck,pJ,lz,gl9,n4,f0,c0,aV]
 |false=>
  cases f:C.j8.find? fun p=>aP (C.F1 p)with
  |some p=>
   rw[f]at z
   simp[ck,pJ,lz,gl9,n4,f0,c0,po,items,z,od]
  |none=>
   rw[f]at z
   have tw:=V1 n L fun q hq=>by
    have:=List.find?_eq_none.mp f q hq
    simpa using this
   simp[ck,pJ,lz,gl9,n4,f0,c0,po,items,z,od,tw]
end
end Tx
end
section
open PySem Mini
namespace Tx
section
variable{C:Cs}
def ZP:S:=(.cons (.ite (.cmp .fQ AAo ABX) ACL .nil) .nil)
theorem UJ(n:Nat)(L:C.Lw)(s2 s4 s5:Sl):∀(ps:List Pt)(s3:Sl),(∀p∈ps,C.P p)->bh s3->∃s3',bh s3'/\
  aG (.name 3) (ex (pg.cf (n+12)) ZP) (ps.map aL) [.val C.n,.val C.t,s2,s3,s4,s5]=match ps.find? fun p=>aP (C.F1 p)with
   |some p=>.ret (.val (.tup [aL p])) [.val C.n,.val C.t,s2,s3',s4,s5]
   |none=>.next [.val C.n,.val C.t,s2,s3',s4,s5]
 |[]=>fun s3 _ h3=>⟨s3,h3,by simp[aG]⟩
 |p::ps=>fun s3 hP h3=>by
  obtain⟨f1,f2⟩:=Vm n L (hP p QYz)
  have tt:bj (.name 3) (aL p) [.val C.n,.val C.t,s2,s3,s4,s5]=some [.val C.n,.val C.t,s2,.val (aL p),s4,s5]:=by
   rcases h3 with rfl|⟨d,rfl⟩<;>simp[bj,bU]
  rw[Qyz,aG,tt,List.find?_cons]
  cases c:aP (C.F1 p)with
  |true=>
   refine⟨.val (aL p),.inr ⟨_,rfl⟩,?_⟩
   have go:ex (pg.cf (n+12)) ZP [.val C.n,.val C.t,s2,.val (aL p),s4,s5]=.ret (.val (.tup [aL p])) [.val C.n,.val C.t,s2,.val (aL p),s4,s5]:=by
    simp[ZP,aV,f1,f2,c]
   simp only[go]
   rfl
  |false=>
   have go:ex (pg.cf (n+12)) ZP [.val C.n,.val C.t,s2,.val (aL p),s4,s5]=.next [.val C.n,.val C.t,s2,.val (aL p),s4,s5]:=by
    simp[ZP,aV,f1,f2,c]
   obtain⟨a,b,z⟩:=UJ n L s2 s4 s5 ps (.val (aL p)) (fun q hq=>hP q (QYq _ hq)) (.inr ⟨_,rfl⟩)
   refine⟨a,b,?_⟩
   simp only[go]
   exact z
def l3B:S:=(.cons (.ite (.and (.cons ADT (.cons (.cmp .fQ ACH ABX) .nil))) ADc .nil) .nil)
theorem Uz(n:Nat)(L:C.Lw){l:List Pt}(hl:∀q∈l,C.P q){p:Pt}{i:Nat}(hp:l[i]? =some p)(s3:Sl):∀(qs:List Pt)(s5:Sl),(∀q∈qs,q∈l)->bh s5->∃Θ,bh Θ/\
  aG (.name 5) (ex (pg.cf (n+12)) l3B) (qs.map aL) [.val C.n,.val C.t,.val (.lst (l.map aL)),s3,.val (.int i),s5]=match qs.find? (C.cl p)with
   |some q=>.ret (.val (.tup [aL p,aL q])) [.val C.n,.val C.t,.val (.lst (l.map aL)),s3,.val (.int i),Θ]
   |none=>.next [.val C.n,.val C.t,.val (.lst (l.map aL)),s3,.val (.int i),Θ]
 |[]=>fun s5 _ h5=>⟨s5,h5,by simp[aG]⟩
 |q::qs=>fun s5 hq h5=>by
  have hi:=(QCz.mp hp).1
  have P:=hl p (QBz hp)
  have Q:=hl q (hq q QYz)
  obtain⟨a,ea⟩:=bD C.g p.x P.x
  obtain⟨b,eb⟩:=bD C.g q.x Q.x
  have p0:=QD p
  have q0:=QD q
  have ge:at? (l.map aL) (i:Int)=some (aL p):=by
   rw[gF _ _ (by simpa using hi),QFz,hp]
   rfl
  have tt:bj (.name 5) (aL q) [.val C.n,.val C.t,.val (.lst (l.map aL)),s3,.val (.int i),s5]=some [.val C.n,.val C.t,.val (.lst (l.map aL)),s3,.val (.int i),.val (aL q)]:=by
   rcases h5 with rfl|⟨d,rfl⟩<;>simp[bj,bU]
  have go:ex (pg.cf (n+12)) l3B [.val C.n,.val C.t,.val (.lst (l.map aL)),s3,.val (.int i),.val (aL q)]=if C.cl p q then .ret (.val (.tup [aL p,aL q])) [.val C.n,.val C.t,.val (.lst (l.map aL)),s3,.val (.int i),.val (aL q)]else .next [.val C.n,.val C.t,.val (.lst (l.map aL)),s3,.val (.int i),.val (aL q)]:=by
   unfold Cs.cl
   by_cases c:q.x=p.x
   ·have ab:b=a:=by rw[ea,eb]at c;simpa using c
    rw[(dM ⟨b,eb⟩ ⟨a,ea⟩).mpr c]
    simp[l3B,ge,p0,q0,ea,eb,ab]
   ·have ab:¬b=a:=fun z=>c (by rw[ea,eb,z])
    have ce:cQ q.x p.x=false:=by
     cases h:cQ q.x p.x
     ·rfl
     ·exact absurd ((dM ⟨b,eb⟩ ⟨a,ea⟩).mp h) c
    obtain⟨f1,f2⟩:=Vl n L P Q c
    rw[ce]
    rw[ea]at p0
    rw[eb]at q0
    cases c3:aP (C.F2 p q)<;>simp[l3B,ge,p0,q0,ab,aV,f1,f2,c3]
  rw[Qyz,aG,tt,List.find?_cons]
  simp only[go]
  cases c:C.cl p q with
  |true=>exact⟨.val (aL q),.inr ⟨_,rfl⟩,rfl⟩
  |false=>
   obtain⟨a,b,z⟩:=Uz n L hl hp s3 qs (.val (aL q)) (fun z hz=>hq z (QYq _ hz)) (.inr ⟨_,rfl⟩)
   exact⟨a,b,z⟩
def ZM:S:=.cons (.for_ (.name 5) (.slc (.var 2) ABd .noneE) l3B) .nil
theorem UG(n:Nat)(L:C.Lw){l:List Pt}(hl:∀q∈l,C.P q)(s3:Sl):∀(ps:List Pt)(i:Nat)(s4 s5:Sl),l.drop i=ps->bh s4->bh s5->∃a b,
  aG (.name 4) (ex (pg.cf (n+12)) ZM) (bF i ps.length) [.val C.n,.val C.t,.val (.lst (l.map aL)),s3,s4,s5]=match eN C.cl ps with
   |some z=>.ret (.val (.tup [aL z.1,aL z.2])) [.val C.n,.val C.t,.val (.lst (l.map aL)),s3,a,b]
   |none=>.next [.val C.n,.val C.t,.val (.lst (l.map aL)),s3,a,b]
 |[]=>fun i s4 s5 _ _ _=>⟨s4,s5,by simp[aG,bF,eN]⟩
 |p::ps=>fun i s4 s5 e h4 h5=>by
  obtain⟨e1,hi,gp,hp,hs⟩:=vJ e
  have tt:bj (.name 4) (.int i) [.val C.n,.val C.t,.val (.lst (l.map aL)),s3,s4,s5]=some [.val C.n,.val C.t,.val (.lst (l.map aL)),s3,.val (.int i),s5]:=by
   rcases h4 with rfl|⟨d,rfl⟩<;>simp[bj,bU]
  obtain⟨Θ,h5',z⟩:=Uz n L hl gp s3 ps s5 hs h5
  have ct:=zV (l.map aL) i (by simpa using hi)
  rw[<-List.map_drop,e1]at ct
  rw[QBq,bF,aG,tt,eN]
  simp only
  cases c:ps.find? (C.cl p)with
  |some q=>
   rw[c]at z
   refine⟨.val (.int i),Θ,?_⟩
   have go:ex (pg.cf (n+12)) ZM [.val C.n,.val C.t,.val (.lst (l.map aL)),s3,.val (.int i),s5]=.ret (.val (.tup [aL p,aL q])) [.val C.n,.val C.t,.val (.lst (l.map aL)),s3,.val (.int i),Θ]:=by
    simp[ZM,cC,E.fQ,dO,ct,items,z,od]
   simp only[go]
   rfl
  |none=>
   rw[c]at z
   have go:ex (pg.cf (n+12)) ZM [.val C.n,.val C.t,.val (.lst (l.map aL)),s3,.val (.int i),s5]=.next [.val C.n,.val C.t,.val (.lst (l.map aL)),s3,.val (.int i),Θ]:=by
    simp[ZM,cC,E.fQ,dO,ct,items,z,od]
   obtain⟨a,b,z'⟩:=UG n L hl s3 ps (i+1) (.val (.int i)) Θ e1 (.inr ⟨_,rfl⟩) h5'
   refine⟨a,b,?_⟩
   simp only[go]
   exact z'
def Il(n:Nat)(L:C.Lw):pg.fn (n+13) 59 [.val C.n,.val C.t]=.ok (.val (C.Lf C.cl)) [.val C.n,.val C.t]:=by
 have K:=L.k
 have f0:=zK n K
 have po:=ut (n+8) K
 obtain⟨a3,k3,z⟩:=UJ n L (.val (.lst (C.j8.map aL))) .un .un C.j8 .un (fun p hp=>mX hp) (.inl rfl)
 obtain⟨a4,a5,z'⟩:=UG n L (l:=C.j8) (fun p hp=>mX hp) a3 C.j8 0 .un .un rfl (.inl rfl) (.inl rfl)
 have z0:(((0:Nat):Int))=0:=rfl
 rw[z0]at z'
 have hb:jX=⟨2,6,(.cons (.ite (.cmp .fQ ADq ABX) ABz .nil) (.cons (.set 2 (.call 57 AAQ)) (.cons (.for_ (.name 3) (.var 2) ZP) (.cons (.for_ (.name 4) (.range1 ABW) ZM) (.cons (.ret ABX) .nil)))))⟩:=rfl
 rw[yN,hb]
 have pl:=Ef K
 have ff:fits C.j8.length=true:=by simp[fits];omega
 have md:Ag (C.j8.length:Int)=true:=by simp[Ag];omega
 unfold Cs.Lf
 cases c0:aP C.fl with
 |true=>simp[f0,c0,aV]
 |false=>
  cases f:C.j8.find? fun p=>aP (C.F1 p)with
  |some p=>
   rw[f]at z
   simp[f0,c0,po,items,z,od]
  |none=>
   rw[f]at z
   cases f2:eN C.cl C.j8 with
   |none=>rw[f2]at z';simp[f0,c0,po,items,z,z',od,v4,ff,md]
   |some w=>rw[f2]at z';simp[f0,c0,po,items,z,z',od,v4,ff,md]
theorem sH{f g:Pt->Bool}:∀{l:List Pt},(∀q∈l,f q=g q)->l.find? f=l.find? g
 |[]=>fun _=>rfl
 |q::l=>fun h=>by rw[List.find?_cons,List.find?_cons,h q QYz,sH fun x hx=>h x (QYq _ hx)]
theorem pO{f g:Pt->Pt->Bool}:∀{l:List Pt},(∀p∈l,∀q∈l,f p q=g p q)->eN f l=eN g l
 |[]=>fun _=>rfl
 |p::l=>fun h=>by
  rw[eN,eN,sH fun q hq=>h p QYz q (QYq _ hq),pO fun a ha b hb=>h a (QYq _ ha) b (QYq _ hb)]
def Xv(L:C.Lw):C.Lf C.cd=C.Lf C.cl:=by
 unfold Cs.Lf
 split
 ·rfl
 ·cases f:C.j8.find? fun p=>aP (C.F1 p)with
  |some p=>rfl
  |none=>
   have h:∀q∈C.j8,aP (C.F1 q)=false:=fun q hq=>by simpa using List.find?_eq_none.mp f q hq
   simp only
   rw[pO fun p hp q hq=>acO L (mX hp) (mX hq) (h p hp) (h q hq)]
theorem vI{f:Pt->Pt->Bool}{z:Pt×Pt}:∀{l:List Pt},eN f l=some z->z.1∈l/\z.2∈l
 |[]=>fun e=>by cases e
 |p::l=>fun e=>by
  rw[eN]at e
  split at e
  ·rename_i q h
   cases e
   exact⟨QYz,QYq _ (List.mem_of_find?_eq_some h)⟩
  ·have:=vI e
   exact⟨QYq _ this.1,QYq _ this.2⟩
def K9{p:Pt}(P:C.P p):nd (aL p)=true/\dep (aL p)<=1:=by
 obtain⟨s,e,o⟩:=Em (P_x P)
 obtain⟨t,e',o'⟩:=Em P.y
 simp[aL,e,e',nd,mC,o,o',dep,iD]
def Xu(f:Pt->Pt->Bool):nd (C.Lf f)=true/\dep (C.Lf f)<=50:=by
 unfold Cs.Lf
 split
 ·exact⟨rfl,by simp[dep,iD]⟩
 ·split
  ·rename_i p h
   have a:=K9 (mX (List.mem_of_find?_eq_some h))
   exact⟨by simp[nd,mC,a.1],by simp[dep,iD];omega⟩
  ·cases h:eN f C.j8 with
   |none=>exact⟨rfl,by simp[v4,dep]⟩
   |some z=>
    have m:=vI h
    have a:=K9 (mX m.1)
    have b:=K9 (mX m.2)
    exact⟨by simp[v4,nd,mC,a.1,b.1],by simp[v4,dep,iD];omega⟩
def mlE:E:=ACq
def ab1(n:Nat)(K:C.Ok)(s:Sl):ev (pg.cf n) mlE [s,.val C.n,.val C.t]=.ok (.val (.int (C.g*C.ls.length))) [s,.val C.n,.val C.t]:=by
 have sm:small (C.g:Int)=true:=by have:=K.o.g5;simp[small];omega
 have lz:(aO (bC C.g) C.ks).length=C.g:=by rw[ql K.lz,b7 K.o.g5]
 have n1:=pJ (C:=C)
 have n2:getD C.n (.int 2)=some (.tup (C.ls.map .bl)):=La
 simp[mlE,n1,n2,lz,sm]
def st1(n:Nat)(ns:List Int){d t:D}(e':pg.fn (n+10+9) 50 [.val (.lst (ns.map .int)),.val (.int 0)]=.ok (.val (.tup [d,t])) [.val (.lst (ns.map .int)),.val (.int 0)])(rest:S):ex (pg.cf (n+19)) (.cons ABv rest) [.val (.lst (ns.map .int)),.un,.un]=ex (pg.cf (n+19)) rest [.val (.lst (ns.map .int)),.val d,.val t]:=by
 simp[e',bj,iQ,bU]
def stE:E:=ADr
def abd(n:Nat)(K:C.Ok)(s:Sl):∃R:List D,ev (pg.cf (n+19)) stE [s,.val C.n,.val C.t]=.ok (.val (.int R.length)) [s,.val C.n,.val C.t]:=by
 have ls:=ur (n+13) K
 generalize kD (C.nO 1000 0 (R0 C.ls))=R at ls
 exact⟨R,by simp[stE,ls]⟩
def st2(c:Cf){a b:E}{s u v:Sl}{x y:Int}(ea:ev c a [s,u,v]=.ok (.val (.int x)) [s,u,v])(eb:ev c b [s,u,v]=.ok (.val (.int y)) [s,u,v])(rest:S):ex c (.cons (.ite (.or (.cons (.cmp .gt a ADj) (.cons (.cmp .gt b (.con (.int 30))) .nil))) ADX .nil) rest) [s,u,v]=if 9<x\/30<y then .ret (.val (.bl true)) [s,u,v]else ex c rest [s,u,v]:=by
 by_cases c1:9<x
 ·simp[ea,c1]
 ·by_cases c2:30<y<;>simp[ea,eb,c1,c2]
def st3(n:Nat)(L:C.Lw)(g4:C.g<=4)(s:Sl):ex (pg.cf (n+19)) ABU [s,.val C.n,.val C.t]=.ret (.val (.bl true)) [s,.val C.n,.val C.t]:=by
 have lf:=Il (n+6) L
 have me:=Hw (n+5) L g4
 rw[Xv L]at me
 have en:=(acH (Xu (C:=C) C.cl)).1
 generalize C.Lf C.cl=m at*
 simp[me,lf,en]
def XH(n:Nat)(ns:List Int):∃qs,pg.fn (n+20) 60 [.val (.lst (ns.map .int))]=.ok (.val (.bl true)) qs:=by
 obtain⟨C,K,k1,e'⟩:=R9 (n+10) ns 0 (by omega)
 have L:C.Lw:=⟨K,fun x d hd=>k1 d (List.of_mem_zip hd).2⟩
 obtain⟨R,se⟩:=abd n K (.val (.lst (ns.map .int)))
 have ml:=ab1 (n+19) K (.val (.lst (ns.map .int)))
 have ll:=K.o.ll
 have hb:Od=⟨1,3,(.cons ABv (.cons (.ite (.or (.cons (.cmp .gt mlE ADj) (.cons (.cmp .gt stE (.con (.int 30))) .nil))) ADX .nil) ABU))⟩:=rfl
 rw[abq,hb]
 simp only[st1 n ns e',st2 _ ml se]
 by_cases c:9< (C.g:Int)*C.ls.length\/30< (R.length:Int)
 ·rw[if_pos c];exact⟨_,rfl⟩
 ·rw[if_neg c]
  have g4:C.g<=4:=by
   rw[ll]at c
   apply Nat.le_of_not_lt
   intro z
   have g5:C.g=5:=by have:=K.o.g5;omega
   rw[g5]at c
   omega
  simp only[st3 n L g4]
  exact⟨_,rfl⟩
def math(ns:List Int)(hl:ns.length<=63):∃qs,pg.fn 60 60 [.val (.lst (ns.map .int))]=.ok (.val (.bl true)) qs:=XH 40 ns
end
end Tx
end
namespace Tx
open PySem PySem.W L2 Mini
def bM{K:QQq}{x:Str}{st:Stmt}(m:Value)(f c:Addr)(a:PySem.W.nsIn K mainGlobals x=some (some (.ref f)):=by kernel_rfl)(l:K.lookup f=some (fO x st m c):=by kernel_rfl)(q:PySem.W.codeIn K (.ref c) x=true:=by kernel_rfl):OJ K x st:=Mini.dIn a l q (by unfold PySem.W.keepIn;dsimp only;rw[l];rfl)
end Tx
open PySem PySem.W PyProof.Rows
theorem PySem.Challenge.cw_anywait_k25_whole_mended_holds : PySem.Challenge.rw_anywait_k25_whole_mended.Holds := by
 w_on
 refine PySem.W.holds_law Tx.w0w fun said => ?_
 refine PySem.W.holds_open (q := Tx.qV) (loose := Tx.lo) (Xt := fun s => recOk [] s) (XP := fun _ _ => True) (Yf := Hook.obs Tx.Kh) (Ya := Hook.val Tx.Kh) (YP := Hook.says Tx.Kh) (N := 5712) Tx.hl (Hook.of Tx.Kh) (Hook.keeps Tx.Kh) (fun _ _ => trivial) (fun _ _ _ _ _ => trivial) (by rfl) (by rfl) (by rfl) (fun s e => recFacts_of e) (by rfl) said (by decide +kernel) ⟨rfl, rfl, rfl, rfl, rfl, by decide +kernel⟩ ?hw ?hc
 case hw => w_witness2
 case hc =>
  refine Mini.Jm (p := Tx.pg) (L := 60) (y := "_law_script") (l := PySem.Challenge.rw_anywait_k25_whole_mended) rfl rfl (fun w h Y => PySem.W.kIn_of Y) Tx.math ?qF
  intro w mg fa h KX G hmg
  refine Mini.SJ (dL := Tx.d60) KX G hmg rfl rfl rfl Tx.bd Tx.scp Tx.nT ?qA ?qB ?qZ
  case qA =>
   show Mini.AllIn _ Tx.nms
   exact ⟨Tx.bM Tx.kE 71 70, Tx.bM Tx.kE 76 75, Tx.bM Tx.kE 81 80, Tx.bM Tx.kE 88 87, Tx.bM Tx.kE 95 94, Tx.bM Tx.kE 100 99, Tx.bM Tx.kE 105 104, Tx.bM Tx.kE 110 109, Tx.bM Tx.kE 117 116, Tx.bM Tx.kE 122 121, Tx.bM Tx.kE 127 126, Tx.bM Tx.kE 134 133, Tx.bM Tx.kE 141 140, Tx.bM Tx.kE 146 145, Tx.bM Tx.kE 151 150, Tx.bM Tx.kE 156 155, Tx.bM Tx.kE 163 162, Tx.bM Tx.ZC 170 169, Tx.bM Tx.ZC 175 174, Tx.bM Tx.ZC 180 179, Tx.bM Tx.Je 187 186, Tx.bM Tx.Je 192 191, Tx.bM Tx.Je 199 198, Tx.bM Tx.Je 206 205, Tx.bM Tx.Je 211 210, Tx.bM Tx.Je 218 217, Tx.bM Tx.Ur 225 224, Tx.bM Tx.Ur 232 231, Tx.bM Tx.Ur 237 236, Tx.bM Tx.Ur 244 243, Tx.bM Tx.Af 251 250, Tx.bM Tx.Af 258 257, Tx.bM Tx.Af 265 264, Tx.bM Tx.Af 272 271, Tx.bM Tx.Af 277 276, Tx.bM Tx.Af 284 283, Tx.bM Tx.Af 289 288, Tx.bM Tx.Af 296 295, Tx.bM Tx.gG 303 302, Tx.bM Tx.gG 310 309, Tx.bM Tx.gG 317 316, Tx.bM Tx.gG 324 323, Tx.bM Tx.gG 329 328, Tx.bM Tx.gG 336 335, Tx.bM Tx.gG 341 340, Tx.bM Tx.gG 346 345, Tx.bM Tx.gG 351 350, Tx.bM Tx.gG 358 357, Tx.bM Tx.gG 365 364, Tx.bM Tx.gG 370 369, Tx.bM Tx.gG 377 376, Tx.bM Tx.gG 382 381, Tx.bM Tx.gG 387 386, Tx.bM Tx.gG 392 391, Tx.bM Tx.gG 397 396, Tx.bM Tx.gG 402 401, Tx.bM Tx.gG 409 408, Tx.bM Tx.gG 416 415, Tx.bM Tx.gG 423 422, Tx.bM Tx.gG 430 429, Tx.bM Tx.gG 437 436, trivial⟩
  case qB => exact ⟨.v (u := .str "abcdefghijklmnopqrstuvwxyz" 257) (by kernel_rfl) (by decide +kernel), .v (u := .int 6 259) (by kernel_rfl) (by decide +kernel), .t (a := 64) (o := Tx.o64) (by kernel_rfl) (by kernel_rfl) (by decide +kernel), .v (u := .int 3 276) (by kernel_rfl) (by decide +kernel), .v (u := .int 5 278) (by kernel_rfl) (by decide +kernel), .v (u := .int 4 280) (by kernel_rfl) (by decide +kernel), .v (u := .int 8 282) (by kernel_rfl) (by decide +kernel), .v (u := .int 3 284) (by kernel_rfl) (by decide +kernel), .v (u := .int 12 412) (by kernel_rfl) (by decide +kernel), .v (u := .int 4 535) (by kernel_rfl) (by decide +kernel), trivial⟩
  case qZ => exact ⟨by kernel_rfl, by kernel_rfl, by kernel_rfl, by kernel_rfl, by kernel_rfl, by kernel_rfl, by kernel_rfl, by kernel_rfl, by kernel_rfl, by kernel_rfl, by kernel_rfl, by kernel_rfl, by kernel_rfl, by kernel_rfl, trivial⟩