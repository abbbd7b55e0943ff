import PyProof.Rows.All
import Wide.All
import OpenK.AllK
import Wide.FinOn
import PySem.Syntax
import Lean
import PyProof.EqAt
import PyProof.EqKinds
import PyProof.TupleCall
import PyProof.TupleKey
import PyProof.DictRoadsH
import Wide.Seal
import KE.KDictList
import KE.KSortAsk
import PyProof.ListMulAny
import PyProof.FactsAll.tuple_2
import PyProof.NeData
import PyProof.P3In
import KE.KSortTup
import PyProof.EnumFor
import PyProof.EnumMake
import PyProof.Rows.EnumRows
import PyProof.CompFree
import PyProof.Rows.CatchOwn
import OpenK.KRaise
import PyProof.ExcBaseAll.ValueError
import PyProof.ExcAttrAll.ValueError
import PyProof.IsiH_tuple
import PyProof.StrOps2
import PyProof.Rows.CatchBare
import PySem.Challenge.RW_anywait_k10_whole_gone_on
set_option linter.all false
set_option Elab.async false
set_option maxRecDepth 100000
set_option maxHeartbeats 0
set_option compiler.extract_closed false
set_option bootstrap.genMatcherCode false
abbrev QQq:=PySem.W.Frag
abbrev QQz:=List (PySem.Addr×PySem.Obj)
abbrev QZq:=PySem.Value→PySem.Shared→Prop
abbrev QZz:=PySem.Str→Option PySem.Value
def QJq:=@Option.bind_eq_some_iff
def QJz:=@Option.map_eq_some_iff
def QYq:=@List.mem_cons_of_mem
def QYz:=@List.mem_cons_self
def QXq:=@List.getElem?_eq_getElem
def QXz:=@List.mem_append
def QWq:=@PySem.Heap.get?_push_of_some
def QWz:=@List.mem_append_left
def QVq:=@List.mem_append_right
def QVz:=@Nat.le_refl
def QUq:=@Bool.and_eq_true
def QUz:=@decide_eq_true_eq
def QTq:=@List.length_append
def QTz:=@List.mem_map_of_mem
def QKq:=@PySem.wpAny_bind
def QKz:=@PySem.wpAny_pure
def QGq:=@PySem.wpAny_mono
def QGz:=@PySem.wpAny_field
def Qqq:=@PySem.wpAny_holding
def Qqz:=@PySem.Heap.lt_size
def Qzq:=@PySem.Heap.get?_push_size
def Qzz:=@PySem.wpAny_call_entry
def Qjq:=@PySem.wpAny_newObj_type
def Qjz:=@Bool.false_ne_true
def Qyq:=@List.size_toArray
def Qyz:=@List.map_cons
def Qxq:=@Bool.false_eq_true
def Qxz:=@List.getElem?_set_ne
def Qwq:=@List.getElem?_set_self
def Qwz:=@List.getElem?_append_left
def Qvq:=@Nat.lt_of_lt_of_le
def Qvz:=@Nat.ne_of_lt
def QAq:=@List.length_map
def QAz:=@List.not_mem_nil
def QBq:=@List.length_cons
def QBz:=@List.mem_of_getElem?
def QCq:=@List.mem_cons
def QCz:=@List.getElem?_eq_some_iff
def QDq:=@List.mem_map
def QDz:=@List.mem_singleton
def QEq:=@Option.some.inj
def QEz:=@decide_eq_false
def QFq:=@decide_eq_true
def QFz:=@List.getElem?_map
def QHq:=@Option.bind_some
def QHz:=@List.lookup_cons
def QIq:=@Nat.zero_le
def QIz:=@List.getElem?_append_right
def QLq:=@List.append_assoc
def QLz:=@List.cons_append
noncomputable section
section
namespace L2
open PySem
def eQ(s:Stmt):Arguments:=match s with
 |.FunctionDef _ a _ _ _ _ _ _ _ _=>a
 |_=>{posonlyargs:=[],args:=[],vararg:=none,kwonlyargs:=[],kw_defaults:=[],kwarg:=none,defaults:=[]}
def cN(s:Stmt):List Stmt:=match s with
 |.FunctionDef _ _ b _ _ _ _ _ _ _=>b
 |_=>[]
def aF(s:Stmt):Scope:=match s with
 |.FunctionDef _ _ _ _ _ _ sc _ _ _=>sc
 |_=>{kind:=.function,names:=[],isGenerator:=false,isCoroutine:=false}
end L2
end
section
namespace Tx
open PySem PySem.W L2 PyProof.Rows
theorem w0w:PySem.Challenge.rw_anywait_k10_whole_gone_on.wellSaid=true:=by kernel_rfl
def top(i:Nat):Stmt:=PySem.Challenge.pw_anywait_k10_whole_gone_on.main.body.getD i (.Pass ⟨0,0,0,0⟩)
abbrev s0:Stmt:=top 14
abbrev s1:Stmt:=top 15
abbrev s2:Stmt:=top 16
abbrev s3:Stmt:=top 17
abbrev s4:Stmt:=top 18
abbrev s5:Stmt:=top 19
abbrev s6:Stmt:=top 20
abbrev s7:Stmt:=top 21
abbrev s8:Stmt:=top 22
abbrev s9:Stmt:=top 23
abbrev uA:Stmt:=top 24
abbrev Bb:Stmt:=top 25
abbrev s12:Stmt:=top 26
abbrev s13:Stmt:=top 27
abbrev s14:Stmt:=top 28
abbrev s15:Stmt:=top 29
abbrev s16:Stmt:=top 30
abbrev s17:Stmt:=top 33
abbrev s18:Stmt:=top 34
abbrev s19:Stmt:=top 35
abbrev s20:Stmt:=top 37
abbrev s21:Stmt:=top 38
abbrev s22:Stmt:=top 39
abbrev s23:Stmt:=top 40
abbrev s24:Stmt:=top 41
abbrev s25:Stmt:=top 42
abbrev s26:Stmt:=top 43
abbrev s27:Stmt:=top 45
abbrev s28:Stmt:=top 46
abbrev s29:Stmt:=top 48
abbrev s30:Stmt:=top 49
abbrev s31:Stmt:=top 50
abbrev s32:Stmt:=top 51
abbrev s33:Stmt:=top 53
abbrev s34:Stmt:=top 54
abbrev s35:Stmt:=top 55
abbrev s36:Stmt:=top 56
abbrev s37:Stmt:=top 57
abbrev s38:Stmt:=top 58
abbrev s39:Stmt:=top 59
abbrev s40:Stmt:=top 60
abbrev s41:Stmt:=top 61
abbrev s42:Stmt:=top 62
abbrev s43:Stmt:=top 63
abbrev s44:Stmt:=top 64
abbrev s45:Stmt:=top 65
abbrev s46:Stmt:=top 66
abbrev s47:Stmt:=top 67
abbrev s48:Stmt:=top 68
abbrev s49:Stmt:=top 69
abbrev s50:Stmt:=top 70
abbrev s51:Stmt:=top 71
abbrev s52:Stmt:=top 72
abbrev s53:Stmt:=top 73
abbrev s54:Stmt:=top 74
abbrev s55:Stmt:=top 75
abbrev s56:Stmt:=top 76
def gE(P:Params)(x:Str)(i:Nat)(v:Value):DictEntry:=⟨PyData.keyHash P x,.str x i,v⟩
def fO(x:Str)(st:Stmt)(m:Value)(c:Addr):Obj:=⟨.type "function",none,.func (PySem.W.fnOf x x (eQ st) (cN st) (aF st) .none .none .none m none (.ref c) .none), #[]⟩
def cO(x:Str)(a:Nat)(l n:Int)(r s:Nat)(u v:Value)(t:Nat)(q:Int)(z:Nat):Obj:=⟨.type "code",none,.fields #[.str x a,.str x (a+1),.str "/claim/cut.py" (a+2),.int l 0,.int n 0,.int 0 0,.int 0 0,.int 3 0,.ref r,.bool true,.int 181 0,.ref s,.none,u,v,.ref t,.int q 0,.int l 0,.str "/claim/cut.py" z], #[]⟩
def Vs:Value:=.str "anywait.faults" 524
def mo1:Value:=.str "anywait.goings" 499
def lA:Value:=.str "anywait.nets" 255
def Fw:Value:=.str "anywait.stands" 434
def mo4:Value:=.str "anywait.talks" 410
def gk:Value:=.str "law_anywait_k10_whole_gone_on" 569
noncomputable def o64:Obj:=⟨.type "tuple",none,.seq #[.str "input" 261,.str "gate" 262,.str "start" 263,.str "out" 264,.str "state" 265,.str "same" 266,.str "not" 267,.str "and" 268,.str "or" 269,.str "both" 270,.str "held" 271,.str "table" 272,.str "on" 273,.str "off" 274], #[]⟩
noncomputable def o24:Obj:=excClassObj "WaitError" "WaitError" 24 23 [.type "ValueError"] [.type "ValueError",.type "Exception",.type "BaseException",.type "object"] true [] [.ref 37,.ref 49,.ref 61] false none none (some (.ref 15)) none (some (.str "WaitError" 189)) (some (.str "WaitError" 197)) (some (.bool true)) "ValueError.__new__"
def e23(P:Params):Array DictEntry:= #[gE P "__module__" 196 (.str "anywait.errors" 187),gE P "__firstlineno__" 200 (.int 2 199),gE P "__static_attributes__" 201 (.ref 22),gE P "__weakref__" 203 (.ref 25),gE P "__doc__" 204 .none]
def o61:Obj:=excClassObj "NoRun" "NoRun" 61 60 [.ref 24] [.ref 24,.type "ValueError",.type "Exception",.type "BaseException",.type "object"] true [] [] false none none (some (.ref 52)) none (some (.str "NoRun" 239)) (some (.str "NoRun" 247)) (some (.bool true)) "ValueError.__new__"
def e60(P:Params):Array DictEntry:= #[gE P "__module__" 246 (.str "anywait.errors" 187),gE P "__firstlineno__" 250 (.int 8 249),gE P "__static_attributes__" 251 (.ref 59),gE P "__doc__" 252 .none]
noncomputable def Kf(P:Params):QQq:=[(3,⟨.type "dict",none,.dict #[gE P "__name__" 165 (.str "law_anywait_k10_whole_gone_on" 569),gE P "__doc__" 166 .none,gE P "__package__" 167 .none,gE P "__loader__" 168 (.builtin "__main__.__loader__#opaque"),gE P "__spec__" 169 .none,gE P "__annotations__" 170 (.ref 6),gE P "__builtins__" 171 (.ref 4),gE P "__file__" 173 (.str "/claim/cut.py" 172),gE P "__cached__" 174 .none,gE P "WaitError" 206 (.ref 24),gE P "NoNet" 222 (.ref 37),gE P "NoTalk" 238 (.ref 49),gE P "NoRun" 254 (.ref 61),gE P "LETTERS" 258 (.str "abcdefghijklmnopqrstuvwxyz" 257),gE P "LONGEST_NAME" 260 (.int 6 259),gE P "WORDS" 275 (.ref 64),gE P "MOST_INPUTS" 277 (.int 3 276),gE P "MOST_GATES" 279 (.int 5 278),gE P "MOST_WIRES" 281 (.int 4 280),gE P "MOST_TABLE_WIRES" 283 (.int 8 282),gE P "DEEPEST_HELD" 285 (.int 3 284),gE P "checked" 292 (.ref 71),gE P "is_net" 298 (.ref 76),gE P "has_parts" 304 (.ref 81),gE P "is_tuple" 313 (.ref 88),gE P "is_number" 322 (.ref 95),gE P "is_name" 328 (.ref 100),gE P "are_unlike" 334 (.ref 105),gE P "is_row" 340 (.ref 110),gE P "is_wire" 348 (.ref 117),gE P "are_wires" 354 (.ref 122),gE P "are_rows" 360 (.ref 127),gE P "is_kind" 371 (.ref 134),gE P "is_held" 380 (.ref 141),gE P "wire_names" 386 (.ref 146),gE P "waiting_gates" 392 (.ref 151),gE P "told" 398 (.ref 156),gE P "told_held" 409 (.ref 163),gE P "MOST_STATES" 413 (.int 12 412),gE P "checked_talk" 421 (.ref 170),gE P "is_talk" 427 (.ref 175),gE P "is_state" 433 (.ref 180),gE P "stand_behind" 446 (.ref 187),gE P "first_stand" 453 (.ref 194),gE P "steps_at" 459 (.ref 199),gE P "is_unasked" 468 (.ref 206),gE P "led_to" 479 (.ref 213),gE P "changed" 485 (.ref 218),gE P "newly_met" 498 (.ref 225),gE P "gone_on" 511 (.ref 232),gE P "further_changes" 523 (.ref 239),gE P "fault" 536 (.ref 246),gE P "fault_at" 549 (.ref 253),gE P "has_out" 555 (.ref 258),gE P "fault_of_step" 568 (.ref 265),gE P "_law_cell_at" 578 (.ref 272),gE P "_law_mixed" 588 (.ref 279),gE P "_law_next" 597 (.ref 286),gE P "_law_some" 609 (.ref 293),gE P "_law_table" 615 (.ref 298),gE P "_law_kind" 627 (.ref 305),gE P "_law_net" 633 (.ref 310),gE P "_law_talk" 639 (.ref 315),gE P "_law_ring" 645 (.ref 320),gE P "_law_chain" 659 (.ref 327),gE P "_law_meeting" 673 (.ref 334),gE P "_law_spoilt_kind" 679 (.ref 339),gE P "_law_case" 691 (.ref 346),gE P "_law_is_steady" 697 (.ref 351),gE P "_law_names" 703 (.ref 356),gE P "_law_tells" 709 (.ref 361),gE P "_law_waiting" 715 (.ref 366),gE P "_law_steps" 721 (.ref 371),gE P "_law_led" 727 (.ref 376),gE P "_law_drawn_run" 745 (.ref 383),gE P "_law_left" 756 (.ref 390),gE P "_law_goes" 767 (.ref 397),gE P "_law_told" 777 (.ref 404),gE P "law" 794 (.ref 411)] 79, #[]⟩),
 (71,fO "checked" s0 lA 70),
 (70,cO "checked" 286 19 1 65 66 (.ref 67) (.ref 68) 69 290 291),
 (76,fO "is_net" s1 lA 75),
 (75,cO "is_net" 293 23 1 72 73 .none .none 74 296 297),
 (81,fO "has_parts" s2 lA 80),
 (80,cO "has_parts" 299 30 1 77 78 .none .none 79 302 303),
 (88,fO "is_tuple" s3 lA 87),
 (87,cO "is_tuple" 305 34 3 82 83 (.ref 84) (.ref 85) 86 311 312),
 (95,fO "is_number" s4 lA 94),
 (94,cO "is_number" 314 36 3 89 90 (.ref 91) (.ref 92) 93 320 321),
 (100,fO "is_name" s5 lA 99),
 (99,cO "is_name" 323 38 1 96 97 .none .none 98 326 327),
 (105,fO "are_unlike" s6 lA 104),
 (104,cO "are_unlike" 329 42 1 101 102 .none .none 103 332 333),
 (110,fO "is_row" s7 lA 109),
 (109,cO "is_row" 335 44 2 106 107 .none .none 108 338 339),
 (117,fO "is_wire" s8 lA 116),
 (116,cO "is_wire" 341 46 2 111 112 (.ref 113) (.ref 114) 115 346 347),
 (122,fO "are_wires" s9 lA 121),
 (121,cO "are_wires" 349 48 4 118 119 .none .none 120 352 353),
 (127,fO "are_rows" uA lA 126),
 (126,cO "are_rows" 355 52 2 123 124 .none .none 125 358 359),
 (134,fO "is_kind" Bb lA 133),
 (133,cO "is_kind" 361 56 3 128 129 (.ref 130) (.ref 131) 132 369 370),
 (141,fO "is_held" s12 lA 140),
 (140,cO "is_held" 372 72 3 135 136 (.ref 137) (.ref 138) 139 378 379),
 (146,fO "wire_names" s13 lA 145),
 (145,cO "wire_names" 381 74 1 142 143 .none .none 144 384 385),
 (151,fO "waiting_gates" s14 lA 150),
 (150,cO "waiting_gates" 387 76 2 147 148 .none .none 149 390 391),
 (156,fO "told" s15 lA 155),
 (155,cO "told" 393 79 3 152 153 .none .none 154 396 397),
 (163,fO "told_held" s16 lA 162),
 (162,cO "told_held" 399 95 3 157 158 (.ref 159) (.ref 160) 161 407 408),
 (170,fO "checked_talk" s17 mo4 169),
 (169,cO "checked_talk" 414 101 2 164 165 (.ref 166) (.ref 167) 168 419 420),
 (175,fO "is_talk" s18 mo4 174),
 (174,cO "is_talk" 422 105 2 171 172 .none .none 173 425 426),
 (180,fO "is_state" s19 mo4 179),
 (179,cO "is_state" 428 113 3 176 177 .none .none 178 431 432),
 (187,fO "stand_behind" s20 Fw 186),
 (186,cO "stand_behind" 436 120 3 181 182 (.ref 183) (.ref 184) 185 444 445),
 (194,fO "first_stand" s21 Fw 193),
 (193,cO "first_stand" 447 132 1 188 189 (.ref 190) (.ref 191) 192 451 452),
 (199,fO "steps_at" s22 Fw 198),
 (198,cO "steps_at" 454 134 3 195 196 .none .none 197 457 458),
 (206,fO "is_unasked" s23 Fw 205),
 (205,cO "is_unasked" 460 137 3 200 201 (.ref 202) (.ref 203) 204 466 467),
 (213,fO "led_to" s24 Fw 212),
 (212,cO "led_to" 469 139 4 207 208 (.ref 209) (.ref 210) 211 477 478),
 (218,fO "changed" s25 Fw 217),
 (217,cO "changed" 480 144 3 214 215 .none .none 216 483 484),
 (225,fO "newly_met" s26 Fw 224),
 (224,cO "newly_met" 486 146 4 219 220 (.ref 221) (.ref 222) 223 496 497),
 (232,fO "gone_on" s27 mo1 231),
 (231,cO "gone_on" 501 155 4 226 227 (.ref 228) (.ref 229) 230 509 510),
 (239,fO "further_changes" s28 mo1 238),
 (238,cO "further_changes" 512 161 2 233 234 (.ref 235) (.ref 236) 237 521 522),
 (246,fO "fault" s29 Vs 245),
 (245,cO "fault" 526 174 2 240 241 (.ref 242) (.ref 243) 244 534 535),
 (253,fO "fault_at" s30 Vs 252),
 (252,cO "fault_at" 537 184 4 247 248 (.ref 249) (.ref 250) 251 547 548),
 (258,fO "has_out" s31 Vs 257),
 (257,cO "has_out" 550 193 2 254 255 .none .none 256 553 554),
 (265,fO "fault_of_step" s32 Vs 264),
 (264,cO "fault_of_step" 556 195 5 259 260 (.ref 261) (.ref 262) 263 566 567),
 (272,fO "_law_cell_at" s33 gk 271),
 (271,cO "_law_cell_at" 571 204 2 266 267 (.ref 268) (.ref 269) 270 576 577),
 (279,fO "_law_mixed" s34 gk 278),
 (278,cO "_law_mixed" 579 210 3 273 274 (.ref 275) (.ref 276) 277 586 587),
 (286,fO "_law_next" s35 gk 285),
 (285,cO "_law_next" 589 213 3 280 281 (.ref 282) (.ref 283) 284 595 596),
 (293,fO "_law_some" s36 gk 292),
 (292,cO "_law_some" 598 216 5 287 288 (.ref 289) (.ref 290) 291 607 608),
 (298,fO "_law_table" s37 gk 297),
 (297,cO "_law_table" 610 221 3 294 295 .none .none 296 613 614),
 (305,fO "_law_kind" s38 gk 304),
 (304,cO "_law_kind" 616 227 4 299 300 (.ref 301) (.ref 302) 303 625 626),
 (310,fO "_law_net" s39 gk 309),
 (309,cO "_law_net" 628 237 4 306 307 .none .none 308 631 632),
 (315,fO "_law_talk" s40 gk 314),
 (314,cO "_law_talk" 634 243 4 311 312 .none .none 313 637 638),
 (320,fO "_law_ring" s41 gk 319),
 (319,cO "_law_ring" 640 251 2 316 317 .none .none 318 643 644),
 (327,fO "_law_chain" s42 gk 326),
 (326,cO "_law_chain" 646 257 2 321 322 (.ref 323) (.ref 324) 325 657 658),
 (334,fO "_law_meeting" s43 gk 333),
 (333,cO "_law_meeting" 660 268 2 328 329 (.ref 330) (.ref 331) 332 671 672),
 (339,fO "_law_spoilt_kind" s44 gk 338),
 (338,cO "_law_spoilt_kind" 674 282 3 335 336 .none .none 337 677 678),
 (346,fO "_law_case" s45 gk 345),
 (345,cO "_law_case" 680 288 2 340 341 (.ref 342) (.ref 343) 344 689 690),
 (351,fO "_law_is_steady" s46 gk 350),
 (350,cO "_law_is_steady" 692 308 1 347 348 .none .none 349 695 696),
 (356,fO "_law_names" s47 gk 355),
 (355,cO "_law_names" 698 318 1 352 353 .none .none 354 701 702),
 (361,fO "_law_tells" s48 gk 360),
 (360,cO "_law_tells" 704 320 3 357 358 .none .none 359 707 708),
 (366,fO "_law_waiting" s49 gk 365),
 (365,cO "_law_waiting" 710 338 2 362 363 .none .none 364 713 714),
 (371,fO "_law_steps" s50 gk 370),
 (370,cO "_law_steps" 716 341 3 367 368 .none .none 369 719 720),
 (376,fO "_law_led" s51 gk 375),
 (375,cO "_law_led" 722 345 4 372 373 .none .none 374 725 726),
 (383,fO "_law_drawn_run" s52 gk 382),
 (382,cO "_law_drawn_run" 728 354 5 377 378 (.ref 379) (.ref 380) 381 743 744),
 (390,fO "_law_left" s53 gk 389),
 (389,cO "_law_left" 746 368 2 384 385 (.ref 386) (.ref 387) 388 754 755),
 (397,fO "_law_goes" s54 gk 396),
 (396,cO "_law_goes" 757 374 3 391 392 (.ref 393) (.ref 394) 395 765 766),
 (404,fO "_law_told" s55 gk 403),
 (403,cO "_law_told" 768 382 4 398 399 (.ref 400) (.ref 401) 402 775 776),
 (411,fO "law" s56 gk 410),
 (410,cO "law" 778 387 1 405 406 (.ref 407) (.ref 408) 409 792 793),
 (64,o64),
 (24,o24),
 (23,⟨.type "dict",none,.dict (e23 P) 3, #[]⟩),
 (61,o61),
 (60,⟨.type "dict",none,.dict (e60 P) 2, #[]⟩)]
noncomputable def Ka:List Addr:=[3,71,70,76,75,81,80,88,87,95,94,100,99,105,104,110,109,117,116,122,121,127,126,134,133,141,140,146,145,151,150,156,155,163,162,170,169,175,174,180,179,187,186,194,193,199,198,206,205,213,212,218,217,225,224,232,231,239,238,246,245,253,252,258,257,265,264,272,271,279,278,286,285,293,292,298,297,305,304,310,309,315,314,320,319,327,326,334,333,339,338,346,345,351,350,356,355,361,360,366,365,371,370,376,375,383,382,390,389,397,396,404,403,411,410,64,24,23,61,60]
def Ke(P:Params):Ka=(Kf P).map (·.1):=rfl
abbrev Kh:PySem.W.Hook:=PySem.W.kHook Kf Ka Ke
noncomputable def lo:List Str:="__name__"::"WaitError"::"NoNet"::"NoTalk"::"NoRun"::"LETTERS"::"LONGEST_NAME"::"WORDS"::"MOST_INPUTS"::"MOST_GATES"::"MOST_WIRES"::"MOST_TABLE_WIRES"::"DEEPEST_HELD"::"checked"::"is_net"::"has_parts"::"is_tuple"::"is_number"::"is_name"::"are_unlike"::"is_row"::"is_wire"::"are_wires"::"are_rows"::"is_kind"::"is_held"::"wire_names"::"waiting_gates"::"told"::"told_held"::"MOST_STATES"::"checked_talk"::"is_talk"::"is_state"::"stand_behind"::"first_stand"::"steps_at"::"is_unasked"::"led_to"::"changed"::"newly_met"::"gone_on"::"further_changes"::"fault"::"fault_at"::"has_out"::"fault_of_step"::"_law_cell_at"::"_law_mixed"::"_law_next"::"_law_some"::"_law_table"::"_law_kind"::"_law_net"::"_law_talk"::"_law_ring"::"_law_chain"::"_law_meeting"::"_law_spoilt_kind"::"_law_case"::"_law_is_steady"::"_law_names"::"_law_tells"::"_law_waiting"::"_law_steps"::"_law_led"::"_law_drawn_run"::"_law_left"::"_law_goes"::"_law_told"::[]
def qV:Program:=view PySem.Challenge.pw_anywait_k10_whole_gone_on [76]
def hl:LeftO PySem.Challenge.pw_anywait_k10_whole_gone_on qV lo (fun s=>recOk [] s) (Hook.obs Kh) (Hook.val Kh) 5492:=fun w=>by
 rw[PySem.W.Fast.te4187177175401517315,PySem.W.Fast.te5923862056798008813,PySem.W.Fast.te14364793385576792824]
 kernel_rfl
end Tx
end
section
namespace L2
open PySem PySem.Spec PyProof.Rows
abbrev Key:=Sum Int Str
def vO:Key->Value->Bool
 |.inl k,v=>Value.isInt k v
 |.inr x,v=>Value.isStrOf x v
def af3(w:World):Key->Int
 |.inl k=>hashInt k
 |.inr x=>hashStr w x
theorem cj:∀{k:Key}{v:Value},vO k v=true->(∃i t,k=Sum.inl i/\v=Value.int i t)\/(∃x t,k=Sum.inr x/\v=Value.str x t)
 |.inl i,v,h=>by
  obtain⟨t,e⟩:=Value.isInt_shape h
  exact .inl ⟨i,t,rfl,e⟩
 |.inr x,v,h=>by
  obtain⟨t,e⟩:=Value.isStrOf_shape h
  exact .inr ⟨x,t,rfl,e⟩
def Jb i t:vO (.inl i) (.int i t)=true:=by simp[vO,Value.isInt]
def Ja x t:vO (.inr x) (.str x t)=true:=by simp[vO,Value.isStrOf]
def Yr a b:decide ((Sum.inl a:Key)=Sum.inl b)=(a==b):=by
 by_cases e:a=b
 ·subst e;simp
 ·rw[QEz (fun q=>e (Sum.inl.inj q))]
  exact(beq_eq_false_iff_ne.mpr e).symm
def Yo a b:decide ((Sum.inr a:Key)=Sum.inr b)=decide (a=b):=by
 by_cases e:a=b
 ·subst e;simp
 ·rw[QEz (fun q=>e (Sum.inr.inj q)),QEz e]
def Yq a b:decide ((Sum.inl a:Key)=Sum.inr b)=false:=QEz (fun q=>nomatch q)
def Yp a b:decide ((Sum.inr a:Key)=Sum.inl b)=false:=QEz (fun q=>nomatch q)
noncomputable def cM(prog:Program)(w:World):PySem.KeyKind prog w Key where
 is:=vO
 hash:=af3 w
 inj:=fun v a b ha hb=>by
  rcases cj ha with ⟨i,t,rfl,rfl⟩|⟨x,t,rfl,rfl⟩
  ·rcases cj hb with ⟨j,u,rfl,e⟩|⟨y,u,rfl,e⟩
   ·injection e with e1 _;rw[e1]
   ·exact nomatch e
  ·rcases cj hb with ⟨j,u,rfl,e⟩|⟨y,u,rfl,e⟩
   ·exact nomatch e
   ·injection e with e1 _;rw[e1]
 byValue:=fun k v h=>by
  rcases cj h with ⟨i,t,rfl,rfl⟩|⟨x,t,rfl,rfl⟩<;>rfl
 pyHash:=fun hv h=>by
  rcases cj hv with ⟨i,t,rfl,rfl⟩|⟨x,t,rfl,rfl⟩
  ·exact wpAny_pyHash_int h
  ·exact wpAny_pyHash_str h
 eqBool:=fun hu hv h=>by
  rcases cj hu with ⟨i,t,rfl,rfl⟩|⟨x,t,rfl,rfl⟩
  ·rcases cj hv with ⟨j,u,rfl,rfl⟩|⟨y,u,rfl,rfl⟩
   ·rw[Yr]at h;exact wpAny_eqBool_int h
   ·rw[Yq]at h;exact SeqAt.EqAt.int_str i t y u _ _ _ _ h
  ·rcases cj hv with ⟨j,u,rfl,rfl⟩|⟨y,u,rfl,rfl⟩
   ·rw[Yp]at h;exact SeqAt.EqAt.str_int x t j u _ _ _ _ h
   ·rw[Yo]at h;exact wpAny_eqBool_str h
 «strs»:=fun k x t v h=>by
  rcases cj h with ⟨i,u,rfl,e⟩|⟨y,u,rfl,e⟩
  ·exact nomatch e
  ·injection e with e1 _
   subst e1
   cases v<;>rfl
def zE prog w i t:(cM prog w).is (.inl i) (.int i t)=true:=Jb i t
def zB prog w x t:(cM prog w).is (.inr x) (.str x t)=true:=Ja x t
inductive V where
 |non|bl (b:Bool)|int (i:Int)|str (x:Str)|byt (b:Array UInt8)|flt (b:UInt64)|ref (a:Addr)|ty (n:String)
 deriving DecidableEq
def RelV:V->Value->Prop
 |.non,u=>u=Value.none
 |.bl b,u=>u=Value.bool b
 |.int i,u=>∃t,u=Value.int i t
 |.str x,u=>∃t,u=Value.str x t
 |.byt b,u=>∃t,u=Value.bytes b t
 |.flt b,u=>∃t,u=Value.float b t
 |.ref a,u=>u=Value.ref a
 |.ty n,u=>u=Value.type n
abbrev Vals:List V->List Value->Prop:=Paired RelV
theorem Vals.length{us:List Value}(r:Vals xs us):xs.length=us.length:=Paired.length r
theorem Vals.get:∀{xs:List V}{us:List Value}{i:Nat}{x:V},Vals xs us->xs[i]? =some x->∃u,us[i]? =some u/\RelV x u
 |_,_,_,_,.nil=>fun e=>by simp at e
 |_,_,0,_,.cons r _=>fun e=>by simp at e;subst e;exact⟨_,rfl,r⟩
 |_,_,i+1,x,.cons _ t=>fun e=>by
  obtain⟨u,h1,h2⟩:=Vals.get t (by simpa using e)
  exact⟨u,by simpa using h1,h2⟩
theorem Vals.set{u:Value}(r:RelV x u):∀{xs:List V}{us:List Value}(i:Nat),Vals xs us->Vals (xs.set i x) (us.set i u)
 |_,_,_,.nil=>.nil
 |_,_,0,.cons _ t=>.cons r t
 |_,_,i+1,.cons q t=>.cons q (Vals.set r i t)
theorem Vals.append:∀{xs ys:List V}{us ws:List Value},Vals xs us->Vals ys ws->Vals (xs++ys) (us++ws)
 |_,_,_,_,.nil=>fun s=>s
 |_,_,_,_,.cons r t=>fun s=>.cons r (Vals.append t s)
theorem Vals.take:∀{xs:List V}{us:List Value}(n:Nat),Vals xs us->Vals (xs.take n) (us.take n)
 |_,_,0,_=>.nil
 |_,_,_+1,.nil=>.nil
 |_,_,n+1,.cons r t=>.cons r (Vals.take n t)
theorem Vals.drop:∀{xs:List V}{us:List Value}(n:Nat),Vals xs us->Vals (xs.drop n) (us.drop n)
 |_,_,0,r=>r
 |_,_,_+1,.nil=>.nil
 |_,_,n+1,.cons _ t=>Vals.drop n t
def nY:Option V->Option Value->Prop
 |some v,some u=>RelV v u
 |none,none=>True
 |_,_=>False
def KV{κ:Type}:List (κ×V)->List (κ×Value)->Prop:=Paired fun(p:κ×V)(q:κ×Value)=>p.1=q.1/\RelV p.2 q.2
def kV:Key->V
 |.inl i=>.int i
 |.inr x=>.str x
abbrev SK:=List Bool×Int
abbrev SV:=SK×Addr×V
def bh(b:Bool):Int:=reduceHash (if b then 1 else 0)
def stH(k:SK):Int:=reduceHash (Builtin.Tuple.tupleHashOf [reduceHash (Builtin.Tuple.tupleHashOf (k.1.map bh)),hashInt k.2])
abbrev Qw:SV->SK×Addr×Value->Prop:=fun p q=>p.1=q.1/\p.2.1=q.2.1/\RelV p.2.2 q.2.2
inductive HO where
 |lst (xs:List V)
 |tup (xs:List V)
 |dK (kvs:List (Key×V))|dT (kvs:List (List Key×V))|dS (xs:List SV)
 |set (S:Int->Bool) (n:Nat)
 |ins (C dx:Addr) (fs:List (Str×V))
 |own (x:Addr)
 |xd (fs:List (Str×V))
 |met (f x:Addr)
 |rng (lo hi:Int)
 |frz (o:Obj) (u:HO)
 |tbl (ps:Array Value)
 |ext (φ:Heap->Prop)
abbrev Hp:=Addr->Option HO
def upd(H:Hp)(a:Addr)(o:HO):Hp:=fun b=>if b=a then some o else H b
def aU{a:Addr}:upd H a o a=some o:=by unfold upd;rw[if_pos rfl]
def aC{a b:Addr}(h:b≠a):upd H a o b=H b:=by unfold upd;rw[if_neg h]
def aco{H:Hp}{o u:HO}(h:H a=some o)(h':H b=some u)(d:o≠u):a≠b:=by
 intro e;subst e;rw[h]at h';exact d (QEq h')
def gB{H:Hp}{o:HO}(h:H a=some o)(h':H b=none):a≠b:=by
 intro e;subst e;rw[h]at h';cases h'
def TupOk(h:Heap)(a:Addr)(items:Array Value):Prop:=∃o,h.get? a=some o/\o.cls=.type "tuple"/\o.dict=none/\∃n,o.data=.seq items n
def TupOk.is{a:Addr}(x:TupOk h a items):IsTup h a items:=let ⟨o,e,c,_,d⟩:=x;⟨o,e,c,d⟩
def TupOk.new(h:Heap)items:TupOk (h.push {cls:=.type "tuple",data:=.seq items}) h.objs.size items:=⟨_,Qzq _ rfl,rfl,rfl,_,rfl⟩
section
variable(P:Program)(w:World)
noncomputable def cg(H:Hp)(h:Heap)(a:Addr):HO->Prop
 |.lst xs=>xs.length<=sizeLine/\∃(its:List Value)(n:Nat),Vals xs its/\h.get? a=some {cls:=.type "list",data:=.seq its.toArray n}
 |.tup xs=>xs.length<=sizeLine/\∃its:List Value,Vals xs its/\TupOk h a its.toArray
 |.dK kvs=>kvs.length<=sizeLine/\(a==sysModules)=false/\∃vs,KV kvs vs/\h.DictOf (cM P w) a vs
 |.dT kvs=>kvs.length<=sizeLine/\(a==sysModules)=false/\∃xs:List (List Key×Addr×Value),
   Paired (fun(p:List Key×V)(q:List Key×Addr×Value)=>p.1=q.1/\H q.2.1=some (.tup (p.1.map kV))/\RelV p.2 q.2.2) kvs xs/\
   ∃o es ep,h.get? a=some o/\o.ExactDict/\o.data=.dict es ep/\es.toList=xs.map (entryOfKey (tupleKind (cM P w)))/\(xs.map (·.1)).Nodup
 |.dS xs=>xs.length<=sizeLine/\(a==sysModules)=false/\(xs.map (·.1)).Nodup/\∃(ys:List (SK×Addr×Value))(o:Obj)(es:Array DictEntry)(ep:Nat),Paired Qw xs ys/\h.get? a=some o/\o.ExactDict/\o.data=.dict es ep/\es.toList=ys.map fun y=>⟨stH y.1,.ref y.2.1,y.2.2⟩
 |.set S n=>h.SetOf (intKind P w) a S n
 |.ins C dx fs=>H dx=some (.own a)/\fs.length<=1000/\dx≠a/\h.get? a=some (PySem.W.instObj C dx)/\
   ∃mA,h.Ns1 dx mA/\(∀f,nY (fs.lookup f) (mA f))/\PySem.Within mA (fs.map (·.1))
 |.own _=>∃o,h.get? a=some o
 |.xd fs=>∃mA,h.Ns1 a mA/\∀f,nY (fs.lookup f) (mA f)
 |.rng lo hi=>∃t u v,h.get? a=some {cls:=.type "range",data:=.fields #[.int lo t,.int hi u,.int 1 v]}
 |.frz o u=>h.get? a=some o/\cg H h a u
 |.tbl ps=>h.get? a=some {cls:=.none,data:=.fields ps}
 |.met f x=>h.get? a=some (PySem.W.methodObj (.ref f) (.ref x))
 |.ext φ=>φ h/\(∃o,h.get? a=some o)/\∀h1 h2:Heap,φ h1->(∀o,h1.get? a=some o->h2.get? a=some o)->φ h2
def kE(H:Hp)(h:Heap):Prop:=∀a o,H a=some o->cg P w H h a o
end
section
variable{P:Program}{w:World}{H H':Hp}{h h':Heap}{a:Addr}{o:HO}
theorem cg.lt(x:cg P w H h a o):a<h.objs.size:=by
 cases o with
 |lst xs=>obtain⟨_,_,_,_,e⟩:=x;exact Qqz e
 |tup xs=>obtain⟨_,_,_,p⟩:=x;exact p.is.lt
 |dK kvs=>obtain⟨_,_,_,_,o,_,_,e,_⟩:=x;exact Qqz e
 |dT kvs=>obtain⟨_,_,_,_,o,_,_,e,_⟩:=x;exact Qqz e
 |dS xs=>obtain⟨_,_,_,_,o,_,_,_,e,_⟩:=x;exact Qqz e
 |set S n=>obtain⟨o,_,_,_,e,_⟩:=x;exact Qqz e
 |ins C dx fs=>obtain⟨_,_,_,e,_⟩:=x;exact Qqz e
 |own y=>obtain⟨_,e⟩:=x;exact Qqz e
 |xd fs=>obtain⟨_,⟨_,_,_,e,_⟩,_⟩:=x;exact Qqz e
 |rng lo hi=>obtain⟨_,_,_,e⟩:=x;exact Qqz e
 |frz ob u=>obtain⟨e,_⟩:=x;exact Qqz e
 |tbl ps=>exact Qqz (x)
 |met f y=>exact Qqz (x)
 |ext φ=>obtain⟨_,⟨_,e⟩,_⟩:=x;exact Qqz e
theorem Paired.Yi{α β:Type}{F G:α->β->Prop}:∀{l₁:List α}{l₂:List β},Paired F l₁ l₂->(∀a b,F a b->G a b)->Paired G l₁ l₂
 |_,_,.nil=>fun _=>.nil
 |_,_,.cons r t=>fun f=>.cons (f _ _ r) (Paired.Yi t f)
theorem cg.stay(x:cg P w H h a o)(k:∀b u,(b=a\/H b=some (.own a))->h.get? b=some u->h'.get? b=some u)
  (ho:∀b,H b=some (.own a)->H' b=some (.own a))(ht:∀b xs,H b=some (.tup xs)->H' b=some (.tup xs)):cg P w H' h' a o:=by
 induction o with
 |lst xs=>obtain⟨z,its,n,r,e⟩:=x;exact⟨z,its,n,r,k _ _ (.inl rfl) e⟩
 |tup xs=>obtain⟨z,its,r,ob,e,c⟩:=x;exact⟨z,its,r,ob,k _ _ (.inl rfl) e,c⟩
 |dK kvs=>obtain⟨z,y,vs,r,ob,es,ep,e,c⟩:=x;exact⟨z,y,vs,r,ob,es,ep,k _ _ (.inl rfl) e,c⟩
 |dT kvs=>
  obtain⟨z,y,xs,r,ob,es,ep,e,c⟩:=x
  exact⟨z,y,xs,Paired.Yi r fun p q z=>⟨z.1,ht _ _ z.2.1,z.2.2⟩,ob,es,ep,k _ _ (.inl rfl) e,c⟩
 |dS xs=>obtain⟨z,y,nd,ys,ob,es,ep,pr,e,c⟩:=x;exact⟨z,y,nd,ys,ob,es,ep,pr,k _ _ (.inl rfl) e,c⟩
 |set S n=>obtain⟨ob,es,ep,t,e,c⟩:=x;exact⟨ob,es,ep,t,k _ _ (.inl rfl) e,c⟩
 |ins C dx fs=>
  obtain⟨d,z,ne,e,mA,⟨od,es,ep,e2,c⟩,r⟩:=x
  exact⟨ho _ d,z,ne,k _ _ (.inl rfl) e,mA,⟨od,es,ep,k _ _ (.inr d) e2,c⟩,r⟩
 |own y=>obtain⟨ob,e⟩:=x;exact⟨ob,k _ _ (.inl rfl) e⟩
 |xd fs=>obtain⟨mA,⟨od,es,ep,e,c⟩,r⟩:=x;exact⟨mA,⟨od,es,ep,k _ _ (.inl rfl) e,c⟩,r⟩
 |rng lo hi=>obtain⟨t,u,v,e⟩:=x;exact⟨t,u,v,k _ _ (.inl rfl) e⟩
 |frz ob u ih=>obtain⟨e,q⟩:=x;exact⟨k _ _ (.inl rfl) e,ih q⟩
 |tbl ps=>
  exact k a _ (.inl rfl) x
 |met f y=>
  exact k a _ (.inl rfl) x
 |ext φ=>obtain⟨p,⟨o,e⟩,st⟩:=x;exact⟨st _ _ p fun o q=>k _ _ (.inl rfl) q,⟨o,k _ _ (.inl rfl) e⟩,st⟩
theorem kE.lt(x:kE P w H h)(e:H a=some o):a<h.objs.size:=(x a o e).lt
def kE.fresh(x:kE P w H h)(e:h.objs.size<=a):H a=none:=by
 cases q:H a with
 |none=>rfl
 |some u=>exact absurd (Qvq (x.lt q) e) (Nat.lt_irrefl _)
def kE.kept(x:kE P w H h)(k:∀b u,h.get? b=some u->h'.get? b=some u):kE P w H h':=fun a o e=>
 (x a o e).stay (fun b u _ q=>k b u q) (fun _ q=>q) fun _ _ q=>q
def kE.laid(x:kE P w H h)(k:∀b u,h.get? b=some u->h'.get? b=some u)(hp:h.objs.size<=a)(new:cg P w (upd H a o) h' a o):kE P w (upd H a o) h':=fun b u e=>by
 have hn:=x.fresh hp
 by_cases hb:b=a
 ·subst hb;rw[aU]at e;cases e;exact new
 ·rw[aC hb]at e
  exact(x b u e).stay (fun c v _ q=>k c v q) (fun c q=>by rw[aC (gB q hn)];exact q) fun c xs q=>by rw[aC (gB q hn)];exact q
end
def Rd(H:Hp)(a:Addr)(u:HO):Prop:=H a=some u\/∃o,H a=some (.frz o u)
def Rd.ok{w:World}{h:Heap}{u:HO}(r:Rd H a u)(x:kE P w H h):cg P w H h a u:=by
 rcases r with r|⟨o,r⟩
 ·exact x a u r
 ·obtain⟨_,q⟩:=x a _ r
  exact q
def Mut:Option HO->Prop
 |some (.lst _)=>True
 |some (.dK _)=>True
 |some (.dT _)=>True
 |some (.dS _)=>True
 |some (.set _ _)=>True
 |some (.ins _ _ _)=>True
 |some (.ext _)=>True
 |_=>False
section
variable{P:Program}{w:World}{H:Hp}{h h':Heap}{x e:Addr}{o':HO}
def kE.write(ok:kE P w H h)(mu:Mut (H x))(he:e=x\/H e=some (.own x))(k:∀b u,b≠e->h.get? b=some u->h'.get? b=some u)(heo:∃u,h'.get? e=some u)
  (new:cg P w (upd H x o') h' x o'):kE P w (upd H x o') h':=fun b u q=>by
 have nown:∀c y,H c=some (.own y)->c≠x:=fun c y r z=>by subst z;rw[r]at mu;exact mu
 by_cases hb:b=x
 ·subst hb;rw[aU]at q;cases q;exact new
 ·rw[aC hb]at q
  by_cases hbe:b=e
  ·have q':H b=some (.own x):=by
    rcases he with z|z
    ·exact absurd (hbe.trans z) hb
    ·rw[hbe];exact z
   rw[q]at q';cases q'
   obtain⟨v,hv⟩:=heo
   exact⟨v,by rw[hbe];exact hv⟩
  ·refine(ok b u q).stay (fun c v hc r=>k c v ?_ r) (fun c r=>by rw[aC (nown c b r)];exact r) fun c xs r=>by rw[aC ((fun c xs r z=>by subst z;rw[r]at mu;exact mu) c xs r)];exact r
   rcases hc with rfl|hc
   ·exact hbe
   ·rintro rfl
    rcases he with z|z
    ·exact nown c b hc z
    ·rw[hc]at z;cases z;exact hb rfl
end
structure Un(fs ex:List Addr)(H H':Hp)(h h':Heap):Prop where
 keep:∀b o,h.get? b=some o->H b=none->b∉fs->b∉ex->h'.get? b=some o
 slot:∀b o,h.get? b=some o->H b=none->b∈fs->b∉ex->∃sl,h'.get? b=some {o with slots:=sl}
 free:∀b o,h.get? b=some o->H b=none->b∉ex->H' b=none
 there:∀b o,h.get? b=some o->b∉ex->∃o',h'.get? b=some o'
 tups:∀b xs,H b=some (.tup xs)->H' b=some (.tup xs)
 frzs:∀b o u,H b=some (.frz o u)->H' b=some (.frz o u)
 tbls:∀b ps,H b=some (.tbl ps)->∃more,H' b=some (.tbl (ps++more))
section
variable{fs fs' ex ex':List Addr}{H H1 H2:Hp}{h h1 h2 h':Heap}{a x e:Addr}{o:HO}
def Un.any(u:Un fs ex H H1 h h1){ob:Obj}(q:h.get? b=some ob)(n:H b=none)(hx:b∉ex):∃sl,h1.get? b=some {ob with slots:=sl}:=by
 by_cases hb:b∈fs
 ·exact u.slot b ob q n hb hx
 ·exact⟨ob.slots,u.keep b ob q n hb hx⟩
def Un.kept(k:∀b u,h.get? b=some u->h'.get? b=some u):Un fs ex H H h h':=
 ⟨fun b ob q _ _ _=>k b ob q,fun b ob q _ _ _=>⟨ob.slots,k b ob q⟩,fun _ _ _ n _=>n,fun b ob q _=>⟨ob,k b ob q⟩,fun _ _ q=>q,fun _ _ _ q=>q,fun _ ps q=>⟨#[],by rw[q];simp⟩⟩
def Un.refl:Un fs ex H H h h:=Un.kept fun _ _ q=>q
theorem Un.laid(k:∀b u,h.get? b=some u->h'.get? b=some u)(hp:h.objs.size<=a)(hn:H a=none):Un fs ex H (upd H a o) h h' where
 keep:=fun b u q _ _ _=>k b u q
 slot:=fun b u q _ _ _=>⟨u.slots,k b u q⟩
 free:=fun b u q n _=>by rw[aC (Qvz (Qvq (Qqz q) hp))];exact n
 there:=fun b u q _=>⟨u,k b u q⟩
 tups:=fun b xs q=>by rw[aC (gB q hn)];exact q
 frzs:=fun b u xs q=>by rw[aC (gB q hn)];exact q
 tbls:=fun b ps q=>⟨#[],by rw[aC (gB q hn),q];simp⟩
def Un.write(mu:Mut (H x))(he:e=x\/H e=some (.own x))(k:∀b u,b≠e->h.get? b=some u->h'.get? b=some u)(heo:∃u,h'.get? e=some u):Un fs ex H (upd H x o) h h':=by
 have hx:∀b,H b=none->b≠x:=fun b n z=>by subst z;rw[n]at mu;exact mu
 have hb:∀b,H b=none->b≠e:=fun b n z=>by
  subst z
  rcases he with r|r
  ·exact hx b n r
  ·rw[n]at r;cases r
 have hm:∀b u,H b=some u->¬Mut (some u)->b≠x:=fun b u q nm z=>by subst z;rw[q]at mu;exact nm mu
 refine⟨fun b u q n _ _=>k b u (hb b n) q,fun b u q n _ _=>⟨u.slots,k b u (hb b n) q⟩,fun b u q n _=>by rw[aC (hx b n)];exact n,fun b u q _=>?_,
  fun b xs q=>by rw[aC (hm b _ q fun z=>z)];exact q,fun b u xs q=>by rw[aC (hm b _ q fun z=>z)];exact q,fun b ps q=>⟨#[],by rw[aC (hm b _ q fun z=>z),q];simp⟩⟩
 by_cases hbe:b=e
 ·subst hbe;exact heo
 ·exact⟨u,k b u hbe q⟩
end
def trk(h:Heap)(H:Hp):List Addr:=(List.range h.objs.size).filter fun a=>(H a).isSome
def Jh(h:Heap)(H:Hp):Heap:=PySem.W.hideAll h (trk h H)
def Jg h H:(Jh h H).objs.size=h.objs.size:=PySem.W.hideAll_size _ _
def Nu{H:Hp}{o:Obj}(e:h.get? b=some o)(n:H b=none):(Jh h H).get? b=some o:=
 PySem.W.hideAll_get _ e fun hm=>by
  have q:=(List.mem_filter.mp hm).2
  rw[n]at q;simp at q
def R6{H:Hp}{o:Obj}(e:(Jh h H).get? b=some o):h.get? b=some o/\H b=none:=by
 have e':=PySem.W.of_hideAll _ e
 refine⟨e',?_⟩
 cases q:H b with
 |none=>rfl
 |some x=>
  have z:(Jh h H).get? b=none:=PySem.W.hideAll_none _ (List.mem_filter.mpr ⟨List.mem_range.mpr (Qqz e'),by simp[q]⟩)
  rw[z]at e;cases e
def Ud(g h:Heap)(L:Addr):List (Addr×Obj):=(List.range h.objs.size).filterMap fun a=>if a=L\/(g.get? a).isSome=true then none else(h.get? a).map fun o=>(a,o)
def rest(g h:Heap)(L d:Addr):List (Addr×Obj):=(Ud g h L).filter fun p=>decide (p.1≠d)
structure Mod(K:QQq)(mg:QZz)(base:Heap):Prop where
 kin:K.In base
 glob:base.Ns mainGlobals mg
 blt:∃mb,base.Ns builtinsNs mb/\∀x:Str,x≠"__name__"->mb x=bootBuiltins x
 nolimit:base.NoLimit
structure Cx where
 prog:Program
 w:World
 K:QQq
 mg:Str->Option Value
 base:Heap
 A:Around
 N:List Str
 s₀:Shared
 H₀:Hp
 env:Env
 outer:List Env
 stack:List Env
 ex:List Addr
 fn:Str->Bool
 calm:Bool
 pn:List (Addr×Obj)
 xe:Value->Shared->Prop
def frs(l:List Env):List Addr:=l.filterMap (·.frame)
abbrev Cx.fs(X:Cx):List Addr:=frs X.outer
def Vis(sc:Scope)(x:Str):Prop:=sc.names.lookup x=some .local\/sc.names.lookup x=some .cell\/sc.names.lookup x=some .free
def Loc(sc:Scope)(x:Str):Prop:=sc.names.lookup x=some .local\/sc.names.lookup x=some .cell
def Look(env:Env)(h:Heap)(m:QZz)(x:Str)(u:Value):Prop:=
 (env.kindOf x=some .local/\m x=some u)\/((env.kindOf x=some .cell\/env.kindOf x=some .free)/\∃c,env.cells.lookup x=some c/\h.IsCell c (some u))
structure Cx.Ok(X:Cx):Prop where
 mod:Mod X.K X.mg X.base
 kind:X.env.scope.kind=.function
 glob:X.env.globals=mainGlobals
 blt:X.env.builtins=builtinsNs
 above:X.s₀.heap.objs.size<=X.env.locals
 inj:∀x y c,X.env.cells.lookup x=some c->X.env.cells.lookup y=some c->x=y
 has:∀x,(X.env.kindOf x=some .cell\/X.env.kindOf x=some .free)->∃c,X.env.cells.lookup x=some c
 cab:∀x c,X.fn x=true->X.env.cells.lookup x=some c->X.s₀.heap.objs.size<=c
 hd:X.calm=true->X.A.handled=none
 frames:X.A.frames=some X.stack
 stk:X.stack=X.outer\/(X.stack=X.env::X.outer/\X.env.frame=some X.env.locals)
 exf:∀b∈X.ex,b≠X.env.locals/\∀x c,X.env.cells.lookup x=some c->c≠b
 bs:∀b o,X.base.get? b=some o->X.s₀.heap.get? b=some o/\X.H₀ b=none
 bsz:X.base.objs.size<=X.s₀.heap.objs.size
 noex:∀b o,X.base.get? b=some o->b∉X.ex
 exfs:∀b∈X.ex,b∉X.fs
 mz:X.s₀.heap.FunFrames X.base X.outer
 frf:∀b∈X.fs,X.H₀ b=none
structure Inv(X:Cx)(δ:QQz)(σ:List (Option V))(H:Hp)(s:Shared):Prop where
 ok:X.Ok
 os:s.os=X.s₀.os
 bare:AllBare s.gens
 base:Un X.fs X.ex X.H₀ H X.s₀.heap s.heap
 loc:∃m,s.heap.Ns X.env.locals m/\∀(i:Nat)(x:Str)(v:V),X.N[i]? =some x->σ[i]? =some (some v)->Vis X.env.scope x->∃u,RelV v u/\Look X.env s.heap m x u
 cell:∀x c,X.env.cells.lookup x=some c->∃v,s.heap.IsCell c v
 free:H X.env.locals=none
 freeC:∀x c,X.env.cells.lookup x=some c->H c=none
 pin:∀p∈X.pn++δ,s.heap.get? p.1=some p.2/\H p.1=none/\p.1≠X.env.locals/\p.1∉X.fs/\∀v,p.2.data≠ .cell v
 hok:kE X.prog X.w H s.heap
 len:σ.length=X.N.length
section
variable{X:Cx}{δ:QQz}{σ:List (Option V)}{H H':Hp}{s:Shared}{h':Heap}
def Cx.Ok.afX(ok:X.Ok){o:Obj}(e:X.base.get? b=some o):b∉X.fs:=fun hb=>by
 have:=(ok.mz.mem hb).1
 rw[e]at this;cases this
theorem Inv.bs(I:Inv X δ σ H s):∀b o,X.base.get? b=some o->s.heap.get? b=some o/\H b=none:=fun b o e=>
 ⟨I.base.keep b o (I.ok.bs b o e).1 (I.ok.bs b o e).2 (I.ok.afX e) (I.ok.noex b o e),I.base.free b o (I.ok.bs b o e).1 (I.ok.bs b o e).2 (I.ok.noex b o e)⟩
def Inv.bk(I:Inv X δ σ H s):∀b o,X.base.get? b=some o->s.heap.get? b=some o:=fun b o e=>(I.bs b o e).1
theorem Inv.mod(I:Inv X δ σ H s):Mod X.K X.mg X.base:=I.ok.mod
def Inv.JM(I:Inv X δ σ H s):X.K.In s.heap:=I.ok.mod.kin.keeps I.bk
theorem Inv.lt(I:Inv X δ σ H s):X.env.locals<s.heap.objs.size:=let ⟨_,hn,_⟩:=I.loc;hn.lt
def Inv.sz(I:Inv X δ σ H s):X.s₀.heap.objs.size<=s.heap.objs.size:=Nat.le_trans I.ok.above (Nat.le_of_lt I.lt)
def Inv.afW(I:Inv X δ σ H s){a:Addr}(h:s.heap.objs.size<=a):a∉X.fs:=fun hb=>by
 obtain⟨_,o,ho,_⟩:=I.ok.mz.mem hb
 exact absurd (Qvq (Qqz ho) (Nat.le_trans I.sz h)) (Nat.lt_irrefl _)
def Inv.ZC(I:Inv X δ σ H s):∀x c,X.env.cells.lookup x=some c->c≠X.env.locals:=fun x c e z=>by
 obtain⟨v,o,ho,hd⟩:=I.cell x c e
 obtain⟨m,⟨o',es,ep,ho',hd',_⟩,_⟩:=I.loc
 rw[z,ho']at ho;cases ho;rw[hd']at hd;cases hd
theorem Inv.mz(I:Inv X δ σ H s):s.heap.FunFrames X.base X.outer:=by
 have all:∀l,(∀b∈frs l,b∈X.fs)->X.s₀.heap.FunFrames X.base l->s.heap.FunFrames X.base l:=by
  intro l
  induction l with
  |nil=>intro _ _;trivial
  |cons env r ih=>
   intro hs hl
   obtain⟨hk,⟨L,o,hf,hn,ho,hd⟩,hr⟩:=hl
   have hL:=hs L (by unfold frs;rw[List.filterMap_cons,hf];exact QYz)
   obtain⟨sl,e⟩:=I.base.slot L o ho (I.ok.frf L hL) hL fun z=>I.ok.exfs L z hL
   exact⟨hk,⟨L,_,hf,hn,e,hd⟩,ih (fun b hb=>hs b (by unfold frs;rw[List.filterMap_cons,hf];exact QYq _ hb)) hr⟩
 exact all X.outer (fun _ hb=>hb) I.ok.mz
theorem Inv.stack(I:Inv X δ σ H s):s.heap.FunFrames X.base X.stack:=by
 rcases I.ok.stk with e|⟨e,hf⟩
 ·rw[e];exact I.mz
 ·rw[e]
  obtain⟨m,hn,_⟩:=I.loc
  exact .cons (by rw[I.ok.kind];decide) hf hn (Heap.get?_none_of_le (Nat.le_trans I.ok.bsz I.ok.above)) I.mz
def Inv.Bq(I:Inv X δ σ H s):∀b∈frs X.stack,b∈X.env.locals::X.fs:=fun b hb=>by
 rcases I.ok.stk with e|⟨e,hf⟩
 ·rw[e]at hb;exact QYq _ hb
 ·rw[e]at hb
  unfold frs at hb
  rw[List.filterMap_cons,hf]at hb
  exact hb
def Inv.qu(I:Inv X δ σ H s):∀b∈frs X.stack,H b=none:=fun b hb=>by
 rcases QCq.mp (I.Bq b hb)with e|hb
 ·rw[e];exact I.free
 ·obtain⟨_,o,ho,_⟩:=I.ok.mz.mem hb
  exact I.base.free b o ho (I.ok.frf b hb) fun z=>I.ok.exfs b z hb
def Inv.step{t':Nat}{ch:List Addr}(I:Inv X δ σ H s)
  (hch:∀b∈ch,(b∈X.ex\/X.s₀.heap.objs.size<=b)/\b≠X.env.locals/\(∀x c,X.env.cells.lookup x=some c->c≠b)/\∀p∈X.pn++δ,p.1≠b)
  (keep:∀b o,b≠X.env.locals->b∉X.fs->b∉ch->s.heap.get? b=some o->H b=none->h'.get? b=some o)
  (slot:∀b o,b≠X.env.locals->b∈X.fs->b∉ch->s.heap.get? b=some o->H b=none->∃sl,h'.get? b=some {o with slots:=sl})(free:∀b o,b∉ch->s.heap.get? b=some o->H b=none->H' b=none)
  (there:∀b o,b∉ch->s.heap.get? b=some o->∃o',h'.get? b=some o')
  (tups:∀b xs,H b=some (.tup xs)->H' b=some (.tup xs))(frzs:∀b o u,H b=some (.frz o u)->H' b=some (.frz o u))(tbls:∀b ps,H b=some (.tbl ps)->∃more,H' b=some (.tbl (ps++more)))
  (ns:∀m,s.heap.Ns X.env.locals m->h'.Ns X.env.locals m)(hok:kE X.prog X.w H' h')(hg:AllBare g'):
  Inv X δ σ H' {s with heap:=h',gens:=g',drawn:=d',toks:=t'}:=by
 have neL:∀b o,X.s₀.heap.get? b=some o->b≠X.env.locals:=fun b o e=>Qvz (Qvq (Qqz e) I.ok.above)
 have neC:∀b o,X.s₀.heap.get? b=some o->b∉X.ex->b∉ch:=fun b o e hx hb=>by
  rcases (hch b hb).1 with z|z
  ·exact hx z
  ·exact absurd (Qvq (Qqz e) z) (Nat.lt_irrefl _)
 have cellK:∀x c,X.env.cells.lookup x=some c->∀v,s.heap.IsCell c v->h'.IsCell c v:=fun x c e v⟨o,ho,hd⟩=>by
  have nch:=fun z=>(hch c z).2.2.1 x c e rfl
  by_cases hc:c∈X.fs
  ·obtain⟨sl,q⟩:=slot c o (I.ZC x c e) hc nch ho (I.freeC x c e)
   exact⟨_,q,hd⟩
  ·exact⟨o,keep c o (I.ZC x c e) hc nch ho (I.freeC x c e),hd⟩
 refine⟨I.ok,I.os,hg,⟨fun b o e n hb hx=>?_,fun b o e n hb hx=>?_,fun b o e n hx=>?_,fun b o e hx=>?_,fun b xs e=>tups b xs (I.base.tups b xs e),fun b o xs e=>frzs b o xs (I.base.frzs b o xs e),fun b ps e=>?_⟩,?_,fun x c e=>?_,?_,fun x c e=>?_,fun p hp=>?_,hok,I.len⟩
 ·exact keep b o (neL b o e) hb (neC b o e hx) (I.base.keep b o e n hb hx) (I.base.free b o e n hx)
 ·obtain⟨sl,e1⟩:=I.base.slot b o e n hb hx
  obtain⟨sl',e2⟩:=slot b _ (neL b o e) hb (neC b o e hx) e1 (I.base.free b o e n hx)
  exact⟨sl',e2⟩
 ·obtain⟨o',e1⟩:=I.base.there b o e hx
  exact free b o' (neC b o e hx) e1 (I.base.free b o e n hx)
 ·obtain⟨o',e1⟩:=I.base.there b o e hx
  exact there b o' (neC b o e hx) e1
 ·obtain⟨m1,e1⟩:=I.base.tbls b ps e
  obtain⟨m2,e2⟩:=tbls b _ e1
  exact⟨m1++m2,by rw[e2,Array.append_assoc]⟩
 ·obtain⟨m,hn,hl⟩:=I.loc
  refine⟨m,ns m hn,fun i x v e1 e2 e3=>?_⟩
  obtain⟨u,r,l⟩:=hl i x v e1 e2 e3
  refine⟨u,r,?_⟩
  rcases l with l|⟨k,c,e,z⟩
  ·exact .inl l
  ·exact .inr ⟨k,c,e,cellK x c e _ z⟩
 ·obtain⟨v,z⟩:=I.cell x c e
  exact⟨v,cellK x c e v z⟩
 ·obtain⟨m,⟨o,_,_,ho,_⟩,_⟩:=I.loc
  exact free _ o (fun z=>(hch _ z).2.1 rfl) ho I.free
 ·obtain⟨v,o,ho,hd⟩:=I.cell x c e
  exact free c o (fun z=>(hch c z).2.2.1 x c e rfl) ho (I.freeC x c e)
 ·obtain⟨e,n,ne,nf,d⟩:=I.pin p hp
  have nch:=fun z=>(hch p.1 z).2.2.2 p hp rfl
  exact⟨keep p.1 p.2 ne nf nch e n,free p.1 p.2 nch e n,ne,nf,d⟩
def Inv.un(I:Inv X δ σ H s)(u:Un X.fs [] H H' s.heap h')(hok:kE X.prog X.w H' h'):Inv X δ σ H' {s with heap:=h',toks:=t'}:=by
 obtain⟨m,⟨o,es,ep,ho,r⟩,_⟩:=id I.loc
 obtain⟨sl,hL⟩:=u.any ho I.free (by simp)
 exact I.step (ch:=[]) (fun _ z=>nomatch z) (fun b o _ hb _ e n=>u.keep b o e n hb (by simp)) (fun b o _ hb _ e n=>u.slot b o e n hb (by simp)) (fun b o _ e n=>u.free b o e n (by simp)) (fun b o _ e=>u.there b o e (by simp)) u.tups u.frzs u.tbls (fun m' hm=>by
  obtain⟨o',es',ep',ho',r'⟩:=hm
  rw[ho]at ho';cases ho'
  exact⟨_,es',ep',hL,r'⟩) hok I.bare
def Inv.call{t':Nat}{ch:List Addr}(I:Inv X δ σ H s)(u:Un (frs X.stack) ch H H' s.heap h')(hok:kE X.prog X.w H' h')(hg:AllBare g')
  (hch:∀b∈ch,(b∈X.ex\/X.s₀.heap.objs.size<=b)/\b≠X.env.locals/\(∀x c,X.env.cells.lookup x=some c->c≠b)/\∀p∈X.pn++δ,p.1≠b):
  Inv X δ σ H' {s with heap:=h',gens:=g',drawn:=d',toks:=t'}:=by
 obtain⟨m,⟨o,es,ep,ho,r⟩,_⟩:=id I.loc
 obtain⟨sl,hL⟩:=u.any ho I.free fun z=>(hch _ z).2.1 rfl
 exact I.step hch (fun b o hL hb hc e n=>u.keep b o e n (fun z=>(QCq.mp (I.Bq b z)).elim hL hb) hc) (fun b o _ _ hc e n=>u.any e n hc) (fun b o hc e n=>u.free b o e n hc) (fun b o hc e=>u.there b o e hc) u.tups u.frzs u.tbls (fun m' hm=>by
  obtain⟨o',es',ep',ho',r'⟩:=hm
  rw[ho]at ho';cases ho'
  exact⟨_,es',ep',hL,r'⟩) hok hg
def Inv.turned{it:Addr}(I:Inv X δ σ H s)(k:∀b o,b≠it->s.heap.get? b=some o->h'.get? b=some o)(hn:H it=none)(hL:it≠X.env.locals)
  (h1:it∈X.ex\/X.s₀.heap.objs.size<=it)(h2:∀x c,X.env.cells.lookup x=some c->c≠it)(h3:∀p∈X.pn++δ,p.1≠it):Inv X δ σ H {s with heap:=h',toks:=t'}:=by
 have nit:∀b u,H b=some u->b≠it:=fun b u e z=>by rw[z,hn]at e;cases e
 refine I.step (ch:=[it]) (fun b hb=>?_) (fun b o _ _ hc e _=>k b o (fun z=>hc (by simp[z])) e) (fun b o _ _ hc e _=>⟨o.slots,k b o (fun z=>hc (by simp[z])) e⟩) (fun _ _ _ _ n=>n)
  (fun b o hc e=>⟨o,k b o (fun z=>hc (by simp[z])) e⟩) (fun _ _ e=>e) (fun _ _ _ e=>e) (fun b ps e=>⟨#[],by rw[e];simp⟩) (fun m hm=>?_) (fun b u e=>?_) I.bare
 ·have e:b=it:=by simpa using hb
  subst e
  exact⟨h1,hL,h2,h3⟩
 ·obtain⟨o,es,ep,ho,r⟩:=hm
  exact⟨o,es,ep,k _ o (Ne.symm hL) ho,r⟩
 ·refine(I.hok b u e).stay (fun c v hc q=>k c v ?_ q) (fun _ q=>q) fun _ _ q=>q
  rcases hc with z|z
  ·rw[z];exact nit b u e
  ·exact nit c _ z
def Inv.tok(I:Inv X δ σ H s)t:Inv X δ σ H {s with toks:=t}:=I.un Un.refl I.hok
theorem Inv.kept(I:Inv X δ σ H s)(k:∀b u,s.heap.get? b=some u->h'.get? b=some u):Inv X δ σ H {s with heap:=h',toks:=t'}:=I.un (Un.kept k) (I.hok.kept k)
theorem Inv.laid{a:Addr}{o:HO}(I:Inv X δ σ H s)(k:∀b u,s.heap.get? b=some u->h'.get? b=some u)(hp:s.heap.objs.size<=a)(new:cg X.prog X.w (upd H a o) h' a o):
  Inv X δ σ (upd H a o) {s with heap:=h',toks:=t'}:=I.un (Un.laid k hp (I.hok.fresh hp)) (I.hok.laid k hp new)
theorem Inv.write{o:HO}(I:Inv X δ σ H s)(mu:Mut (H x))(he:e=x\/H e=some (.own x))(k:∀b u,b≠e->s.heap.get? b=some u->h'.get? b=some u)(heo:∃u,h'.get? e=some u)
  (new:cg X.prog X.w (upd H x o) h' x o):Inv X δ σ (upd H x o) {s with heap:=h',toks:=t'}:=I.un (Un.write mu he k heo) (I.hok.write mu he k heo new)
def Inv.Ff(I:Inv X δ σ H s)(h:∀p∈pins',s.heap.get? p.1=some p.2/\H p.1=none/\p.1≠X.env.locals/\p.1∉X.fs/\∀v,p.2.data≠ .cell v):Inv X pins' σ H s:=
 ⟨I.ok,I.os,I.bare,I.base,I.loc,I.cell,I.free,I.freeC,fun p hp=>(QXz.mp hp).elim (fun z=>I.pin p (QWz _ z)) (h p),I.hok,I.len⟩
def zA{N:List Str}(hN:N.Nodup){i j:Nat}(a:N[i]? =some x)(b:N[j]? =some x):i=j:=by
 obtain⟨h1,e1⟩:=QCz.mp a
 obtain⟨h2,e2⟩:=QCz.mp b
 exact(List.getElem_inj hN).mp (e1.trans e2.symm)
def uQ{A:Around}{i:Nat}{v:V}{u:Value}(I:Inv X δ σ H s)(hN:X.N.Nodup)(hi:X.N[i]? =some x)(hx:Loc X.env.scope x)(r:RelV v u)
  (h:∀s',Inv X δ (σ.set i (some v)) H s'->(∃a,Heap.SameBut a s.heap s'.heap/\(a=X.env.locals\/X.env.cells.lookup x=some a))->Q () s')(hf:X.fn x=true\/X.env.scope.names.lookup x=some .local:=by first|exact .inl rfl|exact .inr rfl|assumption):wpAny M A (storeName X.env x u) Q E s:=by
 obtain⟨m,hn,hl⟩:=id I.loc
 have hiσ:i<σ.length:=by rw[I.len];exact(QCz.mp hi).1
 have ZC:=I.ZC
 have tracked:∀{a:Addr}{h':Heap},(∃o,s.heap.get? a=some o/\H a=none)->Heap.SameBut a s.heap h'->kE X.prog X.w H h':=fun{a h'}ha hs b ob e=>by
  obtain⟨_,_,hfree⟩:=ha
  refine(I.hok b ob e).stay (fun c w' hc q=>(hs.2 c ?_).trans q) (fun _ q=>q) fun _ _ q=>q
  rintro rfl
  rcases hc with rfl|hc
  ·rw[hfree]at e;cases e
  ·rw[hfree]at hc;cases hc
 rcases hx with hk|hk
 ·refine wpAny_storeName_local hk hn (fun h' hn' hs=>?_) (by rw[I.ok.kind];rfl)
  obtain⟨oL,_,_,hoL,_⟩:=id hn
  refine h _ ⟨I.ok,I.os,I.bare,⟨fun b o e n hb hx=>?_,fun b o e n hb hx=>?_,I.base.free,fun b o e hx=>?_,I.base.tups,I.base.frzs,I.base.tbls⟩,⟨_,hn',fun j y v' e1 e2 e3=>?_⟩,fun y c e=>?_,I.free,I.freeC,fun p hp=>?_,tracked ⟨oL,hoL,I.free⟩ hs,by simpa using I.len⟩ ⟨_,hs,.inl rfl⟩
  ·exact(hs.2 b (Qvz (Qvq (Qqz e) I.ok.above))).trans (I.base.keep b o e n hb hx)
  ·obtain⟨sl,e1⟩:=I.base.slot b o e n hb hx
   exact⟨sl,(hs.2 b (Qvz (Qvq (Qqz e) I.ok.above))).trans e1⟩
  ·obtain⟨o',e1⟩:=I.base.there b o e hx
   exact⟨o',(hs.2 b (Qvz (Qvq (Qqz e) I.ok.above))).trans e1⟩
  ·by_cases hj:j=i
   ·subst hj
    rw[hi]at e1;cases e1
    rw[Qwq hiσ]at e2
    cases e2
    exact⟨u,r,.inl ⟨hk,by simp⟩⟩
   ·rw[Qxz (Ne.symm hj)]at e2
    obtain⟨u',r',q⟩:=hl j y v' e1 e2 e3
    refine⟨u',r',?_⟩
    rcases q with ⟨k,e⟩|⟨k,c,e,z⟩
    ·refine .inl ⟨k,?_⟩
     have:y≠x:=fun e=>hj (zA hN e1 (e▸hi))
     simp[this,e]
    ·exact .inr ⟨k,c,e,z.sameBut hs (ZC y c e)⟩
  ·obtain⟨w',z⟩:=I.cell y c e
   exact⟨w',z.sameBut hs (ZC y c e)⟩
  ·obtain⟨e,n,ne,nf,d⟩:=I.pin p hp
   exact⟨(hs.2 p.1 ne).trans e,n,ne,nf,d⟩
 ·have hfn:X.fn x=true:=by
   rcases hf with z|z
   ·exact z
   ·rw[z]at hk;cases hk
  obtain⟨c,hc⟩:=I.ok.has x (.inl hk)
  obtain⟨w',z⟩:=I.cell x c hc
  refine wpAny_storeName_cell I.ok.kind hk hc z (fun h' hc' hs=>?_)
  obtain⟨oc,hoc,hocd⟩:=id z
  refine h {s with heap:=h'} ⟨I.ok,I.os,I.bare,⟨fun b o e n hb hx=>?_,fun b o e n hb hx=>?_,I.base.free,fun b o e hx=>?_,I.base.tups,I.base.frzs,I.base.tbls⟩,⟨m,hn.sameBut hs (Ne.symm (ZC x c hc)),fun j y v' e1 e2 e3=>?_⟩,fun y c' e=>?_,I.free,I.freeC,fun p hp=>?_,tracked ⟨oc,hoc,I.freeC x c hc⟩ hs,by simpa using I.len⟩ ⟨c,hs,.inr hc⟩
  ·exact(hs.2 b (Qvz (Qvq (Qqz e) (I.ok.cab x c hfn hc)))).trans (I.base.keep b o e n hb hx)
  ·obtain⟨sl,e1⟩:=I.base.slot b o e n hb hx
   exact⟨sl,(hs.2 b (Qvz (Qvq (Qqz e) (I.ok.cab x c hfn hc)))).trans e1⟩
  ·obtain⟨o',e1⟩:=I.base.there b o e hx
   exact⟨o',(hs.2 b (Qvz (Qvq (Qqz e) (I.ok.cab x c hfn hc)))).trans e1⟩
  ·by_cases hj:j=i
   ·subst hj
    rw[hi]at e1;cases e1
    rw[Qwq hiσ]at e2
    cases e2
    exact⟨u,r,.inr ⟨.inl hk,c,hc,hc'⟩⟩
   ·rw[Qxz (Ne.symm hj)]at e2
    obtain⟨u',r',q⟩:=hl j y v' e1 e2 e3
    refine⟨u',r',?_⟩
    rcases q with q|⟨k,c',e,z'⟩
    ·exact .inl q
    ·refine .inr ⟨k,c',e,z'.sameBut hs ?_⟩
     rintro rfl
     exact hj (zA hN e1 (I.ok.inj _ _ _ e hc▸hi))
  ·by_cases hcc:c'=c
   ·subst hcc;exact⟨_,hc'⟩
   ·obtain⟨w2,z2⟩:=I.cell y c' e
    exact⟨w2,z2.sameBut hs hcc⟩
  ·obtain⟨e,n,ne,nf,d⟩:=I.pin p hp
   refine⟨(hs.2 p.1 ?_).trans e,n,ne,nf,d⟩
   intro q
   rw[q,hoc]at e
   exact d w' (by rw[<- (QEq e)];exact hocd)
def yN{A:Around}{i:Nat}{v:V}{u:Value}(I:Inv X δ σ H s)(hN:X.N.Nodup)(hi:X.N[i]? =some x)(hx:Loc X.env.scope x)(r:RelV v u)
  (h:∀s',Inv X δ (σ.set i (some v)) H s'->Q () s')(hf:X.fn x=true\/X.env.scope.names.lookup x=some .local:=by first|exact .inl rfl|exact .inr rfl|assumption):wpAny M A (storeName X.env x u) Q E s:=
 uQ I hN hi hx r (fun s' I' _=>h s' I') hf
def Inv.call'{ch:List Addr}(I:Inv X δ σ H s)(ho:s'.os=s.os)(u:Un (frs X.stack) ch H H' s.heap s'.heap)(hok:kE X.prog X.w H' s'.heap)(hg:AllBare s'.gens)
  (hch:∀b∈ch,(b∈X.ex\/X.s₀.heap.objs.size<=b)/\b≠X.env.locals/\(∀x c,X.env.cells.lookup x=some c->c≠b)/\∀p∈X.pn++δ,p.1≠b):Inv X δ σ H' s':=by
 obtain⟨h',g',d',t',o'⟩:=s'
 subst ho
 exact I.call u hok hg hch
end
abbrev XK:=Value->Option Addr->Hp->Prop
abbrev St:=List (Option V)
abbrev VK:=V->Hp->Prop
abbrev TE:=St->Hp->VK->Prop
abbrev TT:=St->Hp->(Bool->Hp->Prop)->Prop
abbrev TA:=St->Hp->(List V->Hp->Prop)->Prop
structure Ends where
 nx:St->Hp->Prop
 rt:VK
 bk:St->Hp->Prop:=fun _ _=>False
 ct:St->Hp->Prop:=fun _ _=>False
abbrev TS:=Ends->St->Hp->Prop
def EP(X:Cx)(δ:QQz)(σ:St)(Q:VK)(u:Value)(s':Shared):Prop:=∃v H',Inv X δ σ H' s'/\RelV v u/\Q v H'
def TP(X:Cx)(δ:QQz)(σ:St)(Q:Bool->Hp->Prop)(b:Bool)(s':Shared):Prop:=∃H',Inv X δ σ H' s'/\Q b H'
def AP(X:Cx)(δ:QQz)(σ:St)(Q:List V->Hp->Prop)(us:List Value)(s':Shared):Prop:=∃vs H',Inv X δ σ H' s'/\Vals vs us/\Q vs H'
def SP(X:Cx)(δ:QQz)(D:Ends)(f:Flow)(s':Shared):Prop:=
 match f with
 |.next=>∃ζ H',Inv X δ ζ H' s'/\D.nx ζ H'
 |.brk=>∃ζ H',Inv X δ ζ H' s'/\D.bk ζ H'
 |.cont=>∃ζ H',Inv X δ ζ H' s'/\D.ct ζ H'
 |.ret u=>∃v ζ H',Inv X δ ζ H' s'/\RelV v u/\D.rt v H'
def PE(X:Cx)(e:Expr)(t:TE):Prop:=
 ∀(δ:QQz)(s:Shared)(σ:St)(H:Hp)(Q:VK),Inv X δ σ H s->t σ H Q->wpAny (model X.prog X.w) X.A (eval e X.env) (EP X δ σ Q) X.xe s
def PT(X:Cx)(e:Expr)(t:TT):Prop:=
 ∀(δ:QQz)(s:Shared)(σ:St)(H:Hp)(Q:Bool->Hp->Prop),Inv X δ σ H s->t σ H Q->wpAny (model X.prog X.w) X.A (isTrue e X.env (eval e X.env)) (TP X δ σ Q) X.xe s
def PW(X:Cx)(e:Expr)(t:TT):Prop:=
 ∀(whole:Sem Value)(δ:QQz)(s:Shared)(σ:St)(H:Hp)(Q:Bool->Hp->Prop),Inv X δ σ H s->t σ H Q->wpAny (model X.prog X.w) X.A (isTrue e X.env whole) (TP X δ σ Q) X.xe s
def PW.pt{e:Expr}(h:PW X e t):PT X e t:=h _
def PA(X:Cx)(es:List Expr)(t:TA):Prop:=
 ∀(pos:Pos)(δ:QQz)(s:Shared)(σ:St)(H:Hp)(Q:List V->Hp->Prop),Inv X δ σ H s->t σ H Q->wpAny (model X.prog X.w) X.A (spliced (backTo pos (starEach es X.env))) (AP X δ σ Q) X.xe s
def PS(X:Cx)(st:Stmt)(t:TS):Prop:=
 ∀(δ:QQz)(s:Shared)(σ:St)(H:Hp)(D:Ends),Inv X δ σ H s->t D σ H->wpAny (model X.prog X.w) X.A (exec st X.env) (SP X δ D) X.xe s
def wG(X:Cx)(st:List Stmt)(t:TS):Prop:=
 ∀(δ:QQz)(s:Shared)(σ:St)(H:Hp)(D:Ends),Inv X δ σ H s->t D σ H->wpAny (model X.prog X.w) X.A (execs st X.env) (SP X δ D) X.xe s
def b8{t:Sem α}{Q Q':α->Shared->Prop}{A:Around}{s:Shared}(h:wpAny M A t Q E s)(hQ:∀a s,Q a s->Q' a s):wpAny M A t Q' E s:=QGq h hQ fun _ _ x=>x
section
variable{X:Cx}
def bin{ta tb:TE}(ha:PE X a ta)(hb:PE X b tb){s:Shared}{σ:St}{R:V->V->Hp->Prop}(I:Inv X δ σ H s)(h:ta σ H fun x H1=>tb σ H1 fun y H2=>R x y H2)
{Q:α->Shared->Prop} {f:Value->Value->Sem α}
  (hf:∀v u s2 x y H2,Inv X δ σ H2 s2->RelV x v->RelV y u->R x y H2->wpAny (model X.prog X.w) X.A (f v u) Q X.xe s2):
  wpAny (model X.prog X.w) X.A (eval a X.env) (fun v ι=>wpAny (model X.prog X.w) X.A (eval b X.env) (fun u Ω=>wpAny (model X.prog X.w) X.A (f v u) Q X.xe Ω) X.xe ι) X.xe s:=by
 refine b8 (ha δ s σ H _ I h) fun v s1⟨x,H1,I1,r1,q1⟩=>?_
 refine b8 (hb δ s1 σ H1 _ I1 q1) fun u s2⟨y,H2,I2,r2,q2⟩=>?_
 exact hf v u s2 x y H2 I2 r1 r2 q2
def Kd(i:Nat):TE:=fun σ H Q=>∃v,σ[i]? =some (some v)/\Q v H
def tC(v:V):TE:=fun _ H Q=>Q v H
def Ln{x:Str}{pos:Pos}(hN:X.N[i]? =some x)(hv:Vis X.env.scope x)(hd:(x==("__debug__":Str))=false:=by decide)(hcd:(x==("__classdict__":Str))=false:=by decide):PE X (.Name x pos) (Kd i):=by
 intro δ s σ H Q I h
 obtain⟨v,e,h⟩:=h
 obtain⟨m,hn,hl⟩:=I.loc
 obtain⟨u,r,l⟩:=hl i x v hN e hv
 have fin:EP X δ σ Q u s:=⟨v,H,I,r,h⟩
 rcases l with ⟨hk,hm⟩|⟨hk,c,hc,hcell⟩
 ·exact wpAny_Name (wpAny_loadName_local I.ok.kind hk hn hm fin) hd
 ·rcases hk with hk|hk
  ·exact wpAny_Name (wpAny_loadName_cell I.ok.kind hk hc hcell fin) hd
  ·exact wpAny_Name (wpAny_loadName_free I.ok.kind hk hc hcell fin hcd) hd
def XF{i j pos}:PE X (.Constant (.int i) j pos) (tC (.int i)):=fun _ _ _ H _ I h=>wpAny_Constant_int ⟨.int i,H,I.tok _,⟨_,rfl⟩,h⟩
def ab5{b j pos}:PE X (.Constant (.bool b) j pos) (tC (.bl b)):=fun _ _ _ H _ I h=>Constant_bool ⟨.bl b,H,I,rfl,h⟩
def Ls{j pos}:PE X (.Constant .none j pos) (tC .non):=fun _ _ _ H _ I h=>Constant_none ⟨.non,H,I,rfl,h⟩
def XC{x j pos}:PE X (.Constant (.str x) j pos) (tC (.str x)):=fun _ _ _ H _ I h=>Calls.Constant_str ⟨.str x,H,I.tok _,⟨_,rfl⟩,h⟩
def Gl(X:Cx)(x:Str):Prop:=X.env.kindOf x=some .globalImplicit
def m8{δ:QQz}{σ:St}{x:Str}{pos:Pos}(I:Inv X δ σ H s)(hg:Gl X x)(hm:X.mg x=some u)(h:Q u s)
  (hd:(x==("__debug__":Str))=false:=by decide):wpAny (model X.prog X.w) X.A (eval (.Name x pos) X.env) Q E s:=
 Calls.Name_function_global I.ok.kind hg (Calls.loadGlobal_global (by rw[I.ok.glob];exact I.mod.glob.keeps I.bk) hm h) hd
def jf{E:QZq}{s:Shared}{σ:St}{x:Str}{pos:Pos}(I:Inv X δ σ H s)(hg:Gl X x)(hm:X.mg x=none)(hv:bootBuiltins x=some u)(h:Q u s)
  (hn:x≠"__name__":=by decide)(hd:(x==("__debug__":Str))=false:=by decide):wpAny (model X.prog X.w) X.A (eval (.Name x pos) X.env) Q E s:=by
 obtain⟨mb,h1,h2⟩:=I.mod.blt
 exact Calls.Name_function_global I.ok.kind hg (Calls.loadGlobal_builtin (by rw[I.ok.glob];exact I.mod.glob.keeps I.bk) hm (by rw[I.ok.blt];exact h1.keeps I.bk) ((h2 x hn).trans hv) h) hd
def RK{v:V}{pos:Pos}(hg:Gl X x)(hm:X.mg x=some u)(r:RelV v u)(hd:(x==("__debug__":Str))=false:=by decide):PE X (.Name x pos) (tC v):=
 fun _ _ _ H _ I h=>m8 I hg hm ⟨v,H,I,r,h⟩ hd
def RN{v:V}{pos:Pos}(hg:Gl X x)(hm:X.mg x=none)(hv:bootBuiltins x=some u)(r:RelV v u)(hn:x≠"__name__":=by decide)(hd:(x==("__debug__":Str))=false:=by decide):PE X (.Name x pos) (tC v):=
 fun _ _ _ H _ I h=>jf I hg hm hv ⟨v,H,I,r,h⟩ hn hd
variable{a b:Expr}{ta tb:TE}{pos:Pos}
variable{tA tB':TT}{rest:List Expr}
def aeU(t u:TT):TT:=fun σ H Q=>t σ H fun c H1=>if c=true then u σ H1 Q else Q false H1
def tOr(t u:TT):TT:=fun σ H Q=>t σ H fun c H1=>if c=true then Q true H1 else u σ H1 Q
def aeP(t:TT):TT:=fun σ H Q=>t σ H fun c H1=>Q (!c) H1
def Rr(ha:PT X a tA):PW X (.BoolOp .And [a] pos) tA:=by
 intro wh δ s σ H Q I h
 refine isTrue_and (b8 (ha δ s σ H Q I h) fun c s1 e=>?_)
 cases c with
 |true=>exact isTrue_and_nil e
 |false=>exact e
def Xo(ha:PT X a tA):PW X (.BoolOp .Or [a] pos) tA:=by
 intro wh δ s σ H Q I h
 refine isTrue_or (b8 (ha δ s σ H Q I h) fun c s1 e=>?_)
 cases c with
 |false=>exact isTrue_or_nil e
 |true=>exact e
def Xp(ha:PT X a tA)(hb:PW X (.BoolOp .And (b::rest) pos) tB'):PW X (.BoolOp .And (a::b::rest) pos) (aeU tA tB'):=by
 intro wh δ s σ H Q I h
 refine isTrue_and (b8 (ha δ s σ H _ I h) fun c s1⟨H1,I1,q1⟩=>?_)
 cases c with
 |true=>exact hb wh δ s1 σ H1 Q I1 q1
 |false=>exact⟨H1,I1,q1⟩
def abX(ha:PT X a tA)(hb:PW X (.BoolOp .Or (b::rest) pos) tB'):PW X (.BoolOp .Or (a::b::rest) pos) (tOr tA tB'):=by
 intro wh δ s σ H Q I h
 refine isTrue_or (b8 (ha δ s σ H _ I h) fun c s1⟨H1,I1,q1⟩=>?_)
 cases c with
 |true=>exact⟨H1,I1,q1⟩
 |false=>exact hb wh δ s1 σ H1 Q I1 q1
def Xu(ha:PT X a tA):PT X (.UnaryOp .Not a pos) (aeP tA):=by
 intro δ s σ H Q I h
 exact isTrue_not (ha δ s σ H _ I h)
def abr(ta tb:TE):TE:=fun σ H Q=>ta σ H fun x H1=>∃c,x=.bl c/\if c=true then tb σ H1 Q else Q (.bl false) H1
def aeO(ta tb:TE):TE:=fun σ H Q=>ta σ H fun x H1=>∃c,x=.bl c/\if c=true then Q (.bl true) H1 else tb σ H1 Q
def Lr{op}(h:PE X a t):PE X (.BoolOp op [a] pos) t:=fun δ s σ H Q I hw=>BoolOp_one (h δ s σ H Q I hw)
def XJ(ha:PE X a ta)(hb:PE X (.BoolOp .And (b::rest) pos) tb):PE X (.BoolOp .And (a::b::rest) pos) (abr ta tb):=by
 intro δ s σ H Q I h
 refine BoolOp_and (b8 (ha δ s σ H _ I h) fun v s1⟨x,H1,I1,r1,q1⟩=>?_)
 obtain⟨c,rfl,q1⟩:=q1
 cases r1
 refine wpAny_truthy_bool ?_
 cases c with
 |true=>exact hb δ s1 σ H1 Q I1 q1
 |false=>exact⟨.bl false,H1,I1,rfl,q1⟩
def ab3(ha:PE X a ta)(hb:PE X (.BoolOp .Or (b::rest) pos) tb):PE X (.BoolOp .Or (a::b::rest) pos) (aeO ta tb):=by
 intro δ s σ H Q I h
 refine BoolOp_or (b8 (ha δ s σ H _ I h) fun v s1⟨x,H1,I1,r1,q1⟩=>?_)
 obtain⟨c,rfl,q1⟩:=q1
 cases r1
 refine wpAny_truthy_bool ?_
 cases c with
 |false=>exact hb δ s1 σ H1 Q I1 q1
 |true=>exact⟨.bl true,H1,I1,rfl,q1⟩
def tIf(t:TT)(ta tb:TE):TE:=fun σ H Q=>t σ H fun c H1=>if c=true then ta σ H1 Q else tb σ H1 Q
def Lw(hc:PT X c tA)(ha:PE X a ta)(hb:PE X b tb):PE X (.IfExp c a b pos) (tIf tA ta tb):=by
 intro δ s σ H Q I h
 refine wpAny_IfExp (b8 (hc δ s σ H _ I h) fun d s1⟨H1,I1,q1⟩=>?_)
 cases d with
 |true=>exact ha δ s1 σ H1 Q I1 q1
 |false=>exact hb δ s1 σ H1 Q I1 q1
end
def km(K:QQq)(H:Hp)(a:Addr)(xs:List V):Prop:=
 Rd H a (.lst xs)\/
  ∃(o:Obj)(its:Array Value)(n:Nat),K.lookup a=some o/\o.cls=.type "list"/\o.dict=none/\o.data=.seq its n/\its.size<=sizeLine/\Vals xs its.toList
def iV(K:QQq)(H:Hp)(a:Addr)(xs:List V):Prop:=
 Rd H a (.tup xs)\/
  ∃(o:Obj)(its:Array Value)(n:Nat),K.lookup a=some o/\o.cls=.type "tuple"/\o.dict=none/\o.data=.seq its n/\its.size<=sizeLine/\Vals xs its.toList
def ag5:Value->Option V
 |.none=>some .non
 |.bool b=>some (.bl b)
 |.int i _=>some (.int i)
 |.str x _=>some (.str x)
 |.bytes b _=>some (.byt b)
 |.float b _=>some (.flt b)
 |.ref a=>some (.ref a)
 |.type n=>some (.ty n)
 |_=>none
def RelV.abs{u:Value}(r:RelV x u):ag5 u=some x:=by
 cases x with
 |non=>cases r;rfl
 |bl _=>cases r;rfl
 |int _=>obtain⟨t,rfl⟩:=r;rfl
 |str _=>obtain⟨t,rfl⟩:=r;rfl
 |byt _=>obtain⟨t,rfl⟩:=r;rfl
 |flt _=>obtain⟨t,rfl⟩:=r;rfl
 |ref _=>cases r;rfl
 |ty _=>cases r;rfl
def RelV.inj{x y:V}{u:Value}(r:RelV x u)(q:RelV y u):x=y:=QEq (r.abs.symm.trans q.abs)
theorem Vals.inj:∀{xs ys:List V}{us:List Value},Vals xs us->Vals ys us->xs=ys
 |_,_,_,.nil,.nil=>rfl
 |_,_,_,.cons r t,.cons r' t'=>by rw[r.inj r',Vals.inj t t']
section
variable{X:Cx}{δ:QQz}{σ:St}{H:Hp}{s:Shared}{a:Addr}{xs ys:List V}
def Inv.list(I:Inv X δ σ H s)(h:km X.K H a xs):∃its:List Value,Vals xs its/\PlainL s.heap a its.toArray/\xs.length<=sizeLine:=by
 rcases h with h|⟨o,its,n,hk,hc,hd,hs,hz,r⟩
 ·obtain⟨z,its,n,r,e⟩:=h.ok I.hok
  exact⟨its,r,⟨_,n,e,rfl,rfl,rfl⟩,z⟩
 ·refine⟨its.toList,r,⟨o,n,I.JM a o hk,hc,hd,by simpa using hs⟩,?_⟩
  have e:=r.length
  simp only[Array.length_toList]at e
  omega
def Inv.Bm(I:Inv X δ σ H s)(h:iV X.K H a xs):∃its:List Value,Vals xs its/\TupOk s.heap a its.toArray/\xs.length<=sizeLine:=by
 rcases h with h|⟨o,its,n,hk,hc,hn,hs,hz,r⟩
 ·obtain⟨z,its,r,p⟩:=h.ok I.hok
  exact⟨its,r,p,z⟩
 ·refine⟨its.toList,r,⟨o,I.JM a o hk,hc,hn,n,by simpa using hs⟩,?_⟩
  have e:=r.length
  simp only[Array.length_toList]at e
  omega
def Inv.tuple(I:Inv X δ σ H s)(h:iV X.K H a xs):∃its:List Value,Vals xs its/\IsTup s.heap a its.toArray/\xs.length<=sizeLine:=by
 obtain⟨its,r,p,z⟩:=I.Bm h
 exact⟨its,r,p.is,z⟩
def Inv.zH(I:Inv X δ σ H s)(h:km X.K H a xs)(h':km X.K H a ys):xs=ys:=by
 obtain⟨its,r,⟨o,n,e,_,_,d⟩,_⟩:=I.list h
 obtain⟨its',r',⟨o',n',e',_,_,d'⟩,_⟩:=I.list h'
 rw[e]at e';cases e'
 rw[d]at d'
 injection d' with d1 _
 have:its=its':=by simpa using congrArg Array.toList d1
 subst this
 exact r.inj r'
def Inv.uO(I:Inv X δ σ H s)(h:iV X.K H a xs)(h':iV X.K H a ys):xs=ys:=by
 obtain⟨its,r,⟨o,e,_,n,d⟩,_⟩:=I.tuple h
 obtain⟨its',r',⟨o',e',_,n',d'⟩,_⟩:=I.tuple h'
 rw[e]at e';cases e'
 rw[d]at d'
 injection d' with d1 _
 have:its=its':=by simpa using congrArg Array.toList d1
 subst this
 exact r.inj r'
end
abbrev Cx.wish(X:Cx)(E:QZq):Cx:={X with xe:=E}
abbrev Cx.Vm(X:Cx):Cx:=X.wish fun _ _=>False
theorem Cx.Ok.wish{X:Cx}(ok:X.Ok)E:(X.wish E).Ok:=
 ⟨ok.mod,ok.kind,ok.glob,ok.blt,ok.above,ok.inj,ok.has,ok.cab,ok.hd,ok.frames,ok.stk,ok.exf,ok.bs,ok.bsz,ok.noex,ok.exfs,ok.mz,ok.frf⟩
def Cx.Ok.iW{X:Cx}(ok:(X.wish E).Ok):X.Ok:=
 ⟨ok.mod,ok.kind,ok.glob,ok.blt,ok.above,ok.inj,ok.has,ok.cab,ok.hd,ok.frames,ok.stk,ok.exf,ok.bs,ok.bsz,ok.noex,ok.exfs,ok.mz,ok.frf⟩
section
variable{X:Cx}{δ:QQz}{σ:St}{H:Hp}{s:Shared}{E:QZq}
theorem Inv.wish(I:Inv X δ σ H s)E:Inv (X.wish E) δ σ H s:=⟨I.ok.wish E,I.os,I.bare,I.base,I.loc,I.cell,I.free,I.freeC,I.pin,I.hok,I.len⟩
theorem Inv.iW(I:Inv (X.wish E) δ σ H s):Inv X δ σ H s:=⟨I.ok.iW,I.os,I.bare,I.base,I.loc,I.cell,I.free,I.freeC,I.pin,I.hok,I.len⟩
theorem SP.iW{f:Flow}(h:SP (X.wish E) δ D f s'):SP X δ D f s':=by
 cases f with
 |next=>obtain⟨ζ,H',I,q⟩:=h;exact⟨ζ,H',I.iW,q⟩
 |brk=>obtain⟨ζ,H',I,q⟩:=h;exact⟨ζ,H',I.iW,q⟩
 |cont=>obtain⟨ζ,H',I,q⟩:=h;exact⟨ζ,H',I.iW,q⟩
 |ret u=>obtain⟨v,ζ,H',I,r,q⟩:=h;exact⟨v,ζ,H',I.iW,r,q⟩
theorem wG.Vm{st:List Stmt}(h:wG X.Vm st t):wG X st t:=fun δ s σ H D I hw=>
 QGq (h δ s σ H D (I.wish _) hw) (fun _ _ q=>q.iW) fun _ _ z=>False.elim z
end
section
variable{X:Cx}{st:Stmt}{rest:List Stmt}{t u:TS}{e:Expr}{te:TE}{pos:Pos}
def abl:TS:=fun D σ H=>D.nx σ H
def abf(t u:TS):TS:=fun D σ H=>t {D with nx:=u D} σ H
def Rx:wG X [] abl:=fun _ _ σ H _ I h=>wpAny_execs_nil ⟨σ,H,I,h⟩
def Le(h1:PS X st t)(h2:wG X rest u):wG X (st::rest) (abf t u):=by
 intro δ s σ H D I h
 refine wpAny_execs_cons (b8 (h1 δ s σ H {D with nx:=u D} I h) fun f s1 q=>?_)
 cases f with
 |next=>
  obtain⟨ζ,H',I',q⟩:=q
  exact h2 δ s1 ζ H' D I' q
 |ret v=>exact q
 |brk=>exact q
 |cont=>exact q
def Rw(h1:PS X st t):wG X [st] t:=by
 intro δ s σ H D I h
 refine wpAny_execs_cons (b8 (h1 δ s σ H D I h) fun f s1 q=>?_)
 cases f with
 |next=>exact wpAny_execs_nil q
 |ret v=>exact q
 |brk=>exact q
 |cont=>exact q
def Inv.quiet{σ:St}{H:Hp}(I:Inv X δ σ H s):interactive X.env=false:=by simp[interactive,I.ok.kind]
def abo(te:TE):TS:=fun D σ H=>te σ H fun _ H1=>D.nx σ H1
def wZ(he:PE X e te)(hs:swapsWith e none pos.line X.env=pure false:=by rfl):PS X (.Expr e pos) (abo te):=by
 intro δ s σ H D I h
 exact wpAny_Expr_any (b8 (he δ s σ H _ I h) fun v s1⟨x,H1,I1,r1,q1⟩=>⟨σ,H1,I1,q1⟩) I.quiet hs
def abh(te:TE):TS:=fun D σ H=>te σ H D.rt
def mq(he:PE X e te):PS X (.Return (some e) pos) (abh te):=by
 intro δ s σ H D I h
 exact wpAny_Return_some (b8 (he δ s σ H _ I h) fun v s1⟨x,H1,I1,r1,q1⟩=>⟨x,σ,H1,I1,r1,q1⟩)
def abg:TS:=fun D _ H=>D.rt .non H
def Ry:PS X (.Return none pos) abg:=fun _ _ σ H _ I h=>wpAny_Return_none ⟨.non,σ,H,I,rfl,h⟩
def aeR(c:TT)(t u:TS):TS:=fun D σ H=>c σ H fun b H1=>if b=true then t D σ H1 else u D σ H1
def ab0{a b:List Stmt}(hc:PT X c tc)(ha:wG X a t)(hb:wG X b u):PS X (.If c a b pos) (aeR tc t u):=by
 intro δ s σ H D I h
 refine wpAny_If (b8 (hc δ s σ H _ I h) fun d s1⟨H1,I1,q1⟩=>?_)
 cases d with
 |true=>exact ha δ s1 σ H1 D I1 q1
 |false=>exact hb δ s1 σ H1 D I1 q1
end
abbrev TG:=V->St->Hp->(St->Hp->Prop)->Prop
abbrev ZP:=List V->St->Hp->(St->Hp->Prop)->Prop
def PG(X:Cx)(target:Expr)(t:TG):Prop:=
 ∀(δ:QQz)(s:Shared)(σ:St)(H:Hp)(v:V)(u:Value)(Q:St->Hp->Prop),Inv X δ σ H s->RelV v u->t v σ H Q->
  wpAny (model X.prog X.w) X.A (assign target X.env u) (fun _ s'=>∃ζ H',Inv X δ ζ H' s'/\Q ζ H') X.xe s
def PGs(X:Cx)(ts:List Expr)(t:ZP):Prop:=
 ∀(δ:QQz)(s:Shared)(σ:St)(H:Hp)(vs:List V)(us:List Value)(Q:St->Hp->Prop),Inv X δ σ H s->Vals vs us->t vs σ H Q->
  wpAny (model X.prog X.w) X.A (assignInOrder ((assignEach ts X.env).map (·.2)) us) (fun _ s'=>∃ζ H',Inv X δ ζ H' s'/\Q ζ H') X.xe s
abbrev adm:=V->V->V->Hp->(Hp->Prop)->Prop
def Qk(X:Cx)(t:adm):Prop:=
 ∀(δ:QQz)(s:Shared)(σ:St)(H:Hp)(o i v:V)(ov iv u:Value)(Q:Hp->Prop),Inv X δ σ H s->RelV o ov->RelV i iv->RelV v u->t o i v H Q->
  wpAny (model X.prog X.w) X.A (setItem ov iv u) (fun _ s'=>∃H',Inv X δ σ H' s'/\Q H') X.xe s
section
variable{X:Cx}{pos:Pos}
def VJ(i:Nat):TG:=fun v σ H Q=>Q (σ.set i (some v)) H
def RG{x:Str}(hN:X.N.Nodup)(hi:X.N[i]? =some x)(hx:Loc X.env.scope x)(hf:X.fn x=true\/X.env.scope.names.lookup x=some .local:=by first|exact .inl rfl|exact .inr rfl|assumption):PG X (.Name x pos) (VJ i):=by
 intro δ s σ H v u Q I r h
 exact wpAny_assign_Name (yN I hN hi hx r (fun s' I'=>⟨_,H,I',h⟩) hf)
def agG:ZP:=fun vs σ H Q=>vs=[]/\Q σ H
def acT(t:TG)(u:ZP):ZP:=fun vs σ H Q=>∃v r,vs=v::r/\t v σ H fun ζ H'=>u r ζ H' Q
def RD:PGs X [] agG:=by
 intro δ s σ H vs us Q I r h
 obtain⟨e,h⟩:=h
 subst e
 cases r
 exact assignInOrder_nil ⟨σ,H,I,h⟩
theorem Lk{es:List Expr}{u:ZP}(h1:PG X e t)(h2:PGs X es u)
  (hs:(assignEach (e::es) X.env).map (·.2)=assign e X.env::(assignEach es X.env).map (·.2):=by rfl):PGs X (e::es) (acT t u):=by
 intro δ s σ H vs us Q I r h
 obtain⟨v,vr,e1,h⟩:=h
 subst e1
 cases r with
 |cons r rr=>
  rw[hs]
  exact assignInOrder_cons (b8 (h1 δ s σ H _ _ _ I r h) fun _ s1⟨ξ,H1,I1,q1⟩=>h2 δ s1 ξ H1 _ _ Q I1 rr q1)
def agE(K:QQq)(n:Nat)(t:ZP):TG:=fun v σ H Q=>∃a xs,v=.ref a/\iV K H a xs/\xs.length=n/\t xs σ H Q
def Xx{k:Nat}{t:ZP}(hc:X.calm=true)(h:PGs X es t)
  (hn:(assignEach es X.env).length=n:=by rfl)(hst:(assignEach es X.env).findIdx? (·.1)=none:=by rfl):PG X (.Tuple es k pos) (agE X.K n t):=by
 intro δ s σ H v u Q I r hw
 obtain⟨a,xs,e1,hq,hl,hw⟩:=hw
 subst e1
 cases r
 obtain⟨its,rv,ht,hz⟩:=I.tuple hq
 exact assign_Tuple_tuple (I.ok.hd hc) ht (by simp[hn,<-hl,rv.length]) hst fun h' hx=>h δ _ σ H xs _ Q (I.kept (t':=s.toks) fun b o e=>hx b o (Qvz (Qqz e)) e) (by simpa using rv) hw
def agF(to ti:TE)(t:adm):TG:=fun v σ H Q=>to σ H fun o H1=>ti σ H1 fun i H2=>t o i v H2 fun H3=>Q σ H3
def Xy{to ti:TE}(ho:PE X o to)(hi:PE X i ti)(hs:Qk X t)
  (ha:∀v,assign (.Subscript o i pos) X.env v=(do
   let ov<-holding [v] (eval o X.env)
   let iv<-holding [v,ov] (eval i X.env)
   standAt pos
   holding [v,ov,iv] (setItem ov iv v)
   release [v,ov,iv] []):=by intro _;rfl):PG X (.Subscript o i pos) (agF to ti t):=by
 intro δ s σ H v u Q I r h
 refine QKq (Qqq (b8 (ho δ s σ H _ I h) fun ov s1⟨x,H1,I1,r1,q1⟩=>?_))
 exact QKq (Qqq (b8 (hi δ s1 σ H1 _ I1 q1) fun iv s2⟨y,H2,I2,r2,q2⟩=>QKq (wpAny_standAt (QKq (Qqq (b8 (hs δ s2 σ H2 x y v ov iv u _ I2 r1 r2 r q2) fun _ s3⟨H3,I3,q3⟩=>wpAny_release ⟨σ,H3,I3,q3⟩))))))
def abq(te:TE)(g:TG):TS:=fun D σ H=>te σ H fun x H1=>g x σ H1 D.nx
def Lg{te:TE}(he:PE X e te)(hg:PG X tg g)(hs:swapsWithSole [tg] e pos.line X.env=pure false:=by rfl)(hw:swappedStores [tg] e X.env=pure none:=by rfl)
  (h1:(assignEach [tg] X.env).map (·.2)=[assign tg X.env]:=by rfl):PS X (.Assign [tg] e pos) (abq te g):=by
 intro δ s σ H D I h
 refine wpAny_Assign_stores (b8 (he δ s σ H _ I h) fun v s1⟨x,H1,I1,r1,q1⟩=>?_) hs hw
 rw[h1]
 exact b8 (hg δ s1 σ H1 x v _ I1 r1 q1) fun _ s2 q=>q
def Xv{x:Str}{te:TE}(hN:X.N.Nodup)(hi:X.N[i]? =some x)(hx:Loc X.env.scope x)(he:PE X e te)(hs:swapsWith e (some (.Name x pos')) pos.line X.env=pure false:=by rfl)(hf:X.fn x=true\/X.env.scope.names.lookup x=some .local:=by first|exact .inl rfl|exact .inr rfl|assumption):
  PS X (.Assign [.Name x pos'] e pos) (abq te (VJ i)):=by
 intro δ s σ H D I h
 exact wpAny_Assign_Name (b8 (he δ s σ H _ I h) fun v s1⟨y,H1,I1,r1,q1⟩=>yN I1 hN hi hx r1 (fun s2 I2=>⟨_,H1,I2,q1⟩) hf) hs
end
section
variable{X:Cx}{pos:Pos}
def WM(c:TT)(tb:TS):TS:=fun D σ H=>∃W:Nat->St->Hp->Prop,(∃m,W m σ H)/\∀m σ H,W m σ H->
 c σ H fun b H1=>if b=true then∃N:St->Hp->Prop,(∀ζ H',N ζ H'->∃m',m'<m/\W m' ζ H')/\tb {D with nx:=N,ct:=N,bk:=D.nx} σ H1 else D.nx σ H1
def Lf{body:List Stmt}{tb:TS}(hp:PassesOwn (model X.prog X.w) X.A X.env X.xe)(hc:PT X c tc)(hb:wG X body tb):PS X (.While c body [] pos) (WM tc tb):=by
 intro δ s σ H D I h
 obtain⟨W,⟨m0,w0⟩,turn⟩:=h
 refine wpAny_While (codeAny_whileLoop (fun n s'=>∃ζ H',Inv X δ ζ H' s'/\W n ζ H') ?_ m0 ⟨σ,H,I,w0⟩)
 rintro n s1 ⟨ξ,H1,I1,w1⟩
 refine wpAny_passesOwn hp (b8 (hc δ s1 ξ H1 _ I1 (turn n ξ H1 w1)) fun b s2⟨H2,I2,q2⟩=>?_)
 cases b with
 |true=>
  obtain⟨N,hN,q2⟩:=q2
  refine wpAny_passesOwn hp (b8 (hb δ s2 ξ H2 _ I2 q2) fun f s3 q3=>?_)
  cases f with
  |next=>
   obtain⟨σ3,H3,I3,n3⟩:=q3
   obtain⟨m',hm,w3⟩:=hN σ3 H3 n3
   exact⟨m',hm,σ3,H3,I3,w3⟩
  |cont=>
   obtain⟨σ3,H3,I3,n3⟩:=q3
   obtain⟨m',hm,w3⟩:=hN σ3 H3 n3
   exact⟨m',hm,σ3,H3,I3,w3⟩
  |brk=>exact q3
  |ret v=>exact q3
 |false=>
  exact wpAny_execs_nil ⟨ξ,H2,I2,q2⟩
end
structure It where
 go:Nat->Hp->Prop
 yld:Nat->Hp->V->Hp->Prop
 stop:Nat->Hp->Prop
def gQ(X:Cx)(δ:QQz)(H:Hp)(b:Addr):Prop:=
 H b=none/\b≠X.env.locals/\b∉X.fs/\(b∈X.ex\/X.s₀.heap.objs.size<=b)/\(∀x c,X.env.cells.lookup x=some c->c≠b)/\∀p∈X.pn++δ,p.1≠b
def Inv.z9{X:Cx}{σ:St}{H H':Hp}{b:Addr}(I:Inv X δ σ H s)(hb:s.heap.objs.size<=b)(hn:H' b=none):gQ X δ H' b:=by
 refine⟨hn,Nat.ne_of_gt (Qvq I.lt hb),I.afW hb,.inr (Nat.le_trans I.sz hb),fun x c e z=>?_,fun p hp z=>?_⟩
 ·obtain⟨v,q⟩:=I.cell x c e
  exact absurd (Qvq q.lt (by rw[z];exact hb)) (Nat.lt_irrefl _)
 ·exact absurd (Qvq (Qqz (I.pin p hp).1) (by rw[z];exact hb)) (Nat.lt_irrefl _)
structure Turn(P:Program)(w:World)(K:QQq)(tg:Expr)(J:It)(fp:List Addr)(it:Addr)(tn:Nat->Heap->Prop):Prop where
 mem:it∈fp
 obj:∀i h,tn i h->∀b∈fp,∃o,h.get? b=some o/\∀v,o.data≠ .cell v
 keep:∀i h h',tn i h->(∀b∈fp,∀o,h.get? b=some o->h'.get? b=some o)->tn i h'
 item:∀(X:Cx),X.prog=P->X.w=w->X.K=K->X.calm=true->∀(i:Nat)(δ:QQz)(s:Shared)(σ:St)(H:Hp)(E:QZq),Inv X δ σ H s->(∀b∈fp,gQ X δ H b)->tn i s.heap->J.go i H->
  wpAny (model P w) X.A (pyNext (.ref it)) (fun r s1=>∃u,r=some u/\
   wpAny (model P w) X.A (letOwnedTupleGo tg (.ref it) u) (fun _ s2=>∃x H',Inv X δ σ H' s2/\RelV x u/\J.yld i H x H'/\tn (i+1) s2.heap/\∀b∈fp,H' b=none) E s1) E s
 done:∀(X:Cx),X.prog=P->X.w=w->X.K=K->X.calm=true->∀(i:Nat)(δ:QQz)(s:Shared)(σ:St)(H:Hp)(E:QZq),Inv X δ σ H s->(∀b∈fp,gQ X δ H b)->tn i s.heap->J.stop i H->
  wpAny (model P w) X.A (pyNext (.ref it)) (fun r s1=>r=none/\Inv X δ σ H s1) E s
 self:∀(A:Around)(i:Nat)(s:Shared)(Q:QZq)(E:QZq),tn i s.heap->Q (.ref it) s->wpAny (model P w) A (pyIter (.ref it)) Q E s
abbrev TI:=St->Hp->(It->Hp->Prop)->Prop
def PIE(X:Cx)(δ:QQz)(σ:St)(tg:Expr)(R:It->Hp->Prop)(itv:Value)(s2:Shared):Prop:=
 ∃(it:Addr)(fp:List Addr)(tn:Nat->Heap->Prop)(J:It)(H':Hp),itv=.ref it/\Inv X δ σ H' s2/\Turn X.prog X.w X.K tg J fp it tn/\tn 0 s2.heap/\(∀b∈fp,gQ X δ H' b)/\R J H'
def PI(X:Cx)(tg iter:Expr)(wi:TI):Prop:=
 ∀(δ:QQz)(s:Shared)(σ:St)(H:Hp)(R:It->Hp->Prop),Inv X δ σ H s->wi σ H R->
  wpAny (model X.prog X.w) X.A (eval iter X.env) (fun v s1=>wpAny (model X.prog X.w) X.A (pyIter v) (PIE X δ σ tg R) X.xe s1) X.xe s
def Gs {A : Around} {s : Shared} {it : Addr} {o : Obj} {vs : Array Value} (ho : s.heap.get? it = some o) (hc : o.cls = .type n) (hd : o.data = .fields vs)
    (hn : ["enumerate", "zip", "dict_itemiterator", "dict_reverseitemiterator", "odict_iterator", "itertools.zip_longest", "itertools.pairwise"].contains n = false) (hQ : Q () s) : wpAny M A (letOwnedTupleGo tg (.ref it) u) Q E s := by
  cases tg <;> first
    | exact QKz hQ
    | (cases u <;> first
        | exact QKz hQ
        | (refine QKq (wpAny_load ho ?_)
           rw [hc, hd]
           show wpAny M A (if _ = true then _ else _) Q E s
           rw [if_neg (by intro h; rw [hn, Bool.false_and] at h; cases h)]
           exact QKz hQ))
def Itl(K:QQq)(a:Addr):It:=
 ⟨fun i H=>∃xs x,km K H a xs/\xs[i]? =some x,fun i H x H'=>H'=H/\∀xs,km K H a xs->xs[i]? =some x,fun i H=>∃xs,km K H a xs/\xs.length<=i⟩
def Itt(K:QQq)(a:Addr):It:=
 ⟨fun i H=>∃xs x,iV K H a xs/\xs[i]? =some x,fun i H x H'=>H'=H/\∀xs,iV K H a xs->xs[i]? =some x,fun i H=>∃xs,iV K H a xs/\xs.length<=i⟩
def Itr(lo:Int)(n:Nat):It:=⟨fun i _=>i<n,fun i H x H'=>H'=H/\x=.int (lo+i),fun i _=>n<=i⟩
theorem Hm{w:World}{K:QQq}a it:Turn P w K tg (Itl K a) [it] it (fun i h=>h.IsListIter it a i) where
 mem:=by simp
 obj:=fun i h st b hb=>by
  have e:b=it:=by simpa using hb
  subst e
  obtain⟨o,e,c,d⟩:=st
  exact⟨o,e,fun v z=>by rw[d]at z;cases z⟩
 keep:=fun i h h' st k=>st.at fun o e=>k it (by simp) o e
 item:=by
  intro X hP hw hK hc i δ s σ H E I hf st hg
  subst hP hw hK
  obtain⟨xs,x,hq,hx⟩:=hg
  obtain⟨its,rv,p,hz⟩:=I.list hq
  obtain⟨u,hu,ru⟩:=rv.get hx
  obtain⟨f0,f1,f2,f3,f4,f5⟩:=hf it (by simp)
  refine wpAny_pyNext_list_item st p.isList (by simpa using hu) fun h' st' sb=>?_
  obtain⟨o,e,c,d⟩:=id st'
  exact⟨u,rfl,Gs e c d (by decide) ⟨x,H,I.turned (t':=s.toks) (fun b o hb e=>(sb.2 b hb).trans e) f0 f1 f3 f4 f5,ru,⟨rfl,fun ys hy=>by rw[I.zH hy hq];exact hx⟩,st',fun b hb=>(hf b hb).1⟩⟩
 done:=by
  intro X hP hw hK hc i δ s σ H E I hf st hg
  subst hP hw hK
  obtain⟨xs,hq,hx⟩:=hg
  obtain⟨its,rv,p,hz⟩:=I.list hq
  obtain⟨f0,f1,f2,f3,f4,f5⟩:=hf it (by simp)
  have hl:=rv.length
  exact wpAny_pyNext_list_end (I.ok.hd hc) st p.isList (by simp;omega) fun h' eb=>⟨rfl,I.turned (fun b o hb e=>eb b o hb e) f0 f1 f3 f4 f5⟩
 self:=fun _ _ _ _ _ st h=>wpAny_pyIter_listiter st h
theorem Bk{w:World}{K:QQq}a it:Turn P w K tg (Itt K a) [it] it (fun i h=>h.IsTupleIter it a i) where
 mem:=by simp
 obj:=fun i h st b hb=>by
  have e:b=it:=by simpa using hb
  subst e
  obtain⟨o,e,c,d⟩:=st
  exact⟨o,e,fun v z=>by rw[d]at z;cases z⟩
 keep:=fun i h h' st k=>st.at fun o e=>k it (by simp) o e
 item:=by
  intro X hP hw hK hc i δ s σ H E I hf st hg
  subst hP hw hK
  obtain⟨xs,x,hq,hx⟩:=hg
  obtain⟨its,rv,p,hz⟩:=I.tuple hq
  obtain⟨u,hu,ru⟩:=rv.get hx
  obtain⟨f0,f1,f2,f3,f4,f5⟩:=hf it (by simp)
  refine wpAny_pyNext_tuple_item st (p) (by simpa using hu) fun h' st' sb=>?_
  obtain⟨o,e,c,d⟩:=id st'
  exact⟨u,rfl,Gs e c d (by decide) ⟨x,H,I.turned (t':=s.toks) (fun b o hb e=>(sb.2 b hb).trans e) f0 f1 f3 f4 f5,ru,⟨rfl,fun ys hy=>by rw[I.uO hy hq];exact hx⟩,st',fun b hb=>(hf b hb).1⟩⟩
 done:=by
  intro X hP hw hK hc i δ s σ H E I hf st hg
  subst hP hw hK
  obtain⟨xs,hq,hx⟩:=hg
  obtain⟨its,rv,p,hz⟩:=I.tuple hq
  obtain⟨f0,f1,f2,f3,f4,f5⟩:=hf it (by simp)
  have hl:=rv.length
  exact wpAny_pyNext_tuple_end (I.ok.hd hc) st (p) (by simp;omega) fun h' eb=>⟨rfl,I.turned (fun b o hb e=>eb b o hb e) f0 f1 f3 f4 f5⟩
 self:=fun _ _ _ _ _ st h=>wpAny_pyIter_tupleiter st h
theorem Bl{w:World}{K:QQq}it lo n:Turn P w K tg (Itr lo n) [it] it (fun i h=>IsRangeIter h it (lo+(i:Nat)*1) ((n:Int)- (i:Nat)) 1) where
 mem:=by simp
 obj:=fun i h st b hb=>by
  have e:b=it:=by simpa using hb
  subst e
  exact⟨_,st,fun v z=>by
   cases z⟩
 keep:=fun i h h' st k=>k it (by simp) _ st
 item:=by
  intro X hP hw hK hc i δ s σ H E I hf st hg
  subst hP hw hK
  obtain⟨f0,f1,f2,f3,f4,f5⟩:=hf it (by simp)
  refine(Walks.range (prog:=X.prog) (w:=X.w) (I.ok.hd hc) it lo 1 n).item i s _ _ hg st fun v h' tk hv st' kk=>?_
  obtain⟨t,rfl⟩:=hv
  refine⟨_,rfl,Gs st' rfl rfl (by decide) ⟨.int _,H,(I.turned (fun b o hb e=>kk b o (by simpa using hb) e) f0 f1 f3 f4 f5),⟨t,?_⟩,⟨rfl,rfl⟩,st',fun b hb=>(hf b hb).1⟩⟩
  rw[Int.mul_one]
 done:=by
  intro X hP hw hK hc i δ s σ H E I hf st hg
  obtain⟨f0,f1,f2,f3,f4,f5⟩:=hf it (by simp)
  exact wpAny_pyNext_range_end (I.ok.hd hc) st (by have:n<=i:=hg;omega) fun h' eb=>⟨rfl,I.turned (fun b o hb e=>eb b o hb e) f0 f1 f3 f4 f5⟩
 self:=fun _ _ _ _ _ st h=>wpAny_pyIter_rangeiter st h
section
variable{X:Cx}{tg:Expr}
def K3{σ:St}{H:Hp}{R:It->Hp->Prop}{lo hi:Int}{tk:Nat}(I:Inv X δ σ H s)(h1: -(2 ^62)<=lo)(h2:lo<2 ^62)(h3: -(2 ^62)<=hi)(h4:hi<2 ^62)
  (q:R (Itr lo (hi-lo).toNat) H):wpAny (model X.prog X.w) X.A (pyIter (.ref s.heap.objs.size)) (PIE X δ σ tg R) E {s with heap:=s.heap.push {cls:=.type "range",data:=.fields #[.int lo t,.int hi u,.int 1 v]},toks:=tk}:=by
 refine wpAny_pyIter_range (IsRange.new ..) (small_one h1 h2 h3 h4) ?_
 have I1:Inv X δ σ H {s with heap:=s.heap.push {cls:=.type "range",data:=.fields #[.int lo t,.int hi u,.int 1 v]},toks:=tk}:=I.kept fun b o e=>QWq _ e
 refine⟨(s.heap.push {cls:=.type "range",data:=.fields #[.int lo t,.int hi u,.int 1 v]}).objs.size,[(s.heap.push {cls:=.type "range",data:=.fields #[.int lo t,.int hi u,.int 1 v]}).objs.size],_,_,H,rfl,
  I1.kept fun b o e=>QWq _ e,Bl _ lo (hi-lo).toNat,?_,fun b hb=>?_,q⟩
 ·have e1:lo+((0:Nat))*1=lo:=by simp
  have e2:(((hi-lo).toNat:Nat))- ((0:Nat))=Builtin.Range.rangeSize lo hi 1:=by rw[rangeSize_one];split<;>omega
  rw[e1,e2]
  exact Qzq _ rfl
 ·have e:b=(s.heap.push {cls:=.type "range",data:=.fields #[.int lo t,.int hi u,.int 1 v]}).objs.size:=by simpa using hb
  subst e
  exact I1.z9 (QVz _) (I1.hok.fresh (QVz _))
def acL(ta:TA):TI:=fun σ H R=>ta σ H fun vs H1=>∃j:Int,vs=[.int j]/\ -(2 ^62)<=j/\j<2 ^62/\R (Itr 0 j.toNat) H1
def H9{ta:TA}(hg:Gl X "range")(hm:X.mg "range"=none)(ha:PA X [a] ta)(hs:starEach [a] X.env=[(false,eval a X.env)]:=by rfl):PI X tg (.Call (.Name "range" p) [a] [] pos) (acL ta):=by
 intro δ s σ H R I h
 refine Call_ (jf I hg hm boot_range (PyProof.Rows.callWith_type1 (b8 (ha pos δ s σ H _ I h) fun us s1⟨vs,H1,I1,r1,q1⟩=>?_) hs rfl))
 obtain⟨j,e,q1,q2,q⟩:=q1
 subst e
 cases r1 with
 |cons r rr=>
  cases rr
  obtain⟨t,rfl⟩:=r
  exact call_range_1 (K3 I1 (by omega) (by omega) q1 q2 (by simpa using q))
noncomputable def aeS(wi:TI)(g:TG)(tb:TS):TS:=fun D σ H=>wi σ H fun J H1=>∃W:Nat->Nat->St->Hp->Prop,(∃m,W 0 m σ H1)/\∀i m σ H,W i m σ H->
 (J.stop i H/\D.nx σ H)\/(J.go i H/\∃N:St->Hp->Prop,(∀ζ H',N ζ H'->∃m',m'<m/\W (i+1) m' ζ H')/\∀x H',J.yld i H x H'->g x σ H' fun ρ H2=>tb {D with nx:=N,ct:=N,bk:=D.nx} ρ H2)
def rM(fp:List Addr)(h:Heap):List (Addr×Obj):=fp.filterMap fun b=>(h.get? b).map fun o=>(b,o)
def jd{h:Heap}{o:Obj}(hb:b∈fp)(e:h.get? b=some o):(b,o)∈rM fp h:=List.mem_filterMap.mpr ⟨b,hb,by rw[e];rfl⟩
def Ii{h:Heap}(hp:p∈rM fp h):p.1∈fp/\h.get? p.1=some p.2:=by
 obtain⟨b,hb,e⟩:=List.mem_filterMap.mp hp
 cases q:h.get? b with
 |none=>rw[q]at e;cases e
 |some o=>
  rw[q]at e
  have e':=QEq e
  subst e'
  exact⟨hb,q⟩
def Inv.pinned{σ:St}{s:Shared}(I:Inv X δ σ H s)(hf:∀b∈fp,gQ X δ H b)(ho:∀b∈fp,∃o,s.heap.get? b=some o/\∀v,o.data≠ .cell v):Inv X (δ++rM fp s.heap) σ H s:=
 I.Ff fun p hp=>(QXz.mp hp).elim (fun z=>I.pin p (QVq _ z)) fun z=>by
  obtain⟨hb,e⟩:=Ii z
  obtain⟨f0,f1,f2,_⟩:=hf p.1 hb
  obtain⟨o,e',d⟩:=ho p.1 hb
  rw[e]at e';cases e'
  exact⟨e,f0,f1,f2,d⟩
def Inv.mK{σ:St}{H:Hp}(I:Inv X (δ++pl) σ H s):Inv X δ σ H s:=I.Ff fun p hp=>I.pin p (QVq _ (QWz _ hp))
theorem Xw{body:List Stmt}{g:TG}{pos:Pos}(hp:PassesOwn (model X.prog X.w) X.A X.env X.xe)(hc:X.calm=true)(hi:PI X tg iter wi)(hg:PG X tg g)(hb:wG X body tb)
  (hs:∀x,foldedSetIterable iter X.env x=pure x:=by intro _;rfl):PS X (.For tg iter body [] pos) (aeS wi g tb):=by
 intro δ s σ H D I h
 refine wpAny_For (b8 (hi δ s σ H _ I h) fun v s1 h1=>b8 h1 fun itv s2 h2=>?_) hs
 obtain⟨it,fp,tn,J,H2,e,I2,T,st2,f2,W,⟨m0,w0⟩,turn⟩:=h2
 subst e
 have stat:∀{H':Hp},(∀b∈fp,H' b=none)->∀b∈fp,gQ X δ H' b:=fun hn b hb=>⟨hn b hb,(f2 b hb).2⟩
 refine codeAny_forLoop_any (fun n s'=>∃i ζ H',Inv X δ ζ H' s'/\tn i s'.heap/\(∀b∈fp,H' b=none)/\W i n ζ H') ?_ m0 ⟨0,σ,H2,I2,st2,fun b hb=>(f2 b hb).1,w0⟩
 rintro n s3 ⟨i,σ3,H3,I3,st3,fr3,w3⟩
 rcases turn i n σ3 H3 w3 with ⟨stop,qn⟩|⟨go,N,hN,step⟩
 ·refine wpAny_passesOwn hp (b8 (T.done X rfl rfl rfl hc i δ s3 σ3 H3 X.xe I3 (stat fr3) st3 stop) fun r s4⟨hr,I4⟩=>?_)
  subst hr
  exact wpAny_execs_nil ⟨σ3,H3,I4,qn⟩
 ·refine wpAny_passesOwn hp (b8 (T.item X rfl rfl rfl hc i δ s3 σ3 H3 X.xe I3 (stat fr3) st3 go) fun r s4⟨u,hr,h4⟩=>?_)
  subst hr
  refine wpAny_passesOwn hp (b8 h4 fun _ s5⟨x,H5,I5,r5,y5,st5,fr5⟩=>?_)
  refine wpAny_passesOwn hp (b8 (hg _ s5 σ3 H5 x u _ (I5.pinned (stat fr5) (T.obj _ _ st5)) r5 (step x H5 y5)) fun _ s6⟨σ6,H6,I6,q6⟩=>?_)
  refine wpAny_passesOwn hp (b8 (hb _ s6 σ6 H6 _ I6 q6) fun f s7 q7=>?_)
  have again:∀{σ7:St}{H7:Hp},Inv X _ σ7 H7 s7->N σ7 H7->∃m,m<n/\∃i ζ H',Inv X δ ζ H' s7/\tn i s7.heap/\(∀b∈fp,H' b=none)/\W i m ζ H':=fun{σ7 H7}I7 n7=>by
   obtain⟨m',hm,w7⟩:=hN σ7 H7 n7
   refine⟨m',hm,i+1,σ7,H7,I7.mK,T.keep _ _ _ st5 fun b hb o e=>(I7.pin (b,o) (QVq _ (QVq _ (jd hb e)))).1,fun b hb=>?_,w7⟩
   obtain⟨o,e,d⟩:=T.obj _ _ st5 b hb
   exact(I7.pin (b,o) (QVq _ (QVq _ (jd hb e)))).2.1
  cases f with
  |next=>obtain⟨σ7,H7,I7,n7⟩:=q7;exact again I7 n7
  |cont=>obtain⟨σ7,H7,I7,n7⟩:=q7;exact again I7 n7
  |brk=>obtain⟨σ7,H7,I7,q7⟩:=q7;exact⟨σ7,H7,I7.mK,q7⟩
  |ret v=>obtain⟨x7,σ7,H7,I7,r7,q7⟩:=q7;exact⟨x7,σ7,H7,I7.mK,r7,q7⟩
end
abbrev R2:=V->V->Hp->VK->Prop
def fY(X:Cx)(f:Value->Value->Sem Value)(r:R2):Prop:=
 ∀(δ:QQz)(s:Shared)(σ:St)(H:Hp)(x y:V)(v u:Value)(Q:VK),Inv X δ σ H s->RelV x v->RelV y u->r x y H Q->
  wpAny (model X.prog X.w) X.A (f v u) (EP X δ σ Q) X.xe s
def UnR(X:Cx)(f:Value->Sem Value)(r:V->Hp->VK->Prop):Prop:=
 ∀(δ:QQz)(s:Shared)(σ:St)(H:Hp)(x:V)(v:Value)(Q:VK),Inv X δ σ H s->RelV x v->r x H Q->
  wpAny (model X.prog X.w) X.A (f v) (EP X δ σ Q) X.xe s
def fZ(X:Cx)(f:Value)(r:List V->Hp->VK->Prop):Prop:=
 ∀(δ:QQz)(s:Shared)(σ:St)(H:Hp)(xs:List V)(us:List Value)(Q:VK),Inv X δ σ H s->Vals xs us->r xs H Q->
  wpAny (model X.prog X.w) X.A (call f us) (EP X δ σ Q) X.xe s
def ag8(X:Cx)(r:V->Hp->(Bool->Hp->Prop)->Prop):Prop:=
 ∀(δ:QQz)(s:Shared)(σ:St)(H:Hp)(x:V)(v:Value)(Q:Bool->Hp->Prop),Inv X δ σ H s->RelV x v->r x H Q->
  wpAny (model X.prog X.w) X.A (truthy v) (TP X δ σ Q) X.xe s
def tOp(r:R2)(ta tb:TE):TE:=fun σ H Q=>ta σ H fun x H1=>tb σ H1 fun y H2=>r x y H2 Q
def tUn(r:V->Hp->VK->Prop)(ta:TE):TE:=fun σ H Q=>ta σ H fun x H1=>r x H1 Q
def rI(C:Int->Int->Prop)(g:Int->Int->V):R2:=fun x y H Q=>∃i j,x=.int i/\y=.int j/\C i j/\Q (g i j) H
def K9(g:Int->Int->V):R2:=fun x y H Q=>∃i j,x=.int i/\y=.int j/\Q (g i j) H
def rU(g:Int->V):V->Hp->VK->Prop:=fun x H Q=>∃i,x=.int i/\Q (g i) H
section
variable{X:Cx}{a b c:Expr}{ta tb tc:TE}{pos:Pos}
def ZF(ha:PE X a ta)(hb:PE X b tb){s:Shared}{σ:St}{R:V->V->Hp->Prop}(I:Inv X δ σ H s)
  (h:ta σ H fun x H1=>tb σ H1 fun y H2=>R x y H2){f:Value->Value->Sem Value}
  (hf:∀v u s2 x y H2,Inv X δ σ H2 s2->RelV x v->RelV y u->R x y H2->wpAny (model X.prog X.w) X.A (f v u) Q X.xe s2):
  wpAny (model X.prog X.w) X.A (eval a X.env) (fun v ι=>wpAny (model X.prog X.w) X.A (eval b X.env) (fun u Ω=>wpAny (model X.prog X.w) X.A (f v u) Q X.xe Ω) X.xe ι) X.xe s:=by
 exact b8 (ha δ s σ H _ I h) fun v s1⟨x,H1,I1,r1,q1⟩=>b8 (hb δ s1 σ H1 _ I1 q1) fun u s2⟨y,H2,I2,r2,q2⟩=>hf v u s2 x y H2 I2 r1 r2 q2
def vo{r:R2}(ho:fY X (binaryOp op) r)(ha:PE X a ta)(hb:PE X b tb):PE X (.BinOp a op b pos) (tOp r ta tb):=by
 intro δ s σ H Q I h
 exact wpAny_BinOp (ZF ha hb I h fun v u s2 x y H2 I2 rx ry q=>ho δ s2 σ H2 x y v u Q I2 rx ry q)
def ab2{r:V->Hp->VK->Prop}(ho:UnR X (unaryOp op) r)(ha:PE X a ta):PE X (.UnaryOp op a pos) (tUn r ta):=by
 intro δ s σ H Q I h
 exact UnaryOp_ (b8 (ha δ s σ H _ I h) fun v s1⟨x,H1,I1,r1,q1⟩=>ho δ s1 σ H1 x v Q I1 r1 q1)
def opI{C:Int->Int->Prop}{g:Int->Int->Int}
  (rule:∀(i j:Int)(t u:Tok)(s:Shared)(Q:QZq)(E:QZq),C i j->Q (.int (g i j) s.toks) {s with toks:=s.toks+1}->wpAny (model X.prog X.w) X.A (f (.int i t) (.int j u)) Q E s):
  fY X f (rI C fun i j=>.int (g i j)):=by
 intro δ s σ H x y v u Q I rx ry h
 obtain⟨i,j,rfl,rfl,hc,q⟩:=h
 obtain⟨t,rfl⟩:=rx
 obtain⟨t',rfl⟩:=ry
 exact rule i j t t' s _ _ hc ⟨.int _,H,I.tok _,⟨_,rfl⟩,q⟩
def ach{g:Int->Int->Int}
  (rule:∀(i j:Int)(t u:Tok)(s:Shared)(Q:QZq)(E:QZq),Q (.int (g i j) s.toks) {s with toks:=s.toks+1}->wpAny (model X.prog X.w) X.A (f (.int i t) (.int j u)) Q E s):
  fY X f (K9 fun i j=>.int (g i j)):=by
 intro δ s σ H x y v u Q I rx ry h
 obtain⟨i,j,rfl,rfl,q⟩:=h
 obtain⟨t,rfl⟩:=rx
 obtain⟨t',rfl⟩:=ry
 exact rule i j t t' s _ _ ⟨.int _,H,I.tok _,⟨_,rfl⟩,q⟩
def R5{g:Int->Int->Bool}
  (rule:∀(i j:Int)(t u:Tok)(s:Shared)(Q:QZq)(E:QZq),Q (.bool (g i j)) s->wpAny (model X.prog X.w) X.A (f (.int i t) (.int j u)) Q E s):
  fY X f (K9 fun i j=>.bl (g i j)):=by
 intro δ s σ H x y v u Q I rx ry h
 obtain⟨i,j,rfl,rfl,q⟩:=h
 obtain⟨t,rfl⟩:=rx
 obtain⟨t',rfl⟩:=ry
 exact rule i j t t' s _ _ ⟨.bl _,H,I,rfl,q⟩
def ady(i j:Int):Prop:=0<j/\j<1073741824
def adx(i j:Int):Prop:=0<=j/\j<=1000000/\i.natAbs<2 ^64
def Uk(i j:Int):Prop:=(-(2 ^64)<i/\i<2 ^64)\/(-(2 ^64)<j/\j<2 ^64)
def Uk.ok(h:Uk i j):IntMulOk i j:=by
 rcases h with ⟨h1,h2⟩|⟨h1,h2⟩
 ·exact .of_left (intBits_le_64 h1 h2)
 ·exact .of_right (intBits_le_64 h1 h2)
def X8:fY X (binaryOp .Add) (K9 fun i j=>.int (i+j)):=ach fun _ _ _ _ _ _ _ q=>add_int q
def XN:fY X (binaryOp .Sub) (K9 fun i j=>.int (i-j)):=ach fun _ _ _ _ _ _ _ q=>sub_int q
def XS:fY X (binaryOp .Mult) (rI Uk fun i j=>.int (i*j)):=opI fun _ _ _ _ _ _ _ hc q=>mul_int q hc.ok
def RW:fY X (binaryOp .FloorDiv) (rI ady fun i j=>.int (i/j)):=opI fun i j _ _ _ _ _ hc q=>by
 have h1:=hc.1
 have h2:=hc.2
 exact floordiv_int (by omega) (by rw[Int.fdiv_eq_ediv_of_nonneg i (by omega)];exact q) (.inl (PyProof.noPylong_small (by omega)))
def XX:fY X (binaryOp .Mod) (rI (fun _ j=>0<j) fun i j=>.int (i%j)):=opI fun i j _ _ _ _ _ hc q=>by
 have h1:=hc
 exact mod_int' (by omega) (by rw[Int.fmod_eq_emod_of_nonneg i (by omega)];exact q)
def XQ:fY X (binaryOp .Pow) (rI adx fun i j=>.int (i ^j.toNat)):=opI fun _ _ _ _ _ _ _ hc q=>pow_int_small hc.1 hc.2.1 hc.2.2 q
def unI{g:Int->Int}
  (rule:∀(i:Int)(t:Tok)(s:Shared)(Q:QZq)(E:QZq),Q (.int (g i) s.toks) {s with toks:=s.toks+1}->wpAny (model X.prog X.w) X.A (f (.int i t)) Q E s):
  UnR X f (rU fun i=>.int (g i)):=by
 intro δ s σ H x v Q I rx h
 obtain⟨i,rfl,q⟩:=h
 obtain⟨t,rfl⟩:=rx
 exact rule i t s _ _ ⟨.int (g i),H,I.tok _,⟨_,rfl⟩,q⟩
def Wz:UnR X (unaryOp .USub) (rU fun i=>.int (-i)):=unI fun _ _ _ _ _ q=>neg_int q
end
def Q5:V->V->Bool
 |.non,.non=>true|.non,.int _=>true|.int _,.non=>true|.non,.bl _=>true|.bl _,.non=>true|.non,.str _=>true|.str _,.non=>true
 |.int _,.int _=>true|.bl _,.bl _=>true|.str _,.str _=>true|.byt _,.byt _=>true
 |.int _,.str _=>true|.str _,.int _=>true|.bl _,.str _=>true|.str _,.bl _=>true
 |_,_=>false
def rEq:R2:=fun x y H Q=>Q5 x y=true/\Q (.bl (decide (x=y))) H
def rNe:R2:=fun x y H Q=>Q5 x y=true/\Q (.bl (!decide (x=y))) H
def G4:decide (V.int i=V.int j)=(i==j):=by
 rw[Bool.eq_iff_iff]
 simp
def Ox:decide (V.bl i=V.bl j)=(i==j):=by
 rw[Bool.eq_iff_iff]
 simp
def G3:decide (V.str i=V.str j)=(i==j):=by
 rw[Bool.eq_iff_iff]
 simp
def G5:decide (V.byt i=V.byt j)=(i.toList==j.toList):=by
 rw[Bool.eq_iff_iff]
 cases i
 cases j
 simp
section
variable{X:Cx}{a b c:Expr}{ta tb tc:TE}{pos:Pos}
def bz{σ:St}{H:Hp}{Q:VK}(I:Inv X δ σ H s)(q:Q (.bl k) H)(e:k=k'):EP X δ σ Q (.bool k') s:=by
 subst e
 exact⟨.bl k,H,I,rfl,q⟩
def acf:fY X (compareOp .Eq) rEq:=by
 intro δ s σ H x y v u Q I rx ry h
 obtain⟨hs,q⟩:=h
 cases x with
 |non=>
  cases rx
  cases y with
  |non=>cases ry;exact PySem.EqNone.eq_none_none (bz I q (by simp))
  |bl j=>cases ry;exact PySem.EqNone.eq_none_bool (bz I q (by simp))
  |int j=>obtain⟨t',rfl⟩:=ry;exact PySem.EqNone.eq_none_int (bz I q (by simp))
  |str j=>obtain⟨t',rfl⟩:=ry;exact PySem.EqNone.eq_none_str (bz I q (by simp))
  |_=>exact absurd (hs) Qjz
 |bl i=>
  cases rx
  cases y with
  |non=>cases ry;exact PySem.EqNone.eq_bool_none (bz I q (by simp))
  |bl j=>cases ry;exact eq_bool (bz I q Ox)
  |str j=>obtain⟨t',rfl⟩:=ry;exact PySem.EqMixed.eq_bool_str (bz I q (by simp))
  |_=>exact absurd (hs) Qjz
 |int i=>
  obtain⟨t,rfl⟩:=rx
  cases y with
  |non=>cases ry;exact PySem.EqNone.eq_int_none (bz I q (by simp))
  |int j=>obtain⟨t',rfl⟩:=ry;exact eq_int (bz I q G4)
  |str j=>obtain⟨t',rfl⟩:=ry;exact PySem.EqMixed.eq_int_str (bz I q (by simp))
  |_=>exact absurd (hs) Qjz
 |str i=>
  obtain⟨t,rfl⟩:=rx
  cases y with
  |non=>cases ry;exact PySem.EqNone.eq_str_none (bz I q (by simp))
  |bl j=>cases ry;exact PySem.EqMixed.eq_str_bool (bz I q (by simp))
  |int j=>obtain⟨t',rfl⟩:=ry;exact PySem.EqMixed.eq_str_int (bz I q (by simp))
  |str j=>obtain⟨t',rfl⟩:=ry;exact eq_str (bz I q G3)
  |_=>exact absurd (hs) Qjz
 |byt i=>
  obtain⟨t,rfl⟩:=rx
  cases y with
  |byt j=>obtain⟨t',rfl⟩:=ry;exact PySem.W.eq_bytes (bz I q G5)
  |_=>exact absurd (hs) Qjz
 |_=>cases y<;>exact absurd (hs) Qjz
def ab9:fY X (compareOp .NotEq) rNe:=by
 intro δ s σ H x y v u Q I rx ry h
 obtain⟨hs,q⟩:=h
 cases x with
 |non=>
  cases rx
  cases y with
  |non=>cases ry;exact PySem.EqNone.ne_none_none (bz I q (by simp))
  |bl j=>cases ry;exact PySem.EqNone.ne_none_bool (bz I q (by simp))
  |int j=>obtain⟨t',rfl⟩:=ry;exact PySem.EqNone.ne_none_int (bz I q (by simp))
  |str j=>obtain⟨t',rfl⟩:=ry;exact PySem.EqNone.ne_none_str (bz I q (by simp))
  |_=>exact absurd (hs) Qjz
 |bl i=>
  cases rx
  cases y with
  |non=>cases ry;exact PySem.EqNone.ne_bool_none (bz I q (by simp))
  |bl j=>cases ry;exact ne_bool (bz I q (congrArg not Ox))
  |str j=>obtain⟨t',rfl⟩:=ry;exact PySem.EqMixed.ne_bool_str (bz I q (by simp))
  |_=>exact absurd (hs) Qjz
 |int i=>
  obtain⟨t,rfl⟩:=rx
  cases y with
  |non=>cases ry;exact PySem.EqNone.ne_int_none (bz I q (by simp))
  |int j=>obtain⟨t',rfl⟩:=ry;exact ne_int (bz I q (congrArg not G4))
  |str j=>obtain⟨t',rfl⟩:=ry;exact PySem.EqMixed.ne_int_str (bz I q (by simp))
  |_=>exact absurd (hs) Qjz
 |str i=>
  obtain⟨t,rfl⟩:=rx
  cases y with
  |non=>cases ry;exact PySem.EqNone.ne_str_none (bz I q (by simp))
  |bl j=>cases ry;exact PySem.EqMixed.ne_str_bool (bz I q (by simp))
  |int j=>obtain⟨t',rfl⟩:=ry;exact PySem.EqMixed.ne_str_int (bz I q (by simp))
  |str j=>obtain⟨t',rfl⟩:=ry;exact ne_str (bz I q (congrArg not G3))
  |_=>exact absurd (hs) Qjz
 |byt i=>
  obtain⟨t,rfl⟩:=rx
  cases y with
  |byt j=>obtain⟨t',rfl⟩:=ry;exact PySem.W.ne_bytes (bz I q (congrArg not G5))
  |_=>exact absurd (hs) Qjz
 |_=>cases y<;>exact absurd (hs) Qjz
def aca:fY X (compareOp .Lt) (K9 fun i j=>.bl (decide (i<j))):=R5 fun _ _ _ _ _ _ _ q=>lt_int q
def acb:fY X (compareOp .LtE) (K9 fun i j=>.bl (decide (i<=j))):=R5 fun _ _ _ _ _ _ _ q=>le_int q
def acd:fY X (compareOp .Gt) (K9 fun i j=>.bl (decide (j<i))):=R5 fun _ _ _ _ _ _ _ q=>gt_int q
def ace:fY X (compareOp .GtE) (K9 fun i j=>.bl (decide (j<=i))):=R5 fun _ _ _ _ _ _ _ q=>ge_int q
def Ie:fY X (compareOp .In) (fun x y H Q=>∃i j,x=.str i/\y=.str j/\Q (.bl (!(Builtin.Str.occurrences j i 0 j.length 1).isEmpty)) H):=by
 intro δ s σ H x y v u Q I rx ry h
 obtain⟨i,j,rfl,rfl,q⟩:=h
 obtain⟨t,rfl⟩:=rx
 obtain⟨t',rfl⟩:=ry
 exact in_str (bz I q rfl)
def X4:fY X (compareOp .Is) (fun x y H Q=>y=.non/\Q (.bl (decide (x=.non))) H):=by
 intro δ s σ H x y v u Q I rx ry h
 obtain⟨rfl,q⟩:=h
 cases ry
 refine is_none_gen (bz I q ?_)
 cases x<;>first
  |(cases rx;rfl)
  |(obtain⟨t,rfl⟩:=rx;rfl)
def RT:fY X (compareOp .IsNot) (fun x y H Q=>y=.non/\Q (.bl (!decide (x=.non))) H):=by
 intro δ s σ H x y v u Q I rx ry h
 obtain⟨rfl,q⟩:=h
 cases ry
 refine isnot_none_gen (bz I q ?_)
 cases x<;>first
  |(cases rx;rfl)
  |(obtain⟨t,rfl⟩:=rx;rfl)
def fY.or{f:Value->Value->Sem Value}{r r':R2}(h:fY X f r)(h':fY X f r'):fY X f (fun x y H Q=>r x y H Q\/r' x y H Q):=by
 intro δ s σ H x y v u Q I rx ry q
 rcases q with q|q
 ·exact h δ s σ H x y v u Q I rx ry q
 ·exact h' δ s σ H x y v u Q I rx ry q
def RM{r:R2}(ho:fY X (compareOp op) r)(ha:PE X a ta)(hb:PE X b tb)(hm:behindInMarks op b=false):PE X (.Compare a [op] [b] pos) (tOp r ta tb):=by
 intro δ s σ H Q I h
 exact wpAny_Compare1 (ZF ha hb I h fun v u s2 x y H2 I2 rx ry q=>ho δ s2 σ H2 x y v u Q I2 rx ry q) hm
def UJ(t:TE):TT:=fun σ H Q=>t σ H fun x H'=>∃k,x=.bl k/\Q k H'
def Ru{r:R2}(ho:fY X (compareOp op) r)(ha:PE X a ta)(hb:PE X b tb)(hm:behindInMarks op b=false):PT X (.Compare a [op] [b] pos) (UJ (tOp r ta tb)):=by
 intro δ s σ H Q I h
 refine wpAny_isTrue_Compare1 (b8 (ha δ s σ H _ I h) fun v s1⟨x,H1,I1,r1,q1⟩=>b8 (hb δ s1 σ H1 _ I1 q1) fun u s2⟨y,H2,I2,r2,q2⟩=>
  b8 (ho δ s2 σ H2 x y v u _ I2 r1 r2 q2) fun c s3⟨z,H3,I3,r3,k,e,q3⟩=>?_) hm
 subst e
 cases r3
 exact wpAny_truthy_bool ⟨H3,I3,q3⟩
def Bo(r r':R2)(ta tb tc:TE):TE:=fun σ H Q=>ta σ H fun x H1=>tb σ H1 fun y H2=>r x y H2 fun z H3=>∃k,z=.bl k/\
 (if k=true then tc σ H3 fun w' H4=>r' y w' H4 Q else Q (.bl false) H3)
theorem Lz{r r':R2}(ho:fY X (compareOp op) r)(ho':fY X (compareOp op') r')(ha:PE X a ta)(hb:PE X b tb)(hc:PE X c tc)
  (hm:lastMarks [op,op'] [b,c]=false:=by with_unfolding_all rfl):PE X (.Compare a [op,op'] [b,c] pos) (Bo r r' ta tb tc):=by
 intro δ s σ H Q I h
 refine Compare_chain (b8 (ha δ s σ H _ I h) fun v s1⟨x,H1,I1,r1,q1⟩=>chain_link (b8 (hb δ s1 σ H1 _ I1 q1) fun u s2⟨y,H2,I2,r2,q2⟩=>
  b8 (ho δ s2 σ H2 x y v u _ I2 r1 r2 q2) fun d s3⟨z,H3,I3,r3,k,e,q3⟩=>?_)) hm
 subst e
 cases r3
 refine wpAny_truthy_bool ?_
 cases k with
 |false=>exact ite_ff ⟨.bl false,H3,I3,rfl,q3⟩
 |true=>exact ite_tt (chain_last (b8 (hc δ s3 σ H3 _ I3 q3) fun w' s4⟨z',H4,I4,r4,q4⟩=>ho' δ s4 σ H4 y z' u w' Q I4 r2 r4 q4))
theorem Ld{r r':R2}(ho:fY X (compareOp op) r)(ho':fY X (compareOp op') r')(ha:PE X a ta)(hb:PE X b tb)(hc:PE X c tc)
  (hm:lastMarks [op,op'] [b,c]=false:=by with_unfolding_all rfl):PT X (.Compare a [op,op'] [b,c] pos) (UJ (Bo r r' ta tb tc)):=by
 intro δ s σ H Q I h
 refine isTrue_chain (b8 (ha δ s σ H _ I h) fun v s1⟨x,H1,I1,r1,q1⟩=>test_link (b8 (hb δ s1 σ H1 _ I1 q1) fun u s2⟨y,H2,I2,r2,q2⟩=>
  b8 (ho δ s2 σ H2 x y v u _ I2 r1 r2 q2) fun d s3⟨z,H3,I3,r3,k,e,q3⟩=>?_)) hm
 subst e
 cases r3
 refine wpAny_truthy_bool ?_
 cases k with
 |false=>
  obtain⟨k',e',q'⟩:=q3
  cases e'
  exact ite_ff ⟨H3,I3,q'⟩
 |true=>
  refine ite_tt (test_last (b8 (hc δ s3 σ H3 _ I3 q3) fun w' s4⟨z',H4,I4,r4,q4⟩=>b8 (ho' δ s4 σ H4 y z' u w' _ I4 r2 r4 q4) fun d' s5⟨z2,H5,I5,r5,k2,e2,q5⟩=>?_))
  subst e2
  cases r5
  exact wpAny_truthy_bool ⟨H5,I5,q5⟩
def Qe(K:QQq)(x:V)(H:Hp)(k:Bool):Prop:=
 match x with
 |.non=>k=false
 |.bl b=>k=b
 |.int i=>k=(i !=0)
 |.str y=>y.length<=sizeLine/\k=((y.length:Int) !=0)
 |.byt y=>y.size<=sizeLine/\k=((y.size:Int) !=0)
 |.ref p=>(∃xs,km K H p xs/\k= !xs.isEmpty)\/(∃xs,iV K H p xs/\k= !xs.isEmpty)\/∃kvs,H p=some (.dK kvs)/\k= !kvs.isEmpty
 |_=>False
def CV{kvs:List (κ×V)}{vs:List (κ×Value)}(r:KV kvs vs):(!vs.isEmpty)= !kvs.isEmpty:=by
 cases r<;>rfl
def sS{its:List Value}(r:Vals xs its):(!its.toArray.isEmpty)= !xs.isEmpty:=by
 cases r<;>simp
def xq:(sizeLine:Nat)<2 ^63:=by rw[sizeLine_eq];decide
def J5:ag8 X (fun x H Q=>∃k,Qe X.K x H k/\Q k H):=by
 intro δ s σ H x v Q I rx h
 obtain⟨k,e,q⟩:=h
 have hs:=sizeLine_eq
 cases x with
 |non=>
  cases rx
  subst e
  exact truthy_none ⟨H,I,q⟩
 |bl b=>
  cases rx
  subst e
  exact wpAny_truthy_bool ⟨H,I,q⟩
 |int i=>
  obtain⟨t,rfl⟩:=rx
  subst e
  exact PySem.P.truthy_int ⟨H,I,q⟩
 |str y=>
  obtain⟨t,rfl⟩:=rx
  obtain⟨hy,e'⟩:y.length<=sizeLine/\k=((y.length:Int) !=0):=e
  subst e'
  exact PySem.P.truthy_str (by omega) ⟨H,I.tok _,q⟩
 |byt y=>
  obtain⟨t,rfl⟩:=rx
  obtain⟨hy,e'⟩:y.size<=sizeLine/\k=((y.size:Int) !=0):=e
  subst e'
  exact PySem.W.truthy_bytes (by omega) ⟨H,I.tok _,q⟩
 |ref p=>
  cases rx
  have e':=e
  rcases e' with ⟨xs,hx,e'⟩|⟨xs,hx,e'⟩|⟨kvs,hx,e'⟩
  ·subst e'
   obtain⟨its,r,pl,hz⟩:=I.list hx
   have hlen:=r.length
   exact wpAny_truthy_list pl.isList (by simp only[Qyq];omega) ⟨H,I.tok _,by rw[sS r];exact q⟩
  ·subst e'
   obtain⟨its,r,pl,hz⟩:=I.tuple hx
   have hlen:=r.length
   exact truthy_tuple pl (by simp only[Qyq];omega) ⟨H,I.tok _,by rw[sS r];exact q⟩
  ·subst e'
   obtain⟨hz,hS,vs,r,m⟩:kvs.length<=sizeLine/\(p==sysModules)=false/\∃vs,KV kvs vs/\s.heap.DictOf _ p vs:=I.hok p _ hx
   have hlen:=Paired.length r
   exact wpAny_truthy_dict hS m (by omega) ⟨H,I.tok _,by rw[CV r];exact q⟩
 |_=>exact(e).elim
def Lb(ha:PE X a ta)(he:∀whole,isTrue a X.env whole=(do let v<-whole;standAt a.pos;holding [v] (truthy v))):
  PT X a (fun σ H Q=>ta σ H fun x H'=>∃k,Qe X.K x H' k/\Q k H'):=by
 intro δ s σ H Q I h
 exact isTrue_plain (b8 (ha δ s σ H _ I h) fun v s1⟨x,H1,I1,r1,q1⟩=>J5 δ s1 σ H1 x v Q I1 r1 q1) (he _)
def vals1{us:List Value}(r:Vals [x] us):∃u,us=[u]/\RelV x u:=by
 cases r with
 |cons r1 r2=>cases r2;exact⟨_,rfl,r1⟩
def Jx:fZ X (.type "int") (fun xs H Q=>(∃i,xs=[.int i]/\Q (.int i) H)\/∃k,xs=[.bl k]/\Q (.int (if k then 1 else 0)) H):=by
 intro δ s σ H xs us Q I r h
 rcases h with ⟨i,rfl,q⟩|⟨k,rfl,q⟩
 ·obtain⟨u,rfl,t,rfl⟩:=vals1 r
  exact call_int_int ⟨.int i,H,I,⟨_,rfl⟩,q⟩
 ·obtain⟨u,rfl,r1⟩:=vals1 r
  cases r1
  exact call_int_bool ⟨.int _,H,I.tok _,⟨_,rfl⟩,q⟩
def ZR(K:QQq)(x:V)(H:Hp)(n:Nat):Prop:=
 match x with
 |.str y=>y.length<=sizeLine/\n=y.length
 |.byt y=>y.size<=sizeLine/\n=y.size
 |.ref p=>(∃xs,km K H p xs/\n=xs.length)\/∃xs,iV K H p xs/\n=xs.length
 |_=>False
def Pb:fZ X (.builtin "len") (fun xs H Q=>∃x n,xs=[x]/\ZR X.K x H n/\Q (.int n) H):=by
 intro δ s σ H xs us Q I r h
 obtain⟨x,n,rfl,e,q⟩:=h
 obtain⟨u,rfl,rx⟩:=vals1 r
 have hs:=sizeLine_eq
 cases x with
 |str y=>
  obtain⟨t,rfl⟩:=rx
  obtain⟨hy,e'⟩:y.length<=sizeLine/\n=y.length:=e
  subst e'
  exact len_str (by omega) ⟨.int _,H,I.tok _,⟨_,rfl⟩,q⟩
 |byt y=>
  obtain⟨t,rfl⟩:=rx
  obtain⟨hy,e'⟩:y.size<=sizeLine/\n=y.size:=e
  subst e'
  exact PySem.W.len_bytes (by omega) ⟨.int _,H,I.tok _,⟨_,rfl⟩,q⟩
 |ref p=>
  cases rx
  have e':=e
  rcases e' with ⟨xs,hx,e'⟩|⟨xs,hx,e'⟩
  ·subst e'
   obtain⟨its,r',pl,hz⟩:=I.list hx
   have hlen:=r'.length
   exact Calls.call_len_list pl.isList (by simp only[Qyq];omega) ⟨.int xs.length,H,I.tok _,⟨_,by simp only[Qyq];rw[hlen]⟩,q⟩
  ·subst e'
   obtain⟨its,r',pl,hz⟩:=I.tuple hx
   have hlen:=r'.length
   exact len_tuple pl (by simp only[Qyq];omega) ⟨.int xs.length,H,I.tok _,⟨_,by simp only[Qyq];rw[hlen]⟩,q⟩
 |_=>exact(e).elim
end
section
variable{prog:Program}{w:World}{A:Around}{E:QZq}{s:Shared}{K:QQq}{x dx C f:Addr}{mA:QZz}{name:Str}{v:Value}
end
def nY.some_of{o:Option Value}(r:nY (some v) o):∃u,o=some u/\RelV v u:=by
 cases o with
 |none=>exact(r).elim
 |some u=>exact⟨u,rfl,r⟩
section
variable{P:Program}{w:World}{H H':Hp}{h h':Heap}{a C dx:Addr}{fs fs':List (Str×V)}
end
section
variable{X:Cx}{δ:QQz}{σ:St}{H:Hp}{s:Shared}{a C dx:Addr}{fs:List (Str×V)}{f:Str}{v:V}{A:Around}{E:QZq}
end
section
variable{X:Cx}{o e value:Expr}{f:Str}{pos pos' tpos:Pos}{ta tv:TE}
end
section
variable{X:Cx}{δ:QQz}{σ:St}{H:Hp}{s:Shared}{A:Around}{E:QZq}{Q:QZq}{c:Value}{b:Bool}
end
structure iG(k:Nat)(A:Around):Prop where
 hd:A.handled=none
 dp:A.depth+3*k+5<recursionLimit
 un:A.units+16*k+200<cLine
theorem iG.deeper{A:Around}(r:iG (k+1) A)env:iG k (A.deeper env):=
 ⟨r.hd,by have:=r.dp;show A.depth+1+3*k+5<_;omega,by have:=r.un;show A.units+3+16*k+200<_;omega⟩
theorem iG.depth{A:Around}(r:iG k A):A.depth<recursionLimit:=by have:=r.dp;omega
def abk:TA:=fun _ H Q=>Q [] H
def Km(ta:TE)(tr:TA):TA:=fun σ H Q=>ta σ H fun x H1=>tr σ H1 fun xs H2=>Q (x::xs) H2
section
variable{X:Cx}{e:Expr}{es:List Expr}{te:TE}{t:TA}{pos:Pos}
def eZ:PA X [] abk:=fun _ _ _ _ H Q I h=>Calls.spliced_nil ⟨[],H,I,.nil,h⟩
def cG(ha:PE X e te)(hr:PA X es t)(hs:starEach (e::es) X.env=(false,eval e X.env)::starEach es X.env:=by rfl):PA X (e::es) (Km te t):=by
 intro pos δ s σ H Q I h
 rw[hs]
 exact Calls.spliced_cons (b8 (ha δ s σ H _ I h) fun u s1⟨x,H1,I1,r1,q1⟩=>b8 (hr pos δ s1 σ H1 _ I1 q1) fun us s2⟨xs,H2,I2,r2,q2⟩=>⟨x::xs,H2,I2,.cons r1 r2,q2⟩)
def aeN(t:TA):TE:=fun σ H Q=>t σ H fun xs H1=>xs.length<=sizeLine/\∀p,H1 p=none->Q (.ref p) (upd H1 p (.tup xs))
def aeQ(t:TA):TE:=fun σ H Q=>t σ H fun xs H1=>xs.length<=sizeLine/\∀p,H1 p=none->Q (.ref p) (upd H1 p (.lst xs))
def Xz{x1}(h:PA X es t):PE X (.Tuple es x1 pos) (aeN t):=by
 intro δ s σ H Q I hq
 refine wpAny_Tuple_spliced (b8 (h pos δ s σ H _ I hq) fun us s1⟨xs,H1,I1,r,z,q⟩=>⟨by rw[<-r.length];exact z,?_⟩)
 refine⟨.ref s1.heap.objs.size,upd H1 s1.heap.objs.size _,I1.laid (fun b u e=>QWq _ e) (QVz _) ?_,rfl,q _ (I1.hok.fresh (QVz _))⟩
 exact⟨z,us,r,TupOk.new _ _⟩
def XD(h:PA X es t):PE X (.List es pos) (aeQ t):=by
 intro δ s σ H Q I hq
 refine wpAny_List_spliced (b8 (h pos δ s σ H _ I hq) fun us s1⟨xs,H1,I1,r,z,q⟩=>⟨by rw[<-r.length];exact z,?_⟩)
 refine⟨.ref s1.heap.objs.size,upd H1 s1.heap.objs.size _,I1.laid (fun b u e=>QWq _ e) (QVz _) ?_,rfl,q _ (I1.hok.fresh (QVz _))⟩
 exact⟨z,us,0,r,Qzq _ rfl⟩
end
abbrev Sp:=List V->Hp->VK->XK->Prop
abbrev JH:=List Env->Hp->Shared->XK->Value->Shared->Prop
structure ZV(P:Program)(w:World)(K:QQq)(mg:QZz)(base:Heap)(A:Around)(outer:List Env)(s:Shared)(H:Hp):Prop where
 frames:A.frames=some outer
 mod:Mod K mg base
 bs:∀b o,base.get? b=some o->s.heap.get? b=some o/\H b=none
 bsz:base.objs.size<=s.heap.objs.size
 mz:s.heap.FunFrames base outer
 frf:∀b∈frs outer,H b=none
 hok:kE P w H s.heap
 bare:AllBare s.gens
def CE(outer:List Env)(P:Program)(w:World)(H:Hp)(s:Shared)(Q:VK)(u:Value)(s':Shared):Prop:=
 ∃v H',s'.os=s.os/\AllBare s'.gens/\Un (frs outer) [] H H' s.heap s'.heap/\kE P w H' s'.heap/\RelV v u/\Q v H'
def CR(CX:JH)(outer:List Env)(P:Program)(w:World)(H:Hp)(s:Shared)(Q:VK)(E:XK)(r:Result)(s':Shared):Prop:=
 match r with
 |.ok (.ret u)=>CE outer P w H s Q u s'
 |.ok _=>False
 |.error e=>CX outer H s E e s'
structure fK(P:Program)(w:World)(K:QQq)(mg:QZz)(base:Heap)(CX:JH)(k:Nat)(f:Addr)(fd:FuncData)(ps:List Str)(sp:Sp):Prop where
 len:∀vs H Q E,sp vs H Q E->vs.length=ps.length
 run:∀(A:Around)(outer:List Env)(s:Shared)(H:Hp)(args:Args)(us:List Value)(vs:List V)(Q:VK)(E:XK),iG k A->ZV P w K mg base A outer s H->BindsTo s fd args (ps.zip us)->Vals vs us->sp vs H Q E->
  codeAny (model P w) A (.call (.ref f) args) (CR CX outer P w H s Q E) s
section
variable{X:Cx}{δ:QQz}{σ:St}{H:Hp}{s s':Shared}
def Inv.env0(I:Inv X δ σ H s):ZV X.prog X.w X.K X.mg X.base X.A X.stack s H:=
 ⟨I.ok.frames,I.ok.mod,I.bs,Nat.le_trans I.ok.bsz I.sz,I.stack,I.qu,I.hok,I.bare⟩
def Inv.after{u:Value}(I:Inv X δ σ H s)(h:CE X.stack X.prog X.w H s Q u s'):EP X δ σ Q u s':=by
 obtain⟨v,H',os,bare,un,hok,r,q⟩:=h
 obtain⟨hh,g,d,t,os'⟩:=s'
 obtain rfl:os'=s.os:=os
 exact⟨v,H',I.call un hok bare (fun b z=>absurd z (by simp)),r,q⟩
end
def abp(sp:Sp)(dvs:List V)(E:XK)(t:TA):TE:=fun σ H Q=>t σ H fun vs H1=>sp (vs++dvs) H1 Q E
def Binds(K:QQq)(fd:FuncData)(ps:List Str)(ds:List Value):Prop:=
 ∀(s:Shared)(us:List Value),K.In s.heap->(us++ds).length=ps.length->BindsTo s fd ⟨us,[]⟩ (ps.zip (us++ds))
def Binds.all{K:QQq}{fd:FuncData}(h:∀us:List Value,us.length=ps.length->bindArgs fd ⟨us,[]⟩=pure (ps.zip us)):Binds K fd ps []:=fun s us _ hl=>by
 rw[List.append_nil]at hl⊢
 exact .of_eq (h us hl)
def mH(CX:JH)(X:Cx)(E:XK):Prop:=∀(δ:QQz)(σ:St)(H:Hp)(s:Shared)(e:Value)(s':Shared),Inv X δ σ H s->CX X.stack H s E e s'->X.xe e s'
section
variable{X:Cx}{CX:JH}{k:Nat}{f C:Addr}{fd:FuncData}{ps:List Str}{sp:Sp}{dvs:List V}{ds:List Value}{E:XK}{x m:Str}{p pos apos:Pos}{e o:Expr}{es:List Expr}{ta:TE}{t:TA}
theorem Xf{σ:St}{H:Hp}{Q:VK}{vs:List V}(F:fK X.prog X.w X.K X.mg X.base CX k f fd ps sp)(hr:iG k X.A)(hb:Binds X.K fd ps ds)(hd:Vals dvs ds)(hx:mH CX X E)
  (I:Inv X δ σ H s)(r:Vals vs us)(h:sp (vs++dvs) H Q E):wpAny (model X.prog X.w) X.A (call (.ref f) us) (EP X δ σ Q) X.xe s:=by
 have r2:=r.append hd
 refine wpAny_call (codeAny_mono (F.run X.A X.stack s H ⟨us,[]⟩ _ _ Q E hr I.env0 (hb s us I.JM (by rw[<-r2.length];exact F.len _ _ _ _ h)) r2 h) fun r s' hq=>?_)
 cases r with
 |error e=>exact hx δ σ H s e s' I hq
 |ok fl=>
  cases fl with
  |ret u=>exact I.after hq
  |next=>exact False.elim hq
  |brk=>exact False.elim hq
  |cont=>exact False.elim hq
def Fg(F:fK X.prog X.w X.K X.mg X.base CX k f fd ps sp)(hr:iG k X.A)(hg:Gl X x)(hm:X.mg x=some (.ref f))(hk:PySem.W.keepIn X.K (.ref f)=true)(hb:Binds X.K fd ps ds)(hd:Vals dvs ds)(hx:mH CX X E)
  (ha:PA X (e::es) t)(hdb:(x==("__debug__":Str))=false:=by decide)(he:starEach (e::es) X.env=(false,eval e X.env)::starEach es X.env:=by rfl)(hpl:(backTo pos (starEach es X.env)).any (·.1)=false:=by rfl):
  PE X (.Call (.Name x p) (e::es) [] pos) (abp sp dvs E t):=by
 intro δ s σ H Q I h
 exact wpAny_Call_Name_kw (m8 I hg hm (PySem.W.callWith_K I.ok.mod.kin hk (b8 (ha pos δ s σ H _ I h) fun us s1⟨vs,H1,I1,r,q⟩=>⟨I1.JM,Xf F hr hb hd hx I1 r q⟩) he hpl) hdb)
end
section
variable{X:Cx}{CX:JH}{k:Nat}{f C:Addr}{fd:FuncData}{ps ks:List Str}{sp:Sp}{E:XK}{x m:Str}{p pos apos kpos:Pos}{e o:Expr}{es:List Expr}{kws:List Keyword}{te ta:TE}{t tk:TA}{nm:Option Str}
variable{g:List Value->List Value->List Value}{gV:List V->List V->List V}
end
structure fP(N P:List Str)(sc:Scope):Prop where
 kind:sc.kind=.function
 co:sc.isCoroutine=false
 gen:sc.isGenerator=false
 nd:N.Nodup
 pre:N.take P.length=P
 par:∀x∈P,sc.names.lookup x=some .local\/sc.names.lookup x=some .cell
 nofree:∀y∈sc.names,y.2≠ .free
theorem wk{kindOf:Str->Option NameKind}:∀{binds:List (Str×Value)}{m:QZz},(∀v,(x,v)∉binds)->bindL kindOf binds m x=m x
 |[],_,_=>rfl
 |(n,v)::r,m,h=>by
  unfold bindL
  rw[wk fun w hw=>h w (QYq _ hw)]
  split
  ·have:x≠n:=by rintro rfl;exact h v QYz
   simp[this]
  ·rfl
theorem ww{kindOf:Str->Option NameKind}:∀{binds:List (Str×Value)}{m:QZz},(∀v,(x,v)∉binds)->bindC kindOf binds m x=m x
 |[],_,_=>rfl
 |(n,v)::r,m,h=>by
  unfold bindC
  rw[ww fun w hw=>h w (QYq _ hw)]
  split
  ·rfl
  ·have:x≠n:=by rintro rfl;exact h v QYz
   simp[this]
theorem wu{kindOf:Str->Option NameKind}{x:Str}{v:Value}:∀{P:List Str}{vs:List Value}{i:Nat}{m:QZz},P.Nodup->P[i]? =some x->vs[i]? =some v->kindOf x=some .local->
  bindL kindOf (P.zip vs) m x=some v
 |[],_,_,_,_,h,_,_=>by simp at h
 |_::_,[],_,_,_,_,h,_=>by simp at h
 |p::P,w::vs,0,m,nd,h1,h2,hk=>by
  simp at h1 h2;subst h1;subst h2
  show bindL kindOf ((p,w)::P.zip vs) m p=_
  unfold bindL
  rw[wk fun v hv=>(List.nodup_cons.mp nd).1 (List.of_mem_zip hv).1,if_pos hk]
  simp
 |p::P,w::vs,i+1,m,nd,h1,h2,hk=>by
  unfold bindL
  exact wu (List.nodup_cons.mp nd).2 (by simpa using h1) (by simpa using h2) hk
theorem wy{kindOf:Str->Option NameKind}{x:Str}{v:Value}:∀{P:List Str}{vs:List Value}{i:Nat}{m:QZz},P.Nodup->P[i]? =some x->vs[i]? =some v->kindOf x≠some .local->
  bindC kindOf (P.zip vs) m x=some v
 |[],_,_,_,_,h,_,_=>by simp at h
 |_::_,[],_,_,_,_,h,_=>by simp at h
 |p::P,w::vs,0,m,nd,h1,h2,hk=>by
  simp at h1 h2;subst h1;subst h2
  show bindC kindOf ((p,w)::P.zip vs) m p=_
  unfold bindC
  rw[ww fun v hv=>(List.nodup_cons.mp nd).1 (List.of_mem_zip hv).1,if_neg hk]
  simp
 |p::P,w::vs,i+1,m,nd,h1,h2,hk=>by
  unfold bindC
  exact wy (List.nodup_cons.mp nd).2 (by simpa using h1) (by simpa using h2) hk
def start(N:List Str)(vs:List V):St:=vs.map some++List.replicate (N.length-vs.length) none
noncomputable def eU(CX:JH)(P:Program)(w:World)(K:QQq)(mg:QZz)(base:Heap)(N:List Str)(qual:Str)(scope:Scope)(f:Addr)(cd:Value)(A:Around)(outer:List Env)(s:Shared)(H:Hp)(E:XK):Cx where
 prog:=P
 w:=w
 K:=K
 mg:=mg
 base:=base
 A:=A.deeper (envOfC qual scope s.heap.objs.size f cd)
 N:=N
 s₀:=s
 H₀:=H
 env:=envOfC qual scope s.heap.objs.size f cd
 outer:=outer
 stack:=envOfC qual scope s.heap.objs.size f cd::outer
 ex:=[]
 calm:=true
 fn:=fun _=>true
 pn:=[]
 xe:=fun e s'=>wpAny (model P w) (A.deeper (envOfC qual scope s.heap.objs.size f cd)) (leaving (envOfC qual scope s.heap.objs.size f cd) e) (fun _ s''=>CX outer H s E e s'') (fun e' s''=>CX outer H s E e' s'') s'
def Ah{sc:Scope}{n:Nat}(h:sc.names.lookup x=some .cell):∃c,(cellsFrom n sc.names []).lookup x=some c:=by
 exact Option.isSome_iff_exists.mp (PySem.W.cellsFrom_some sc.names n [] (.inl h))
def Je{CX:JH}{w:World}{K:QQq}{base:Heap}{qual:Str}{f:Addr}{A:Around}{s s1:Shared}{E:XK}
  (S:fP N ps scope)(hd:A.handled=none)(e0:ZV P w K mg base A outer s H)(hl:vs.length=ps.length)(r:Vals vs us)
  (x:InCallC s s.heap.objs.size (bindL (envOfC qual scope s.heap.objs.size f cd).kindOf (ps.zip us) fun _=>none) (cellsFrom (s.heap.objs.size+1) scope.names []) (bindC (envOfC qual scope s.heap.objs.size f cd).kindOf (ps.zip us) fun _=>none) s1):
  Inv (eU CX P w K mg base N qual scope f cd A outer s H E) [] (start N vs) H s1:=by
 have hpl:ps.length<=N.length:=by have:=congrArg List.length S.pre;rw[List.length_take]at this;omega
 obtain⟨h1,tk,rfl,hk⟩:=x.done
 have noA:∀b:Addr,b∉(eU CX P w K mg base N qual scope f cd A outer s H E).ex:=fun b z=>absurd (show b∈([])from z) (by simp)
 refine⟨⟨e0.mod,S.kind,rfl,rfl,QVz _,fun y z c h1 h2=>?_,fun y hy=>?_,fun y c _ h=>?_,fun _=>hd,Around.frames_deeper e0.frames,.inr ⟨rfl,rfl⟩,fun b z=>absurd z (noA b),e0.bs,e0.bsz,fun b _ _=>noA b,fun b z=>absurd z (noA b),e0.mz,e0.frf⟩,
  rfl,e0.bare,Un.kept hk,⟨_,x.toInCall.ns,fun i y v h1 h2 h3=>?_⟩,fun y c h=>⟨_,x.cell y c h⟩,e0.hok.fresh (QVz _),fun y c h=>?_,fun p hp=>absurd (show p∈([])from hp) (by simp),e0.hok.kept hk,?_⟩
 ·exact name_of_addr x.apart (PySem.mem_of_lookup h1) (PySem.mem_of_lookup h2)
 ·have hy:=hy
  rcases hy with hy|hy
  ·exact Ah hy
  ·exact absurd rfl (S.nofree _ (PySem.mem_of_lookup hy))
 ·exact Nat.le_of_lt (x.above y c (PySem.mem_of_lookup h))
 ·have hi:i<vs.length:=by
   unfold start at h2
   by_cases hi:i<vs.length
   ·exact hi
   ·rw[QIz (by simpa using hi)]at h2
    rw[List.getElem?_replicate]at h2
    split at h2<;>cases h2
  have ha:vs[i]? =some v:=by
   unfold start at h2
   rw[Qwz (by simpa using hi),QFz]at h2
   cases e:vs[i]? with
   |none=>rw[e]at h2;cases h2
   |some a=>rw[e]at h2;cases h2;rfl
  obtain⟨u,hu,rv⟩:=r.get ha
  have hp:ps[i]? =some y:=by
   rw[<-S.pre,List.getElem?_take_of_lt (by omega)];exact h1
  have ndP:ps.Nodup:=by rw[<-S.pre];exact S.nd.sublist (List.take_sublist _ _)
  refine⟨u,rv,?_⟩
  rcases S.par y (QBz hp)with k|k
  ·exact .inl ⟨k,wu ndP hp hu k⟩
  ·obtain⟨c,e⟩:=Ah k
   refine .inr ⟨.inl k,c,e,?_⟩
   have q:=x.cell y c e
   rw[wy ndP hp hu (by show scope.names.lookup y≠_;rw[k];decide)]at q
   exact q
 ·exact e0.hok.fresh (Nat.le_of_lt (x.above y c (PySem.mem_of_lookup h)))
 ·unfold start
  show _=N.length
  rw[QTq,QAq,List.length_replicate]
  omega
def VP{CX:JH}{w:World}{K:QQq}{base:Heap}{k:Nat}{name qual:Str}{body:List Stmt}{dV kV doc pm cdv ct oc:Value}
{N ps:List Str} (lk:K.lookup f=some ⟨oc,od,.func (PySem.W.fnOf name qual params body scope dV kV doc pm an cdv ct),osl⟩) (hcd:PySem.W.codeIn K cdv qual=true) (S:fP N ps scope)
  (len:∀vs H Q E,sp vs H Q E->vs.length=ps.length)
  (hbody:∀(A:Around)(outer:List Env)(s:Shared)(H:Hp)(vs:List V)(Q:VK)(E:XK),iG k (A.deeper (envOfC qual scope s.heap.objs.size f cdv))->sp vs H Q E->
   ∃t,wG (eU CX P w K mg base N qual scope f cdv A outer s H E) body t/\t {nx:=fun _ H'=>Q .non H',rt:=Q} (start N vs) H):
  fK P w K mg base CX (k+1) f (PySem.W.fnOf name qual params body scope dV kV doc pm an cdv ct) ps sp:=by
 refine⟨len,fun A outer s H args us vs Q E hr e0 hb r hsp=>?_⟩
 have hl:=len _ _ _ _ hsp
 have KX:=e0.mod.kin.keeps fun b o e=>(e0.bs b o e).1
 have lim:=e0.mod.nolimit.keeps fun b o e=>(e0.bs b o e).1
 have hkind:∀y∈ps.zip us,scope.names.lookup y.1=some .local\/(scope.names.lookup y.1=some .cell/\((cellsFrom (s.heap.objs.size+1) scope.names []).lookup y.1).isSome=true):=fun⟨n,v⟩hy=>by
  rcases S.par n (List.of_mem_zip hy).1 with q|q
  ·exact .inl q
  ·exact .inr ⟨q,PySem.W.cellsFrom_some _ _ _ (.inl q)⟩
 refine codeAny_call_function hr.depth (KX _ _ lk) rfl S.co S.gen rfl (PySem.W.codeRec_of KX hcd) (hb _ _ _ _ ?_)
 refine wpAny_newFunctionEnv_cells S.kind hkind fun env he s1 x=>?_
 subst he
 refine⟨lim.keeps x.toInCall.keep,codeAny_func ?_⟩
 obtain⟨t,ht,hq⟩:=hbody A outer s H vs Q E (hr.deeper _) hsp
 have I:Inv (eU CX P w K mg base N qual scope f cdv A outer s H E) [] _ H s1:=Je S hr.hd e0 hl r x
 refine QGq (ht [] s1 _ H _ I hq) (fun fl s' hs=>?_) fun e s' hs=>hs
 have fin:∀{ζ:St}{H':Hp}{v:V}{u:Value},Inv (eU CX P w K mg base N qual scope f cdv A outer s H E) [] ζ H' s'->RelV v u->Q v H'->CE outer P w H s Q u s':=
  fun{ζ H' v u}J rv q=>⟨v,H',J.os,J.bare,J.base,J.hok,rv,q⟩
 cases fl with
 |ret u=>
  obtain⟨v,ζ,H',J,rv,q⟩:=hs
  exact fin J rv q
 |next=>
  obtain⟨ζ,H',J,q⟩:=hs
  exact fin (v:=V.non) J rfl q
 |brk=>
  obtain⟨_,_,_,q⟩:=hs
  exact False.elim q
 |cont=>
  obtain⟨_,_,_,q⟩:=hs
  exact False.elim q
section
variable{X:Cx}{x:Str}{p pos:Pos}{e:Expr}{es:List Expr}{t:TA}{id T:String}{r:List V->Hp->VK->Prop}
def tCB(r:List V->Hp->VK->Prop)(t:TA):TE:=fun σ H Q=>t σ H fun vs H1=>r vs H1 Q
def rN(hc:fZ X (.builtin id) r)(hg:Gl X x)(hm:X.mg x=none)(hv:bootBuiltins x=some (.builtin id))(ha:PA X (e::es) t)(hn:x≠"__name__":=by decide)(hdb:(x==("__debug__":Str))=false:=by decide)
  (he:starEach (e::es) X.env=(false,eval e X.env)::starEach es X.env:=by rfl)(hpl:(backTo pos (starEach es X.env)).any (·.1)=false:=by rfl):PE X (.Call (.Name x p) (e::es) [] pos) (tCB r t):=by
 intro δ s σ H Q I h
 exact wpAny_Call_Name_kw (jf I hg hm hv (PyProof.Rows.callWith_builtin1 (b8 (ha pos δ s σ H _ I h) fun us s1⟨vs,H1,I1,r1,q1⟩=>hc δ s1 σ H1 vs us Q I1 r1 q1) he hpl) hn hdb)
def oM(hc:fZ X (.type T) r)(hg:Gl X x)(hm:X.mg x=none)(hv:bootBuiltins x=some (.type T))(ha:PA X (e::es) t)(hn:x≠"__name__":=by decide)(hdb:(x==("__debug__":Str))=false:=by decide)
  (he:starEach (e::es) X.env=(false,eval e X.env)::starEach es X.env:=by rfl)(hpl:(backTo pos (starEach es X.env)).any (·.1)=false:=by rfl):PE X (.Call (.Name x p) (e::es) [] pos) (tCB r t):=by
 intro δ s σ H Q I h
 exact wpAny_Call_Name_kw (jf I hg hm hv (PyProof.Rows.callWith_type1 (b8 (ha pos δ s σ H _ I h) fun us s1⟨vs,H1,I1,r1,q1⟩=>hc δ s1 σ H1 vs us Q I1 r1 q1) he hpl) hn hdb)
end
end L2
namespace HT
open PySem PyProof.Rows
section
open PySem.SeqAt
open PySem.AutoSeq1 (wpAny_loadPart')
open PySem.MeetsSeq PySem.MeetsSeq2 PySem.MeetsSeq3
end
section
variable{prog:Program}{w:World}{A:Around}{E:QZq}{s:Shared}
def TY{vs ws:List Value}(ht:IsTup s.heap t vs.toArray)(hb:IsTup s.heap b ws.toArray)(hv:vs≠[])
  (h1:ws=[]->Q (.ref t) s)(h2:ws≠[]->Q (.ref s.heap.objs.size) {s with heap:=s.heap.push {cls:=.type "tuple",data:=.seq (vs++ws).toArray}})
  (hsz:vs.length+ws.length<=sizeLine):wpAny (model prog w) A (binaryOp .Add (.ref t) (.ref b)) Q E s:=by
 obtain⟨⟨cls,dd,data,sl⟩,ho,hc,n,hd⟩:=id ht
 obtain⟨⟨cls2,dd2,data2,sl2⟩,ho2,hc2,n2,hd2⟩:=id hb
 subst hc hd hc2 hd2
 have e:vs.toArray++ws.toArray=(vs++ws).toArray:=by simp
 by_cases hw:ws=[]
 ·exact concat_meets ⟨_,ho,rfl⟩ ⟨_,ho2,rfl⟩ noFill_tuple_add seq_tuple_add PySem.F.slot_tuple_add PySem.F.entry_tuple_add (PySem.F.args_tuple_add_2 _ _)
   (tuple_addW1 t b vs.toArray ws.toArray n n2 dd dd2 sl sl2 (by simpa using hv) (by simp[hw])) ⟨ho,ho2,h1 hw⟩
 ·refine concat_meets ⟨_,ho,rfl⟩ ⟨_,ho2,rfl⟩ noFill_tuple_add seq_tuple_add PySem.F.slot_tuple_add PySem.F.entry_tuple_add (PySem.F.args_tuple_add_2 _ _)
   (tuple_addW2 t b vs.toArray ws.toArray n n2 dd dd2 sl sl2 (by simpa using hv) (by simpa using hw) (by rw[Qyq,Qyq];exact hsz)) ⟨ho,ho2,?_⟩
  rw[e]
  exact h2 hw
def fX(n d:Nat):Option Int->Nat
 |none=>d
 |some v=>if v<0 then(v+(n:Int)).toNat else min v.toNat n
def mO n d:fX n d none=d:=rfl
def G9 v(n d:Nat):(if v<0 then max (v+(n:Int)) 0 else min v (n:Int))=((fX n d (some v):Nat):Int):=by
 show(if v<0 then max (v+n) 0 else min v n)=(((if v<0 then(v+(n:Int)).toNat else min v.toNat n):Nat))
 by_cases hv:v<0
 ·simp only[if_pos hv];omega
 ·simp only[if_neg hv];omega
def Ef lo hi(n:Nat):Builtin.Slice.sliceAdjust lo hi 1 (n:Int)=(((fX n 0 lo:Nat):Int),((fX n n hi:Nat):Int)):=by
 have h1:¬(1<0):=by omega
 unfold Builtin.Slice.sliceAdjust
 refine Prod.ext ?_ ?_
 ·cases lo with
  |none=>rfl
  |some v=>exact G9 v n 0
 ·cases hi with
  |none=>rfl
  |some v=>exact G9 v n n
def Cq(i j:Nat):Builtin.Slice.slicePlaces (i:Int) (j:Int) 1=j-i:=by
 unfold Builtin.Slice.slicePlaces
 split<;>omega
def rA{o:Option Int}(p:IsPart v o)(h:Q o s):wpAny (model prog w) A (Builtin.Slice.slicePartIndex v) Q E s:=by
 cases p with
 |none=>exact slicePart_none h
 |int i t=>exact slicePart_int h
def iJ{sl:Addr}{lo hi:Option Int}{n:Nat}(hs:s.heap.IsSliceOf sl vl vu .none)(pl:IsPart vl lo)(pu:IsPart vu hi)
  (h:Q (((fX n 0 lo:Nat):Int),1,fX n n hi-fX n 0 lo) s):wpAny (model prog w) A (Builtin.Slice.sliceApplied (.ref sl) (pure (n:Int))) Q E s:=by
 obtain⟨os,hos,hcs,hds⟩:=id hs
 refine QKq (QKq (QGz hos hds rfl (QKq (QGz hos hds rfl (QKq (QGz hos hds rfl (QKz ?_)))))))
 refine QKq (slicePart_none ?_)
 refine QKq (rA pl (QKq (rA pu (QKq (QKz ?_)))))
 show wpAny _ _ (match Builtin.Slice.sliceAdjust lo hi 1 n with|(lo,hi)=>pure (lo,(1:Int),Builtin.Slice.slicePlaces lo hi 1)) _ _ s
 rw[Ef lo hi n]
 show wpAny _ _ (pure ((fX n 0 lo:Int),1,Builtin.Slice.slicePlaces ((fX n 0 lo:Nat)) ((fX n n hi:Nat)) 1)) _ _ s
 rw[Cq]
 exact QKz h
def Lj(xs:Array Value)(i k:Nat):((List.range k).filterMap fun(m:Nat)=>xs[((i:Int)+(m:Int)*1).toNat]?).toArray=((xs.toList.drop i).take k).toArray:=by
 have e:(fun(m:Nat)=>xs[(i+(m:Int)*1).toNat]?)=fun m=>xs[i+m]? :=by
  funext m
  have:(i+(m:Int)*1).toNat=i+m:=by omega
  rw[this]
 rw[e]
 have:=pick_run xs i k
 rw[List.filterMap_map]at this
 have e2:((fun x=>xs[x]?)∘fun x=>i+x)=fun m=>xs[i+m]? :=rfl
 rw[e2]at this
 rw[this]
theorem nC{t sl:Addr}{vl vu:Value}{lo hi:Option Int}(ht:IsTup s.heap t items)(hs:s.heap.IsSliceOf sl vl vu .none)(pl:IsPart vl lo)(pu:IsPart vu hi)
  (hw:¬(fX items.size 0 lo=0/\fX items.size items.size hi=items.size))
  (h:Q (.ref s.heap.objs.size) {s with heap:=s.heap.push {cls:=.type "tuple",data:=.seq ((items.toList.drop (fX items.size 0 lo)).take (fX items.size items.size hi-fX items.size 0 lo)).toArray}})
  (hsz:items.size<=sizeLine):wpAny (model prog w) A (getItem (.ref t) (.ref sl)) Q E s:=by
 have htake:sizeOk (.seq ((items.toList.drop (fX items.size 0 lo)).take (fX items.size items.size hi-fX items.size 0 lo)).toArray):=by
  show((items.toList.drop _).take _).toArray.size<=sizeLine
  rw[Qyq,List.length_take,List.length_drop,Array.length_toList]
  omega
 obtain⟨os,hos,hcs,hds⟩:=id hs
 unfold getItem
 try with_reducible refine Qqq ?_
 first|refine QKq _|skip
 refine QKq (wpAny_sequenceKey ht.typeIs (by decide) ?_)
 refine QKq (wpAny_callSpecial?_slot ht.typeIs PyProof.Rows.slot_tuple_getitem
  (Qzz PyProof.Rows.slot_tuple_getitem ht.typeIs entry_tuple_getitem ?_ (args_tuple_getitem _ _)))
 show wpAny _ _ (Builtin.Tuple.tupleItemsOf _>>=_) _ _ s
 refine QKq (tupleItemsOf_ ht ?_)
 refine QKq (wpAny_typeOf ⟨os,hos,hcs⟩ ?_)
 refine QKq (iJ hs pl pu ?_)
 have hno:¬((((fX items.size 0 lo):Int)==0&&(1:Int)==1&&(fX items.size items.size hi-fX items.size 0 lo)==items.size)=true):=by
  intro q
  rw[QUq,QUq]at q
  have q1:=eq_of_beq q.1.1
  have q2:=eq_of_beq q.2
  exact hw ⟨by omega,by omega⟩
 show wpAny _ _ (if (((fX items.size 0 lo):Int)==0&&1==1&&_==items.size)=true then _ else _) _ _ s
 rw[if_neg hno,Lj]
 first
  |exact QKq (Qjq (QKz ⟨_,rfl,QKz h⟩) htake)
  |exact QKq _
  |exact QKq (QKq _)
  |exact QKq (QKq _)
end
end HT
namespace L2
open PySem PySem.Spec PyProof.Rows
abbrev TO:=St->Hp->(Option Int->Hp->Prop)->Prop
def PO(X:Cx)(e:Option Expr)(t:TO):Prop:=
 ∀(δ:QQz)(s:Shared)(σ:St)(H:Hp)(Q:Option Int->Hp->Prop),Inv X δ σ H s->t σ H Q->
  wpAny (model X.prog X.w) X.A (evalPart e X.env) (fun u s'=>∃o H',Inv X δ σ H' s'/\IsPart u o/\Q o H') X.xe s
def QL:TO:=fun _ H Q=>Q none H
def abi(t:TE):TO:=fun σ H Q=>t σ H fun x H1=>∃i,x=.int i/\Q (some i) H1
section
variable{X:Cx}{e:Expr}{te:TE}{lo hi:Option Expr}{tl th:TO}{pos p2:Pos}
def RC:PO X none QL:=by
 intro δ s σ H Q I h
 exact QKz ⟨none,H,I,.none,h⟩
def RB(h:PE X e te):PO X (some e) (abi te):=by
 intro δ s σ H Q I hw
 refine b8 (h δ s σ H _ I hw) fun u s1⟨x,H1,I1,r1,q1⟩=>?_
 obtain⟨i,rfl,q⟩:=q1
 obtain⟨t,rfl⟩:=r1
 exact⟨some i,H1,I1,.int i t,q⟩
def Ug(X:Cx)(r:V->Option Int->Option Int->Hp->VK->Prop):Prop:=
 ∀(δ:QQz)(s:Shared)(σ:St)(H:Hp)(x:V)(v vl vu:Value)(lo hi:Option Int)(sl:Addr)(Q:VK),Inv X δ σ H s->RelV x v->s.heap.IsSliceOf sl vl vu .none->IsPart vl lo->IsPart vu hi->r x lo hi H Q->
  ∃T id,typeLookup (.type T) "__getitem__"=pure (some (.builtin id))/\s.TypeIs v T/\wpAny (model X.prog X.w) X.A (getItem v (.ref sl)) (EP X δ σ Q) X.xe s
def Ug.or{r r':V->Option Int->Option Int->Hp->VK->Prop}(h:Ug X r)(h':Ug X r'):Ug X (fun x lo hi H Q=>r x lo hi H Q\/r' x lo hi H Q):=by
 intro δ s σ H x v vl vu lo hi sl Q I rx hs pl pu q
 rcases q with q|q
 ·exact h δ s σ H x v vl vu lo hi sl Q I rx hs pl pu q
 ·exact h' δ s σ H x v vl vu lo hi sl Q I rx hs pl pu q
def tSl(r:V->Option Int->Option Int->Hp->VK->Prop)(te:TE)(tl th:TO):TE:=fun σ H Q=>te σ H fun x H1=>tl σ H1 fun l H2=>th σ H2 fun u H3=>r x l u H3 Q
def Lq(hr:Ug X r)(he:PE X e te)(hl:PO X lo tl)(hu:PO X hi th):PE X (.Subscript e (.Slice lo hi none p2) pos) (tSl r te tl th):=by
 intro δ s σ H Q I h
 refine Subscript_ (b8 (he δ s σ H _ I h) fun v s1⟨x,H1,I1,r1,q1⟩=>?_)
 refine wpAny_Slice (b8 (hl δ s1 σ H1 _ I1 q1) fun vl s2⟨l,H2,I2,pl,q2⟩=>b8 (hu δ s2 σ H2 _ I2 q2) fun vu s3⟨u,H3,I3,pu,q3⟩=>?_)
 refine QKz ?_
 obtain⟨T,id,hT,ht,hg⟩:=hr δ {s3 with heap:=s3.heap.push {cls:=.type "slice",data:=.fields #[vl,vu,.none]}} σ H3 x v vl vu l u s3.heap.objs.size Q (I3.kept fun b ob q=>QWq _ q) r1 (Heap.IsSliceOf.new ..) pl pu q3
 exact tail_any ht hT hg (by with_unfolding_all rfl)
def xZ(xs:List V)(lo hi:Option Int):List V:=(xs.drop (HT.fX xs.length 0 lo)).take (HT.fX xs.length xs.length hi-HT.fX xs.length 0 lo)
def pK xs lo hi:(xZ xs lo hi).length<=xs.length:=by
 unfold xZ
 rw[List.length_take,List.length_drop]
 omega
def abO(K:QQq):V->Option Int->Option Int->Hp->VK->Prop:=fun x lo hi H Q=>∃a xs,x=.ref a/\iV K H a xs/\
 ¬(HT.fX xs.length 0 lo=0/\HT.fX xs.length xs.length hi=xs.length)/\∀p,H p=none->Q (.ref p) (upd H p (.tup (xZ xs lo hi)))
def W7:Ug X (abO X.K):=by
 intro δ s σ H x v vl vu lo hi sl Q I rx hs pl pu h
 obtain⟨a,xs,rfl,hx,hw,q⟩:=h
 cases rx
 obtain⟨its,r,ht,hz⟩:=I.tuple hx
 have hlen:its.toArray.size=xs.length:=by rw[Qyq];exact r.length.symm
 refine⟨"tuple",_,PyProof.Rows.slot_tuple_getitem.lookup,ht.typeIs,?_⟩
 refine HT.nC ht hs pl pu (by rw[hlen];exact hw) ?_ (by rw[hlen];exact hz)
 rw[hlen]
 refine⟨.ref s.heap.objs.size,_,I.laid (fun b ob q=>QWq _ q) (QVz _) ?_,rfl,q _ (I.hok.fresh (QVz _))⟩
 exact⟨Nat.le_trans (pK xs lo hi) hz,_,(r.drop _).take _,TupOk.new _ _⟩
def abW(K:QQq):R2:=fun x y H Q=>∃a b xs ys,x=.ref a/\y=.ref b/\iV K H a xs/\iV K H b ys/\xs≠[]/\xs.length+ys.length<=sizeLine/\
 (ys=[]->Q (.ref a) H)/\(ys≠[]->∀p,H p=none->Q (.ref p) (upd H p (.tup (xs++ys))))
def Vals.bF{us:List Value}(r:Vals xs us):us=[]↔xs=[]:=by
 cases r with
 |nil=>simp
 |cons _ _=>simp
def RX:fY X (binaryOp .Add) (abW X.K):=by
 intro δ s σ H x y v u Q I rx ry h
 obtain⟨a,b,xs,ys,rfl,rfl,ha,hb,hx,hz,q1,q2⟩:=h
 cases rx
 cases ry
 obtain⟨its,r1,p1,_⟩:=I.tuple ha
 obtain⟨its2,r2,p2,_⟩:=I.tuple hb
 refine HT.TY p1 p2 (fun z=>hx (r1.bF.mp z)) (fun z=>⟨.ref a,H,I,rfl,q1 (r2.bF.mp z)⟩) (fun z=>?_) (by rw[<-r1.length,<-r2.length];exact hz)
 refine⟨.ref s.heap.objs.size,_,I.laid (fun b ob q=>QWq _ q) (QVz _) ?_,rfl,q2 (fun w=>z (r2.bF.mpr w)) _ (I.hok.fresh (QVz _))⟩
 exact⟨by rw[QTq];exact hz,_,r1.append r2,TupOk.new _ _⟩
end
def SN(n:Nat)(i:Int):Option Nat:=if 0<=i then(if i<n then some i.toNat else none)else if-(n:Int)<=i then some (i+n).toNat else none
def ZK{α:Type}(xs:List α)(i:Int):Option α:=(SN xs.length i).bind fun j=>xs[j]?
def Gk{i:Int}(h:SN n i=some j):seqIndex? i n=some j/\j<n/\ -(n:Int)<=i/\i<n:=by
 unfold SN at h
 by_cases h0:0<=i
 ·rw[if_pos h0]at h
  by_cases h1:i<n
  ·rw[if_pos h1]at h
   have e:=QEq h
   exact⟨by rw[seqIndex_of h0 h1,e],by omega,by omega,h1⟩
  ·rw[if_neg h1]at h;cases h
 ·rw[if_neg h0]at h
  by_cases h1: -n<=i
  ·rw[if_pos h1]at h
   have e:=QEq h
   exact⟨by rw[seqIndex_neg (by omega) h1,e],by omega,h1,by omega⟩
  ·rw[if_neg h1]at h;cases h
def yo{xs:List α}{v:α}(h:ZK xs i=some v):∃j,seqIndex? i xs.length=some j/\xs[j]? =some v/\j<xs.length/\ -(xs.length:Int)<=i/\i<xs.length:=by
 unfold ZK at h
 cases e:SN xs.length i with
 |none=>rw[e]at h;cases h
 |some j=>
  rw[e]at h
  obtain⟨h1,h2,h3,h4⟩:=Gk e
  exact⟨j,h1,h,h2,h3,h4⟩
def yq(b:Expr):Prop:=∀o i,subscripted b false o i=operate [o,i] (getItem o i)
def JR(X:Cx)(r:R2):Prop:=
 ∀(value slice:Expr)(δ:QQz)(s:Shared)(σ:St)(H:Hp)(x y:V)(v u:Value)(Q:VK),Inv X δ σ H s->RelV x v->RelV y u->r x y H Q->
  subscripted slice false v u=operate [v,u] (getItem v u)->wpAny (model X.prog X.w) X.A (subscriptTail value slice v u) (EP X δ σ Q) X.xe s
def MtR(X:Cx)(id:String)(r:V->List V->Hp->VK->Prop):Prop:=
 ∀(δ:QQz)(s:Shared)(σ:St)(H:Hp)(x:V)(xs:List V)(v:Value)(us:List Value)(Q:VK),Inv X δ σ H s->RelV x v->Vals xs us->r x xs H Q->
  wpAny (model X.prog X.w) X.A (call (.builtin id) (v::us)) (EP X δ σ Q) X.xe s
section
variable{X:Cx}{a b:Expr}{ta tb:TE}{pos:Pos}
def JR.or{r r':R2}(h:JR X r)(h':JR X r'):JR X (fun x y H Q=>r x y H Q\/r' x y H Q):=by
 intro value slice δ s σ H x y v u Q I rx ry q hs
 rcases q with q|q
 ·exact h value slice δ s σ H x y v u Q I rx ry q hs
 ·exact h' value slice δ s σ H x y v u Q I rx ry q hs
def Vk(hr:JR X r)(ha:PE X a ta)(hb:PE X b tb)(hs:yq b):PE X (.Subscript a b pos) (tOp r ta tb):=by
 intro δ s σ H Q I h
 exact Subscript_ (ZF ha hb I h fun v u s2 x y H2 I2 rx ry q=>hr a b δ s2 σ H2 x y v u Q I2 rx ry q (hs _ _))
def Xm(K:QQq):R2:=fun x y H Q=>∃p xs i v,x=.ref p/\y=.int i/\km K H p xs/\ZK xs i=some v/\Q v H
def Xl(K:QQq):R2:=fun x y H Q=>∃p xs i v,x=.ref p/\y=.int i/\iV K H p xs/\ZK xs i=some v/\Q v H
def K7:R2:=fun x y H Q=>∃z i c,x=.str z/\y=.int i/\z.length<=sizeLine/\ZK z.cps.toList i=some c/\Q (.str ⟨#[c]⟩) H
def Gj:JR X (Xm X.K):=by
 intro value slice δ s σ H x y v u Q I rx ry h hs
 obtain⟨p,xs,i,z,rfl,rfl,hq,he,q⟩:=h
 cases rx
 obtain⟨t,rfl⟩:=ry
 obtain⟨its,r,pl,hz⟩:=I.list hq
 obtain⟨j,h1,h2,h3,h4,h5⟩:=yo he
 obtain⟨w,ew,rw'⟩:=r.get h2
 have hl:=r.length
 have hn:=xq
 have fin:EP X δ σ Q w s:=⟨z,H,I,rw',q⟩
 by_cases h0:0<=i
 ·have hj:i.toNat=j:=by
   rw[seqIndex_of h0 h5]at h1
   exact QEq h1
  exact item_listR pl.isList h0 (by omega) (by rw[hj];simpa using ew) fin hs
 ·have hj:(i+its.toArray.size).toNat=j:=by
   rw[seqIndex_neg (by omega) h4]at h1
   rw[Qyq,<-hl]
   exact QEq h1
  exact subscriptTail_builtinR pl.isList.typeIs slot_list_getitem.lookup
   (wpAny_getItem_list_neg pl.isList (by omega) (by rw[Qyq]<;>omega) (by omega) (by rw[hj];simpa using ew) ⟨rfl,fin⟩) hs
def M7:JR X (Xl X.K):=by
 intro value slice δ s σ H x y v u Q I rx ry h hs
 obtain⟨p,xs,i,z,rfl,rfl,hq,he,q⟩:=h
 cases rx
 obtain⟨t,rfl⟩:=ry
 obtain⟨its,r,pl,hz⟩:=I.tuple hq
 obtain⟨j,h1,h2,h3,h4,h5⟩:=yo he
 obtain⟨w,ew,rw'⟩:=r.get h2
 have hn:=xq
 exact subscriptTail_builtinR pl.typeIs slot_tuple_getitem.lookup
  (getItem_tuple pl (by omega) (by omega) (by rw[Qyq,<-r.length];exact h1) (by simpa using ew) ⟨rfl,⟨z,H,I,rw',q⟩⟩) hs
def Yv:JR X K7:=by
 intro value slice δ s σ H x y v u Q I rx ry h hs
 obtain⟨z,i,c,rfl,rfl,hz,he,q⟩:=h
 obtain⟨t,rfl⟩:=rx
 obtain⟨t',rfl⟩:=ry
 obtain⟨j,h1,h2,h3,h4,h5⟩:=yo he
 have hl:z.cps.toList.length=z.length:=by simp[Str.length]
 rw[hl]at h1 h4 h5
 have hn:=xq
 exact tail_any (typeIs_str s z t) slot_str_getitem.lookup (getItem_str (c:=c) (by
  have e1:decide (i< -(2 ^63:Int))=false:=QEz (by omega)
  have e2:decide (i>=2 ^63)=false:=QEz (by omega)
  rw[e1,e2,Bool.or_false]) (by rw[h1];simpa using h2) ⟨.str ⟨#[c]⟩,H,I.tok _,⟨_,rfl⟩,q⟩) hs
def rIx(K:QQq):R2:=fun x y H Q=>Xm K x y H Q\/Xl K x y H Q\/K7 x y H Q
def M8:JR X (rIx X.K):=Gj.or (M7.or Yv)
def Cy(its:List Value)n j u:Obj.mapSeq (·.setIfInBounds j u) {cls:=.type "list",data:=.seq its.toArray n}={cls:=.type "list",data:=.seq (its.set j u).toArray n}:=by
 simp[Obj.mapSeq]
theorem Inv.lst{δ:QQz}{σ:St}{H:Hp}{s:Shared}{p:Addr}{xs:List V}(I:Inv X δ σ H s)(h:H p=some (.lst xs)):
  ∃(its:List Value)(n:Nat),Vals xs its/\s.heap.get? p=some {cls:=.type "list",data:=.seq its.toArray n}/\xs.length<=sizeLine:=by
 obtain⟨z,its,n,r,e⟩:=I.hok p _ h
 exact⟨its,n,r,e,z⟩
def Inv.Yj{σ:St}{H:Hp}{p:Addr}{its its':List Value}{n n':Nat}(I:Inv X δ σ H s)(h:H p=some (.lst xs))
  (ho:s.heap.get? p=some {cls:=.type "list",data:=.seq its.toArray n})(hf:f {cls:=.type "list",data:=.seq its.toArray n}={cls:=.type "list",data:=.seq its'.toArray n'})(r:Vals ys its')(hz:ys.length<=sizeLine)t:
  Inv X δ σ (upd H p (.lst ys)) {s with heap:=s.heap.update p f,toks:=t}:=by
 have e:(s.heap.update p f).get? p=some {cls:=.type "list",data:=.seq its'.toArray n'}:=by
  rw[Heap.get?_update_self f ho (by rw[hf]<;>rfl),hf]
 refine I.write (by rw[h];trivial) (.inl rfl) (fun b u hb q=>(Heap.get?_update_other _ _ (Ne.symm hb)).trans q) ⟨_,e⟩ ?_
 exact⟨hz,its',n',r,e⟩
def Vc:V->V->V->Hp->(Hp->Prop)->Prop:=fun o i v H Q=>∃p xs k j,o=.ref p/\i=.int k/\H p=some (.lst xs)/\SN xs.length k=some j/\Q (upd H p (.lst (xs.set j v)))
def set_list:Qk X Vc:=by
 intro δ s σ H o i v ov iv u Q I ro ri rv h
 obtain⟨p,xs,k,j,rfl,rfl,hp,hj,q⟩:=h
 cases ro
 obtain⟨t,rfl⟩:=ri
 obtain⟨its,n,r,ho,hz⟩:=I.lst hp
 obtain⟨h1,h2,h3,h4⟩:=Gk hj
 have hl:=r.length
 have hn:=xq
 have I':=
  I.Yj hp ho (Cy its n j u) (r.set rv j) (by rw[List.length_set];exact hz) s.toks
 by_cases h0:0<=k
 ·have hk:k.toNat=j:=by
   rw[seqIndex_of h0 h4]at h1
   exact QEq h1
  exact PySem.W.ki_setAt ho h0 (by omega) (by rw[Qyq,<-hl];exact h4) (by rw[hk];exact⟨_,I',q⟩)
 ·have hk:(k+its.toArray.size).toNat=j:=by
   rw[seqIndex_neg (by omega) h3]at h1
   rw[Qyq,<-hl]
   exact QEq h1
  exact PySem.W.ki_setBack ho (by omega) (by rw[Qyq,<-hl];exact h3) (by omega) (by rw[hk];exact⟨_,I',q⟩)
def wN lo hi n:(sliceBounds lo hi none n).1=((HT.fX n 0 lo:Nat):Int)/\(sliceBounds lo hi none n).2.1=((HT.fX n n hi:Nat):Int)/\(sliceBounds lo hi none n).2.2=1:=by
 refine⟨?_,?_,rfl⟩
 ·cases lo with
  |none=>simp[sliceBounds,HT.fX]
  |some i=>
   simp only[sliceBounds,HT.fX,Option.getD_none,show 1>0 by decide,if_true]
   by_cases h:i<0
   ·simp only[h,if_true]<;>omega
   ·simp only[h,if_false]<;>omega
 ·cases hi with
  |none=>simp[sliceBounds,HT.fX]
  |some i=>
   simp only[sliceBounds,HT.fX,Option.getD_none,show 1>0 by decide,if_true]
   by_cases h:i<0
   ·simp only[h,if_true]<;>omega
   ·simp only[h,if_false]<;>omega
def uD(its:List Value)lo hi:slicePick its.toArray lo hi none=((its.drop (HT.fX its.length 0 lo)).take (HT.fX its.length its.length hi-HT.fX its.length 0 lo)).toArray:=by
 obtain⟨h1,h2,h3⟩:=wN lo hi its.toArray.size
 unfold slicePick
 rw[h1,h2,h3]
 simp only[sliceRange_one,pick_run,Qyq]<;>rfl
def abP(K:QQq):V->Option Int->Option Int->Hp->VK->Prop:=fun x lo hi H Q=>∃a xs,x=.ref a/\km K H a xs/\∀p,H p=none->Q (.ref p) (upd H p (.lst (xZ xs lo hi)))
def QT:Ug X (abP X.K):=by
 intro δ s σ H x v vl vu lo hi sl Q I rx hs pl pu h
 obtain⟨a,xs,rfl,hx,q⟩:=h
 cases rx
 obtain⟨its,r,ht,hz⟩:=I.list hx
 have hlen:=r.length
 refine⟨"list",_,slot_list_getitem.lookup,ht.isList.typeIs,?_⟩
 refine wpAny_getItem_list_slice ht.isList hs pl pu .none (by simp) ?_ (by rw[Qyq]<;>omega)
 rw[uD,<-hlen]
 refine⟨.ref s.heap.objs.size,_,I.laid (fun b ob q=>QWq _ q) (QVz _) ?_,rfl,q _ (I.hok.fresh (QVz _))⟩
 exact⟨Nat.le_trans (pK xs lo hi) hz,_,0,(r.drop _).take _,Qzq _ rfl⟩
def jx:V->Bool
 |.non=>true
 |.bl _=>true
 |.int _=>true
 |.str _=>true
 |_=>false
def Om:V->V->Bool
 |.non,.non=>true
 |.bl a,.bl b=>a==b
 |.bl a,.int b=>(if a then 1 else 0)==b
 |.int a,.bl b=>a==(if b then 1 else 0)
 |.int a,.int b=>a==b
 |.str a,.str b=>a==b
 |_,_=>false
def Zq{s:Shared}{u v:Value}(ry:RelV y u)(rx:RelV x v)(fy:jx y=true)(fx:jx x=true):SeqAt.EqAt A s u v (Om y x):=by
 cases y with
 |non=>
  cases ry
  cases x with
  |non=>cases rx;exact SeqAt.EqAt.same _
  |bl b=>cases rx;exact SeqAt.EqAt.none_bool b
  |int b=>obtain⟨t,rfl⟩:=rx;exact SeqAt.EqAt.none_int b t
  |str b=>obtain⟨t,rfl⟩:=rx;exact SeqAt.EqAt.none_str b t
  |_=>exact absurd (fx) Qjz
 |bl a=>
  cases ry
  cases x with
  |non=>cases rx;exact SeqAt.EqAt.bool_none a
  |bl b=>cases rx;exact SeqAt.EqAt.bool_bool a b
  |int b=>obtain⟨t,rfl⟩:=rx;exact SeqAt.EqAt.bool_int a b t
  |str b=>obtain⟨t,rfl⟩:=rx;exact SeqAt.EqAt.bool_str a b t
  |_=>exact absurd (fx) Qjz
 |int a=>
  obtain⟨t',rfl⟩:=ry
  cases x with
  |non=>cases rx;exact SeqAt.EqAt.int_none a t'
  |bl b=>cases rx;exact SeqAt.EqAt.int_bool a t' b
  |int b=>obtain⟨t,rfl⟩:=rx;exact SeqAt.EqAt.int_int a t' b t
  |str b=>obtain⟨t,rfl⟩:=rx;exact SeqAt.EqAt.int_str a t' b t
  |_=>exact absurd (fx) Qjz
 |str a=>
  obtain⟨t',rfl⟩:=ry
  cases x with
  |non=>cases rx;exact SeqAt.EqAt.str_none a t'
  |bl b=>cases rx;exact SeqAt.EqAt.str_bool a t' b
  |int b=>obtain⟨t,rfl⟩:=rx;exact SeqAt.EqAt.str_int a t' b t
  |str b=>obtain⟨t,rfl⟩:=rx;exact SeqAt.EqAt.str_str a t' b t
  |_=>exact absurd (fx) Qjz
 |_=>exact absurd (fy) Qjz
def V2(x:V)(u:Value):Bool:=match u with
 |.none=>Om .non x
 |.bool b=>Om (.bl b) x
 |.int i _=>Om (.int i) x
 |.str z _=>Om (.str z) x
 |_=>false
def Do{u:Value}(r:RelV y u)(f:jx y=true):V2 x u=Om y x:=by
 cases y with
 |non=>cases r;rfl
 |bl b=>cases r;rfl
 |int i=>obtain⟨t,rfl⟩:=r;rfl
 |str z=>obtain⟨t,rfl⟩:=r;rfl
 |_=>exact absurd (f) Qjz
theorem nW{x:V}:∀{xs:List V}{us:List Value},Vals xs us->xs.all jx=true->us.any (V2 x)=xs.any fun y=>Om y x
 |_,_,.nil=>fun _=>rfl
 |y::xs,u::us,.cons r t=>fun f=>by
  rw[List.all_cons,QUq]at f
  rw[List.any_cons,List.any_cons,Do r f.1,nW t f.2]
theorem gC{A:Around}{s:Shared}{x:V}{v:Value}(rx:RelV x v)(fx:jx x=true):∀{xs:List V}{us:List Value},Vals xs us->xs.all jx=true->∀u∈us,SeqAt.EqAt A s u v (V2 x u)
 |_,_,.nil=>fun _=>fun u hu=>by cases hu
 |y::xs,u::us,.cons r t=>fun f=>fun u' hu=>by
  rw[List.all_cons,QUq]at f
  rcases QCq.mp hu with rfl|hu
  ·rw[Do r f.1];exact Zq r rx f.1 fx
  ·exact gC rx fx t f.2 u' hu
def inV(x:V)(xs:List V):Bool:=xs.any fun y=>Om y x
def rIn(K:QQq)(neg:Bool):R2:=fun x y H Q=>∃p xs,y=.ref p/\(km K H p xs\/iV K H p xs)/\jx x=true/\xs.all jx=true/\Q (.bl (if neg then !inV x xs else inV x xs)) H
def Ig:fY X (compareOp .In) (rIn X.K false):=by
 intro δ s σ H x y v u Q I rx ry h
 obtain⟨p,xs,rfl,hq,fx,fs,q⟩:=h
 cases ry
 rcases hq with hq|hq
 ·obtain⟨its,r,pl,hz⟩:=I.list hq
  refine SeqAt.in_listAt _ pl.isList (fun w hw=>gC rx fx r fs w (by simpa using hw)) ⟨.bl _,H,I,rfl,?_⟩
  rw[show its.toArray.any _=its.any (V2 x) by simp,nW r fs]
  exact q
 ·obtain⟨its,r,pl,hz⟩:=I.tuple hq
  refine SeqAt.in_tupleAt _ pl (fun w hw=>gC rx fx r fs w (by simpa using hw)) ⟨.bl _,H,I,rfl,?_⟩
  rw[show its.toArray.any _=its.any (V2 x) by simp,nW r fs]
  exact q
def xf:fY X (compareOp .NotIn) (rIn X.K true):=by
 intro δ s σ H x y v u Q I rx ry h
 obtain⟨p,xs,rfl,hq,fx,fs,q⟩:=h
 cases ry
 rcases hq with hq|hq
 ·obtain⟨its,r,pl,hz⟩:=I.list hq
  refine SeqAt.notIn_listAt _ pl.isList (fun w hw=>gC rx fx r fs w (by simpa using hw)) ⟨.bl _,H,I,rfl,?_⟩
  rw[show its.toArray.any _=its.any (V2 x) by simp,nW r fs]
  exact q
 ·obtain⟨its,r,pl,hz⟩:=I.tuple hq
  refine SeqAt.notIn_tupleAt _ pl (fun w hw=>gC rx fx r fs w (by simpa using hw)) ⟨.bl _,H,I,rfl,?_⟩
  rw[show its.toArray.any _=its.any (V2 x) by simp,nW r fs]
  exact q
def yh:fZ X (.type "list") (fun xs H Q=>∃p ys,xs=[.ref p]/\(km X.K H p ys\/iV X.K H p ys)/\∀l,H l=none->Q (.ref l) (upd H l (.lst ys))):=by
 intro δ s σ H xs us Q I r h
 obtain⟨p,ys,rfl,hq,q⟩:=h
 obtain⟨u,rfl,rx⟩:=vals1 r
 cases rx
 have fin:∀its,Vals ys its->ys.length<=sizeLine->∀h' c',_->
   h'.get? s.heap.objs.size=some {cls:=.type "list",dict:=none,data:=.seq its.toArray c',slots:= #[]}->EP X δ σ Q _ {s with heap:=h'}:=fun its r' hz h' c' kp e=>
  ⟨.ref s.heap.objs.size,_,I.laid kp (QVz _) (show cg X.prog X.w _ h' _ (.lst ys)from⟨hz,its,c',r',e⟩),rfl,q _ (I.hok.fresh (QVz _))⟩
 rcases hq with hq|hq
 ·obtain⟨its,r',pl,hz⟩:=I.list hq
  have hlen:=r'.length
  obtain⟨o,ho,hc,n,hd⟩:=pl.isList
  exact call_list_seq p (.inl rfl) ho hc hd (fun h' c' kp e=>fin its r' hz h' c' kp e) (by simp only[Qyq]<;>omega)
 ·obtain⟨its,r',pl,hz⟩:=I.tuple hq
  have hlen:=r'.length
  obtain⟨o,ho,hc,n,hd⟩:=pl
  exact call_list_seq p (.inr rfl) ho hc hd (fun h' c' kp e=>fin its r' hz h' c' kp e) (by simp only[Qyq]<;>omega)
def uK:fZ X (.type "tuple") (fun xs H Q=>∃p ys,xs=[.ref p]/\((km X.K H p ys/\∀l,H l=none->Q (.ref l) (upd H l (.tup ys)))\/(iV X.K H p ys/\Q (.ref p) H))):=by
 intro δ s σ H xs us Q I r h
 obtain⟨p,ys,rfl,h⟩:=h
 obtain⟨u,rfl,rx⟩:=vals1 r
 cases rx
 rcases h with ⟨hq,q⟩|⟨hq,q⟩
 ·obtain⟨its,r',pl,hz⟩:=I.list hq
  have hlen:=r'.length
  refine call_tuple_list pl.isList (fun h' kp=>?_) (by simp only[Qyq]<;>omega)
  have I1:=I.kept (t':=s.toks) kp
  have I2:=
   I1.laid (t':=s.toks) (fun b o e=>QWq _ e) (QVz _) (show cg X.prog X.w _ _ _ (.tup ys)from⟨hz,its,r',TupOk.new _ _⟩)
  exact⟨.ref h'.objs.size,_,I2,rfl,q _ (I1.hok.fresh (QVz _))⟩
 ·obtain⟨its,r',pl,hz⟩:=I.tuple hq
  exact call_tuple_same pl ⟨.ref p,H,I,rfl,q⟩
def tyV(K:QQq)(T:String)(x:V)(H:Hp):Prop:=match x with
 |.str _=>T="str"
 |.int _=>T="int"
 |.ref p=>(T="list"/\∃xs,km K H p xs)\/(T="tuple"/\∃o,K.lookup p=some o/\o.cls=.type "tuple"/\o.dict=none)\/
   (T="dict"/\((∃kvs,H p=some (.dK kvs))\/∃kvs,H p=some (.dT kvs)))\/(T="set"/\∃S n,H p=some (.set S n))
 |_=>False
theorem WD{σ:St}{H:Hp}{T:String}{x:V}(I:Inv X δ σ H s)(r:RelV x v)(ty:tyV X.K T x H):
  s.TypeIs v T/\∀a,v=.ref a->∃ob,s.heap.get? a=some ob/\ob.dict=none:=by
 cases x with
 |str z=>
  obtain⟨t,rfl⟩:=r
  cases (ty)
  exact⟨typeIs_str s z t,fun _ e=>nomatch e⟩
 |int i=>
  obtain⟨t,rfl⟩:=r
  cases (ty)
  exact⟨typeIs_int s i t,fun _ e=>nomatch e⟩
 |ref p=>
  cases r
  rcases ty with ⟨rfl,xs,hq⟩|⟨rfl,o,hk,hc,hd⟩|⟨rfl,hk⟩|⟨rfl,S,n,hk⟩
  ·obtain⟨its,_,pl,_⟩:=I.list hq
   refine⟨pl.isList.typeIs,fun a e=>?_⟩
   cases e
   obtain⟨o,n,e,c,hd,_⟩:=pl
   exact⟨o,e,hd⟩
  ·refine⟨⟨o,I.JM p o hk,hc⟩,fun a e=>?_⟩
   cases e
   exact⟨o,I.JM _ o hk,hd⟩
  ·have z:∃o,s.heap.get? p=some o/\o.ExactDict:=by
    rcases hk with ⟨kvs,hk⟩|⟨kvs,hk⟩
    ·obtain⟨_,_,_,_,o,_,_,e,ex,_⟩:=I.hok p _ hk
     exact⟨o,e,ex⟩
    ·obtain⟨_,_,_,_,o,_,_,e,ex,_⟩:=I.hok p _ hk
     exact⟨o,e,ex⟩
   obtain⟨o,e,ex⟩:=z
   refine⟨⟨o,e,ex.1⟩,fun a e2=>?_⟩
   cases e2
   exact⟨o,e,ex.2.1⟩
  ·obtain⟨o,_,_,_,e,ex,_⟩:=I.hok p _ hk
   refine⟨⟨o,e,ex.1⟩,fun a e2=>?_⟩
   cases e2
   exact⟨o,e,ex.2.1⟩
 |_=>exact False.elim ty
def tBM(K:QQq)(T:String)(r:V->List V->Hp->VK->Prop)(to:TE)(t:TA):TE:=fun σ H Q=>to σ H fun x H1=>tyV K T x H1/\t σ H1 fun xs H2=>r x xs H2 Q
variable{o e:Expr}{es:List Expr}{to:TE}{t:TA}{name:Str}{apos cpos:Pos}{T id:String}{r:V->List V->Hp->VK->Prop}
def ab4(pa:PlainAttrs T)(slot:Slot T name id)(hty:typeOf (.builtin id)=pure (.type "method_descriptor"))(hm:MtR X id r)(ho:PE X o to)(ha:PA X (e::es) t)
  (hbase:attributeBase o name X.env (eval o X.env)=eval o X.env:=by rfl)
  (hfew:((backTo cpos (starEach (e::es) X.env)).all (fun x=> !x.1)&&(backToKw cpos (keywordEach [] X.env)).all (fun x=>x.1.isSome)
   &&decide ((e::es).length+([]:List Keyword).length+(if ([]:List Keyword).isEmpty then 0 else 1)<30))=true:=by rfl)
  (hline:(apos.endLine==cpos.line)=true:=by rfl)(hs:starEach (e::es) X.env=(false,eval e X.env)::starEach es X.env:=by rfl)(hplain:(backTo cpos (starEach es X.env)).any (·.1)=false:=by rfl):
  PE X (.Call (.Attribute o name apos) (e::es) [] cpos) (tBM X.K T r to t):=by
 intro δ s σ H Q I h
 refine wpAny_Call_method_late hbase hfew hline rfl (b8 (ho δ s σ H _ I h) fun v s1⟨x,H1,I1,r1,ty,q1⟩=>?_)
 obtain⟨h1,h2⟩:=WD I1 r1 ty
 refine⟨T,id,pa,slot,hty,h1,h2,?_⟩
 have hA:=ha cpos δ s1 σ H1 _ I1 q1
 rw[hs]at hA⊢
 exact Calls.callWith_builtin (by show(false||(backTo cpos _).any (·.1))=false;rw[hplain]<;>rfl) (Calls.evalArgs_plain (b8 hA fun us s2⟨vs,H2,I2,r2,q2⟩=>hm δ s2 σ H2 x vs v us Q I2 r1 r2 q2))
end
def MtM(X:Cx)(id:String)(r:V->List V->Hp->VK->Prop):Prop:=
 ∀(δ:QQz)(s:Shared)(σ:St)(H:Hp)(x:V)(xs:List V)(v:Value)(us:List Value)(Q:VK),Inv X δ σ H s->RelV x v->Vals xs us->r x xs H Q->
  wpAny (model X.prog X.w) X.A (call (.builtin id) (v::us)) (EP X δ σ Q) X.xe s
theorem Vals.one:∀{x:V}{us:List Value},Vals [x] us->∃u,us=[u]/\RelV x u
 |_,_,.cons r .nil=>⟨_,rfl,r⟩
theorem Vals.two:∀{x y:V}{us:List Value},Vals [x,y] us->∃u v,us=[u,v]/\RelV x u/\RelV y v
 |_,_,_,.cons r (.cons q .nil)=>⟨_,_,rfl,r,q⟩
theorem Vals.eraseIdx:∀{xs:List V}{us:List Value}(i:Nat),Vals xs us->Vals (xs.eraseIdx i) (us.eraseIdx i)
 |_,_,_,.nil=>.nil
 |_,_,0,.cons _ t=>t
 |_,_,i+1,.cons r t=>.cons r (Vals.eraseIdx i t)
theorem vK{α:Type}:∀(l:List α)(i:Nat),(l.eraseIdx i).length<=l.length
 |[],_=>QVz _
 |_::_,0=>Nat.le_succ _
 |_::r,i+1=>Nat.succ_le_succ (vK r i)
section
variable{X:Cx}{δ:QQz}{σ:St}{H:Hp}{s:Shared}{l b:Addr}{xs ys zs:List V}
def Inv.acq{its its':List Value}{n:Nat}{t':Nat}(I:Inv X δ σ H s)(hH:H l=some (.lst xs))
  (e:s.heap.get? l=some {cls:=.type "list",data:=.seq its.toArray n})(hf:f its.toArray=its'.toArray)(hv:Vals ys its')(hz:ys.length<=sizeLine):
  Inv X δ σ (upd H l (.lst ys)) {s with heap:=s.heap.update l (Obj.mapSeq f),toks:=t'}:=by
 have q:=PySem.IsL.update e f
 rw[hf]at q
 refine I.write (by rw[hH];exact trivial) (.inl rfl) (fun b' u hb hu=>(Heap.get?_update_other s.heap _ (Ne.symm hb)).trans hu) ⟨_,q⟩ ?_
 exact⟨hz,its',_,hv,q⟩
def Inv.af0{t':Nat}(I:Inv X δ σ H s)(hv:Vals ys its)(hz:ys.length<=sizeLine):
  Inv X δ σ (upd H s.heap.objs.size (.lst ys)) {s with heap:=s.heap.push {cls:=.type "list",data:=.seq its.toArray},toks:=t'}:=
 I.laid (fun _ _ q=>QWq _ q) (QVz _) ⟨hz,its,0,hv,Qzq _ rfl⟩
theorem Inv.fresh(I:Inv X δ σ H s):H s.heap.objs.size=none:=I.hok.fresh (QVz _)
def Inv.acp(I:Inv X δ σ H s)(hH:H l=some (.lst xs)):xs.length<=sizeLine/\∃(its:List Value)(n:Nat),Vals xs its/\xs.length=its.length/\s.heap.get? l=some {cls:=.type "list",data:=.seq its.toArray n}:=by
 obtain⟨z,its,n,r,e⟩:=I.hok l _ hH
 exact⟨z,its,n,r,r.length,e⟩
end
section
variable{X:Cx}
def Rq:V->List V->Hp->VK->Prop:=fun x vs H Q=>∃l xs y,x=.ref l/\vs=[y]/\H l=some (.lst xs)/\xs.length<sizeLine/\Q .non (upd H l (.lst (xs++[y])))
def vB:MtM X "list.append" Rq:=by
 intro δ s σ H x vs v us Q I rx rv h
 obtain⟨l,xs,y,rfl,rfl,hH,hz,q⟩:=h
 cases rx
 obtain⟨u,rfl,ru⟩:=rv.one
 obtain⟨z,its,n,r,hl,e⟩:=I.acp hH
 refine call_meets F.slot_list_append ⟨_,e,rfl⟩ F.entry_list_append (F.args_list_append_2 _ _) (PySem.list_append l its.toArray n u (by rw[Qyq];omega)) ⟨e,?_⟩
 refine⟨.non,_,I.acq hH e (by simp) (r.append (.cons ru .nil)) ?_,rfl,q⟩
 rw[QTq,List.length_singleton]
 omega
def Xj:V->List V->Hp->VK->Prop:=fun x vs H Q=>∃l xs i k y,x=.ref l/\vs=[.int i]/\H l=some (.lst xs)/\ -(2 ^63)<=i/\i<2 ^63/\seqIndex? i xs.length=some k/\xs[k]? =some y/\Q y (upd H l (.lst (xs.eraseIdx k)))
def Mu:MtM X "list.pop" Xj:=by
 intro δ s σ H x vs v us Q I rx rv h
 obtain⟨l,xs,i,k,y,rfl,rfl,hH,h1,h2,hk,hy,q⟩:=h
 cases rx
 obtain⟨u,rfl,ru⟩:=rv.one
 obtain⟨t,rfl⟩:=ru
 obtain⟨z,its,n,r,hl,e⟩:=I.acp hH
 obtain⟨w,hw,rw'⟩:=r.get hy
 refine call_meets F.slot_list_pop ⟨_,e,rfl⟩ F.entry_list_pop (F.args_list_pop_2 _ _)
  (MeetsSeq.list_pop_at l its.toArray n i t k w (fitsIndex_both h1 h2) (by rw[Qyq,<-hl];exact hk) (by rw[<-Array.getElem?_toList];exact hw) (by rw[Qyq];omega)) ⟨e,?_⟩
 refine⟨y,_,I.acq hH e ?_ (r.eraseIdx k) ?_,rw',q⟩
 ·show its.toArray.eraseIdxIfInBounds k=(its.eraseIdx k).toArray
  rw[List.eraseIdxIfInBounds_toArray]
 ·have:=vK xs k
  omega
end
section
variable{prog:Program}{w:World}{A:Around}{E:QZq}{s:Shared}
end
section
variable{X:Cx}
end
section
variable{κ:Type}[DecidableEq κ]
def jD(kvs:List (κ×V))(k:κ):Option V:=(kvs.find? fun kv=>decide (kv.1=k)).map (·.2)
def putK(kvs:List (κ×V))(k:κ)(v:V):List (κ×V):=
 if (kvs.any fun kv=>decide (kv.1=k))=true then kvs.map (fun kv=>if kv.1=k then(kv.1,v)else kv)else kvs++[(k,v)]
def jM{p:κ×V}{k:κ}(e:p.1=k):jD (p::r) k=some p.2:=by simp[jD,List.find?_cons,e]
def jN{p:κ×V}{k:κ}(e:¬p.1=k):jD (p::r) k=jD r k:=by simp[jD,List.find?_cons,e]
theorem qI(k:κ):∀kvs:List (κ×V),(kvs.any fun kv=>decide (kv.1=k))=(jD kvs k).isSome
 |[]=>rfl
 |p::r=>by
  rw[List.any_cons]
  by_cases e:p.1=k
  ·simp only[jM e,QFq e,Bool.true_or,Option.isSome_some]
  ·rw[jN e,QEz e,Bool.false_or];exact qI k r
def jX(kvs:List (κ×V))(k:κ)v:(putK kvs k v).length<=kvs.length+1:=by
 unfold putK
 split
 ·rw[QAq];omega
 ·rw[QTq,QBq,List.length_nil];omega
def nY.dR{u:Option Value}(r:nY o u):o.isSome=u.isSome:=by
 cases o with
 |none=>cases u with
  |none=>rfl
  |some _=>exact(r).elim
 |some _=>cases u with
  |none=>exact(r).elim
  |some _=>rfl
theorem nY.getD{u:Option Value}{d':Value}(r:nY o u)(rd:RelV d d'):RelV (o.getD d) (u.getD d'):=by
 cases o with
 |none=>cases u with
  |none=>exact rd
  |some _=>exact(r).elim
 |some _=>cases u with
  |none=>exact(r).elim
  |some _=>exact r
def KV.val{vs:List (κ×Value)}(r:KV kvs vs)(k:κ):nY (jD kvs k) (valueAt vs k):=by
 induction r with
 |nil=>exact True.intro
 | @cons p q ps qs h t ih=>
  obtain⟨h1,h2⟩:=h
  by_cases e:p.1=k
  ·have b:valueAt (q::qs) k=some q.2:=by simp[valueAt,List.find?_cons,h1.symm.trans e]
   rw[jM e,b];exact h2
  ·have e':¬q.1=k:=fun z=>e (h1.trans z)
   have b:valueAt (q::qs) k=valueAt qs k:=by simp[valueAt,List.find?_cons,e']
   rw[jN e,b];exact ih
theorem KV.any{vs:List (κ×Value)}(r:KV kvs vs)(k:κ):(kvs.any fun kv=>decide (kv.1=k))=vs.any fun kv=>decide (kv.1=k):=by
 induction r with
 |nil=>rfl
 |cons h t ih=>rw[List.any_cons,List.any_cons,ih,h.1]
theorem KV.repl{vs:List (κ×Value)}(r:KV kvs vs)(k:κ){u:Value}(ry:RelV y u):
  KV (kvs.map fun kv=>if kv.1=k then(kv.1,y)else kv) (vs.map fun kv=>if kv.1=k then(kv.1,u)else kv):=by
 induction r with
 |nil=>exact .nil
 | @cons p q ps qs h t ih=>
  rw[Qyz,Qyz]
  refine .cons ?_ ih
  obtain⟨h1,h2⟩:=h
  by_cases e:p.1=k
  ·rw[if_pos e,if_pos (h1.symm.trans e)];exact⟨h1,ry⟩
  ·rw[if_neg e,if_neg (fun z=>e (h1.trans z))];exact⟨h1,h2⟩
def KV.put{vs:List (κ×Value)}(r:KV kvs vs)(k:κ){u:Value}(ry:RelV y u):KV (putK kvs k y) (stored vs k u):=by
 unfold putK stored
 rw[r.any k]
 by_cases e:(vs.any fun kv=>decide (kv.1=k))=true
 ·rw[if_pos e,if_pos e];exact r.repl k ry
 ·rw[if_neg e,if_neg e];exact Paired.snoc r ⟨rfl,ry⟩
theorem KV.length{kvs:List (κ×V)}(r:KV kvs vs):kvs.length=vs.length:=Paired.length r
end
def sJ{w:World}{u:Value}(r:RelV (kV k) u):(cM P w).is k u=true:=by
 cases k with
 |inl i=>obtain⟨t,e⟩:=(r);subst e;exact zE P w i t
 |inr x=>obtain⟨t,e⟩:=(r);subst e;exact zB P w x t
theorem vQ{w:World}:∀{ks:List Key}{us:List Value},Vals (ks.map kV) us->ItemsAre (cM P w) ks us
 |[],_,r=>by rw[List.map_nil]at r;cases r;exact .nil
 |k::ks,_,r=>by
  cases r with
  |cons h t=>exact .cons (sJ h) (vQ t)
abbrev KT(H:Hp):List (List Key×V)->List (List Key×Addr×Value)->Prop:=Paired fun p q=>p.1=q.1/\H q.2.1=some (.tup (p.1.map kV))/\RelV p.2 q.2.2
def KT.val{kvs:List (List Key×V)}(r:KT H kvs xs)k:nY (jD kvs k) ((atKey xs k).map (·.2)):=by
 induction r with
 |nil=>exact True.intro
 | @cons p q ps qs h t ih=>
  obtain⟨h1,_,h2⟩:=h
  by_cases e:p.1=k
  ·have b:atKey (q::qs) k=some q.2:=by simp[atKey,List.find?_cons,h1.symm.trans e]
   rw[jM e,b];exact h2
  ·have e':¬q.1=k:=fun z=>e (h1.trans z)
   have b:atKey (q::qs) k=atKey qs k:=by simp[atKey,List.find?_cons,e']
   rw[jN e,b];exact ih
theorem KT.repl{kvs:List (List Key×V)}(r:KT H kvs xs)k{u:Value}(ry:RelV y u):
  KT H (kvs.map fun kv=>if kv.1=k then(kv.1,y)else kv) (xs.map (putAt k u)):=by
 induction r with
 |nil=>exact .nil
 | @cons p q ps qs h t ih=>
  rw[Qyz,Qyz]
  refine .cons ?_ ih
  obtain⟨h1,h2,h3⟩:=h
  unfold putAt
  by_cases e:p.1=k
  ·rw[if_pos e,if_pos (h1.symm.trans e)];exact⟨h1,h2,ry⟩
  ·rw[if_neg e,if_neg (fun z=>e (h1.trans z))];exact⟨h1,h2,h3⟩
def KT.put{kvs:List (List Key×V)}(r:KT H kvs xs)k{y:V}(hb:H b=some (.tup (k.map kV)))(ry:RelV y u):
  KT H (putK kvs k y) (storedH xs k b u):=by
 have e:(kvs.any fun kv=>decide (kv.1=k))=(atKey xs k).isSome:=by
  rw[qI,(r.val k).dR,Option.isSome_map]
 unfold putK storedH
 rw[e]
 by_cases q:(atKey xs k).isSome=true
 ·rw[if_pos q,if_pos q];exact r.repl k ry
 ·rw[if_neg q,if_neg q];exact Paired.snoc r ⟨rfl,hb,ry⟩
def KT.keeps{kvs:List (List Key×V)}(r:KT H kvs xs)(ht:∀b ys,H b=some (.tup ys)->H' b=some (.tup ys)):KT H' kvs xs:=
 Paired.Yi r fun _ _ z=>⟨z.1,ht _ _ z.2.1,z.2.2⟩
section
variable{P:Program}{w:World}{H:Hp}{h:Heap}{a:Addr}
def Fb(ok:kE P w H h)(e:Rd H a u):cg P w H h a u:=e.ok ok
def pJ(ok:kE P w H h)(e:Rd H a (.dK kvs)):kvs.length<=sizeLine/\(a==sysModules)=false/\∃vs,KV kvs vs/\h.DictOf (cM P w) a vs:=
 show cg P w H h a _ from Fb ok e
def Ot(ok:kE P w H h)(e:H a=some (.dK kvs)):kvs.length<=sizeLine/\(a==sysModules)=false/\∃vs,KV kvs vs/\h.DictOf (cM P w) a vs:=pJ ok (.inl e)
def oX(ok:kE P w H h)(e:H a=some (.tup (ks.map kV))):(tupleKind (cM P w)).is h ks a:=by
 obtain⟨_,its,r,o,h1,h2,_,n,h3⟩:=(ok a _ e)
 exact⟨o,its.toArray,n,h1,h2,h3,by simpa using vQ r⟩
theorem tO(ok:kE P w H h)(e:Rd H a (.dT kvs)):kvs.length<=sizeLine/\(a==sysModules)=false/\
  ∃xs,KT H kvs xs/\h.DictOfH (tupleKind (cM P w)) a xs:=by
 obtain⟨z,y,xs,r,o,es,ep,h1,h2,h3,h4,h5⟩:=(Fb ok e)
 refine⟨z,y,xs,r,o,es,ep,h1,h2,h3,h4,fun x hx=>?_,h5⟩
 have all:∀{l:List _}{m:List _},KT H l m->∀x∈m,(tupleKind (cM P w)).is h x.1 x.2.1:=by
  intro l m q
  induction q with
  |nil=>intro x hx;exact nomatch hx
  | @cons p q ps qs hq t ih=>
   intro x hx
   rcases QCq.mp hx with e|hx
   ·subst e
    exact oX ok (by rw[<-hq.1];exact hq.2.1)
   ·exact ih x hx
 exact all r x hx
def acY(ok:kE P w H h)(e:H a=some (.dT kvs)):kvs.length<=sizeLine/\(a==sysModules)=false/\
  ∃xs,KT H kvs xs/\h.DictOfH (tupleKind (cM P w)) a xs:=tO ok (.inl e)
end
def Az(H:Hp)(a:Addr)(y:V)(r:Option V):Prop:=
 (∃kvs k,Rd H a (.dK kvs)/\y=kV k/\r=jD kvs k)\/∃kvs k b,Rd H a (.dT kvs)/\y=.ref b/\H b=some (.tup (k.map kV))/\r=jD kvs k
def Qo(H:Hp)(a:Addr)(y v:V)(H':Hp):Prop:=
 (∃kvs k,H a=some (.dK kvs)/\y=kV k/\kvs.length<sizeLine/\H'=upd H a (.dK (putK kvs k v)))\/
 ∃kvs k b,H a=some (.dT kvs)/\y=.ref b/\H b=some (.tup (k.map kV))/\kvs.length<sizeLine/\H'=upd H a (.dT (putK kvs k v))
theorem Qo.k{a:Addr}{k:Key}(e:H a=some (.dK kvs))(hl:kvs.length<sizeLine):Qo H a (kV k) v (upd H a (.dK (putK kvs k v))):=.inl ⟨kvs,k,e,rfl,hl,rfl⟩
section
variable{X:Cx}{δ:QQz}{σ:St}{H:Hp}{s:Shared}{a:Addr}{y v:V}{u r:Value}{o:Option V}{A:Around}{E:QZq}
def Inv.big(I:Inv X δ σ H s):sysModules<s.heap.objs.size:=by
 exact Nat.lt_trans (by decide) ((I.mod.glob.keeps I.bk).lt)
def Ju(hu:A.units+1<cLine)(I:Inv X δ σ H s)(g:Az H a y (some v))(ry:RelV y u)(h:∀w' s',Inv X δ σ H s'->RelV v w'->Q w' s'):
  wpAny (model X.prog X.w) A (getItem (.ref a) u) Q E s:=by
 rcases g with ⟨kvs,k,e,ey,l⟩|⟨kvs,k,b,e,ey,eb,l⟩
 ·subst ey
  obtain⟨z,hd,vs,rel,dd⟩:=pJ I.hok e
  obtain⟨w',hw,rw'⟩:=nY.some_of (by rw[l];exact rel.val k)
  exact wpAny_getItem_of (sJ ry) dd.mapOf hw (h w' _ (I.tok _) rw')
 ·subst ey
  cases (ry)
  obtain⟨z,hd,xs,rel,dd⟩:=tO I.hok e
  obtain⟨w',hw,rw'⟩:=nY.some_of (by rw[l];exact rel.val k)
  obtain⟨p,hp,hp2⟩:=QJz.mp hw
  refine wpAny_getItem_heap (tupleKind_room_in1 hu) (oX I.hok eb) dd hp ?_
  rw[hp2]
  exact h w' _ (I.tok _) rw'
def agX(hu:A.units+1<cLine)(I:Inv X δ σ H s)(g:Az H a y o)(ry:RelV y u)(h:∀s',Inv X δ σ H s'->Q (.bool o.isSome) s'):
  wpAny (model X.prog X.w) A (compareOp .In u (.ref a)) Q E s:=by
 rcases g with ⟨kvs,k,e,ey,l⟩|⟨kvs,k,b,e,ey,eb,l⟩
 ·subst ey
  obtain⟨z,hd,vs,rel,dd⟩:=pJ I.hok e
  refine wpAny_in_of (sJ ry) hd dd.mapOf ?_
  rw[<- (rel.val k).dR,<-l]
  exact h _ (I.tok _)
 ·subst ey
  cases (ry)
  obtain⟨z,hd,xs,rel,dd⟩:=tO I.hok e
  refine wpAny_in_heap (tupleKind_room_in1 hu) (oX I.hok eb) hd dd ?_
  have q:=(rel.val k).dR
  rw[Option.isSome_map]at q
  rw[<-q,<-l]
  exact h _ (I.tok _)
def TJ(hu:A.units+1<cLine)(I:Inv X δ σ H s)(g:Az H a y o)(ry:RelV y u)(h:∀s',Inv X δ σ H s'->Q (.bool (!o.isSome)) s'):
  wpAny (model X.prog X.w) A (compareOp .NotIn u (.ref a)) Q E s:=by
 rcases g with ⟨kvs,k,e,ey,l⟩|⟨kvs,k,b,e,ey,eb,l⟩
 ·subst ey
  obtain⟨z,hd,vs,rel,dd⟩:=pJ I.hok e
  refine wpAny_notIn_of (sJ ry) hd dd.mapOf ?_
  rw[<- (rel.val k).dR,<-l]
  exact h _ (I.tok _)
 ·subst ey
  cases (ry)
  obtain⟨z,hd,xs,rel,dd⟩:=tO I.hok e
  refine wpAny_notIn_heap (tupleKind_room_in1 hu) (oX I.hok eb) hd dd ?_
  have q:=(rel.val k).dR
  rw[Option.isSome_map]at q
  rw[<-q,<-l]
  exact h _ (I.tok _)
def nJ{t':Nat}(I:Inv X δ σ H s)(mu:Mut (H a))(hs:Heap.SameBut a s.heap h')(he:∃q,h'.get? a=some q)(new:cg X.prog X.w (upd H a ob) h' a ob):
  Inv X δ σ (upd H a ob) {s with heap:=h',toks:=t'}:=
 I.write mu (.inl rfl) (fun b q hb z=>(hs.2 b hb).trans z) he new
def Ou{w:World}{h':Heap}{vs:List (Key×Value)}(z:kvs.length<=sizeLine)(hd:(a==sysModules)=false)(rel:KV kvs vs)(dd:h'.DictOf (cM P w) a vs):
  cg P w H' h' a (.dK kvs):=⟨z,hd,vs,rel,dd⟩
def Jt{Q:Unit->Shared->Prop}(hu:A.units+1<cLine)(I:Inv X δ σ H s)(g:Qo H a y v H')(ry:RelV y u)(rv:RelV v r)(h:∀s',Inv X δ σ H' s'->Q () s'):
  wpAny (model X.prog X.w) A (setItem (.ref a) u r) Q E s:=by
 rcases g with ⟨kvs,k,e,ey,l,eH⟩|⟨kvs,k,b,e,ey,eb,l,eH⟩
 ·subst ey eH
  obtain⟨z,hd,vs,rel,dd⟩:=Ot I.hok e
  have hz:vs.length<=sizeLine:=by rw[<-rel.length];exact z
  refine wpAny_setItem_pairs (sJ ry) dd fun h' dd' hs=>h _ ?_
  exact nJ I (by rw[e];exact True.intro) hs (let ⟨q,_,_,hq,_⟩:=dd';⟨q,hq⟩) (Ou (by have:=jX kvs k v;omega) hd (rel.put k rv) dd')
 ·subst ey eH
  cases (ry)
  obtain⟨z,hd,xs,rel,dd⟩:=acY I.hok e
  have hz:xs.length<=sizeLine:=by rw[<-Paired.length rel];exact z
  refine wpAny_setItem_heap (tupleKind_room_in1 hu) (oX I.hok eb) dd fun h' dd' hs=>h _ ?_
  obtain⟨q,es,ep,hq,h2,h3,h4,_,h5⟩:=dd'
  refine nJ I (by rw[e];exact True.intro) hs ⟨q,hq⟩ ⟨(by have:=jX kvs k v;omega),hd,_,(rel.put k eb rv).keeps fun c ys ec=>?_,q,es,ep,hq,h2,h3,h4,h5⟩
  rw[aC (aco ec e (fun z=>nomatch z))]
  exact ec
end
section
variable{X:Cx}{δ:QQz}{σ:St}{H:Hp}{s:Shared}{a:Addr}{kvs:List (Key×V)}{k:Key}{u:Value}{A:Around}{E:QZq}
def ac0(I:Inv X δ σ H s)(e:Rd H a (.dK kvs))(h:∀t s',Inv X δ σ H s'->Q (.int kvs.length t) s'):wpAny (model X.prog X.w) A (call (.builtin "len") [.ref a]) Q E s:=by
 obtain⟨z,hd,vs,rel,dd⟩:=pJ I.hok e
 refine call_len_dict hd dd (by rw[<-rel.length];rw[sizeLine_eq]at z;omega) ?_
 rw[<-rel.length]
 exact h _ _ (I.tok _)
end
def Ae{X:Cx}{σ:St}{H:Hp}{a:Addr}{y:V}(I:Inv X δ σ H s)(g:Az H a y o):s.TypeIs (.ref a) "dict":=by
 rcases g with ⟨kvs,k,e,_,_⟩|⟨kvs,k,b,e,_,_,_⟩
 ·obtain⟨_,_,vs,_,dd⟩:=pJ I.hok e
  exact dd.typeIs
 ·obtain⟨_,_,xs,_,dd⟩:=tO I.hok e
  exact dd.typeIs
section
variable{X:Cx}{o i e value:Expr}{pos pos' tpos:Pos}{td ty tv:TE}
end
def tQ{w:World}(h:Heap)(hb:sysModules<h.objs.size):cg P w H (h.push {cls:=.type "dict",data:=.dict #[]}) h.objs.size (.dK []):=
 ⟨QIq _,beq_eq_false_iff_ne.mpr (Ne.symm (Qvz hb)),[],.nil,Heap.DictOf.new h⟩
def WN:TE:=fun _ H Q=>∀p,H p=none->Q (.ref p) (upd H p (.dK []))
section
variable{X:Cx}{pos:Pos}
def Lx:PE X (.Dict [] [] pos) WN:=fun δ s σ H Q I h=>
 wpAny_Dict_empty ⟨.ref s.heap.objs.size,_,I.laid (fun _ _ q=>QWq _ q) (QVz _) (tQ s.heap I.big),rfl,h _ (I.hok.fresh (QVz _))⟩
end
def wK:List (TE×TE)->St->Hp->(List (V×V)->Hp->Prop)->Prop
 |[],_,H,Q=>Q [] H
 |(tk,tv)::r,σ,H,Q=>tk σ H fun x H1=>tv σ H1 fun y H2=>wK r σ H2 fun ps H3=>Q ((x,y)::ps) H3
abbrev VV:List (V×V)->List (Value×Value)->Prop:=Paired fun p q=>RelV p.1 q.1/\RelV p.2 q.2
def PPs(X:Cx)(pos:Pos)(keys:List (Option Expr))(values:List Expr)(nZ:List (TE×TE)):Prop:=
 ∀(δ:QQz)(s:Shared)(σ:St)(H:Hp)(Q:List (V×V)->Hp->Prop),Inv X δ σ H s->wK nZ σ H Q->
  wpAny (model X.prog X.w) X.A (evalPairs (pairTrees keys values X.env pos)) (fun vs s'=>∃ps H',Inv X δ σ H' s'/\VV ps vs/\Q ps H') X.xe s
def Rz{pos:Pos}:PPs X pos [] [] []:=fun δ s σ H Q I h=>pairTrees_nil_walk ⟨[],H,I,.nil,h⟩
def Li{pos:Pos}{ks:List (Option Expr)}{tk tv:TE}(hk:PE X k tk)(hv:PE X v tv)(hr:PPs X pos ks vs nZ):
  PPs X pos (some k::ks) (v::vs) ((tk,tv)::nZ):=fun δ s σ H Q I h=>
 pairTrees_cons_walk (b8 (hk δ s σ H _ I h) fun u s1⟨x,H1,I1,rx,q1⟩=>b8 (hv δ s1 σ H1 _ I1 q1) fun w2 s2⟨y,H2,I2,ry,q2⟩=>
  b8 (hr δ s2 σ H2 _ I2 q2) fun ws s3⟨ps,H3,I3,rel,q3⟩=>⟨(x,y)::ps,H3,I3,.cons ⟨rx,ry⟩ rel,q3⟩)
structure M2(X:Cx)(o:Expr)(m:Str)(apos:Pos)(e f:Expr)(cpos:Pos):Prop where
 base:attributeBase o m X.env (eval o X.env)=eval o X.env
 few:((backTo cpos (starEach [e,f] X.env)).all (fun x=> !x.1)&&(backToKw cpos (keywordEach [] X.env)).all (fun x=>x.1.isSome)
  &&decide (([e,f]:List Expr).length+([]:List Keyword).length+(if ([]:List Keyword).isEmpty then 0 else 1)<30))=true
 line:(apos.endLine==cpos.line)=true
 trees:backTo cpos (starEach [e,f] X.env)=[(false,eval e X.env),(false,eval f X.env)]
def IsD(H:Hp)(a:Addr):Prop:=(∃kvs,Rd H a (.dK kvs))\/∃kvs,Rd H a (.dT kvs)
def Yy{X:Cx}{σ:St}{H:Hp}{a:Addr}(I:Inv X δ σ H s)(d:IsD H a):
  s.TypeIs (.ref a) "dict"/\(∀b,Value.ref a=.ref b->∃ob,s.heap.get? b=some ob/\ob.dict=none)/\(a==sysModules)=false:=by
 rcases d with ⟨kvs,e⟩|⟨kvs,e⟩
 ·obtain⟨_,hd,vs,_,dd⟩:=pJ I.hok e
  refine⟨dd.typeIs,fun b q=>?_,hd⟩
  cases q
  obtain⟨ob,_,_,h1,h2,_⟩:=dd
  exact⟨ob,h1,h2.2.1⟩
 ·obtain⟨_,hd,xs,_,dd⟩:=tO I.hok e
  refine⟨dd.typeIs,fun b q=>?_,hd⟩
  cases q
  obtain⟨ob,_,_,h1,h2,_⟩:=dd
  exact⟨ob,h1,h2.2.1⟩
section
variable{X:Cx}{δ:QQz}{σ:St}{H:Hp}{s:Shared}{a:Addr}{y d:V}{u r:Value}{o:Option V}{A:Around}{E:QZq}
def Zu(hu:A.units+1<cLine)(I:Inv X δ σ H s)(g:Az H a y o)(ry:RelV y u)(rd:RelV d r)(h:∀w' s',Inv X δ σ H s'->RelV (o.getD d) w'->Q w' s'):
  wpAny (model X.prog X.w) A (call (.builtin "dict.get") [.ref a,u,r]) Q E s:=by
 rcases g with ⟨kvs,k,e,ey,l⟩|⟨kvs,k,b,e,ey,eb,l⟩
 ·subst ey
  obtain⟨z,hd,vs,rel,dd⟩:=pJ I.hok e
  refine call_meetsIn PySem.F.slot_dict_get dd.typeIs PySem.F.entry_dict_get (PySem.F.args_dict_get_3 _ _ _) (meets_dict_get_default _ a (sJ ry) hd r) ⟨_,dd.mapOf,h _ _ (I.tok _) ?_⟩
  rw[l]
  exact(rel.val k).getD rd
 ·subst ey
  cases (ry)
  obtain⟨z,hd,xs,rel,dd⟩:=tO I.hok e
  refine call_meetsIn PySem.F.slot_dict_get dd.typeIs PySem.F.entry_dict_get (PySem.F.args_dict_get_3 _ _ _) (meetsH_dict_get_default _ a b hd r) ⟨tupleKind_room_in1 hu,k,xs,oX I.hok eb,dd,h _ _ (I.tok _) ?_⟩
  rw[l]
  exact(rel.val k).getD rd
end
def WP(td ty tx:TE):TE:=fun σ H Q=>td σ H fun x H1=>∃a,x=.ref a/\IsD H1 a/\ty σ H1 fun y H2=>tx σ H2 fun z H3=>∃o,Az H3 a y o/\Q (o.getD z) H3
section
variable{X:Cx}{o e f:Expr}{apos cpos:Pos}{td ty tx:TE}
def Ly(hu:X.A.units+1<cLine)(ho:PE X o td)(he:PE X e ty)(hf:PE X f tx)(m:M2 X o "get" apos e f cpos):PE X (.Call (.Attribute o "get" apos) [e,f] [] cpos) (WP td ty tx):=by
 intro δ s σ H Q I h
 refine wpAny_Call_method m.base m.few m.line PySem.F.plainAttrs_dict PySem.F.slot_dict_get PySem.F.type_dict_get (b8 (ho δ s σ H _ I h) fun u s1⟨x,H1,I1,rx,a,ex,d,q1⟩=>?_)
 subst ex
 obtain rfl:u=Value.ref a:=rx
 obtain⟨t1,t2,_⟩:=Yy I1 d
 refine⟨t1,t2,?_⟩
 rw[m.trees]
 refine Calls.callWith_builtin rfl (Calls.evalArgs_plain (Calls.spliced_cons (b8 (he δ s1 σ H1 _ I1 q1) fun iv s2⟨y,H2,I2,ry,q2⟩=>
  Calls.spliced_cons (b8 (hf δ s2 σ H2 _ I2 q2) fun fv s3⟨z,H3,I3,rz,ov,g,q3⟩=>Calls.spliced_nil ?_))))
 exact Zu hu I3 g ry rz fun w' s4 I4 rw'=>⟨_,H3,I4,rw',q3⟩
end
section
variable{X:Cx}{δ:QQz}{σ:St}{H:Hp}{s:Shared}{a:Addr}{kvs:List (Key×V)}{A:Around}{E:QZq}
end
section
variable{X:Cx}{δ:QQz}{σ:St}{H:Hp}{s:Shared}{a:Addr}{y:V}{u:Value}{A:Around}{E:QZq}
end
end L2
namespace Att
open PySem PySem.W PySem.Calls PyProof.Rows
def qg{h:Heap}:∀(ns:List Int)(vs:List Value),WellAll P h vs (ns.map WData.int)->IntsAre vs ns:=by
 intro ns
 induction ns with
 |nil=>
  intro vs w
  cases w
  exact .nil
 |cons n ns ih=>
  intro vs w
  cases w with
  |cons a b=>
   cases a
   exact .cons _ _ (ih _ b)
theorem Hz{l:OpenLaw}(hn:l.most=some n){h:Heap}
  (hpre:l.row.toRowW.claim.pre args=true)(hwl:WellAll P h vals args):
  ∃a vs ns,vals=[Value.ref a]/\args=[WData.list (ns.map WData.int)]/\h.get? a=some {cls:=.type "list",data:=.seq vs.toArray}/\IntsAre vs ns/\ns.length<=n:=by
 obtain⟨d,r,rfl,h1,h2⟩:=hasAllW_cons ((pre_splitW hpre).1)
 obtain rfl:=hasAllW_nil h2
 obtain⟨xs,rfl,h3⟩:=hasW_list h1
 obtain⟨ns,rfl⟩:=items_int h3
 have hlen:ns.length<=n:=by
  have h4:(WTm.not (.lt (.lit (.int n)) (.len (.arg 0)))).holds [] {args:=[.list (ns.map .int)]}=true:=by
   have h4:=(holds_andW ((pre_splitW hpre).2)).1
   rw[hn]at h4
   exact h4
  have h5:=condW_of h4 (w_not (w_lt w_lit (w_len_list (w_arg rfl))))
  refine Nat.le_of_not_lt fun q=>?_
  first
   |(rw[QFq q']at h5;exact absurd h5 (by decide))
   |(simp at h5;omega)
 cases hwl with
 |cons w1 w2=>
  cases w2
  cases w1 with
  |list ho hall=>exact⟨_,_,ns,rfl,rfl,ho,qg ns _ hall,hlen⟩
def H8(l:OpenLaw)args:l.row.toRowW.claim.post args (.bool true) args=true:=
 postW_of
  (show WShape.has [] _ .bool=true by first|rfl|decide|simp[WShape.has,WShape.arms,WShape.armsAll])
  (w_eq_bool (w_res rfl) w_lit) rfl
def Ao{l:OpenLaw}{n:Nat}{loose:List Str}{YP:World->Heap->Prop}
  (hn:l.most=some n)(hdf:d.params.defaults=[])
  (call:∀(w:World)(s₀ ι:Shared)(mg mb:QZz)(fa:Addr)(o:Obj)(pm cd doc:Value)(a:Addr)(vs:List Value)(ns:List Int),
   Ground q loose [] XP w s₀ mg mb ι.heap->YP w ι.heap->
   ι.heap.get? fa=some o->o.data=.func (docDef d.name d.params d.body d.scope pm cd doc)->ι.heap.CodeRec cd d.name->mg d.name=some (.ref fa)->
   ι.heap.get? a=some {cls:=.type "list",data:=.seq vs.toArray}->IntsAre vs ns->ns.length<=n->ι.gens= #[]->
   codeAny (model l.prog w) callerA (.call (.ref fa) ⟨[.ref a],[]⟩) (fun r s'=>r=.ok (.ret (.bool true))/\OldK ι.heap s'.heap/\s'.os=ι.os/\AllBare s'.gens) ι):
  WalkO q loose XP YP l.row.toRowW d [] (fun f vs=>PySem.call f vs):=by
 intro w s₀ ι mg mb G Y fa o pm cd doc dV kV ho hd hcd hD hmg hg args vals as hpre hlay hrd hwl hlo
 obtain rfl:dV=.none:=Dflts.none hD hdf
 obtain rfl:kV=.none:=Dflts.noKw hD
 obtain⟨a,vs,ns,rfl,rfl,hobj,hints,hlen⟩:=Hz hn hpre hwl
 refine enter_call (codeAny_mono (call w s₀ ι mg mb fa o pm cd doc a vs ns G Y ho (fd_plain hd) hcd hmg hobj hints hlen hg) fun r s' hq=>?_)
 obtain⟨rfl,h2,h3,h4⟩:=hq
 exact⟨.inl ⟨.bool true,.bool true,[],rfl,fun _=>rfl,.bool true,H8 l _,fun _=>⟨List.Pairwise.nil,fun _ hm=>(nomatch hm)⟩⟩,h2,h3,h4⟩
section
variable{prog:Program}{w:World}{A:Around}{E:QZq}{s:Shared}{K:Frag}
end
end Att
namespace L2
open PySem PySem.Spec PyProof.Rows
theorem uM:∀{vs:List Value}{ns:List Int},IntsAre vs ns->Vals (ns.map V.int) vs
 |_,_,.nil=>.nil
 |_,_,.cons n t h=>.cons ⟨t,rfl⟩ (uM h)
def Only(H:Hp):Prop:=∀b,H b=none\/∃o xs,H b=some (.frz o (.lst xs))
theorem MP{w:World}{K:QQq}{CX:JH}{fa a:Addr}{x:Str}{ι:Shared}
  (KX:K.In ι.heap)(hns:ι.heap.Ns mainGlobals mg)(hb:ι.heap.Ns builtinsNs mb)(hbb:∀x:Str,x≠"__name__"->mb x=bootBuiltins x)(hlim:ι.heap.NoLimit)(hg:ι.gens= #[])
  (ha:ι.heap.get? a=some {cls:=.type "list",data:=.seq vs.toArray})(hi:IntsAre vs ns)(hl:ns.length<=sizeLine)(hr:iG k callerA)
  (F:∀base:Heap,K.In base->base.Ns mainGlobals mg->fK P w K mg base CX k fa fd [x] sp)(hbind:∀(s:Shared)(u:Value),BindsTo s fd ⟨[u],[]⟩ [(x,u)])
  (hsp:∀H:Hp,Only H->km K H a (ns.map V.int)->sp [.ref a] H (fun v _=>v=.bl true) fun _ _ _=>False)
  (hCX:∀H e s',CX [] H ι (fun _ _ _=>False) e s'->False):
  codeAny (model P w) callerA (.call (.ref fa) ⟨[.ref a],[]⟩) (fun r s'=>r=.ok (.ret (.bool true))/\OldK ι.heap s'.heap/\s'.os=ι.os/\AllBare s'.gens) ι:=by
 have rv:=uM hi
 have core:∀H:Hp,Only H->km K H a (ns.map V.int)->kE P w H ι.heap->(∀b,H b≠none->b=a)->(H a≠none->K.lookup a=none)->
   codeAny (model P w) callerA (.call (.ref fa) ⟨[.ref a],[]⟩) (fun r s'=>r=.ok (.ret (.bool true))/\OldK ι.heap s'.heap/\s'.os=ι.os/\AllBare s'.gens) ι:=by
  intro H hO hS hok hA hK
  have nQ:∀{b:Addr}{o:Obj},ι.heap.get? b=some o->H b=none->(Jh ι.heap H).get? b=some o:=fun e n=>Nu e n
  have noA:∀{b:Addr}{o:Obj}{es:Array DictEntry}{ep:Nat},ι.heap.get? b=some o->o.data=.dict es ep->H b=none:=fun{b o es ep}e d=>by
   cases q:H b with
   |none=>rfl
   |some u=>
    have e':=hA b (by rw[q];simp)
    subst e'
    rw[ha]at e;cases e
    cases d
  have nsK:∀{b:Addr}{m:QZz},ι.heap.Ns b m->(Jh ι.heap H).Ns b m:=fun{b m}⟨o,es,ep,e,d,r⟩=>⟨o,es,ep,nQ e (noA e d),d,r⟩
  have hKb:=fun b o e=>nQ (KX b o e) (by
   cases q:H b with
   |none=>rfl
   |some u=>
    have e':=hA b (by rw[q];simp)
    subst e'
    rw[hK (by rw[q];simp)]at e;cases e)
  have hM:Mod K mg _:=⟨hKb,nsK hns,⟨mb,nsK hb,hbb⟩,let ⟨mc,h1,h2⟩:=hlim;⟨mc,nsK h1,h2⟩⟩
  refine codeAny_mono ((F _ hKb (nsK hns)).run callerA [] ι H ⟨[.ref a],[]⟩ [.ref a] [.ref a] _ _ hr ⟨rfl,hM,fun b o e=>R6 e,Nat.le_of_eq (Jg _ _),trivial,fun b hb=>absurd (show b∈([])from hb) (by simp),hok,.of_eq hg⟩ (hbind ι _) (.cons rfl .nil) (hsp H hO hS)) fun r s' h=>?_
  cases r with
  |error e=>exact(hCX H e s' h).elim
  |ok fl=>
   cases fl with
   |next=>exact False.elim h
   |brk=>exact False.elim h
   |cont=>exact False.elim h
   |ret u=>
    obtain⟨v,H',os,bare,un,hok',r',q⟩:=h
    subst q
    obtain rfl:u=Value.bool true:=r'
    refine⟨rfl,OldK.of_keep fun b o e=>?_,os,bare⟩
    cases q:H b with
    |none=>exact un.keep b o e q (by intro z;exact absurd (show b∈([])from z) (by simp)) (by simp)
    |some u=>
     rcases hO b with z|⟨ob,xs,z⟩
     ·rw[q]at z;cases z
     ·obtain⟨e1,_⟩:=hok b _ z
      obtain⟨e2,_⟩:=hok' b _ (un.frzs b ob _ z)
      rw[e]at e1;cases e1
      exact e2
 cases hk:K.lookup a with
 |some o=>
  have e:=KX a o hk
  rw[ha]at e
  cases e
  refine core _ (fun _=>.inl rfl) (.inr ⟨_,vs.toArray,_,hk,rfl,rfl,rfl,by rw[Qyq,hi.length];exact hl,by simpa using rv⟩) (fun b u z=>by have z':=z;cases z') (fun b z=>absurd rfl z) fun z=>absurd rfl z
 |none=>
  refine core (fun b=>if b=a then some _ else none) (fun b=>?_) (.inl (.inr ⟨{cls:=.type "list",data:=.seq vs.toArray},if_pos rfl⟩)) (fun b u z=>?_) (fun b z=>?_) fun _=>hk
  ·by_cases hb:b=a
   ·exact .inr ⟨_,_,if_pos hb⟩
   ·exact .inl (if_neg hb)
  ·by_cases hb:b=a
   ·cases ((if_pos hb).symm.trans z)
    subst hb
    exact⟨ha,by rw[QAq];exact hl,vs,_,rv,ha⟩
   ·cases ((if_neg hb).symm.trans z)
  ·by_cases hb:b=a
   ·exact hb
   ·exact absurd (if_neg hb) z
def Qy{l:PySem.W.OpenLaw}{n k:Nat}{loose:List Str}{YP:World->Heap->Prop}{K:Params->QQq}{CX:World->JH}{sp:World->Sp}
  (hn:l.most=some n)(hn2:n<=sizeLine)(hdf:d.params.defaults=[])(hr:iG k callerA)
  (hY:∀(w:World)(h:Heap),YP w h->(K w.params).In h)
  (F:∀(w:World)(mg:QZz)(fa:Addr)(h:Heap),(K w.params).In h->h.Ns mainGlobals mg->mg d.name=some (.ref fa)->
   ∃fd:FuncData,(∀(s:Shared)(u:Value),BindsTo s fd ⟨[u],[]⟩ [(x,u)])/\
    ∀base:Heap,(K w.params).In base->base.Ns mainGlobals mg->fK l.prog w (K w.params) mg base (CX w) k fa fd [x] (sp w))
  (hsp:∀(w:World)(H:Hp)(a:Addr)(ns:List Int),ns.length<=n->Only H->km (K w.params) H a (ns.map V.int)->sp w [.ref a] H (fun v _=>v=.bl true) fun _ _ _=>False)
  (hCX:∀(w:World)(H:Hp)(s:Shared)(e:Value)(s':Shared),CX w [] H s (fun _ _ _=>False) e s'->False):
  PySem.W.WalkO q loose XP YP l.row.toRowW d [] (fun f vs=>PySem.call f vs):=by
 refine Att.Ao hn hdf fun w s₀ ι mg mb fa o pm cd doc a vs ns G Y ho hd hcd hmg hobj hints hlen hg=>?_
 have KX:=hY w _ Y
 obtain⟨fd,hb,hF⟩:=F w mg fa _ KX G.T.g hmg
 exact MP KX G.T.g G.T.b G.T.builtins G.T.nolimit hg hobj hints (Nat.le_trans hlen hn2) hr hF hb (fun H hO hS=>hsp w H a ns hlen hO hS) fun H e s'=>hCX w H ι e s'
abbrev Bg:JH:=fun _ _ _ _ _ _=>False
abbrev E0:XK:=fun _ _ _=>False
def ab8:mH Bg X E0:=fun _ _ _ _ _ _ _ h=>h.elim
structure Uj(K:QQq)(x qual:Str)(st:Stmt)(f:Addr)(fd:FuncData):Prop where
 ex:∃(oc:Value)(od:Option Addr)(kV doc pm:Value)(an:Option Addr)(cdv ct:Value)(osl:Array (Option Value)),
  fd=PySem.W.fnOf x qual (eQ st) (cN st) (aF st) .none kV doc pm an cdv ct/\K.lookup f=some ⟨oc,od,.func fd,osl⟩/\PySem.W.codeIn K cdv qual=true
 kp:PySem.W.keepIn K (.ref f)=true
section
variable{P:Program}{w:World}{K:QQq}{mg:QZz}{base:Heap}
def Uj.ok{st:Stmt}{fd:FuncData}{k:Nat}(F:Uj K x qual st f fd)(S:fP N ps (aF st))(len:∀vs H Q E,sp vs H Q E->vs.length=ps.length)
  (hbody:∀(cdv:Value)(A:Around)(outer:List Env)(s:Shared)(H:Hp)(vs:List V)(Q:VK)(E:XK),iG k (A.deeper (envOfC qual (aF st) s.heap.objs.size f cdv))->sp vs H Q E->
   ∃t,wG (eU Bg P w K mg base N qual (aF st) f cdv A outer s H E).Vm (cN st) t/\t {nx:=fun _ H'=>Q .non H',rt:=Q} (start N vs) H):fK P w K mg base Bg (k+1) f fd ps sp:=by
 obtain⟨oc,od,kV,doc,pm,an,cdv,ct,osl,rfl,lk,hcd⟩:=F.ex
 refine VP lk hcd S len fun A outer s H vs Q E hr hsp=>?_
 obtain⟨t,h,q⟩:=hbody cdv A outer s H vs Q E hr hsp
 exact⟨t,h.Vm,q⟩
def Uj.binds{st:Stmt}{f:Addr}{ps:List Str}(F:Uj K x qual st f fd)
  (h:∀(kV doc pm:Value)(an:Option Addr)(cdv ct:Value)(us:List Value),us.length=ps.length->bindArgs (PySem.W.fnOf x qual (eQ st) (cN st) (aF st) .none kV doc pm an cdv ct) ⟨us,[]⟩=pure (ps.zip us)):Binds K fd ps []:=by
 obtain⟨oc,od,kV,doc,pm,an,cdv,ct,osl,rfl,lk,hcd⟩:=F.ex
 exact .all (h kV doc pm an cdv ct)
def Zi{st:Stmt}{f:Addr}{od an:Option Addr}{kV doc pm cdv ct:Value}(l:K.lookup f=some ⟨oc,od,.func (PySem.W.fnOf x qual (eQ st) (cN st) (aF st) .none kV doc pm an cdv ct),osl⟩)
  (c:PySem.W.codeIn K cdv qual=true)(k:PySem.W.keepIn K (.ref f)=true):Uj K x qual st f (PySem.W.fnOf x qual (eQ st) (cN st) (aF st) .none kV doc pm an cdv ct):=⟨⟨oc,od,kV,doc,pm,an,cdv,ct,osl,rfl,l,c⟩,k⟩
end
def Hy(h:n<=1000):n<sizeLine:=Nat.lt_of_le_of_lt h (by decide)
section
variable{X:Cx}
end
end L2
end
section
namespace Mini
open PySem L2 PySem.SeqAt
def qe:Bool->Value->Bool
 |b,.bool c=>c==b
 |_,_=>false
def lC{v:Value}(h:qe b v=true):v=.bool b:=by
 cases v<;>simp_all[qe]
section
def Ji{Q:Int->Shared->Prop}(h:Q (bh b) {s with toks:=s.toks+1}):wpAny (model prog w) A (pyHash (.bool b)) Q E s:=by
 refine PySem.W.pyHash_slot rfl F.slot_bool_hash entry_int_hash (args_int_hash _) (beq_builtin_none _) (.inl rfl) ?_
 cases b
 ·exact(show wpAny _ _ (mkInt 0>>=fun x=>ret x) _ _ s from QKq (wpAny_mkInt (QKz ⟨_,_,rfl,h⟩)))
 ·exact(show wpAny _ _ (mkInt 1>>=fun x=>ret x) _ _ s from QKq (wpAny_mkInt (QKz ⟨_,_,rfl,h⟩)))
def Ol{u v:Value}(h:qe a u=true)(g:qe b v=true)(q:Q (decide (a=b)) s):wpAny (model prog w) A (eqBool u v) Q E s:=by
 rw[lC h,lC g]
 refine EqAt.bool_bool a b _ _ _ _ ?_
 have e:(a==b)=decide (a=b):=by cases a<;>cases b<;>rfl
 exact q
def Nm v a b(h:qe a v=true)(g:qe b v=true):a=b:=by
 have:=lC h
 rw[lC g]at this
 cases this
 rfl
def Nk k x t v(h:qe k (.str x t)=true):qe k v=v.isStr x:=by cases h
def Nj k v(h:qe k v=true):carriedByValue v=true:=by rw[lC h];rfl
def gH(prog:Program)(w:World):KeyKind prog w Bool:=⟨qe,bh,Nm,Nj,fun h q=>by rw[lC h];exact Ji q,fun h g q=>Ol h g q,Nk⟩
def pq(prog:Program)(w:World)(h:Heap)(k:SK)(a:Addr):Prop:=∃b t,h.IsTuple a #[.ref b,.int k.2 t]/\IsTupleKey (gH prog w) h k.1 b
def Bs(prog:Program)(w:World)(k:SK):Int:=reduceHash (Builtin.Tuple.tupleHashOf [tupleKeyHash (gH prog w) k.1,hashInt k.2])
def SX{a:Addr}(hu:A.units+1<cLine)(x:pq prog w s.heap k a)(h:Q (Bs prog w k) {s with toks:=s.toks+(k.1.length+3)}):wpAny (model prog w) A (pyHash (.ref a)) Q E s:=by
 obtain⟨b,t,⟨o,ho,hc,n,hd⟩,kb⟩:=x
 refine PySem.W.pyHash_slot ⟨o,ho,hc⟩ F.slot_tuple_hash F.entry_tuple_hash (F.args_tuple_hash_1 _) (beq_builtin_none _) (.inr (by omega)) ?_
 show wpAny _ A.in1 (Builtin.Tuple.tupleItemsOf _>>=_) _ _ s
 refine QKq (wpAny_tupleItemsOf ho hd (QKq ?_))
 rw[<-Array.forIn_toList,List.forIn_cons]
 refine QKq (QKq (wpAny_pyHash_tuple (hu) kb ?_))
 refine QKz ?_
 show wpAny _ A.in1 (forIn [Value.int k.2 t] _ _) _ E _
 rw[List.forIn_cons]
 refine QKq (QKq (wpAny_pyHash_int (QKz ?_)))
 show wpAny _ A.in1 (forIn ([]) _ _) _ E _
 refine QKz (QKq (wpAny_mkInt (QKz ⟨_,_,rfl,?_⟩)))
 unfold Bs at h
 simpa[Nat.add_assoc]using h
def zQ{W W':World}{vs:List Value}(x:ItemsAre (gH P W) ks vs):ItemsAre (gH P' W') ks vs:=by
 induction x with
 |nil=>exact .nil
 |cons a _ ih=>exact .cons a ih
theorem pq.inj{h:Heap}{a:Addr}{x y:SK}(g:pq prog w h x a)(f:pq prog w h y a):x=y:=by
 obtain⟨b,t,⟨o,ho,hc,n,hd⟩,kb⟩:=g
 obtain⟨b',t',⟨o',ho',hc',n',hd'⟩,kb'⟩:=f
 rw[ho]at ho'
 cases ho'
 rw[hd]at hd'
 simp only[Data.seq.injEq,Array.mk.injEq,List.cons.injEq,Value.ref.injEq,Value.int.injEq,and_true]at hd'
 obtain⟨⟨rfl,e,_⟩,_⟩:=hd'
 exact Prod.ext (kb.inj kb') e
def IsTuple.keep{a d:Addr}{o:Obj}{ep:Nat}(x:h.IsTuple a its)(ho:h.get? d=some o)(hd:o.data=.dict es ep)(hs:Heap.SameBut d h h'):h'.IsTuple a its:=by
 obtain⟨o',ho',hc,n,hd'⟩:=x
 have ne:a≠d:=fun z=>by
  subst z
  rw[ho]at ho'
  cases ho'
  rw[hd]at hd'
  cases hd'
 exact⟨o',(hs.2 a ne).trans ho',hc,n,hd'⟩
theorem pq.keep{k:SK}{o:Obj}{ep:Nat}(x:pq prog w h k a)(ho:h.get? d=some o)(hd:o.data=.dict es ep)(hs:Heap.SameBut d h h'):pq prog w h' k a:=by
 obtain⟨b,t,g,kb⟩:=x
 exact⟨b,t,IsTuple.keep g ho hd hs,kb.keeps ho hd hs⟩
def acV{a b:Addr}(hu:A.units+1<cLine)(g:pq prog w s.heap x a)(f:pq prog w s.heap y b)(q:Q (decide (x=y)) s):wpAny (model prog w) A (eqBool (.ref a) (.ref b)) Q E s:=by
 by_cases c:a=b
 ·subst c
  have:=g.inj f
  subst this
  exact EqAt.same _ _ _ _ _ (by simpa using q)
 ·obtain⟨a1,t,ga,ka⟩:=g
  obtain⟨b1,u,gb,kb⟩:=f
  have e0:EqAt A.in1 s _ _ _:=fun P W E' Q' q'=>by
   have mv:∀{ks:List Bool}{c:Addr},IsTupleKey (gH prog w) s.heap ks c->IsTupleKey (gH P W) s.heap ks c:=fun z=>let ⟨o,its,n,h1,h2,h3,h4⟩:=z;⟨o,its,n,h1,h2,h3,zQ h4⟩
   exact wpAny_eqBool_tuple (hu) (mv ka) (mv kb) q'
  have rc:=RcAt.tuples (A:=A) (e:=fun j=>if j=0 then decide _ else x.2==y.2) ga gb (by omega) fun j h1 h2=>by
   match j,h1,h2 with
   |0,_,_=>exact e0
   |1,_,_=>exact EqAt.int_int _ _ _ _
  refine EqAt.of_refs c rc _ _ _ _ ?_
  have:((List.range (min 2 2)).all (fun j=>if j=0 then decide (x.1=y.1)else x.2==y.2)&&2==2)=decide (x=y):=by
   obtain⟨x1,x2⟩:=x
   obtain⟨y1,y2⟩:=y
   by_cases p:x1=y1<;>by_cases r:x2=y2<;>simp[List.range,List.range.loop,p,r]
  show Q ((List.range (min 2 2)).all _&&2==2) s
  rw[this]
  exact q
def vm{a:Addr}{Q:Bool->Shared->Prop}(x:s.heap.IsTuple a its)(hq:∀v∈its.toList,∀R:Bool->Shared->Prop,R true s->wpAny (model prog w) A (eqIsQuiet d v) R E s)(q:Q true s):
  wpAny (model prog w) A (eqIsQuiet (d+1) (.ref a)) Q E s:=by
 obtain⟨o,ho,hc,n,hd⟩:=x
 have hT:s.TypeIs (.ref a) "tuple":=⟨o,ho,hc⟩
 unfold eqIsQuiet
 refine QKq (wpAny_specialOf hT F.slot_tuple_eq.lookup (QKq (wpAny_isInstance hT isSubtype_tuple_tuple ?_)))
 refine QKq (wpAny_seqItems ho hd (QKq ?_))
 rw[<-Array.forIn_toList]
 refine wpAny_forIn_list _ (fun rest r s'=>s'=s/\r=(none,())/\∀v∈rest,v∈its.toList) _ (fun v rest r s'=>?_) (fun r s'=>?_) _ _ ⟨rfl,rfl,fun v hv=>hv⟩
 ·rintro ⟨rfl,rfl,hm⟩
  exact QKq (hq v (hm v QYz) _ (QKz ⟨rfl,rfl,fun u hu=>hm u (QYq _ hu)⟩))
 ·rintro ⟨rfl,rfl,_⟩
  exact QKz q
def vg d(hv:carriedByValue v=true)(r:R true s):wpAny (model prog w) A (eqIsQuiet d v) R E s:=by
 rw[eqIsQuiet_byValue d hv]
 exact QKz r
def La{a:Addr}(x:pq prog w s.heap k a)(q:Q true s):wpAny (model prog w) A (eqIsQuiet 8 (.ref a)) Q E s:=by
 obtain⟨b,t,g,o,its,n,h1,h2,h3,h4⟩:=x
 refine vm g (fun v hv R r=>?_) q
 simp only[QCq,QAz,or_false]at hv
 rcases hv with rfl|rfl
 ·exact vm ⟨o,h1,h2,n,h3⟩ (fun v hv R r=>vg _ (h4.byValue v hv) r) r
 ·exact vg _ rfl r
noncomputable def Br(prog:Program)(w:World):HeapKind prog w SK where
 is:=pq prog w
 hash:=Bs prog w
 draws:=fun k=>k.1.length+3
 room:=fun A=>A.units+1<cLine
 inj:=fun g f=>g.inj f
 keeps:=fun x ho hd hs=>x.keep ho hd hs
 pyHash:=fun hu x q=>SX hu x q
 eqBool:=fun hu g f q=>acV hu g f q
 quiet:=fun x q=>La x q
end
end Mini
end
section
namespace Mini
open PySem L2
abbrev sD(xs:List SV):HO:=.dS xs
def cA(K:QQq)(H:Hp)(k:SK)(a:Addr):Prop:=∃b,iV K H a [.ref b,.int k.2]/\iV K H b (k.1.map .bl)
def zG(k:SK):List SV->Option V
 |[]=>none
 |x::xs=>if x.1=k then some x.2.2 else zG k xs
def uF(k:SK)(a:Addr)(v:V)(xs:List SV):List SV:=if (zG k xs).isSome then xs.map (fun x=>if x.1=k then(x.1,x.2.1,v)else x)else xs++[(k,a,v)]
theorem qy:∀{xs:List SV}{ys:List (SK×Addr×Value)},Paired Qw xs ys->ys.map (·.1)=xs.map (·.1)
 |_,_,.nil=>rfl
 |_,_,.cons h t=>by simp[qy t,h.1]
theorem rY:∀{xs:List SV}{ys:List (SK×Addr×Value)},Paired Qw xs ys->nY (zG k xs) ((atKey ys k).map (·.2))
 |_,_,.nil=>trivial
 |x::xs,y::ys,.cons h t=>by
  simp only[zG,atKey,List.find?_cons]
  rw[h.1]
  by_cases c:y.1=k
  ·simp only[c,if_true,decide_true,Option.map_some]
   exact h.2.2
  ·simp only[c,if_false,decide_false]
   exact rY (k:=k) t
section
theorem zR{W:World}:∀{bs:List Bool}{us:List Value},Vals (bs.map V.bl) us->ItemsAre (gH P W) bs us
 |[],_,r=>by cases r;exact .nil
 |b::bs,_,r=>by
  cases r with
  |cons h t=>
   cases h
   exact .cons (by show qe b (.bool b)=true;simp[qe]) (zR t)
def oW(I:L2.Inv X δ σ H s)(h:cA X.K H k a):pq X.prog X.w s.heap k a:=by
 obtain⟨b,h1,h2⟩:=h
 obtain⟨its,r,p,_⟩:=I.tuple h1
 obtain⟨its2,r2,p2,_⟩:=I.tuple h2
 obtain⟨u,v,rfl,ru,rv⟩:=Vals.two r
 cases ru
 obtain⟨t,rfl⟩:=rv
 obtain⟨o,q1,q2,n,q3⟩:=p2
 exact⟨b,t,p,o,its2.toArray,n,q1,q2,q3,zR r2⟩
def nG(I:L2.Inv X δ σ H s)(hd:Rd H d (sD xs))(hk:∀x∈xs,cA X.K H x.1 x.2.1):∃ys,Paired Qw xs ys/\s.heap.DictOfH (Br X.prog X.w) d ys/\(d==sysModules)=false/\xs.length<=sizeLine:=by
 obtain⟨z,y,nd,ys,o,es,ep,pr,h1,h2,h3,h4⟩:=(Fb I.hok hd)
 refine⟨ys,pr,⟨o,es,ep,h1,h2,h3,h4,?_,by rw[qy pr];exact nd⟩,y,z⟩
 have go:∀{xs:List SV}{ys:List _},Paired Qw xs ys->(∀x∈xs,cA X.K H x.1 x.2.1)->∀y∈ys,pq X.prog X.w s.heap y.1 y.2.1:=by
  intro xs ys pr
  induction pr with
  |nil=>intro _ y hy;cases hy
  | @cons x y xs ys h t ih=>
   intro hk q hq
   rcases QCq.mp hq with rfl|hq
   ·rw[<-h.1,<-h.2.1];exact oW I (hk x QYz)
   ·exact ih (fun z hz=>hk z (QYq _ hz)) q hq
 exact go pr hk
def ae3(hu:A.units+2<cLine)(I:L2.Inv X δ σ H s)(hd:Rd H d (sD xs))(hk:∀x∈xs,cA X.K H x.1 x.2.1)(ha:cA X.K H k a)(h:∀s',L2.Inv X δ σ H s'->Q (.bool (zG k xs).isSome) s'):
  wpAny (model X.prog X.w) A (compareOp .In (.ref a) (.ref d)) Q E s:=by
 obtain⟨ys,pr,dd,y,z⟩:=nG I hd hk
 refine wpAny_in_heap (hu) (oW I ha) y dd ?_
 have e:(atKey ys k).isSome=(zG k xs).isSome:=by rw[(rY pr).dR];simp
 rw[e]
 exact h _ (I.tok _)
def Q6(hu:A.units+2<cLine)(I:L2.Inv X δ σ H s)(hd:Rd H d (sD xs))(hk:∀x∈xs,cA X.K H x.1 x.2.1)(ha:cA X.K H k a)(h:∀s',L2.Inv X δ σ H s'->Q (.bool (!(zG k xs).isSome)) s'):
  wpAny (model X.prog X.w) A (compareOp .NotIn (.ref a) (.ref d)) Q E s:=by
 obtain⟨ys,pr,dd,y,z⟩:=nG I hd hk
 refine PyProof.Rows.wpAny_notIn_heap (hu) (oW I ha) y dd ?_
 have e:(atKey ys k).isSome=(zG k xs).isSome:=by rw[(rY pr).dR];simp
 rw[e]
 exact h _ (I.tok _)
def HD{Q:QZq}(hu:A.units+2<cLine)(I:L2.Inv X δ σ H s)(hd:Rd H d (sD xs))(hk:∀x∈xs,cA X.K H x.1 x.2.1)(ha:cA X.K H k a)(hv:zG k xs=some v)(h:∀u s',L2.Inv X δ σ H s'->RelV v u->Q u s'):
  wpAny (model X.prog X.w) A (getItem (.ref d) (.ref a)) Q E s:=by
 obtain⟨ys,pr,dd,y,z⟩:=nG I hd hk
 obtain⟨u,hw,ru⟩:=nY.some_of (by rw[<-hv];exact rY pr)
 obtain⟨p,hp,rfl⟩:=QJz.mp hw
 exact wpAny_getItem_heap (hu) (oW I ha) dd hp (h _ _ (I.tok _) ru)
def zp{r:Value}(rv:RelV v r)(pr:Paired Qw xs ys):Paired Qw (uF k a v xs) (storedH ys k a r):=by
 have e:(atKey ys k).isSome=(zG k xs).isSome:=by rw[(rY pr).dR];simp
 unfold uF storedH
 rw[e]
 split
 ·rename_i z
  clear e z
  induction pr with
  |nil=>exact .nil
  | @cons x y xs ys h t ih=>
   refine .cons ?_ ih
   show Qw (if x.1=k then(x.1,x.2.1,v)else x) _
   unfold putAt
   by_cases c:y.1=k
   ·rw[if_pos c,if_pos (h.1.trans c)];exact⟨h.1,h.2.1,rv⟩
   ·rw[if_neg c,if_neg fun q=>c (h.1.symm.trans q)];exact h
 ·exact Paired.snoc pr ⟨rfl,rfl,rv⟩
def Rt v:(uF k a v xs).length<=xs.length+1:=by
 unfold uF
 split<;>simp
def U5{w:World}{h':Heap}(z:xs.length<=sizeLine)(y:(d==sysModules)=false)(pr:Paired Qw xs ys)(dd:h'.DictOfH (Br P w) d ys):cg P w H' h' d (sD xs):=by
 obtain⟨o,es,ep,h1,h2,h3,h4,h5,h6⟩:=dd
 exact⟨z,y,by rw[<-qy pr];exact h6,ys,o,es,ep,pr,h1,h2,h3,h4⟩
def HB{r:Value}(hu:A.units+2<cLine)(I:L2.Inv X δ σ H s)(hd:H d=some (sD xs))(hk:∀x∈xs,cA X.K H x.1 x.2.1)(ha:cA X.K H k a)(hl:xs.length<sizeLine)(rv:RelV v r)
  (h:∀s',L2.Inv X δ σ (upd H d (sD (uF k a v xs))) s'->Q () s'):wpAny (model X.prog X.w) A (setItem (.ref d) (.ref a) r) Q E s:=by
 obtain⟨ys,pr,dd,y,z⟩:=nG I (.inl hd) hk
 have hz:ys.length<=sizeLine:=by
  have:=congrArg List.length (qy pr)
  simp at this
  omega
 refine wpAny_setItem_heap (hu) (oW I ha) dd fun h' dd' hs=>h _ ?_
 have pl:=Rt (k:=k) (a:=a) (xs:=xs) v
 exact nJ I (by rw[hd];exact True.intro) hs (let ⟨q,_,_,hq,_⟩:=dd';⟨q,hq⟩) (U5 (by omega) y (zp rv pr) dd')
end
def Hs{x y:Value}{W:World}{E:QZq}{Q:PUnit->Shared->Prop}(h:wpAny (model P W) A (dictSet d x y) (fun _ s'=>Q PUnit.unit s') E s):wpAny (model P W) A (storeAll d [(x,y)]) Q E s:=by
 unfold storeAll
 rw[List.forIn_cons]
 refine QKq (QKq (b8 h fun _ s' q=>QKz ?_))
 show wpAny _ _ (forIn ([]) PUnit.unit _) _ _ _
 exact QKz q
def abn(K:QQq)(nZ:List (TE×TE)):TE:=fun σ H Q=>∀p,H p=none->wK nZ σ (upd H p (.dK [])) fun ps H2=>H2 p=some (.dK [])/\∃k a v,ps=[(.ref a,v)]/\cA K H2 k a/\Q (.ref p) (upd H2 p (sD [(k,a,v)]))
def bare{w:World}{h:Heap}(d:h.DictOf (cM P w) a []):h.DictOfH (Br P w) a []:=by
 obtain⟨o,es,ep,h1,h2,h3,h4,h5,h6⟩:=d
 have e:es.toList=[]:=by
  cases q:es.toList with
  |nil=>rfl
  |cons x y=>rw[q]at h5;cases h5
 exact⟨o,es,ep,h1,h2,h3,by simp[e],fun x hx=>(nomatch hx),List.nodup_nil⟩
theorem RL{pos:Pos}{values:List Expr}(hu:X.A.units+2<cLine)(h:PPs X pos keys values nZ)(hall:keys.all (·.isSome)=true)(hl:keys.length=values.length)(h0:keys≠[])
  (h15:keys.length<=15):PE X (.Dict keys values pos) (abn X.K nZ):=by
 intro δ s σ H Q I q
 refine wpAny_Dict_any hall hl h0 h15 (b8 (h δ _ σ _ _ (I.laid (t':=s.toks) (fun _ _ q=>QWq _ q) (QVz _) (tQ s.heap I.big)) (q _ (I.hok.fresh (QVz s.heap.objs.size)))) fun ws s2⟨ps,H2,I2,rel,e,z⟩=>?_)
 obtain⟨_,hd,vs0,r0,dd⟩:=Ot I2.hok e
 cases r0
 obtain⟨k,a,v,ep,ka,q2⟩:=z
 ·subst ep
  cases rel with
  | @cons _ b _ bs rv t=>
   cases t
   obtain⟨b1,b2⟩:=b
   obtain⟨r1,r2⟩:=rv
   cases r1
   refine Hs (wpAny_dictSet_heap (show X.A.units+1<cLine by omega) (oW I2 ka) (bare dd) fun h' dd' hs=>?_)
   refine⟨.ref s.heap.objs.size,_,nJ I2 (by rw[e];exact True.intro) hs (let ⟨q,_,_,hq,_⟩:=dd';⟨q,hq⟩) (U5 (by rw[sizeLine_eq];show 1<=_;decide) hd (zp r2 .nil) dd'),rfl,q2⟩
def qp(h:Heap)(d:Addr)(es:Array DictEntry)(ep:Nat):Prop:=∃o,h.get? d=some o/\o.ExactDict/\o.data=.dict es ep
section
def JD(y:(d==sysModules)=false)(B:qp s.heap d es ep)
  (q:Q (.ref s.heap.objs.size) {s with heap:=s.heap.push {cls:=.type "dict_keyiterator",data:=.fields #[.ref d,.int 0 0,.int es.size 0,.int ep 0]}}):wpAny (model prog w) A (pyIter (.ref d)) Q E s:=by
 obtain⟨o,h1,h2,h3⟩:=B
 have t:s.TypeIs (.ref d) "dict":=⟨o,h1,h2.1⟩
 refine wpAny_pyIter_slot t F.slot_dict_iter (Qzz F.slot_dict_iter t F.entry_dict_iter ?_ (F.args_dict_iter_1 _))
 refine QKq (QKq (wpAny_notOrdered_dict t (QKz ?_)))
 show wpAny _ _ (Builtin.Dict.showsAll d>>=_) _ _ s;unfold Builtin.Dict.showsAll;rw[if_neg (by rw[y];decide)]
 refine QKq (QKz (QKq (wpAny_dictEntries h1 h3 (QKq (wpAny_dictEpoch h1 h3 ?_)))))
 refine QKq (Qjq (QKz ⟨_,rfl,"dict_keyiterator",_,⟨_,Qzq _ rfl,rfl⟩,F.slot_dict_keyiterator_next.lookup,q⟩))
def JF{Q:Option Value->Shared->Prop}(st:s.heap.IsKeyIter it d i es.size ep)(B:qp s.heap d es ep)(x:es[i]? =some e)
  (q:∀h',h'.IsKeyIter it d (i+1) es.size ep->Heap.SameBut it s.heap h'->Q (some e.key) {s with heap:=h'}):wpAny (model prog w) A (pyNext (.ref it)) Q E s:=by
 obtain⟨o,g1,g2,g3⟩:=id st
 obtain⟨od,h1,h2,h3⟩:=B
 refine QKq (wpAny_attempt (wpAny_callSpecial?_slot st.typeIs F.slot_dict_keyiterator_next (Qzz F.slot_dict_keyiterator_next st.typeIs F.entry_dict_keyiterator_next ?_ (F.args_dict_keyiterator_next_1 _))))
 refine QKq (QKz (QKq (QKq ?_)))
 first|refine QKq (wpAny_typeNameOfWhole_keyiter st.typeIs (QKz ?_))|refine QKq _
 refine QKq (wpAny_fieldsOf g1 g3 ?_)
 refine QKq (QKz (QKq (wpAny_dictEntries h1 h3 ?_)))
 rw[if_neg (by simp)]
 refine QKq (QKz (QKq (wpAny_dictEpoch h1 h3 ?_)))
 rw[if_neg (by simp)]
 refine QKz ?_
 simp only[show¬(i<0) by omega,if_false,Int.toNat_natCast,x]
 refine QKq ?_
 first|refine QKq (wpAny_typeNameOfWhole_keyiter st.typeIs (QKz ?_))|refine QKq _
 refine QKq (wpAny_isOneOf_keyiter st.typeIs ?_)
 show wpAny _ _ (setField _ 1 (rawInt (i+1))>>=_) _ _ s;refine QKq (wpAny_setField g1 g3 (by simp) ?_)
 have st':(s.heap.update it (Obj.mapFields (·.setIfInBounds 1 (rawInt (i+1))))).IsKeyIter it d (i+1) es.size ep:=⟨_,Heap.get?_update_self _ g1 (Obj.isFreed_of_fields (Obj.data_mapFields g3 _)),(Obj.cls_mapFields ..).trans g2,by rw[Obj.data_mapFields g3];simp[rawInt]⟩
 exact QKq (Qqq (QKq (wpAny_isOneOf_keyiter (s:={s with heap:=s.heap.update it (Obj.mapFields (·.setIfInBounds 1 (rawInt (i+1))))}) st'.typeIs (QKz (QKz ⟨_,rfl,QKz (q _ st' (Heap.SameBut.update ..))⟩)))))
def Pu(hh:A.handled=none)(st:s.heap.IsKeyIter it d i es.size ep)(B:qp s.heap d es ep)(x:es.size<=i)
  (q:∀h',Heap.ExtBut it s.heap h'->Q none {s with heap:=h'}):wpAny (model prog w) A (pyNext (.ref it)) Q E s:=by
 obtain⟨o,g1,g2,g3⟩:=id st
 obtain⟨od,h1,h2,h3⟩:=B
 refine QKq (wpAny_attempt (wpAny_callSpecial?_slot st.typeIs F.slot_dict_keyiterator_next (Qzz F.slot_dict_keyiterator_next st.typeIs F.entry_dict_keyiterator_next ?_ (F.args_dict_keyiterator_next_1 _))))
 refine QKq (QKz (QKq (QKq ?_)))
 first|refine QKq (wpAny_typeNameOfWhole_keyiter st.typeIs (QKz ?_))|refine QKq _
 refine QKq (wpAny_fieldsOf g1 g3 ?_)
 refine QKq (QKz (QKq (wpAny_dictEntries h1 h3 ?_)))
 rw[if_neg (by simp)]
 refine QKq (QKz (QKq (wpAny_dictEpoch h1 h3 ?_)))
 rw[if_neg (by simp)]
 refine QKz ?_
 simp only[show¬(i<0) by omega,if_false,Int.toNat_natCast,Array.getElem?_eq_none x]
 refine QKq ?_
 first|refine QKq (wpAny_typeNameOfWhole_keyiter st.typeIs (QKz ?_))|refine QKq _
 show wpAny _ _ (setField _ 0 .none>>=_) _ _ s;refine QKq (wpAny_setField g1 g3 (by simp) ?_)
 show wpAny _ _ _ _ _ _;refine QKq ?_
 refine QKq (Qjq (QKq (wpAny_of_eq (by first|rfl|(simp only[firstArgMember];rfl)) ?_)) (by size_fits))
 refine Qjq ?_ (by size_fits);simp only[raiseNew]
 refine QKq (wpAny_handled ?_);rw[show A.in1.handled=none from hh]
 refine QKq (QKz (wpAny_throw ?_));refine QKq (wpAny_isInstance ⟨_,Qzq _ rfl,rfl⟩ isSubtype_stop ?_)
 exact QKz (q _ (((Heap.SameBut.update ..).extBut.push _).push _))
end
section
variable{s:Shared}
def qp.stay(B:qp h d es ep)(k:∀o,h.get? d=some o->h'.get? d=some o):qp h' d es ep:=let ⟨o,e,r⟩:=B;⟨o,k _ e,r⟩
def qp.lt(B:qp h d es ep):d<h.objs.size:=let ⟨_,e,_⟩:=B;Qqz e
def qp.type(B:qp s.heap d es ep):s.TypeIs (.ref d) "dict":=let ⟨o,e,c,_⟩:=B;⟨o,e,c.1⟩
theorem Ea(hh:A.handled=none)(ne:d≠it):Walks prog w A it [it,d] [it] es.size (fun i v=>∃e,es[i]? =some e/\v=e.key) (fun i h=>h.IsKeyIter it d i es.size ep/\qp h d es ep) where
 sub:=fun b hb=>QCq.mpr (.inl (QDz.mp hb))
 frame:=fun _ _ _ st k=>⟨st.1.at fun o e=>k it QYz o e,st.2.stay fun o e=>k d (QYq _ QYz) o e⟩
 item:=fun i s Q E hi st q=>JF st.1 st.2 (Array.getElem?_eq_getElem hi) fun h' st' sb=>q _ h' s.toks ⟨es[i],Array.getElem?_eq_getElem hi,rfl⟩ ⟨st',st.2.stay fun o e=>(sb.2 d ne).trans e⟩ fun b o hb e=>(sb.2 b fun z=>hb (QDz.mpr z)).trans e
 done:=fun s Q E st q=>Pu hh st.1 st.2 (QVz _) fun h' eb=>q h' s.toks fun b o hb e=>eb b o (fun z=>hb (QDz.mpr z)) e
 self:=fun _ _ _ _ st q=>wpAny_pyIter_keyiter st.1 q
theorem Pq(y:(d==sysModules)=false):PySem.W.KdlSrc prog w "dict" d d es.size (fun i v=>∃e,es[i]? =some e/\v=e.key) (fun h=>qp h d es ep) where
 type:=fun _ B=>B.type
 there:=fun _ B=>⟨B.lt,B.lt⟩
 keep:=fun _ _ B k=>B.stay fun o e=>k d (.inl rfl) o e
 notList:=by decide
 notTuple:=by decide
 hint:=fun _ _ _ _ B q=>PySem.W.kdl_hint_dict B.type q
 iter:=fun _ _ hh B=>⟨_,_,(fun _ _ q=>JD y B q),Ea hh (Qvz B.lt),⟨⟨_,Qzq _ rfl,rfl,rfl⟩,B.stay fun o e=>QWq _ e⟩⟩
end
section
def Rk{P:Program}{w:World}:∀{xs:List SV}{ys:List (SK×Addr×Value)}{vs:List Value},Paired Qw xs ys->vs=ys.map (fun y=>Value.ref y.2.1)->Vals (xs.map fun x=>V.ref x.2.1) vs:=by
 intro xs ys vs pr e
 subst e
 induction pr with
 |nil=>exact .nil
 |cons h t ih=>exact .cons (by show Value.ref _=Value.ref _;rw[h.2.1]) ih
def DW(hc:X.calm=true):fZ X (.type "list") (fun xs H Q=>(∃p ys,xs=[.ref p]/\(km X.K H p ys\/iV X.K H p ys)/\∀l,H l=none->Q (.ref l) (upd H l (.lst ys)))\/
  ∃a ks,xs=[.ref a]/\Rd H a (sD ks)/\∀l,H l=none->Q (.ref l) (upd H l (.lst (ks.map fun x=>.ref x.2.1)))):=by
 intro δ s σ H xs us Q I r h
 rcases h with h|⟨a,ks,rfl,e,q⟩
 ·exact yh δ s σ H xs us Q I r h
 obtain⟨u,rfl,rx⟩:=vals1 r
 cases rx
 obtain⟨z,y,nd,ys,o,es,ep,pr,h1,h2,h3,h4⟩:=(Fb I.hok e)
 have le:es.size=ys.length:=by rw[<-Array.length_toList,h4,QAq]
 have lk:=Paired.length pr
 refine PySem.W.kdl_call (Pq y) (I.ok.hd hc) ⟨o,h1,h2,h3⟩ (by omega) fun h' tk acc c' kp g it=>?_
 have ev:acc.toList=ys.map fun y=>Value.ref y.2.1:=by
  refine List.ext_getElem? fun i=>?_
  rw[Array.getElem?_toList,QFz]
  by_cases hi:i<acc.size
  ·obtain⟨e,e1,e2⟩:=it.2 i acc[i] (Array.getElem?_eq_getElem hi)
   rw[<-Array.getElem?_toList,h4,QFz]at e1
   obtain⟨p,p1,p2⟩:=QJz.mp e1
   rw[Array.getElem?_eq_getElem hi,p1,e2,<-p2]
   rfl
  ·have:acc.size=ys.length:=by rw[it.1,le]
   rw[Array.getElem?_eq_none (by omega),List.getElem?_eq_none (by omega)]
   rfl
 refine⟨.ref s.heap.objs.size,_,I.laid kp (QVz _) (show cg X.prog X.w _ h' _ (.lst _)from⟨by rw[QAq];omega,acc.toList,c',Rk (P:=X.prog) (w:=X.w) pr ev,by simpa using g⟩),rfl,q _ (I.hok.fresh (QVz _))⟩
end
end Mini
end
section
namespace Mini
open PySem L2 PyProof.Rows
def uy(b:Bool)(h:Heap)(it l:Addr)(k:Nat):Prop:=match b with|true=>h.IsListIter it l k|false=>h.IsTupleIter it l k
def yu(b:Bool)(h:Heap)(l:Addr)(xs:Array Value):Prop:=match b with|true=>h.IsList l xs|false=>h.IsTuple l xs
def uy.at{h h':Heap}{k:Nat}(x:uy b h it l k)(e:∀o,h.get? it=some o->h'.get? it=some o):uy b h' it l k:=by
 cases b<;>exact Exists.elim x fun o⟨h1,h2⟩=>⟨o,e o h1,h2⟩
def yu.at{h h':Heap}{xs:Array Value}(x:yu b h l xs)(e:∀o,h.get? l=some o->h'.get? l=some o):yu b h' l xs:=by
 cases b<;>exact Exists.elim x fun o⟨h1,h2⟩=>⟨o,e o h1,h2⟩
def uy.obj{h:Heap}{k:Nat}(x:uy b h it l k):∃o,h.get? it=some o/\∀v,o.data≠ .cell v:=by
 cases b<;>exact Exists.elim x fun o⟨h1,_,h2⟩=>⟨o,h1,fun v z=>by rw[h2]at z;cases z⟩
def uy.lt{h:Heap}{k:Nat}(x:uy b h it l k):it<h.objs.size:=let ⟨_,e,_⟩:=x.obj;Qqz e
section
def mX{i:Nat}{items}{Q:QZq}(hit:s.heap.IsTupleIter it l i)
  (hl:s.heap.IsTuple l items)(hx:items[i]? =some x)
  (hQ:∀h',h'.IsTupleIter it l (i+1)->Heap.SameBut it s.heap h'->Q x {s with heap:=h'}):
  wpAny (model prog w) A (Builtin.SmallTypes.nextOf (.ref it)) Q E s:=by
 obtain⟨o,ho,hc,hd⟩:=id hit
 obtain⟨ol,hol,_,nl,hdl⟩:=hl
 refine QKq (wpAny_callSpecial?_slot hit.typeIs PySem.F.slot_tuple_iterator_next
  (Qzz PySem.F.slot_tuple_iterator_next hit.typeIs PySem.F.entry_tuple_iterator_next ?_ (PySem.F.args_tuple_iterator_next_1 _)))
 show wpAny _ _ (field _ 0>>=_) _ _ s
 refine QKq (QGz ho hd rfl ?_)
 refine QKq (QGz ho hd rfl ?_)
 refine QKq (wpAny_seqItems hol hdl ?_)
 simp only[Int.toNat_natCast,hx]
 refine QKq (wpAny_setField ho hd (by simp) (QKz ⟨x,rfl,QKz (hQ _ ?_ (Heap.SameBut.update ..))⟩))
 exact⟨_,Heap.get?_update_self _ ho (Obj.isFreed_of_fields (Obj.data_mapFields hd _)),(Obj.cls_mapFields ..).trans hc,by
  rw[Obj.data_mapFields hd];simp[rawInt]⟩
def oN{i:Nat}{items}(hh:A.handled=none)
  (hit:s.heap.IsTupleIter it l i)(hl:s.heap.IsTuple l items)(hx:items[i]? =none)
  (hE:∀h' e,Heap.ExtBut it s.heap h'->(∃o,h'.get? e=some o/\o.cls=.type "StopIteration")->E (.ref e) {s with heap:=h'}):
  wpAny (model prog w) A (Builtin.SmallTypes.nextOf (.ref it)) Q E s:=by
 obtain⟨o,ho,hc,hd⟩:=id hit
 obtain⟨ol,hol,_,nl,hdl⟩:=hl
 refine QKq (wpAny_callSpecial?_slot hit.typeIs PySem.F.slot_tuple_iterator_next
  (Qzz PySem.F.slot_tuple_iterator_next hit.typeIs PySem.F.entry_tuple_iterator_next ?_ (PySem.F.args_tuple_iterator_next_1 _)))
 show wpAny _ _ (field _ 0>>=_) _ _ s
 refine QKq (QGz ho hd rfl ?_)
 refine QKq (QGz ho hd rfl ?_)
 refine QKq (wpAny_seqItems hol hdl ?_)
 simp only[Int.toNat_natCast,hx]
 refine QKq (wpAny_rule (QKq (wpAny_setField ho hd (by simp) ?_)))
 refine QKq ?_
 refine QKq (Qjq ?_ (by size_fits))
 refine QKq (wpAny_of_eq (by first|rfl|(simp only[firstArgMember];rfl)) ?_)
 refine Qjq ?_ (by size_fits)
 refine QKq (wpAny_handled ?_)
 first|rw[show A.in1.handled=none from hh]|rw[hh]
 refine QKq (QKz (wpAny_throw (hE _ _ (((Heap.SameBut.update ..).extBut.push _).push _) ⟨_,Qzq _ rfl,rfl⟩)))
theorem fB{it l:Addr}{items}{Q:QZq}(hit:uy b s.heap it l i)
  (hl:yu b s.heap l items)(hx:items[i]? =some x)(hQ:∀h',uy b h' it l (i+1)->Heap.SameBut it s.heap h'->Q x {s with heap:=h'}):
  wpAny (model prog w) A (Builtin.SmallTypes.nextOf (.ref it)) Q E s:=by
 cases b with
 |true=>exact wpAny_nextOf_list_item hit hl hx hQ
 |false=>exact mX hit hl hx hQ
theorem kZ{it l:Addr}{items}(hh:A.handled=none)
  (hit:uy b s.heap it l i)(hl:yu b s.heap l items)(hx:items[i]? =none)
  (hE:∀h' e,Heap.ExtBut it s.heap h'->(∃o,h'.get? e=some o/\o.cls=.type "StopIteration")->E (.ref e) {s with heap:=h'}):
  wpAny (model prog w) A (Builtin.SmallTypes.nextOf (.ref it)) Q E s:=by
 cases b with
 |true=>exact wpAny_nextOf_list_end hh hit hl hx hE
 |false=>exact oN hh hit hl hx hE
end
def jr(h:Heap)(z TI TO:Addr)(f0 f1:Value):Prop:=
 h.get? z=some {cls:=.type "zip",dict:=none,data:=.fields #[f0,f1,.bool false,.ref TI,.ref TO],slots:= #[]}
def F0(f0:Value):Prop:=f0=.none\/∃T:Nat,f0=rawInt T
section
def mJ{a:Addr}(h:Q (s.heap.get? a) s):wpAny M A (loadIfAlive a) Q E s:=fun Γ p hΓ=>by
 show Sem.wp M Γ _ _ _ p s
 exact(QKz (M:=M) (E:=E) h) Γ p hΓ
theorem yz{z TI TO:Addr}{f0 f1:Value}(hz:jr s.heap z TI TO f0 f1)(h0:F0 f0)(hQ1:Q true s)
  (hQ2:∀h' g1,jr h' z TI TO f0 g1->Heap.SameBut z s.heap h'->Q false {s with heap:=h'}):wpAny (model prog w) A (Builtin.SmallTypes.ownedTupleIsFree (.ref z)) Q E s:=by
 rcases h0 with rfl|⟨T,rfl⟩
 ·exact QKq (QGz hz rfl rfl (QKz hQ1))
 ·refine QKq (QGz hz rfl rfl ?_)
  refine QKq (mJ ?_)
  cases hT:s.heap.get? _ with
  |none=>exact QKz hQ1
  |some o=>
   refine QKq (QGz hz rfl (x:=f1) rfl ?_)
   by_cases hf:(f1 != .bool true)=true
   ·rw[if_pos hf]
    refine QKq (wpAny_setField_rec hz (by simp) fun h' hz' hs'=>QKz (hQ2 h' _ hz' hs'))
   ·rw[if_neg hf]
    exact QKz (hQ2 s.heap f1 hz (Heap.SameBut.refl ..))
structure Qd(z TI TO i1 i2:Addr)(b1 b2:Bool)(l1 l2:Addr)(k1 k2:Nat)(T:Addr)(x y:Value)(h h':Heap):Prop where
 zr:∃f0 f1,jr h' z TI TO f0 f1/\F0 f0
 ti:IsPair h' TI (.ref i1) (.ref i2)
 to:∃a b,IsPair h' TO a b
 it1:uy b1 h' i1 l1 k1
 it2:uy b2 h' i2 l2 k2
 new:IsPair h' T x y
 size:h'.objs.size=T+1
 keep:∀c o,c≠z->c≠TO->c≠i1->c≠i2->h.get? c=some o->h'.get? c=some o
def Hk{z TI TO i1 i2 l1 l2:Addr}{k1 k2:Nat}{xs ys:Array Value}{Q:QZq}(D:ZipApart z TI TO i1 i2 l1 l2)
  (hz:jr s.heap z TI TO f0 f1)(h0:F0 f0)(hTI:IsPair s.heap TI (.ref i1) (.ref i2))(hTO:IsPair s.heap TO a b)
  (h1:uy b1 s.heap i1 l1 k1)(h2:uy b2 s.heap i2 l2 k2)(hl1:yu b1 s.heap l1 xs)(hl2:yu b2 s.heap l2 ys)(hx:xs[k1]? =some x)(hy:ys[k2]? =some y)
  (hQ:∀h',Qd z TI TO i1 i2 b1 b2 l1 l2 (k1+1) (k2+1) s.heap.objs.size x y s.heap h'->Q (.ref s.heap.objs.size) {s with heap:=h'}):
  wpAny (model prog w) A (Builtin.«zip.__next__» ⟨[.ref z],[]⟩) (fun fin s'=>∃v,fin=.done (.ret v)/\Q v s') E s:=by
 show wpAny _ _ (field (.ref z) 2>>=_) _ _ _
 refine QKq (QGz hz rfl rfl ?_)
 refine QKq (QGz hz rfl rfl ?_)
 refine QKq (wpAny_seqItems hTI rfl ?_)
 refine QKq (yz hz h0 ?_ ?_)
 ·--the tuple of its own is used again
  refine QKq (wpAny_rule ?_)
  refine QKq (QGz hz rfl rfl ?_)
  refine QKq (wpAny_setField_rec hz (by simp) fun Θ ω θ=>?_)
  replace ω:jr Θ z TI TO .ellipsis f1:=ω
  refine QKq ?_
  refine QKq (QKq (wpAny_onRaise ?_))
  refine QKq (fB (h1.at fun o e=>θ.extBut _ _ D.i1z e) (hl1.at fun o e=>θ.extBut _ _ D.l1z e) hx fun h₂ h1₂ μ=>QKz ?_)
  have hTO₂:=μ.extBut _ _ D.TOi1 (θ.extBut _ _ D.TOz hTO)
  refine QKq (wpAny_seqItems hTO₂ rfl ?_)
  refine QKq (wpAny_updateSeq_pair hTO₂ fun h₃ hTO₃ χ=>?_)
  replace hTO₃:IsPair h₃ TO x b:=hTO₃
  refine QKq (wpAny_letGo (QKz ?_))
  refine QKq (QKq (wpAny_onRaise ?_))
  refine QKq (fB (h2.at fun o e=>χ.extBut _ _ D.TOi2.symm (μ.extBut _ _ D.i12.symm (θ.extBut _ _ D.i2z e)))
   (hl2.at fun o e=>χ.extBut _ _ D.l2TO (μ.extBut _ _ D.l2i1 (θ.extBut _ _ D.l2z e))) hy fun h₄ h2₄ π=>QKz ?_)
  have hTO₄:=π.extBut _ _ D.TOi2 hTO₃
  refine QKq (wpAny_seqItems hTO₄ rfl ?_)
  refine QKq (wpAny_updateSeq_pair hTO₄ fun h₅ hTO₅ Ψ=>?_)
  replace hTO₅:IsPair h₅ TO x y:=hTO₅
  refine QKq (wpAny_letGo (QKz (QKz ?_)))
  refine QKq (wpAny_seqItems hTO₅ rfl ?_)
  refine QKq (wpAny_newTuple ?_)
  have hsz:h₅.objs.size=s.heap.objs.size:=by rw[Ψ.1,π.1,χ.1,μ.1,θ.1]
  have hz₅:=Ψ.extBut _ _ D.TOz.symm (π.extBut _ _ D.i2z.symm (χ.extBut _ _ D.TOz.symm (μ.extBut _ _ D.i1z.symm ω)))
  have hk₅:∀c o,c≠z->c≠TO->c≠i1->c≠i2->s.heap.get? c=some o->h₅.get? c=some o:=fun c o c1 c2 c3 c4 e=>
   Ψ.extBut _ _ c2 (π.extBut _ _ c4 (χ.extBut _ _ c2 (μ.extBut _ _ c3 (θ.extBut _ _ c1 e))))
  have hzlt:=Qqz hz₅
  refine QKq ?_
  refine QKq (wpAny_setField_rec (QWq _ hz₅) (by simp) fun h₇ hz₇ hs₇=>?_)
  replace hz₇:jr h₇ z TI TO (rawInt h₅.objs.size) f1:=hz₇
  refine wpAny_setField_rec hz₇ (by simp) fun h₈ hz₈ hs₈=>?_
  replace hz₈:jr h₈ z TI TO (rawInt h₅.objs.size) (.bool false):=hz₈
  have up:∀c o,c≠z->h₅.get? c=some o->h₈.get? c=some o:=fun c o c1 e=>hs₈.extBut _ _ c1 (hs₇.extBut _ _ c1 (QWq _ e))
  have hT₈:=hs₈.extBut _ _ (Nat.ne_of_gt hzlt) (hs₇.extBut _ _ (Nat.ne_of_gt hzlt) (Qzq _ rfl))
  have hz8:h₈.objs.size=h₅.objs.size+1:=by rw[hs₈.1,hs₇.1,Heap.size_push]
  rw[hsz]at hz₈ hT₈ hz8
  refine QKz ⟨_,rfl,?_⟩
  rw[hsz]
  exact hQ h₈ ⟨⟨_,_,hz₈,.inr ⟨_,rfl⟩⟩,up _ _ D.TIz (hk₅ _ _ D.TIz D.TITO D.TIi1 D.TIi2 hTI),⟨_,_,up _ _ D.TOz hTO₅⟩,(h1₂.at fun o e=>Ψ.extBut _ _ D.TOi1.symm (π.extBut _ _ D.i12 (χ.extBut _ _ D.TOi1.symm e))).at fun o e=>up _ o D.i1z e,(h2₄.at fun o e=>Ψ.extBut _ _ D.TOi2.symm e).at fun o e=>up _ o D.i2z e,hT₈,hz8,fun c o c1 c2 c3 c4 e=>up c o c1 (hk₅ c o c1 c2 c3 c4 e)⟩
 ·--it was kept:a new one
  intro Θ g1 ω θ
  refine QKq ?_
  refine QKq (QKq (Qqq ?_))
  refine QKq (fB (h1.at fun o e=>θ.extBut _ _ D.i1z e) (hl1.at fun o e=>θ.extBut _ _ D.l1z e) hx fun h₂ h1₂ μ=>QKz ?_)
  refine QKz ?_
  refine QKq (QKq (Qqq ?_))
  refine QKq (fB (h2.at fun o e=>μ.extBut _ _ D.i12.symm (θ.extBut _ _ D.i2z e))
   (hl2.at fun o e=>μ.extBut _ _ D.l2i1 (θ.extBut _ _ D.l2z e)) hy fun h₄ h2₄ π=>QKz ?_)
  refine QKz (QKz ?_)
  have hsz:h₄.objs.size=s.heap.objs.size:=by rw[π.1,μ.1,θ.1]
  have hk:∀c o,c≠z->c≠i1->c≠i2->s.heap.get? c=some o->h₄.get? c=some o:=fun c o c1 c3 c4 e=>π.extBut _ _ c4 (μ.extBut _ _ c3 (θ.extBut _ _ c1 e))
  refine QKq (wpAny_newTuple (QKz ⟨_,rfl,?_⟩) (by show 2<=sizeLine;rw[sizeLine_eq];decide))
  have T:Qd z TI TO i1 i2 b1 b2 l1 l2 (k1+1) (k2+1) s.heap.objs.size x y s.heap (h₄.push {cls:=.type "tuple",data:=.seq #[x,y]}):=by
   refine⟨⟨f0,g1,QWq _ (π.extBut _ _ D.i2z.symm (μ.extBut _ _ D.i1z.symm ω)),h0⟩,QWq _ (hk _ _ D.TIz D.TIi1 D.TIi2 hTI),⟨a,b,QWq _ (hk _ _ D.TOz D.TOi1 D.TOi2 hTO)⟩,
    h1₂.at fun o e=>QWq _ (π.extBut _ _ D.i12 e),h2₄.at fun o e=>QWq _ e,?_,by rw[Heap.size_push,hsz],fun c o c1 c2 c3 c4 e=>QWq _ (hk c o c1 c3 c4 e)⟩
   rw[<-hsz]
   exact Qzq _ rfl
  rw[hsz]
  exact hQ _ T
theorem JT{z TI TO i1 i2 l1 l2:Addr}{k1 k2:Nat}{a b f0 f1:Value}(hh:A.handled=none)(D:ZipApart z TI TO i1 i2 l1 l2)
  (hz:jr s.heap z TI TO f0 f1)(h0:F0 f0)(hTI:IsPair s.heap TI (.ref i1) (.ref i2))(hTO:IsPair s.heap TO a b)
  (h1:uy b1 s.heap i1 l1 k1)(h2:uy b2 s.heap i2 l2 k2)(hl1:yu b1 s.heap l1 xs)(hl2:yu b2 s.heap l2 ys)(hend:xs[k1]? =none\/ys[k2]? =none)
  (hE:∀h' e,(∀c o,c≠z->c≠TO->c≠i1->c≠i2->s.heap.get? c=some o->h'.get? c=some o)->(∃o,h'.get? e=some o/\o.cls=.type "StopIteration")->E (.ref e) {s with heap:=h'}):
  wpAny (model prog w) A (Builtin.«zip.__next__» ⟨[.ref z],[]⟩) Q E s:=by
 show wpAny _ _ (field _ 2>>=_) _ _ _
 refine QKq (QGz hz rfl rfl ?_)
 refine QKq (QGz hz rfl rfl ?_)
 refine QKq (wpAny_seqItems hTI rfl ?_)
 refine QKq (yz hz h0 ?_ ?_)
 ·simp only[if_true]
  refine QKq (wpAny_rule ?_)
  refine QKq (QGz hz rfl rfl ?_)
  refine QKq (wpAny_setField_rec hz (by simp) fun Θ ω θ=>?_)
  replace ω:jr Θ z TI TO .ellipsis f1:=ω
  refine QKq ?_
  refine QKq (QKq (wpAny_onRaise ?_))
  cases hx:xs[k1]? with
  |none=>
   refine QKq (kZ hh (h1.at fun o e=>θ.extBut _ _ D.i1z e) (hl1.at fun o e=>θ.extBut _ _ D.l1z e) hx fun h₂ e μ he=>?_)
   obtain⟨oe,hoe,hce⟩:=he
   have hz₂:jr h₂ z TI TO .ellipsis f1:=μ _ _ D.i1z.symm ω
   refine wpAny_setField_rec hz₂ (by simp) fun h₃ _ χ=>hE h₃ e (fun c o c1 _ c3 _ x=>χ.extBut _ _ c1 (μ _ _ c3 (θ.extBut _ _ c1 x))) ⟨oe,χ.extBut _ _ (fun x=>by subst x;unfold jr at hz₂;rw[hz₂]at hoe;cases hoe;simp at hce) hoe,hce⟩
  |some x=>
   have hy:ys[k2]? =none:=by
    rcases hend with h|h
    ·rw[hx]at h;cases h
    ·exact h
   refine QKq (fB (h1.at fun o e=>θ.extBut _ _ D.i1z e) (hl1.at fun o e=>θ.extBut _ _ D.l1z e) hx fun h₂ h1₂ μ=>QKz ?_)
   have hTO₂:=μ.extBut _ _ D.TOi1 (θ.extBut _ _ D.TOz hTO)
   refine QKq (wpAny_seqItems hTO₂ rfl ?_)
   refine QKq (wpAny_updateSeq_pair hTO₂ fun h₃ hTO₃ χ=>?_)
   refine QKq (wpAny_letGo (QKz ?_))
   refine QKq (QKq (wpAny_onRaise ?_))
   refine QKq (kZ hh (h2.at fun o e=>χ.extBut _ _ D.TOi2.symm (μ.extBut _ _ D.i12.symm (θ.extBut _ _ D.i2z e)))
    (hl2.at fun o e=>χ.extBut _ _ D.l2TO (μ.extBut _ _ D.l2i1 (θ.extBut _ _ D.l2z e))) hy fun h₄ e π he=>?_)
   obtain⟨oe,hoe,hce⟩:=he
   have hz₄:jr h₄ z TI TO .ellipsis f1:=π _ _ D.i2z.symm (χ.extBut _ _ D.TOz.symm (μ.extBut _ _ D.i1z.symm ω))
   refine wpAny_setField_rec hz₄ (by simp) fun h₅ _ Ψ=>hE h₅ e (fun c o c1 c2 c3 c4 x=>Ψ.extBut _ _ c1 (π _ _ c4 (χ.extBut _ _ c2 (μ.extBut _ _ c3 (θ.extBut _ _ c1 x))))) ⟨oe,Ψ.extBut _ _ (fun x=>by subst x;unfold jr at hz₄;rw[hz₄]at hoe;cases hoe;simp at hce) hoe,hce⟩
 ·intro Θ g1 ω θ
  refine QKq ?_
  refine QKq (QKq (Qqq ?_))
  cases hx:xs[k1]? with
  |none=>
   exact QKq (kZ hh (h1.at fun o e=>θ.extBut _ _ D.i1z e) (hl1.at fun o e=>θ.extBut _ _ D.l1z e) hx fun h₂ e μ he=>hE h₂ e (fun c o c1 _ c3 _ x=>μ _ _ c3 (θ.extBut _ _ c1 x)) he)
  |some x=>
   have hy:ys[k2]? =none:=by
    rcases hend with h|h
    ·rw[hx]at h;cases h
    ·exact h
   refine QKq (fB (h1.at fun o e=>θ.extBut _ _ D.i1z e) (hl1.at fun o e=>θ.extBut _ _ D.l1z e) hx fun h₂ h1₂ μ=>QKz ?_)
   refine QKz ?_
   refine QKq (QKq (Qqq ?_))
   exact QKq (kZ hh (h2.at fun o e=>μ.extBut _ _ D.i12.symm (θ.extBut _ _ D.i2z e))
    (hl2.at fun o e=>μ.extBut _ _ D.l2i1 (θ.extBut _ _ D.l2z e)) hy fun h₄ e π he=>hE h₄ e (fun c o c1 _ c3 c4 x=>π _ _ c4 (μ.extBut _ _ c3 (θ.extBut _ _ c1 x))) he)
def qb{z TI TO i1 i2 l1 l2:Addr}{k1 k2:Nat}{x y a b f0 f1:Value}(D:ZipApart z TI TO i1 i2 l1 l2)
  (hz:jr s.heap z TI TO f0 f1)(h0:F0 f0)(hTI:IsPair s.heap TI (.ref i1) (.ref i2))(hTO:IsPair s.heap TO a b)
  (h1:uy b1 s.heap i1 l1 k1)(h2:uy b2 s.heap i2 l2 k2)(hl1:yu b1 s.heap l1 xs)(hl2:yu b2 s.heap l2 ys)(hx:xs[k1]? =some x)(hy:ys[k2]? =some y)
  (hQ:∀h',Qd z TI TO i1 i2 b1 b2 l1 l2 (k1+1) (k2+1) s.heap.objs.size x y s.heap h'->Q (some (.ref s.heap.objs.size)) {s with heap:=h'}):
  wpAny (model prog w) A (pyNext (.ref z)) Q E s:=by
 have hT:s.TypeIs (.ref z) "zip":=⟨_,hz,rfl⟩
 exact QKq (wpAny_attempt (wpAny_callSpecial?_slot hT PySem.F.slot_zip_next
  (Qzz PySem.F.slot_zip_next hT PySem.F.entry_zip_next
   (Hk D hz h0 hTI hTO h1 h2 hl1 hl2 hx hy fun h' T=>QKz (hQ h' T)) (PySem.F.args_zip_next_1 _))))
def rJ{z TI TO i1 i2 l1 l2:Addr}{k1 k2:Nat}{a b f0 f1:Value}(hh:A.handled=none)(D:ZipApart z TI TO i1 i2 l1 l2)
  (hz:jr s.heap z TI TO f0 f1)(h0:F0 f0)(hTI:IsPair s.heap TI (.ref i1) (.ref i2))(hTO:IsPair s.heap TO a b)
  (h1:uy b1 s.heap i1 l1 k1)(h2:uy b2 s.heap i2 l2 k2)(hl1:yu b1 s.heap l1 xs)(hl2:yu b2 s.heap l2 ys)(hend:xs[k1]? =none\/ys[k2]? =none)
  (hQ:∀h',(∀c o,c≠z->c≠TO->c≠i1->c≠i2->s.heap.get? c=some o->h'.get? c=some o)->Q none {s with heap:=h'}):wpAny (model prog w) A (pyNext (.ref z)) Q E s:=by
 have hT:s.TypeIs (.ref z) "zip":=⟨_,hz,rfl⟩
 refine QKq (wpAny_attempt (wpAny_callSpecial?_slot hT PySem.F.slot_zip_next
  (Qzz PySem.F.slot_zip_next hT PySem.F.entry_zip_next (JT hh D hz h0 hTI hTO h1 h2 hl1 hl2 hend fun h' e hk he=>?_) (PySem.F.args_zip_next_1 _))))
 obtain⟨o,ho,hc⟩:=he
 exact QKq (wpAny_isInstance ⟨o,ho,hc⟩ isSubtype_stop (QKz (hQ _ hk)))
end
section
variable{prog:Program}{w:World}{A:Around}{E:QZq}{s:Shared}
theorem Iw{z TI TO T:Addr}{f0 f1:Value}(hz:jr s.heap z TI TO f0 f1)(h0:F0 f0)
  (hQ:∀h' g0,jr h' z TI TO g0 f1->F0 g0->Heap.SameBut z s.heap h'->Q () {s with heap:=h'}):wpAny (model prog w) A (letOwnedTupleGo tg (.ref z) (.ref T)) Q E s:=by
 have same:=hQ s.heap f0 hz h0 (Heap.SameBut.refl ..)
 have go:wpAny (model prog w) A (do
   let o<-load z
   match o.cls,o.data with
   |.type n,.fields vs=>
    if ["enumerate","zip","dict_itemiterator","dict_reverseitemiterator","odict_iterator","itertools.zip_longest","itertools.pairwise"].contains n&&vs[0]? ==some (rawInt T)then
     rule "for.unpacks-the-owned-tuple"
     updateField z 0 .none
   |_,_=>pure ()) Q E s:=by
  refine QKq (wpAny_load hz ?_)
  show wpAny _ _ (if (["enumerate","zip","dict_itemiterator","dict_reverseitemiterator","odict_iterator","itertools.zip_longest","itertools.pairwise"].contains "zip"&&
   (#[f0,f1,.bool false,.ref TI,.ref TO])[0]? ==some _)=true then _ else _) Q E s
  split
  ·exact QKq (wpAny_rule (wpAny_setField_rec hz (by simp) fun h' hz' hs'=>hQ h' .none hz' (.inl rfl) hs'))
  ·exact QKz same
 cases tg<;>first
  |exact QKz same
  |exact go
def jc{z TI TO:Addr}{f0 f1:Value}(hz:jr s.heap z TI TO f0 f1)(h:Q (.ref z) s):wpAny (model prog w) A (pyIter (.ref z)) Q E s:=by
 have hT:s.TypeIs (.ref z) "zip":=⟨_,hz,rfl⟩
 exact wpAny_pyIter_slot hT PySem.F.slot_zip_iter (Qzz PySem.F.slot_zip_iter hT PySem.F.entry_zip_iter (QKz ⟨_,rfl,"zip",_,hT,PySem.F.slot_zip_next.lookup,h⟩) (PySem.F.args_zip_iter_1 _))
end
def itN(b:Bool):String:=if b then "list_iterator" else "tuple_iterator"
abbrev zH1(b1:Bool)(h:Heap)(l1:Addr):Heap:=h.push {cls:=.type (itN b1),data:=.fields #[.ref l1,.int 0 0]}
abbrev zH2(b1 b2:Bool)(h:Heap)(l1 l2:Addr):Heap:=(zH1 b1 h l1).push {cls:=.type (itN b2),data:=.fields #[.ref l2,.int 0 0]}
abbrev zH3(b1 b2:Bool)(h:Heap)(l1 l2:Addr):Heap:=(zH2 b1 b2 h l1 l2).push {cls:=.type "tuple",data:=.seq #[.ref h.objs.size,.ref (zH1 b1 h l1).objs.size]}
abbrev zH4(b1 b2:Bool)(h:Heap)(l1 l2:Addr):Heap:=(zH3 b1 b2 h l1 l2).push {cls:=.type "tuple",data:=.seq #[.none,.none]}
abbrev ZX(b1 b2:Bool)(h:Heap)(l1 l2:Addr):Heap:=(zH4 b1 b2 h l1 l2).push {cls:=.type "zip",data:=.fields #[.none,.bool false,.bool false,.ref (zH2 b1 b2 h l1 l2).objs.size,.ref (zH3 b1 b2 h l1 l2).objs.size]}
def JS b1 b2 l1 l2 xs ys:
  Meets (Builtin.«zip.__new__» ⟨[.type "zip",.ref l1,.ref l2],[]⟩) (fun _ R s=>yu b1 s.heap l1 xs/\yu b2 s.heap l2 ys/\
   R (.ok (.ret (.ref (zH4 b1 b2 s.heap l1 l2).objs.size))) {s with heap:=ZX b1 b2 s.heap l1 l2}):=
 .of_wp fun prog w A R s h=>by
  obtain⟨hp,g,d,tk,os⟩:=s;obtain⟨hl1,hl2,h⟩:=h
  have hsub:=sub_zip
  cases b1<;>cases b2
  ·have hL1:Heap.IsTuple (Shared.heap ⟨hp,g,d,tk,os⟩) l1 xs:=hl1
   have hL2:Heap.IsTuple (Shared.heap ⟨hp.push {cls:=.type "tuple_iterator",data:=.fields #[.ref l1,.int 0 0]},g,d,tk,os⟩) l2 ys:=hl2.at (b:=false) fun o e=>QWq _ e
   wp_walk using wpAny_pyIter_tuple hL1,wpAny_pyIter_tuple hL2
   exact⟨_,rfl,h⟩
  ·have hL1:Heap.IsTuple (Shared.heap ⟨hp,g,d,tk,os⟩) l1 xs:=hl1
   have hL2:Heap.IsList (Shared.heap ⟨hp.push {cls:=.type "tuple_iterator",data:=.fields #[.ref l1,.int 0 0]},g,d,tk,os⟩) l2 ys:=hl2.at (b:=true) fun o e=>QWq _ e
   wp_walk using wpAny_pyIter_tuple hL1,wpAny_pyIter_list hL2
   exact⟨_,rfl,h⟩
  ·have hL1:Heap.IsList (Shared.heap ⟨hp,g,d,tk,os⟩) l1 xs:=hl1
   have hL2:Heap.IsTuple (Shared.heap ⟨hp.push {cls:=.type "list_iterator",data:=.fields #[.ref l1,.int 0 0]},g,d,tk,os⟩) l2 ys:=hl2.at (b:=false) fun o e=>QWq _ e
   wp_walk using wpAny_pyIter_list hL1,wpAny_pyIter_tuple hL2
   exact⟨_,rfl,h⟩
  ·have hL1:Heap.IsList (Shared.heap ⟨hp,g,d,tk,os⟩) l1 xs:=hl1
   have hL2:Heap.IsList (Shared.heap ⟨hp.push {cls:=.type "list_iterator",data:=.fields #[.ref l1,.int 0 0]},g,d,tk,os⟩) l2 ys:=hl2.at (b:=true) fun o e=>QWq _ e
   wp_walk using wpAny_pyIter_list hL1,wpAny_pyIter_list hL2
   exact⟨_,rfl,h⟩
end Mini
end
section
namespace Mini
open PySem
def sG{w:World}{E:QZq}{a:Addr}{k:Nat}
  (hx:s.heap.get? a=some {cls:=.type "list",dict:=none,data:=.seq xs k,slots:=sl})(hA:A.handled=none)
  (h:∀h' tk,(∀b o,s.heap.get? b=some o->h'.get? b=some o)->Q none {s with heap:=h',toks:=tk}):
  wpAny (model prog w) A (getAttr? (.ref a) "keys") Q E s:=by
 obtain⟨hp,g,d,tk,os⟩:=s
 have hT:∀tk',(⟨hp,g,d,tk',os⟩:Shared).TypeIs (.ref a) "list":=fun _=>⟨_,hx,rfl⟩
 have f1:=sub_AttributeError
 have f3:=F.slot_list_getattribute.lookup
 have f4:=F.slot_list_getattribute.bind (.ref a)
 have f5:=am_list_getattr_none
 repeat (any_goals (first|assumption|exact hT _|((with_reducible show wpAny _ _ (call (Value.builtin "list.__getattribute__") _ _) _ _ _);refine call_meets F.slot_list_getattribute (hT _) am_entry_list_getattribute (F.args_list_getattribute_2 _ _) (meets_getattribute_miss_list a xs k sl "keys" _ (am_miss_of_fast (by kernel_rfl)) (by decide+kernel) (by size_fits)) ⟨hx,hA,fun h' tk' e hx'=>?_⟩)|wp_step))
 obtain⟨t',u',he⟩:=hx'.there
 unfold getattributeRaised
 repeat (any_goals (first|assumption|wp_step))
 all_goals exact h _ _ hx'.keeps
def qd{w:World}{E:QZq}{a:Addr}{k:Nat}
  (hx:s.heap.get? a=some {cls:=.type "tuple",dict:=none,data:=.seq xs k,slots:=sl})(hA:A.handled=none)
  (h:∀h' tk,(∀b o,s.heap.get? b=some o->h'.get? b=some o)->Q none {s with heap:=h',toks:=tk}):
  wpAny (model prog w) A (getAttr? (.ref a) "keys") Q E s:=by
 obtain⟨hp,g,d,tk,os⟩:=s
 have hT:∀tk',(⟨hp,g,d,tk',os⟩:Shared).TypeIs (.ref a) "tuple":=fun _=>⟨_,hx,rfl⟩
 have f1:=sub_AttributeError
 have f3:=F.slot_tuple_getattribute.lookup
 have f4:=F.slot_tuple_getattribute.bind (.ref a)
 have f5:=am_tuple_getattr_none
 repeat (any_goals (first|assumption|exact hT _|((with_reducible show wpAny _ _ (call (Value.builtin "tuple.__getattribute__") _ _) _ _ _);refine call_meets F.slot_tuple_getattribute (hT _) am_entry_tuple_getattribute (F.args_tuple_getattribute_2 _ _) (meets_getattribute_miss_tuple a xs k sl "keys" _ (am_miss_of_fast (by kernel_rfl)) (by decide+kernel) (by size_fits)) ⟨hx,hA,fun h' tk' e hx'=>?_⟩)|wp_step))
 obtain⟨t',u',he⟩:=hx'.there
 unfold getattributeRaised
 repeat (any_goals (first|assumption|wp_step))
 all_goals exact h _ _ hx'.keeps
def lR:typeLookup (.type "zip") "__getattr__"=pure none:=by rw[typeLookup_type,builtinLookup_eq_fast];kernel_rfl
def cB:Slot "zip" "__getattribute__" "zip.__getattribute__":=
 .of (owner:="zip") (n:="__getattribute__") (by rw[typeLookup_type,builtinLookup_eq_fast];kernel_rfl) (by decide+kernel) (by decide+kernel) (by decide+kernel)
  (by first|exact .inl (by decide+kernel)|exact .inr (by decide+kernel)) (by rw[isSubtype_type];kernel_rfl)
def gO:entryFor table "zip.__getattribute__"=some Builtin.«object.__getattribute__»:=
 entryFor_alias (id':="object.__getattribute__") (by kernel_rfl) (by decide+kernel) (by decide+kernel) (by kernel_rfl)
def iC a b:argsOk "zip.__getattribute__" ⟨[a,b],[]⟩:=by
 unfold argsOk;kernel_rfl
def gh(a:Addr)(xs:Array Value)(sl:Array (Option Value))(name:Str)(u:Tok)(hmiss:typeLookup (.type "zip") name=pure none)(hname:(["__module__","__name__","__qualname__","__doc__","__annotations__"]:List Str).contains name=false)(hsz:name.length+100<=sizeLine:=by size_fits):
  Meets (Builtin.«object.__getattribute__» ⟨[.ref a,.str name u],[]⟩) (fun A R s=>s.heap.get? a=some {cls:=.type "zip",dict:=none,data:=.fields xs,slots:=sl}/\raisesAttr (.ref a) name A R s):=
 Meets.of_wp fun prog w A R s hs=>by
  obtain⟨hp,g,d,tk,os⟩:=s
  obtain⟨hx,hs⟩:=hs
  repeat (any_goals (first|assumption|wp_step))
  simp only[hname,Qxq,if_false]
  repeat (any_goals (first|assumption|wp_step))
  exact wpAny_raiseAttrError hs.1 hs.2 (attrMsg_fits (by decide+kernel) hsz)
def uI{w:World}{E:QZq}{a:Addr}{sl:Array (Option Value)}
  (hx:s.heap.get? a=some {cls:=.type "zip",dict:=none,data:=.fields xs,slots:=sl})(hA:A.handled=none)
  (h:∀h' tk,(∀b o,s.heap.get? b=some o->h'.get? b=some o)->Q none {s with heap:=h',toks:=tk}):
  wpAny (model prog w) A (getAttr? (.ref a) "keys") Q E s:=by
 obtain⟨hp,g,d,tk,os⟩:=s
 have hT:∀tk',(⟨hp,g,d,tk',os⟩:Shared).TypeIs (.ref a) "zip":=fun _=>⟨_,hx,rfl⟩
 have f1:=sub_AttributeError
 have f3:=cB.lookup
 have f4:=cB.bind (.ref a)
 have f5:=lR
 repeat (any_goals (first|assumption|exact hT _|((with_reducible show wpAny _ _ (call (Value.builtin "zip.__getattribute__") _ _) _ _ _);refine call_meets cB (hT _) gO (iC _ _) (gh a xs sl "keys" _ (am_miss_of_fast (by kernel_rfl)) (by decide+kernel) (by size_fits)) ⟨hx,hA,fun h' tk' e hx'=>?_⟩)|wp_step))
 obtain⟨t',u',he⟩:=hx'.there
 unfold getattributeRaised
 repeat (any_goals (first|assumption|wp_step))
 all_goals exact h _ _ hx'.keeps
inductive D where
 |non|bl (b:Bool)|int (i:Int)|str (x:Str)
 |tup (xs:List D)|lst (xs:List D)|cH (ks:List D) (vs:List D)|jH (ks:List D) (vs:List D)
 deriving Inhabited
inductive Ob where
 |lst (xs:List D)|dct (ks vs:List D)|sdt (ks vs:List D)
 deriving Inhabited
noncomputable def Ob.d:Ob->D
 |.lst xs=>.lst xs
 |.dct ks vs=>.cH ks vs
 |.sdt ks vs=>.jH ks vs
inductive Sl where
 |un|val (d:D)|own (o:Ob)|bor (o:Ob)
 deriving Inhabited
abbrev Ev:=List Sl
inductive Rv where
 |val (d:D)|new (o:Ob)|ref (i:Nat)|tmp (o:Ob)
noncomputable def Rv.jF:Rv->Option D
 |.val d=>some d
 |.new o=>some o.d
 |_=>none
noncomputable def Rv.Bu:Rv->Option Sl
 |.val d=>some (.val d)
 |.new o=>some (.own o)
 |_=>none
def aP:List Rv->Option (List D)
 |[]=>some []
 |r::rs=>r.jF.bind fun d=>(aP rs).map (d:: ·)
inductive Out(α:Type)where
 |ok (a:α) (σ:Ev)|exc (c:Nat) (σ:Ev)|bad
noncomputable def Out.bind{α β:Type}:Out α->(α->Ev->Out β)->Out β
 |.ok a σ,f=>f a σ
 |.exc c σ,_=>.exc c σ
 |.bad,_=>.bad
noncomputable def Out.ao{β:Type}:Out Rv->(D->Ev->Out β)->Out β
 |.ok (.val d) σ,f=>f d σ
 |.ok (.new o) σ,f=>f o.d σ
 |.ok _ _,_=>.bad
 |.exc c σ,_=>.exc c σ
 |.bad,_=>.bad
def Out.cC{β:Type}(tr:D->Option Bool)(r:Out Rv)(f:Bool->Ev->Out β):Out β:=
 r.ao fun d σ=>match tr d with|some b=>f b σ|none=>.bad
noncomputable def Out.map{α β:Type}(g:α->β):Out α->Out β
 |.ok a σ=>.ok (g a) σ
 |.exc c σ=>.exc c σ
 |.bad=>.bad
def lift{α:Type}(σ:Ev):Option α->Out α
 |some a=>.ok a σ
 |none=>.bad
inductive ZQ where
 |add|sub|mul|mod|fdiv|pow
 deriving DecidableEq
inductive Cm where
 |eq|ne|lt|le|gt|ge|isin|notin|jJ|notN
 deriving DecidableEq
inductive Ty where
 |tup|lst|str|bool|int|cH
 deriving DecidableEq
inductive Bi where
 |all|any|tuple|list|sorted|int|dict|len|copy
 deriving DecidableEq
inductive Tg where
 |name (i:Nat)|tup (is:List Nat)
inductive E where
 |var (i:Nat)|con (d:D)|glob (k:Nat)
 |nil|cons (h t:E)
 |tup (es:E)|lis (es:E)
 |op (o:ZQ) (a b:E)|neg (a:E)|cmp (o:Cm) (a b:E)|chain (υ ψ:Cm) (a b c:E)
 |and (es:E)|or (es:E)|not (a:E)|ite (c a b:E)
 |idx (a i:E)|slc (a lo hi:E)|noneE
 |call (f:Nat) (args:E)|ref (i:Nat)|tmp (e:E)|rd (e:E)
 |isi (a:E) (t:Ty)|bi (b:Bi) (a:E)
 |range1 (a:E)|zip (a b:E)
 |count (a b:E)|popAt (i:Nat) (a:E)
 |get2 (d k x:E)|dsp (es:E)|tcall (f:Nat) (args:E) (hs:List (Nat×D))|enum (a:E)|emp
 |comp (nl:Nat) (tg:Tg) (it:E) (cond:E) (elt:E)
inductive S where
 |nil|cons (h t:S)
 |set (i:Nat) (e:E)|setT (is:List Nat) (e:E)|setIx (i:Nat) (ix e:E)
 |expr (e:E)|append (i:Nat) (e:E)
 |ret (e:E)|ite (c:E) (a b:S)|callx (f:Nat) (args:E)
 |for_ (tg:Tg) (it:E) (b:S)|while_ (c:E) (b:S)
 |raise (c:Nat)|pass|brk|cont
abbrev AAG:E:=.con (.int 1)
abbrev AAH:E:=.con (.int 0)
abbrev AAL:E:=.con (.bl true)
abbrev AAP:E:=.con (.int 2)
abbrev AAQ:S:=.cons (.ret (.con (.bl false))) .nil
abbrev AAR:E:=.cons (.var 1) (.cons (.var 2) .nil)
abbrev AAS:E:=.cons (.var 3) .nil
abbrev AAT:E:=.cons (.var 0) .nil
abbrev AAV:E:=.con (.int 3)
abbrev AAX:E:=.cons (.con (.str "same")) (.cons (.con (.str "not")) .nil)
abbrev AAZ:E:=.cons (.var 1) .nil
abbrev AAa:E:=.cons (.con (.str "p")) (.cons (.con (.str "q")) (.cons (.con (.str "rr")) (.cons (.con (.str "go")) (.cons (.con (.str "abcdef")) .nil))))
abbrev AAb:E:=.idx (.var 0) AAG
abbrev AAc:E:=.idx (.var 0) AAH
abbrev AAd:E:=.call 35 (.cons (.var 0) (.cons (.ref 1) (.cons AAP .nil)))
abbrev AAe:E:=.idx (.var 2) AAG
abbrev AAf:E:=.idx (.var 0) AAP
abbrev AAg:E:=.idx (.var 1) AAG
abbrev AAh:E:=.cons (.var 2) AAS
abbrev AAi:E:=.idx (.var 1) AAH
abbrev AAj:E:=.cons (.con (.int 4)) .nil
abbrev AAk:S:=.cons (.ret (.or (.cons (.bi .all (.var 4)) (.cons (.and (.cons (.var 1) (.cons (.bi .any (.var 4)) .nil))) .nil)))) .nil
abbrev AAl:E:=.con (.str "held")
abbrev AAm:E:=.cmp .ne (.call 15 (.cons (.var 1) (.cons (.idx (.var 4) (.var 0)) (.cons (.var 4) .nil)))) (.idx (.var 4) (.var 0))
abbrev AAn:S:=.cons (.set 3 (.call 48 (.cons AAb AAR))) (.cons (.ret (.idx (.lis AAh) (.bi .int (.cmp .eq (.idx (.var 1) AAf) (.cmp .eq (.var 3) (.idx (.var 0) AAV)))))) .nil)
abbrev AAo:E:=.and (.cons (.cmp .gt (.bi .len (.var 5)) (.var 3)) (.cons (.or (.cons (.cmp .gt (.bi .len (.var 5)) (.var 4)) (.cons (.cmp .eq AAd AAG) .nil))) .nil))
abbrev AAp:E:=.idx (.var 2) AAH
abbrev AAq:E:=.con (.str "a")
abbrev AAr:S:=.cons (.expr (.popAt 5 (.call 35 (.cons (.var 0) (.cons (.ref 1) (.cons (.bi .len (.var 5)) .nil)))))) .nil
abbrev AAs:E:=.con .non
abbrev AAt:E:=.con (.str "same")
abbrev AAu:E:=.cmp .ne (.call 48 (.cons AAb (.cons (.var 3) (.cons (.idx (.var 3) AAc) .nil)))) (.idx (.var 3) AAc)
abbrev AAv:E:=.lis .nil
abbrev AAw:E:=.con (.str "and")
abbrev AAx:E:=.cons AAV .nil
abbrev AAy:E:=.cons AAP .nil
abbrev AAz:E:=.and (.cons (.cmp .isin AAL (.var 4)) (.cons (.cmp .isin (.con (.bl false)) (.var 4)) .nil))
abbrev ABG:E:=.idx (.var 2) (.call 35 (.cons (.var 0) (.cons (.ref 1) (.cons (.bi .len (.var 2)) .nil))))
abbrev ABH:E:=.cons (.var 5) .nil
abbrev ABI:E:=.con (.str "table")
abbrev ABJ:E:=.con (.str "or")
abbrev ABK:S:=.set 7 (.comp 2 (.tup [0,1]) (.idx AAb (.var 5)) (.cmp .eq (.var 0) (.var 4)) (.var 1))
abbrev ABL:S:=.set 6 (.comp 2 (.tup [0,1]) (.idx AAb (.var 3)) (.cmp .eq (.var 0) (.var 6)) (.var 1))
abbrev ABM:E:=.con (.str "both")
abbrev ABN:E:=.cons AAH .nil
abbrev ABO:E:=.or (.cons (.cmp .eq (.var 6) AAv) (.cons (.cmp .ne (.var 6) (.var 7)) .nil))
abbrev ABP:S:=.cons (.ret (.var 4)) .nil
abbrev ABQ:S:=.expr (.call 17 (.cons (.var 0) AAZ))
abbrev ABR:E:=.cons (.var 6) .nil
abbrev ABS:E:=.cons (.var 4) .nil
abbrev ABT:E:=.cons (.var 2) .nil
abbrev ABU:E:=.cons (.var 0) (.cons (.ref 2) .nil)
abbrev ABV:E:=.con (.str "b")
abbrev ABW:E:=.cons (.var 1) AAh
abbrev ABX:E:=.cons (.var 0) AAR
abbrev ABY:E:=.cons (.var 0) (.cons (.var 1) AAS)
abbrev ABZ:E:=.idx (.var 3) AAH
abbrev ABa:E:=.bi .len (.var 0)
abbrev ABb:E:=.op .add AAG (.call 35 (.cons (.var 0) (.cons (.ref 1) AAS)))
abbrev ABc:E:=.cons (.var 1) (.cons (.var 2) (.cons (.con (.int 16)) .nil))
abbrev ABd:E:=.cons (.var 0) (.cons AAp .nil)
abbrev ABe:S:=.cons (.ret (.con (.non))) .nil
abbrev ABf:S:=.cons (.raise 1) .nil
abbrev ABg:E:=.cmp .gt (.call 35 (.cons (.var 1) (.cons (.ref 2) AAx))) AAH
abbrev ABh:E:=.cmp .eq (.call 35 (.cons (.var 1) (.cons (.ref 2) AAy))) AAG
abbrev ABi:E:=.cmp .eq (.call 35 (.cons (.var 0) (.cons (.ref 2) AAy))) AAG
abbrev ABj:S:=.cons (.ret (.cmp .notin (.con (.bl false)) (.var 4))) .nil
abbrev ABk:E:=.cons (.bi .len (.var 1)) .nil
abbrev ABl:E:=.con (.str "q")
abbrev ABm:E:=.con (.str "p")
abbrev ABn:S:=.cons (.ret (.cmp .isin (.bi .tuple (.var 4)) AAf)) .nil
abbrev ABo:E:=.bi .tuple (.var 5)
abbrev ABp:E:=.cons AAG .nil
abbrev ABq:E:=.cons (.var 0) (.cons (.var 1) (.cons (.var 3) ABS))
abbrev ABr:S:=.cons (.ret (.var 2)) .nil
abbrev ABs:E:=.cmp .ne (.var 2) (.var 4)
abbrev ABt:S:=.ret (.tcall 27 (.cons (.var 0) ABW) [(1,.non)])
abbrev ABu:E:=.idx (.var 2) AAb
abbrev ABv:E:=.idx (.var 1) AAb
abbrev ABw:E:=.con (.str "not")
abbrev ABx:E:=.bi .len (.var 2)
abbrev ABy:E:=.cmp .eq AAd AAG
abbrev ABz:E:=.cmp .notN (.var 3) AAs
abbrev ACG:S:=.cons (.ret (.cmp .isin AAL (.var 4))) .nil
abbrev ACH:S:=.cons (.ret (.cmp .isin (.var 4) AAf)) .nil
abbrev ACI:E:=.cmp .eq (.idx (.var 5) (.var 0)) (.var 4)
abbrev ACJ:S:=.cons (.ret AAL) .nil
abbrev ACL:E:=.cmp .eq (.var 4) AAP
abbrev ACM:E:=.cmp .eq (.var 3) ABI
abbrev ACN:E:=.cmp .eq (.var 3) AAl
abbrev ACO:E:=.call 3 (.cons (.var 0) (.cons AAP AAy))
abbrev ACP:S:=.cons (.ret (.idx (.var 4) AAH)) .nil
abbrev ACQ:S:=.cons (.ret (.bi .any (.var 4))) .nil
abbrev ACR:S:=.cons (.ret (.bi .all (.var 4))) .nil
abbrev ACS:E:=.idx AAg AAe
abbrev ACT:E:=.cons (.op .sub (.var 3) AAG) .nil
abbrev ACU:E:=.cons (.op .add (.var 2) AAG) .nil
abbrev ACV:E:=.call 13 AAT
abbrev ACW:E:=.cmp .notN (.var 6) (.con (.non))
abbrev ACX:S:=.cons (.ret (.call 16 ABX)) .nil
def small(i:Int):Bool:=decide (-18446744073709551616<i/\i<18446744073709551616)
def Be(i:Int):Bool:=decide (-4611686018427387904<=i/\i<4611686018427387904)
def fits(n:Nat):Bool:=decide (n<=16777216)
def b2i(b:Bool):Int:=if b then 1 else 0
def ix?(n:Nat)(i:Int):Option Nat:=
 let j:=if i<0 then i+n else i
 if 0<=j/\j<n then some j.toNat else none
def at?(xs:List D)(i:Int):Option D:=(ix? xs.length i).bind fun k=>xs[k]?
def clip(n:Nat)(i:Int):Nat:=
 let j:=if i<0 then i+n else i
 if j<0 then 0 else if j>n then n else j.toNat
noncomputable def cut(xs:List D)(lo hi:Option Int):List D:=
 let a:=match lo with|some i=>clip xs.length i|none=>0
 let b:=match hi with|some i=>clip xs.length i|none=>xs.length
 (xs.take b).drop a
mutual
def cD:D->D->Bool
 |.non,.non=>true
 |.bl a,.bl b=>a==b
 |.bl a,.int j=>b2i a==j
 |.int i,.bl b=>i==b2i b
 |.int i,.int j=>i==j
 |.str x,.str y=>decide (x=y)
 |.tup xs,.tup ys=>jE xs ys
 |.lst xs,.lst ys=>jE xs ys
 |_,_=>false
def jE:List D->List D->Bool
 |[],[]=>true
 |x::xs,y::ys=>cD x y&&jE xs ys
 |_,_=>false
end
mutual
def dep:D->Nat
 |.tup xs=>jl xs+1
 |.lst xs=>jl xs+1
 |_=>0
def jl:List D->Nat
 |[]=>0
 |x::xs=>max (dep x) (jl xs)
end
def sOk(x:Str):Bool:=x.cps.all fun c=>decide (c<128)
mutual
def nd:D->Bool
 |.str x=>sOk x
 |.tup xs=>lu xs
 |.lst xs=>lu xs
 |.cH _ _=>false
 |.jH _ _=>false
 |_=>true
def lu:List D->Bool
 |[]=>true
 |x::xs=>nd x&&lu xs
end
noncomputable def flat:D->Bool
 |.non=>true
 |.bl _=>true
 |.int _=>true
 |.str _=>true
 |_=>false
def lQ(a b:D):Bool:=(flat a&&flat b)||(nd a&&decide (dep a<=50)&&nd b)
def fG(a:D)(xs:List D):Bool:=(flat a&&xs.all flat)||(nd a&&decide (dep a<=50)&&lu xs)
def aJ(x:D):List D->Bool
 |[]=>false
 |y::ys=>cD y x||aJ x ys
def fH(x:D):List D->Nat
 |[]=>0
 |y::ys=>(if cD y x then 1 else 0)+fH x ys
noncomputable def lL:List Bool->List Bool->Bool
 |[],[]=>false
 |[],_::_=>true
 |_::_,[]=>false
 |x::xs,y::ys=>if x=y then lL xs ys else(!x&&y)
noncomputable def bools:List D->Option (List Bool)
 |[]=>some []
 |.bl b::r=>(bools r).map (b:: ·)
 |_=>none
def o4:D->Bool
 |.tup [.tup bs,.int _]=>(bools bs).isSome
 |_=>false
noncomputable def ltD:D->D->Option Bool
 |.int i,.int j=>some (decide (i<j))
 |.tup xs,.tup ys=>(bools xs).bind fun a=>(bools ys).map fun b=>lL a b
 |_,_=>none
noncomputable def iU:D->Option Bool
 |.non=>some false
 |.bl b=>some b
 |.int i=>some (i !=0)
 |.tup xs=>some (!xs.isEmpty)
 |.lst xs=>some (!xs.isEmpty)
 |_=>none
noncomputable def oZ:Ty->D->Bool
 |.tup,.tup _=>true
 |.lst,.lst _=>true
 |.str,.str _=>true
 |.bool,.bl _=>true
 |.int,.int _=>true
 |.int,.bl _=>true
 |.cH,.cH _ _=>true
 |.cH,.jH _ _=>true
 |_,_=>false
def bI(k:D):List D->List D->Option D
 |k'::ks,v::vs=>if cD k' k then some v else bI k ks vs
 |_,_=>none
noncomputable def keyOk:D->Bool
 |.str _=>true
 |.int _=>true
 |_=>false
def signs(x:Str):List D:=x.cps.toList.map fun c=>D.str ⟨#[c]⟩
noncomputable def items:D->Option (List D)
 |.tup xs=>some xs
 |.lst xs=>some xs
 |.str x=>if fits x.length then some (signs x)else none
 |_=>none
noncomputable def binop:ZQ->D->D->Option Rv
 |.add,.int i,.int j=>some (.val (.int (i+j)))
 |.sub,.int i,.int j=>some (.val (.int (i-j)))
 |.mul,.int i,.int j=>if small i||small j then some (.val (.int (i*j)))else none
 |.mod,.int i,.int j=>if 0<j then some (.val (.int (i%j)))else none
 |.fdiv,.int i,.int j=>if 0<j/\j<1073741824 then some (.val (.int (i/j)))else none
 |.pow,.int i,.int j=>if 0<=j/\j<=64/\small i=true then some (.val (.int (i ^j.toNat)))else none
 |.add,.tup xs,.tup ys=>if fits (xs.length+ys.length)then some (.val (.tup (xs++ys)))else none
 |.add,.lst xs,.lst ys=>if fits (xs.length+ys.length)then some (.new (.lst (xs++ys)))else none
 |_,_,_=>none
def bO:D->Bool
 |.non=>true
 |_=>false
noncomputable def aG:Cm->D->D->Option Bool
 |.eq,a,b=>if lQ a b then some (cD a b)else none
 |.ne,a,b=>if lQ a b then some (!cD a b)else none
 |.lt,a,b=>ltD a b
 |.gt,.int i,.int j=>some (decide (j<i))
 |.le,.int i,.int j=>some (decide (i<=j))
 |.ge,.int i,.int j=>some (decide (j<=i))
 |.isin,a,.tup xs=>if fG a xs then some (aJ a xs)else none
 |.isin,a,.lst xs=>if fG a xs then some (aJ a xs)else none
 |.isin,a,.cH ks _=>if keyOk a then some (aJ a ks)else none
 |.isin,a,.jH ks _=>if o4 a then some (aJ a ks)else none
 |.isin,.str x,.str y=>if x.length=1 then some (aJ (.str x) (signs y))else none
 |.notin,a,.tup xs=>if fG a xs then some (!aJ a xs)else none
 |.notin,a,.lst xs=>if fG a xs then some (!aJ a xs)else none
 |.notin,a,.cH ks _=>if keyOk a then some (!aJ a ks)else none
 |.notin,a,.jH ks _=>if o4 a then some (!aJ a ks)else none
 |.jJ,a,.non=>some (bO a)
 |.notN,a,.non=>some (!bO a)
 |_,_,_=>none
noncomputable def ju:List D->Option (List (List Bool))
 |[]=>some []
 |.tup ys::r=>match bools ys with
  |some (b::bs)=>(ju r).map ((b::bs):: ·)
  |_=>none
 |_=>none
noncomputable def KQ{α:Type}(f:Nat->Nat->Option Bool):PySem.W.KasT α->Option α
 |.ret a=>some a
 |.ask i j k=>match f i j with
  |some b=>KQ f (k b)
  |none=>none
def adb(rs:List (List Bool))(i j:Nat):Option Bool:=(rs[i]?).bind fun a=>(rs[j]?).map fun b=>lL a b
def sW(xs:List D):List Nat->Option (List D)
 |[]=>some []
 |i::is=>(xs[i]?).bind fun d=>(sW xs is).map (d:: ·)
def ada(xs:List D):Option (Nat->Nat->Option Bool):=match ju xs with
 |some rs=>some (adb rs)
 |none=>none
noncomputable def pD(xs:List D):Option (List D):=
 if xs.length<2 then some xs
 else if xs.length<64 then(ada xs).bind fun f=>(KQ f (PySem.W.kas_sort xs.length)).bind fun p=>if p.size=xs.length then sW xs p.toList else none
 else none
def jw(k v:D):List D->List D->List D
 |k'::ks,v'::vs=>(if cD k' k then v else v')::jw k v ks vs
 |_,_=>[]
def putD(k v:D)(ks vs:List D):List D×List D:=if aJ k ks then(ks,jw k v ks vs)else(ks++[k],vs++[v])
noncomputable def dictOf:List D->List D->List D->Option (List D×List D)
 |ks,vs,[]=>some (ks,vs)
 |ks,vs,.tup [k,v]::r=>if keyOk k then let p:=putD k v ks vs;dictOf p.1 p.2 r else none
 |_,_,_=>none
def aR:List D->List D->List D
 |x::xs,y::ys=>.tup [x,y]::aR xs ys
 |_,_=>[]
def bw(lo:Int):Nat->List D
 |0=>[]
 |n+1=>.int lo::bw (lo+1) n
noncomputable def Qu:Bi->List D->Option Rv
 |.all,xs=>(bools xs).map fun bs=>.val (.bl (bs.all id))
 |.any,xs=>(bools xs).map fun bs=>.val (.bl (bs.any id))
 |.tuple,xs=>some (.val (.tup xs))
 |.list,xs=>some (.new (.lst xs))
 |.sorted,xs=>(pD xs).map fun ys=>.new (.lst ys)
 |.dict,xs=>(dictOf [] [] xs).map fun p=>.new (.dct p.1 p.2)
 |.len,_=>none
 |.int,_=>none
 |.copy,_=>none
def E.au:E->Option Nat
 |.var i=>some i
 |_=>none
noncomputable def rG(i:Nat)(σ:Ev):Out Rv:=
 match σ[i]? with
 |some (.val d)=>.ok (.val d) σ
 |some (.own o)=>.ok (.val o.d) (σ.set i (.val o.d))
 |_=>.bad
noncomputable def bA(i:Nat)(σ:Ev):Option D:=
 match σ[i]? with
 |some (.val d)=>some d
 |some (.own o)=>some o.d
 |some (.bor o)=>some o.d
 |_=>none
noncomputable def Iz:D->Option Nat
 |.tup xs=>some xs.length
 |.lst xs=>some xs.length
 |.str x=>if fits x.length then some x.length else none
 |.cH ks _=>some ks.length
 |_=>none
noncomputable def getD(d:D)(i:D):Option D:=
 match d,i with
 |.tup xs,.int i=>at? xs i
 |.lst xs,.int i=>at? xs i
 |.cH ks vs,k=>if keyOk k then bI k ks vs else none
 |.jH ks vs,k=>if o4 k then bI k ks vs else none
 |_,_=>none
noncomputable def ik(d:D)(lo hi:Option Int):Option Rv:=
 match d with
 |.tup xs=>some (.val (.tup (cut xs lo hi)))
 |.lst xs=>some (.new (.lst (cut xs lo hi)))
 |_=>none
noncomputable def cV(jJ:Bool)(d:D):Option (Option Int):=
 match jJ,d with
 |true,_=>some none
 |false,.int i=>some (some i)
 |_,_=>none
def E.jJ:E->Bool
 |.noneE=>true
 |_=>false
noncomputable def bL(i:Nat)(s:Sl)(σ:Ev):Option Ev:=
 match σ[i]? with
 |some (.bor _)=>none
 |some _=>some (σ.set i s)
 |none=>none
noncomputable def dI:List Nat->List D->Ev->Option Ev
 |[],[],σ=>some σ
 |i::is,d::ds,σ=>(bL i (.val d) σ).bind (dI is ds)
 |_,_,_=>none
noncomputable def aX:Tg->D->Ev->Option Ev
 |.name i,d,σ=>bL i (.val d) σ
 |.tup is,.tup ds,σ=>dI is ds σ
 |_,_,_=>none
noncomputable def eX(i:Nat)(f:Ob->Option Ob)(σ:Ev):Option Ev:=
 match σ[i]? with
 |some (.own o)=>(f o).map fun q=>σ.set i (.own q)
 |some (.bor o)=>(f o).map fun q=>σ.set i (.bor q)
 |_=>none
def yt(f:List D->Option (List D)):Ob->Option Ob
 |.lst xs=>(f xs).map .lst
 |_=>none
noncomputable def wY(i v:D):Ob->Option Ob
 |.lst xs=>match i with
  |.int i=>(ix? xs.length i).map fun j=>.lst (xs.set j v)
  |_=>none
 |.dct ks vs=>if keyOk i&&fits (ks.length+1)then let p:=putD i v ks vs;some (.dct p.1 p.2)else none
 |.sdt ks vs=>if o4 i&&fits (ks.length+1)then let p:=putD i v ks vs;some (.sdt p.1 p.2)else none
inductive Res where
 |ok (r:Rv) (ps:List Sl)|exc (c:Nat) (ps:List Sl)|bad
structure Cf where
 fn:Nat->List Sl->Res
 gl:Nat->Option D
 turns:Nat
def ji(i:Nat):Rv->Bool
 |.ref j=>i==j
 |_=>false
def zU:Rv->Bool
 |.tmp _=>true
 |_=>false
def argv:Rv->Rv
 |.new o=>.val o.d
 |x=>x
noncomputable def enter:List Rv->Ev->Option (List Sl)
 |[],_=>some []
 |.val d::as,σ=>(enter as σ).map (.val d:: ·)
 |.new _::_,_=>none
 |.tmp o::as,σ=>if as.any zU then none else(enter as σ).map (.bor o:: ·)
 |.ref i::as,σ=>
  if as.any (ji i)then none else
  match σ[i]? with
  |some (.own o)=>(enter as σ).map (.bor o:: ·)
  |some (.bor o)=>(enter as σ).map (.bor o:: ·)
  |_=>none
noncomputable def giveBack:List Rv->List Sl->Ev->Option Ev
 |[],[],σ=>some σ
 |.ref i::as,.bor o::ps,σ=>(eX i (fun _=>some o) σ).bind (giveBack as ps)
 |.ref _::_,_::_,_=>none
 |_::as,_::ps,σ=>giveBack as ps σ
 |_,_,_=>none
noncomputable def tY(c:Cf)(f:Nat)(as:List Rv)(σ:Ev):Out Rv:=
 match enter as σ with
 |none=>.bad
 |some ps=>
  match c.fn f ps with
  |.ok r qs=>match giveBack as qs σ with|some ζ=>.ok r ζ|none=>.bad
  |_=>.bad
noncomputable def jQ(c:Cf)(f:Nat)(hs:List (Nat×D))(as:List Rv)(σ:Ev):Out Rv:=
 match enter as σ with
 |none=>.bad
 |some ps=>
  match c.fn f ps with
  |.ok r qs=>match giveBack as qs σ with|some ζ=>.ok r ζ|none=>.bad
  |.exc k qs=>match hs.lookup k,giveBack as qs σ with|some w,some ζ=>.ok (.val w) ζ|_,_=>.bad
  |.bad=>.bad
noncomputable def aV(tg:Tg)(cond elt:Ev->Out Rv):List D->List D->Ev->Out (List D)
 |[],acc,σ=>.ok acc σ
 |x::xs,acc,σ=>
  match aX tg x σ with
  |none=>.bad
  |some Φ=>(cond Φ).cC iU fun b σ₂=>
   if b then(elt σ₂).ao fun d σ₃=>aV tg cond elt xs (acc++[d]) σ₃
   else aV tg cond elt xs acc σ₂
def dU:Option D->Bool
 |some (.lst _)=>true
 |_=>false
def pF:D->Option (List D)
 |.lst xs=>some xs
 |_=>none
noncomputable def rK(k:Nat)(y:D)(σ:Ev):Out Rv:=
 match y,bA k σ with
 |.int i,some (.lst xs)=>if !fits xs.length then .bad else match ix? xs.length i with
  |some j=>match xs[j]?,eX k (yt fun xs=>some (xs.eraseIdx j)) σ with
   |some d,some ζ=>.ok (.val d) ζ
   |_,_=>.bad
  |none=>.bad
 |_,_=>.bad
def lV:Option D->Bool
 |some (.cH _ _)=>true
 |_=>false
noncomputable def Ag(x y:D):Option Rv:=
 match x with
 |.tup xs=>if flat y&&xs.all flat then some (.val (.int (fH y xs)))else none
 |.lst xs=>if flat y&&xs.all flat then some (.val (.int (fH y xs)))else none
 |_=>none
noncomputable def pI(d k x:D):Option D:=
 match d with
 |.cH ks vs=>if keyOk k then some ((bI k ks vs).getD x)else none
 |_=>none
def Oq:List D->Option Rv
 |[k,v]=>if o4 k then some (.new (.sdt [k] [v]))else none
 |_=>none
def Jq(ds:List D):Option Rv:=if ds.length<=30&& !ds.isEmpty then Oq ds else none
noncomputable def bG:D->Option (List D)
 |.tup xs=>some xs
 |.lst xs=>some xs
 |_=>none
def Kz:D->Option (List D)
 |.jH ks _=>some ks
 |x=>bG x
noncomputable def b1(b:Bi)(x:D):Option Rv:=
 match b with
 |.list=>(Kz x).bind (Qu .list)
 |.len=>(Iz x).map fun n=>.val (.int n)
 |.int=>match x with|.bl b=>some (.val (.int (b2i b)))|.int i=>some (.val (.int i))|_=>none
 |.sorted=>(pF x).bind (Qu .sorted)
 |.copy=>match x with|.cH ks vs=>some (.new (.dct ks vs))|_=>none
 |b=>(bG x).bind (Qu b)
mutual
noncomputable def ev(c:Cf):E->Ev->Out Rv
 |.var i,σ=>rG i σ
 |.con d,σ=>.ok (.val d) σ
 |.glob k,σ=>match c.gl k with|some d=>.ok (.val d) σ|none=>.bad
 |.tup es,σ=>(evs c es σ).bind fun rs σ=>lift σ ((aP rs).bind fun ds=>if fits ds.length then some (.val (.tup ds))else none)
 |.lis es,σ=>(evs c es σ).bind fun rs σ=>lift σ ((aP rs).bind fun ds=>if fits ds.length then some (.new (.lst ds))else none)
 |.op o a b,σ=>(ev c a σ).ao fun x σ=>(ev c b σ).ao fun y σ=>lift σ (binop o x y)
 |.neg a,σ=>(ev c a σ).ao fun x σ=>lift σ (match x with|.int i=>some (.val (.int (-i)))|_=>none)
 |.cmp o a b,σ=>(ev c a σ).ao fun x σ=>match b.au with
  |some k=>lift σ ((bA k σ).bind fun d=>(aG o x d).map fun q=>.val (.bl q))
  |none=>(ev c b σ).ao fun y σ=>lift σ ((aG o x y).map fun q=>.val (.bl q))
 |.chain υ ψ a b d,σ=>(ev c a σ).ao fun x σ=>(ev c b σ).ao fun y σ=>(lift σ (aG υ x y)).bind fun q σ=>
   if q then(ev c d σ).ao fun z σ=>lift σ ((aG ψ y z).map fun q=>.val (.bl q))else .ok (.val (.bl false)) σ
 |.and es,σ=>gZ c es σ
 |.or es,σ=>nF c es σ
 |.not a,σ=>(ev c a σ).cC iU fun b σ=>.ok (.val (.bl (!b))) σ
 |.ite t a b,σ=>(ev c t σ).cC iU fun q σ=>if q then ev c a σ else ev c b σ
 |.idx a i,σ=>match a.au with
  |some k=>if (bA k σ).isNone then .bad else(ev c i σ).ao fun y σ=>lift σ ((bA k σ).bind fun d=>(getD d y).map Rv.val)
  |none=>(ev c a σ).ao fun x σ=>(ev c i σ).ao fun y σ=>lift σ ((getD x y).map Rv.val)
 |.slc a lo hi,σ=>(ev c a σ).ao fun x σ=>(ev c lo σ).ao fun l σ=>match cV lo.jJ l with
  |none=>.bad
  |some l=>(ev c hi σ).ao fun h σ=>lift σ ((cV hi.jJ h).bind fun h=>ik x l h)
 |.noneE,σ=>.ok (.val .non) σ
 |.call f as,σ=>(evs c as σ).bind fun as σ=>tY c f as σ
 |.ref i,σ=>match σ[i]? with
  |some (.own _)=>.ok (.ref i) σ
  |some (.bor _)=>.ok (.ref i) σ
  |_=>.bad
 |.rd e,σ=>ev c e σ
 |.tmp e,σ=>(ev c e σ).bind fun x σ=>lift σ (match x with|.new o=>some (.tmp o)|_=>none)
 |.isi a t,σ=>(ev c a σ).ao fun x σ=>.ok (.val (.bl (oZ t x))) σ
 |.bi b a,σ=>match a.au with
  |some k=>lift σ ((bA k σ).bind fun d=>b1 b d)
  |none=>(ev c a σ).ao fun x σ=>lift σ (b1 b x)
 |.range1 a,σ=>(ev c a σ).ao fun x σ=>lift σ (match x with|.int n=>if fits n.toNat&&Be n then some (.val (.lst (bw 0 n.toNat)))else none|_=>none)
 |.zip a b,σ=>(ev c a σ).ao fun x σ=>(ev c b σ).ao fun y σ=>lift σ ((bG x).bind fun xs=>(bG y).map fun ys=>.val (.lst (aR xs ys)))
 |.count a b,σ=>(ev c a σ).ao fun x σ=>if (bG x).isNone then .bad else(ev c b σ).ao fun y σ=>lift σ (Ag x y)
 |.popAt k a,σ=>if !dU (bA k σ)then .bad else(ev c a σ).ao fun y σ=>rK k y σ
 |.get2 d k x,σ=>match d.au with
  |some i=>if !lV (bA i σ)then .bad else(ev c k σ).ao fun k σ=>(ev c x σ).ao fun x σ=>lift σ ((bA i σ).bind fun y=>(pI y k x).map Rv.val)
  |none=>.bad
 |.dsp es,σ=>(evs c es σ).bind fun rs σ=>lift σ ((aP rs).bind Jq)
 |.tcall f as hs,σ=>(evs c as σ).bind fun as σ=>jQ c f hs as σ
 |.emp,σ=>.ok (.new (.dct [] [])) σ
 |.enum a,σ=>(ev c a σ).ao fun x σ=>lift σ ((pF x).map fun xs=>.val (.lst (aR (bw 0 xs.length) xs)))
 |.comp nl tg it cond elt,σ=>(ev c it σ).ao fun x σ=>match items x with
  |some xs=>match aV tg (ev c cond) (ev c elt) xs [] (List.replicate nl .un++σ)with
   |.ok ys τ=>.ok (.new (.lst ys)) (τ.drop nl)
   |_=>.bad
  |none=>.bad
 |.nil,_=>.bad
 |.cons _ _,_=>.bad
noncomputable def gZ(c:Cf):E->Ev->Out Rv
 |.cons h t,σ=>match t with
  |.nil=>ev c h σ
  |t=>(ev c h σ).ao fun x σ=>match x with|.bl true=>gZ c t σ|.bl false=>.ok (.val (.bl false)) σ|_=>.bad
 |_,_=>.bad
noncomputable def nF(c:Cf):E->Ev->Out Rv
 |.cons h t,σ=>match t with
  |.nil=>ev c h σ
  |t=>(ev c h σ).ao fun x σ=>match x with|.bl true=>.ok (.val (.bl true)) σ|.bl false=>nF c t σ|_=>.bad
 |_,_=>.bad
noncomputable def evs(c:Cf):E->Ev->Out (List Rv)
 |.nil,σ=>.ok [] σ
 |.cons h t,σ=>(ev c h σ).bind fun x σ=>(evs c t σ).bind fun xs σ=>.ok (argv x::xs) σ
 |_,_=>.bad
end
inductive Fl where
 |next (σ:Ev)|ret (r:Rv) (σ:Ev)|brk (σ:Ev)|cont (σ:Ev)|exc (k:Nat) (σ:Ev)|bad
noncomputable def Out.fl{α:Type}:Out α->(α->Ev->Fl)->Fl
 |.ok a σ,f=>f a σ
 |.exc k σ,_=>.exc k σ
 |.bad,_=>.bad
noncomputable def Out.qi:Out Rv->(D->Ev->Fl)->Fl
 |.ok (.val d) σ,f=>f d σ
 |.ok (.new o) σ,f=>f o.d σ
 |.ok _ _,_=>.bad
 |.exc k σ,_=>.exc k σ
 |.bad,_=>.bad
def Out.Dj(r:Out Rv)(f:Bool->Ev->Fl):Fl:=r.qi fun d σ=>match iU d with|some b=>f b σ|none=>.bad
noncomputable def wR:Rv->Ev->Fl
 |.val d,σ=>.ret (.val d) σ
 |.new o,σ=>.ret (.new o) σ
 |_,_=>.bad
def Fl.seq:Fl->(Ev->Fl)->Fl
 |.next σ,f=>f σ
 |r,_=>r
noncomputable def Fl.turn:Fl->(Ev->Fl)->Fl
 |.next σ,f=>f σ
 |.cont σ,f=>f σ
 |.brk σ,_=>.next σ
 |r,_=>r
noncomputable def aL(tg:Tg)(b:Ev->Fl):List D->Ev->Fl
 |[],σ=>.next σ
 |x::xs,σ=>match aX tg x σ with
  |none=>.bad
  |some Φ=>(b Φ).turn (aL tg b xs)
def cY(t:Ev->Out Rv)(b:Ev->Fl):Nat->Ev->Fl
 |0,_=>.bad
 |n+1,σ=>(t σ).Dj fun q σ=>if q then(b σ).turn (cY t b n)else .next σ
def Ij:Option Ev->Fl
 |some σ=>.next σ
 |none=>.bad
noncomputable def v9(c:Cf)(f:Nat)(as:List Rv)(σ:Ev):Fl:=
 match enter as σ with
 |none=>.bad
 |some ps=>
  match c.fn f ps with
  |.ok _ qs=>Ij (giveBack as qs σ)
  |.exc k qs=>match giveBack as qs σ with|some ζ=>.exc k ζ|none=>.bad
  |.bad=>.bad
noncomputable def ex(c:Cf):S->Ev->Fl
 |.nil,σ=>.next σ
 |.cons h t,σ=>(ex c h σ).seq (ex c t)
 |.pass,σ=>.next σ
 |.brk,σ=>.brk σ
 |.cont,σ=>.cont σ
 |.set i e,σ=>(ev c e σ).fl fun x σ=>Ij (x.Bu.bind fun s=>bL i s σ)
 |.setT is e,σ=>(ev c e σ).qi fun x σ=>Ij (aX (.tup is) x σ)
 |.setIx k ix e,σ=>(ev c e σ).qi fun x σ=>if (bA k σ).isNone then .bad else(ev c ix σ).qi fun y σ=>Ij (eX k (wY y x) σ)
 |.expr e,σ=>(ev c e σ).qi fun _ σ=>.next σ
 |.append k e,σ=>if !dU (bA k σ)then .bad else(ev c e σ).qi fun x σ=>Ij (eX k (yt fun xs=>if fits (xs.length+1)then some (xs++[x])else none) σ)
 |.ret e,σ=>match e.au with
  |some i=>match σ[i]? with
   |some (.own o)=>.ret (.new o) (σ.set i .un)
   |_=>(ev c e σ).fl wR
  |none=>(ev c e σ).fl wR
 |.ite t a b,σ=>(ev c t σ).Dj fun q σ=>if q then ex c a σ else ex c b σ
 |.for_ tg it b,σ=>(ev c it σ).qi fun x σ=>match items x with
  |some xs=>aL tg (ex c b) xs σ
  |none=>.bad
 |.while_ t b,σ=>cY (ev c t) (ex c b) c.turns σ
 |.raise k,σ=>.exc k σ
 |.callx f as,σ=>(evs c as σ).fl fun as σ=>v9 c f as σ
structure Fn where
 pars:Nat
 names:Nat
 body:S
noncomputable def fU(c:Cf)(f:Fn)(ps:List Sl):Res:=
 if ps.length=f.pars then
  match ex c f.body (ps++List.replicate (f.names-f.pars) .un)with
  |.next σ=>.ok (.val .non) (σ.take f.pars)
  |.ret r σ=>.ok r (σ.take f.pars)
  |.exc k σ=>.exc k (σ.take f.pars)
  |_=>.bad
 else .bad
structure Pg where
 fns:List Fn
 gl:Nat->Option D
 turns:Nat
noncomputable def Pg.fn(p:Pg):Nat->Nat->List Sl->Res
 |0,_,_=>.bad
 |n+1,f,ps=>match p.fns[f]? with
  |some g=>fU ⟨p.fn n,p.gl,p.turns⟩ g ps
  |none=>.bad
def Pg.cf(p:Pg)(n:Nat):Cf:=⟨p.fn n,p.gl,p.turns⟩
def v_0 c(i σ):ev c (.var i) σ=rG i σ:=rfl
def v_2 c(k σ):ev c (.glob k) σ=match c.gl k with|some d=>.ok (.val d) σ|none=>.bad:=rfl
def v_5 c(o a b σ):ev c (.op o a b) σ=(ev c a σ).ao fun x σ=>(ev c b σ).ao fun y σ=>lift σ (binop o x y):=rfl
def v_6 c(a σ):ev c (.neg a) σ=(ev c a σ).ao fun x σ=>lift σ (match x with|.int i=>some (.val (.int (-i)))|_=>none):=rfl
theorem v_7 c(o a b σ):ev c (.cmp o a b) σ=(ev c a σ).ao fun x σ=>match b.au with
  |some k=>lift σ ((bA k σ).bind fun d=>(aG o x d).map fun q=>.val (.bl q))
  |none=>(ev c b σ).ao fun y σ=>lift σ ((aG o x y).map fun q=>.val (.bl q)):=rfl
def v_9 c(es σ):ev c (.and es) σ=gZ c es σ:=rfl
def QH c(es σ):ev c (.or es) σ=nF c es σ:=rfl
def aa1 c(a σ):ev c (.not a) σ=(ev c a σ).cC iU fun b σ=>.ok (.val (.bl (!b))) σ:=rfl
theorem Wx c(a i σ):ev c (.idx a i) σ=match a.au with
  |some k=>if (bA k σ).isNone then .bad else(ev c i σ).ao fun y σ=>lift σ ((bA k σ).bind fun d=>(getD d y).map Rv.val)
  |none=>(ev c a σ).ao fun x σ=>(ev c i σ).ao fun y σ=>lift σ ((getD x y).map Rv.val):=rfl
def aeH c(f as σ):ev c (.call f as) σ=(evs c as σ).bind fun as σ=>tY c f as σ:=rfl
theorem aa0 c(i σ):ev c (.ref i) σ=match σ[i]? with
  |some (.own _)=>.ok (.ref i) σ
  |some (.bor _)=>.ok (.ref i) σ
  |_=>.bad:=rfl
def aaZ c(e σ):ev c (.rd e) σ=ev c e σ:=rfl
def aeG c(e σ):ev c (.tmp e) σ=(ev c e σ).bind fun x σ=>lift σ (match x with|.new o=>some (.tmp o)|_=>none):=rfl
theorem uC c(b a σ):ev c (.bi b a) σ=match a.au with
  |some k=>lift σ ((bA k σ).bind fun d=>b1 b d)
  |none=>(ev c a σ).ao fun x σ=>lift σ (b1 b x):=rfl
def aeF c(a σ):ev c (.range1 a) σ=(ev c a σ).ao fun x σ=>lift σ (match x with|.int n=>if fits n.toNat&&Be n then some (.val (.lst (bw 0 n.toNat)))else none|_=>none):=rfl
def aeE c(a b σ):ev c (.zip a b) σ=(ev c a σ).ao fun x σ=>(ev c b σ).ao fun y σ=>lift σ ((bG x).bind fun xs=>(bG y).map fun ys=>.val (.lst (aR xs ys))):=rfl
def aeD c(k a σ):ev c (.popAt k a) σ=if !dU (bA k σ)then .bad else(ev c a σ).ao fun y σ=>rK k y σ:=rfl
theorem qJ c(nl tg it cond elt σ):ev c (.comp nl tg it cond elt) σ=(ev c it σ).ao fun x σ=>match items x with
  |some xs=>match aV tg (ev c cond) (ev c elt) xs [] (List.replicate nl .un++σ)with
   |.ok ys τ=>.ok (.new (.lst ys)) (τ.drop nl)
   |_=>.bad
  |none=>.bad:=rfl
theorem Ww c(d k x σ):ev c (.get2 d k x) σ=match d.au with
  |some i=>if !lV (bA i σ)then .bad else(ev c k σ).ao fun k σ=>(ev c x σ).ao fun x σ=>lift σ ((bA i σ).bind fun y=>(pI y k x).map Rv.val)
  |none=>.bad:=rfl
def aeC c(es σ):ev c (.dsp es) σ=(evs c es σ).bind fun rs σ=>lift σ ((aP rs).bind Jq):=rfl
def aeB c(f as hs σ):ev c (.tcall f as hs) σ=(evs c as σ).bind fun as σ=>jQ c f hs as σ:=rfl
def x_0 c(σ):ex c .nil σ=.next σ:=rfl
def x_1 c(h t σ):ex c (.cons h t) σ=(ex c h σ).seq (ex c t):=rfl
def x_5 c(i e σ):ex c (.set i e) σ=(ev c e σ).fl fun x σ=>Ij (x.Bu.bind fun s=>bL i s σ):=rfl
def x_9 c(k e σ):ex c (.append k e) σ=if !dU (bA k σ)then .bad else(ev c e σ).qi fun x σ=>Ij (eX k (yt fun xs=>if fits (xs.length+1)then some (xs++[x])else none) σ):=rfl
theorem Bj c(e σ):ex c (.ret e) σ=match e.au with
  |some i=>match σ[i]? with
   |some (.own o)=>.ret (.new o) (σ.set i .un)
   |_=>(ev c e σ).fl wR
  |none=>(ev c e σ).fl wR:=rfl
def aey c(t a b σ):ex c (.ite t a b) σ=(ev c t σ).Dj fun q σ=>if q then ex c a σ else ex c b σ:=rfl
theorem aaT c(tg it b σ):ex c (.for_ tg it b) σ=(ev c it σ).qi fun x σ=>match items x with
  |some xs=>aL tg (ex c b) xs σ
  |none=>.bad:=rfl
def aex c(f as σ):ex c (.callx f as) σ=(evs c as σ).fl fun as σ=>v9 c f as σ:=rfl
end Mini
end
section
namespace Mini
open PySem L2
def Hg(K:QQq)(H:Hp)(a:Addr)(xs:List V):Prop:=
 (∃o,H a=some (.frz o (.lst xs)))\/
  ∃(o:Obj)(its:Array Value)(n:Nat),K.lookup a=some o/\o.cls=.type "list"/\o.dict=none/\o.data=.seq its n/\its.size<=sizeLine/\Vals xs its.toList
def Hg.sq{H:Hp}{xs:List V}(h:Hg K H a xs):km K H a xs:=by
 rcases h with ⟨o,h⟩|h
 ·exact .inl (.inr ⟨o,h⟩)
 ·exact .inr h
def dN:Key->D
 |.inl i=>.int i
 |.inr x=>.str x
def fQ(k:SK):D:=.tup [.tup (k.1.map .bl),.int k.2]
mutual
def bM(K:QQq)(H:Hp):D->V->Prop
 |.non,v=>v=.non
 |.bl b,v=>v=.bl b
 |.int i,v=>v=.int i
 |.str x,v=>v=.str x
 |.tup ds,v=>∃a vs,v=.ref a/\iV K H a vs/\ak K H ds vs
 |.lst ds,v=>∃a vs,v=.ref a/\Hg K H a vs/\ak K H ds vs
 |.cH ks ds,v=>∃a o kvs,v=.ref a/\H a=some (.frz o (.dK kvs))/\ks=kvs.map (fun p=>dN p.1)/\ak K H ds (kvs.map (·.2))
 |.jH ks ds,v=>∃a o xs,v=.ref a/\H a=some (.frz o (.dS xs))/\ks=xs.map (fun x=>fQ x.1)/\(∀x∈xs,cA K H x.1 x.2.1)/\ak K H ds (xs.map (·.2.2))
def ak(K:QQq)(H:Hp):List D->List V->Prop
 |[],vs=>vs=[]
 |d::ds,vs=>∃v r,vs=v::r/\bM K H d v/\ak K H ds r
end
structure bV(H H':Hp):Prop where
 tups:∀b xs,H b=some (.tup xs)->H' b=some (.tup xs)
 frzs:∀b o u,H b=some (.frz o u)->H' b=some (.frz o u)
def bV.refl H:bV H H:=⟨fun _ _ h=>h,fun _ _ _ h=>h⟩
def bV.trans(a:bV H H1)(b:bV H1 H2):bV H H2:=⟨fun c xs h=>b.tups c xs (a.tups c xs h),fun c o u h=>b.frzs c o u (a.frzs c o u h)⟩
section
def bV.Hu(p:bV H H')(h:iV K H a xs):iV K H' a xs:=by
 rcases h with (h|⟨o,h⟩)|h
 ·exact .inl (.inl (p.tups _ _ h))
 ·exact .inl (.inr ⟨o,p.frzs _ _ _ h⟩)
 ·exact .inr h
def bV.Gu(p:bV H H')(h:Hg K H a xs):Hg K H' a xs:=by
 rcases h with ⟨o,h⟩|h
 ·exact .inl ⟨o,p.frzs _ _ _ h⟩
 ·exact .inr h
mutual
theorem bM.mono(p:bV H H'):∀{d:D}{v:V},bM K H d v->bM K H' d v
 |.non,_,h=>h
 |.bl _,_,h=>h
 |.int _,_,h=>h
 |.str _,_,h=>h
 |.tup ds,v,h=>by
  obtain⟨a,vs,e,s,l⟩:=h
  exact⟨a,vs,e,p.Hu s,ak.mono p l⟩
 |.lst ds,v,h=>by
  obtain⟨a,vs,e,s,l⟩:=h
  exact⟨a,vs,e,p.Gu s,ak.mono p l⟩
 |.cH ks ds,v,h=>by
  obtain⟨a,o,kvs,e,s,k,l⟩:=h
  exact⟨a,o,kvs,e,p.frzs _ _ _ s,k,ak.mono p l⟩
 |.jH ks ds,v,h=>by
  obtain⟨a,o,xs,e,s,k,ka,l⟩:=h
  exact⟨a,o,xs,e,p.frzs _ _ _ s,k,fun x hx=>let ⟨b,q1,q2⟩:=ka x hx;⟨b,p.Hu q1,p.Hu q2⟩,ak.mono p l⟩
theorem ak.mono(p:bV H H'):∀{ds:List D}{vs:List V},ak K H ds vs->ak K H' ds vs
 |[],_,h=>by unfold ak at h⊢;exact h
 |d::ds,vs,h=>by
  obtain⟨v,r,e,s,l⟩:=h
  exact⟨v,r,e,bM.mono p s,ak.mono p l⟩
end
def ak.bF:ak K H [] vs↔vs=[]:=by unfold ak;exact Iff.rfl
def ak.aN{ds:List D}:ak K H (d::ds) vs↔ ∃v r,vs=v::r/\bM K H d v/\ak K H ds r:=by
 constructor
 ·intro h;unfold ak at h;exact h
 ·intro h;unfold ak;exact h
def ak.cR{ds:List D}{vs:List V}(h:bM K H d v)(t:ak K H ds vs):ak K H (d::ds) (v::vs):=ak.aN.mpr ⟨v,vs,rfl,h,t⟩
def ak.fj:ak K H [] []:=ak.bF.mpr rfl
theorem ak.length:∀{ds:List D}{vs:List V},ak K H ds vs->ds.length=vs.length
 |[],_,h=>by rw[ak.bF.mp h];rfl
 |d::ds,vs,h=>by
  obtain⟨v,r,rfl,_,t⟩:=ak.aN.mp h
  simp[ak.length t]
theorem ak.get:∀{ds:List D}{vs:List V}{i:Nat}{d:D},ak K H ds vs->ds[i]? =some d->∃v,vs[i]? =some v/\bM K H d v
 |[],_,_,_,_,e=>by simp at e
 |d::ds,vs,i,d',h,e=>by
  obtain⟨v,r,rfl,hd,t⟩:=ak.aN.mp h
  cases i with
  |zero=>simp at e;subst e;exact⟨v,rfl,hd⟩
  |succ i=>obtain⟨w,q,z⟩:=ak.get t (by simpa using e);exact⟨w,by simpa using q,z⟩
theorem ak.append:∀{ds es:List D}{vs ws:List V},ak K H ds vs->ak K H es ws->ak K H (ds++es) (vs++ws)
 |[],_,_,_,h,t=>by rw[ak.bF.mp h];exact t
 |d::ds,es,vs,ws,h,t=>by
  obtain⟨v,r,rfl,hd,q⟩:=ak.aN.mp h
  exact ak.cR hd (ak.append q t)
theorem ak.take:∀{ds:List D}{vs:List V}(n:Nat),ak K H ds vs->ak K H (ds.take n) (vs.take n)
 |_,_,0=>fun _=>ak.fj
 |[],_,_+1=>fun h=>by rw[ak.bF.mp h];exact ak.fj
 |d::ds,vs,n+1=>fun h=>by
  obtain⟨v,r,rfl,hd,q⟩:=ak.aN.mp h
  exact ak.cR hd (ak.take n q)
theorem ak.drop:∀{ds:List D}{vs:List V}(n:Nat),ak K H ds vs->ak K H (ds.drop n) (vs.drop n)
 |_,_,0=>fun h=>h
 |[],_,_+1=>fun h=>by rw[ak.bF.mp h];exact ak.fj
 |d::ds,vs,n+1=>fun h=>by
  obtain⟨v,r,rfl,hd,q⟩:=ak.aN.mp h
  exact ak.drop n q
theorem ak.eraseIdx:∀{ds:List D}{vs:List V}(n:Nat),ak K H ds vs->ak K H (ds.eraseIdx n) (vs.eraseIdx n)
 |[],_,_=>fun h=>by rw[ak.bF.mp h];exact ak.fj
 |d::ds,vs,0=>fun h=>by
  obtain⟨v,r,rfl,hd,q⟩:=ak.aN.mp h
  exact q
 |d::ds,vs,n+1=>fun h=>by
  obtain⟨v,r,rfl,hd,q⟩:=ak.aN.mp h
  exact ak.cR hd (ak.eraseIdx n q)
theorem ak.set{v:V}(hd:bM K H d v):∀{ds:List D}{vs:List V}(n:Nat),ak K H ds vs->ak K H (ds.set n d) (vs.set n v)
 |[],_,_=>fun h=>by rw[ak.bF.mp h];exact ak.fj
 |e::ds,vs,0=>fun h=>by
  obtain⟨w,r,rfl,he,q⟩:=ak.aN.mp h
  exact ak.cR hd q
 |e::ds,vs,n+1=>fun h=>by
  obtain⟨w,r,rfl,he,q⟩:=ak.aN.mp h
  exact ak.cR he (ak.set hd n q)
end
def isOwn:Sl->Option Ob
 |.own o=>some o
 |.bor o=>some o
 |_=>none
def JQ(K:QQq)(H:Hp):Ob->HO->Prop
 |.lst xs,u=>∃vs,u=.lst vs/\ak K H xs vs
 |.dct ks ds,u=>∃kvs,u=.dK kvs/\ks=kvs.map (fun p=>dN p.1)/\ak K H ds (kvs.map (·.2))
 |.sdt ks ds,u=>∃xs,u=.dS xs/\ks=xs.map (fun x=>fQ x.1)/\(∀x∈xs,cA K H x.1 x.2.1)/\ak K H ds (xs.map (·.2.2))
theorem JQ.mono{H H':Hp}(p:bV H H'):∀{o:Ob}{u:HO},JQ K H o u->JQ K H' o u
 |.lst _,_,⟨vs,e,l⟩=>⟨vs,e,l.mono p⟩
 |.dct _ _,_,⟨kvs,e,k,l⟩=>⟨kvs,e,k,l.mono p⟩
 |.sdt _ _,_,⟨xs,e,k,ka,l⟩=>⟨xs,e,k,fun x hx=>let ⟨b,q1,q2⟩:=ka x hx;⟨b,p.Hu q1,p.Hu q2⟩,l.mono p⟩
structure Qx(u:HO):Prop where
 tup:∀xs,u≠ .tup xs
 frz:∀q w,u≠ .frz q w
 tbl:∀ps,u≠ .tbl ps
 own:∀x,u≠ .own x
theorem JQ.vp{H:Hp}:∀{o:Ob}{u:HO},JQ K H o u->Qx u
 |.lst _,_,⟨vs,e,_⟩=>by
  subst e
  constructor
  all_goals (intros;intro z;cases z)
 |.dct _ _,_,⟨kvs,e,_⟩=>by
  subst e
  constructor
  all_goals (intros;intro z;cases z)
 |.sdt _ _,_,⟨xs,e,_⟩=>by
  subst e
  constructor
  all_goals (intros;intro z;cases z)
def jG(K:QQq)(H:Hp)(o:Ob)(a:Addr):Prop:=∃u,H a=some u/\JQ K H o u
def Uh(K:QQq)(H:Hp):Sl->Option V->Prop
 |.un,_=>True
 |.val d,o=>∃v,o=some v/\bM K H d v
 |.own q,o=>∃a,o=some (.ref a)/\jG K H q a
 |.bor q,o=>∃a,o=some (.ref a)/\jG K H q a
def aQ(env:Ev)(σ:St)(i:Nat)(a:Addr):Prop:=(∃s xs,env[i]? =some s/\isOwn s=some xs)/\σ[i]? =some (some (.ref a))
structure Sat(K:QQq)(env:Ev)(σ:St)(H:Hp):Prop where
 len:env.length=σ.length
 sl:∀(i:Nat)s,env[i]? =some s->Uh K H s (σ[i]?).join
 ne:∀(i j:Nat)a,aQ env σ i a->aQ env σ j a->i=j
structure Nx(K:QQq)(env:Ev)(σ:St)(H:Hp)(env':Ev)(H':Hp):Prop where
 dX:Sat K env' σ H'
 sub:∀(i:Nat)a,aQ env' σ i a->aQ env σ i a
 pers:bV H H'
 keep:∀b u,H b=some u->(∀i,¬aQ env σ i b)->H' b=some u
 dom:∀b,H' b=none->H b=none
 bors:∀(i:Nat)xs,env[i]? =some (.bor xs)->∃ys,env'[i]? =some (.bor ys)
section
theorem Nx.refl(h:Sat K env σ H):Nx K env σ H env H:=⟨h,fun _ _ z=>z,bV.refl H,fun _ _ z _=>z,fun _ z=>z,fun _ xs e=>⟨xs,e⟩⟩
theorem Nx.trans(a:Nx K env σ H γ H1)(b:Nx K γ σ H1 ε H2):Nx K env σ H ε H2:=
 ⟨b.dX,fun i c z=>a.sub i c (b.sub i c z),a.pers.trans b.pers,fun c vs z n=>b.keep c vs (a.keep c vs z n) fun i w=>n i (a.sub i c w),fun c z=>a.dom c (b.dom c z),fun i xs e=>let ⟨ys,e1⟩:=a.bors i xs e;b.bors i ys e1⟩
theorem Sat.own(h:Sat K env σ H){a:Addr}(o:aQ env σ i a):∃q,jG K H q a:=by
 obtain⟨⟨s,xs,e1,e2⟩,e3⟩:=o
 have q:=h.sl i s e1
 rw[e3]at q
 cases s with
 |un=>simp[isOwn]at e2
 |val d=>simp[isOwn]at e2
 |own ys=>obtain⟨b,e,z⟩:=q;cases e;exact⟨ys,z⟩
 |bor ys=>obtain⟨b,e,z⟩:=q;cases e;exact⟨ys,z⟩
def Sat.my(h:Sat K env σ H)(hn:H a=none)i:¬aQ env σ i a:=fun o=>by
 obtain⟨q,u,z,_⟩:=h.own o
 rw[hn]at z;cases z
end
def gP(K:QQq)(σ:St)(H₀ H:Hp):Rv->V->Prop
 |.val d,v=>bM K H d v
 |.new q,v=>∃a,v=.ref a/\jG K H q a/\H₀ a=none
 |.tmp q,v=>∃a,v=.ref a/\jG K H q a/\H₀ a=none
 |.ref i,v=>σ[i]? =some (some v)
abbrev Wi:=Nat->Ev->St->Hp->Prop
def tM(K:QQq)(W:Wi)(env:Ev)(r:Out Rv):TE:=fun σ H Q=>Sat K env σ H/\match r with
 |.ok x env'=>∀v H',Nx K env σ H env' H'->gP K σ H H' x v->Q v H'
 |.exc c env'=>∀H',Nx K env σ H env' H'->W c env' σ H'
 |.bad=>False
def tD(K:QQq)(W:Wi)(env:Ev)(r:Out Rv):TE:=fun σ H Q=>Sat K env σ H/\match r with
 |.ok (.val d) env'=>∀v H',Nx K env σ H env' H'->bM K H' d v->Q v H'
 |.ok (.new q) env'=>∀v H',Nx K env σ H env' H'->bM K H' q.d v->Q v H'
 |.ok _ _=>False
 |.exc c env'=>∀H',Nx K env σ H env' H'->W c env' σ H'
 |.bad=>False
def tT(K:QQq)(W:Wi)(env:Ev)(r:Out Rv):TT:=fun σ H Q=>Sat K env σ H/\match r with
 |.ok x env'=>∃d b,x.jF=some d/\iU d=some b/\∀H',Nx K env σ H env' H'->Q b H'
 |.exc c env'=>∀H',Nx K env σ H env' H'->W c env' σ H'
 |.bad=>False
def PE.imp{e:Expr}(h:PE X e t)(i:∀σ H Q,t' σ H Q->t σ H Q):PE X e t':=fun δ s σ H Q I q=>h δ s σ H Q I (i σ H Q q)
def PT.imp{e:Expr}(h:PT X e t)(i:∀σ H Q,t' σ H Q->t σ H Q):PT X e t':=fun δ s σ H Q I q=>h δ s σ H Q I (i σ H Q q)
def _root_.L2.cg.there{w:World}{h:Heap}{o:HO}(x:cg P w H h a o):∃u,h.get? a=some u:=by
 cases o with
 |lst xs=>obtain⟨_,_,_,_,e⟩:=x;exact⟨_,e⟩
 |tup xs=>obtain⟨_,_,_,p⟩:=x;obtain⟨o,e,_⟩:=p;exact⟨_,e⟩
 |dK kvs=>obtain⟨_,_,_,_,o,_,_,e,_⟩:=x;exact⟨_,e⟩
 |dT kvs=>obtain⟨_,_,_,_,o,_,_,e,_⟩:=x;exact⟨_,e⟩
 |dS xs=>obtain⟨_,_,_,_,o,_,_,_,e,_⟩:=x;exact⟨_,e⟩
 |set S n=>obtain⟨o,_,_,_,e,_⟩:=x;exact⟨_,e⟩
 |ins C dx fs=>obtain⟨_,_,_,e,_⟩:=x;exact⟨_,e⟩
 |own y=>obtain⟨_,e⟩:=x;exact⟨_,e⟩
 |xd fs=>obtain⟨_,⟨_,_,_,e,_⟩,_⟩:=x;exact⟨_,e⟩
 |rng lo hi=>obtain⟨_,_,_,e⟩:=x;exact⟨_,e⟩
 |frz ob u=>obtain⟨e,_⟩:=x;exact⟨_,e⟩
 |tbl ps=>exact⟨_,show h.get? a=some _ from x⟩
 |met f y=>exact⟨_,show h.get? a=some _ from x⟩
 |ext φ=>obtain⟨_,⟨_,e⟩,_⟩:=x;exact⟨_,e⟩
def Inv.freeze{X:Cx}{σ:St}{H:Hp}{a:Addr}(I:Inv X δ σ H s)(h:H a=some u)(hu:Qx u):
  ∃o,Inv X δ σ (upd H a (.frz o u)) s:=by
 obtain⟨o,ho⟩:=(I.hok a _ h).there
 refine⟨o,?_⟩
 have ne:∀b w,H b=some w->w≠u->b≠a:=fun b w q n z=>by subst z;rw[h]at q;cases q;exact n rfl
 have stay:∀b w,b≠a->H b=some w->upd H a (.frz o u) b=some w:=fun b w n q=>by rw[aC n];exact q
 have hok:kE X.prog X.w (upd H a (.frz o u)) s.heap:=fun b w q=>by
  have st:∀c v,cg X.prog X.w H s.heap c v->cg X.prog X.w _ s.heap c v:=fun c v z=>
   z.stay (fun c v _ q=>q) (fun e q=>stay e _ (ne e _ q (hu.own c).symm) q) fun e xs q=>stay e _ (ne e _ q (hu.tup xs).symm) q
  by_cases hb:b=a
  ·subst hb
   rw[aU]at q
   cases q
   exact⟨ho,st _ _ (I.hok b _ h)⟩
  ·rw[aC hb]at q
   exact st _ _ (I.hok b w q)
 have J:=I.step (t':=s.toks) (d':=s.drawn) (ch:=[]) (fun _ z=>nomatch z)
  (fun b o _ _ _ q _=>q) (fun b o _ _ _ q _=>⟨o.slots,q⟩) (fun b o _ q n=>by
   rw[aC (fun z=>by subst z;rw[h]at n;cases n)];exact n) (fun b o _ q=>⟨o,q⟩)
  (fun b xs q=>stay b _ (ne b _ q (hu.tup xs).symm) q) (fun b o w q=>stay b _ (ne b _ q (hu.frz o w).symm) q) (fun b ps q=>⟨#[],by rw[stay b _ (ne b _ q (hu.tbl ps).symm) q];simp⟩) (fun m q=>q) hok I.bare
 exact J
section
def gR(h:H a=some u)(hu:Qx u):bV H (upd H a (.frz o u)):=by
 refine⟨fun b xs q=>?_,fun b o' w q=>?_⟩
 ·rw[aC (fun z=>by subst z;rw[h]at q;cases q;exact hu.tup xs rfl)];exact q
 ·rw[aC (fun z=>by subst z;rw[h]at q;cases q;exact hu.frz o' w rfl)];exact q
def JQ.den(h:JQ K H' q u)(e:H' a=some (.frz o u)):bM K H' q.d (.ref a):=by
 cases q with
 |lst xs=>
  obtain⟨vs,rfl,l⟩:=h
  exact⟨a,vs,rfl,.inl ⟨o,e⟩,l⟩
 |dct ks ds=>
  obtain⟨kvs,rfl,k,l⟩:=h
  exact⟨a,o,kvs,rfl,e,k,l⟩
 |sdt ks ds=>
  obtain⟨xs,rfl,k,ka,l⟩:=h
  exact⟨a,o,xs,rfl,e,k,ka,l⟩
def Uh.keep{sl:Sl}(p:bV H H')(h:Uh K H sl v)(k:∀b u,isOwn sl≠none->v=some (.ref b)->H b=some u->H' b=some u):Uh K H' sl v:=by
 cases sl with
 |un=>trivial
 |val d=>obtain⟨v,e1,e2⟩:=h;exact⟨v,e1,e2.mono p⟩
 |own q=>
  obtain⟨b,e1,w,e2,e3⟩:=h
  exact⟨b,e1,w,k b w (by simp[isOwn]) e1 e2,e3.mono p⟩
 |bor q=>
  obtain⟨b,e1,w,e2,e3⟩:=h
  exact⟨b,e1,w,k b w (by simp[isOwn]) e1 e2,e3.mono p⟩
def w6{sl:Sl}(e:env[i]? =some sl)(ho:isOwn sl≠none)(ev:(σ[i]?).join=some (.ref b)):aQ env σ i b:=by
 refine⟨?_,?_⟩
 ·cases q:isOwn sl with
  |none=>exact absurd q ho
  |some o=>exact⟨sl,o,e,q⟩
 ·cases w:σ[i]? with
  |none=>rw[w]at ev;cases ev
  |some y=>rw[w]at ev;simp at ev;rw[ev]
theorem Sat.keep(S:Sat K env σ H)(p:bV H H')(k:∀i b u,aQ env σ i b->H b=some u->H' b=some u):Sat K env σ H':=
 ⟨S.len,fun i sl e=>(S.sl i sl e).keep p fun b u ho ev hb=>k i b u (w6 e ho ev) hb,S.ne⟩
def Sat.freeze(S:Sat K env σ H)(h:H a=some u)(hu:Qx u)(no:∀i,¬aQ env σ i a):Sat K env σ (upd H a (.frz o u)):=
 S.keep (gR h hu) fun i b w ow hb=>by
  rw[aC (fun z=>by subst z;exact no i ow)];exact hb
end
def Lp{W:Wi}{env:Ev}(h:PE X e (tM X.K W env r)):PE X e (tD X.K W env r):=by
 intro δ s σ H Q I q
 obtain⟨S,q⟩:=q
 cases r with
 |bad=>exact q.elim
 |exc c env'=>exact h δ s σ H Q I ⟨S,q⟩
 |ok x env'=>
  cases x with
  |val d=>exact h δ s σ H Q I ⟨S,q⟩
  |ref i=>exact False.elim q
  |tmp xs=>exact False.elim q
  |new xs=>
   refine b8 (h δ s σ H (fun v H'=>Nx X.K env σ H env' H'/\gP X.K σ H H' _ v) I ⟨S,fun v H' n k=>⟨n,k⟩⟩) fun u s1⟨v,H1,I1,r1,N,k⟩=>?_
   obtain⟨a,rfl,⟨u,ha,hl⟩,h0⟩:=k
   have hu:=hl.vp
   obtain⟨o,I2⟩:=Inv.freeze I1 ha hu
   have p:=gR (o:=o) ha hu
   refine⟨.ref a,_,I2,r1,q _ _ ⟨N.dX.freeze ha hu (fun i z=>S.my h0 i (N.sub i a z)),N.sub,N.pers.trans p,fun b ws z n=>?_,fun b z=>?_,N.bors⟩ ((hl.mono p).den aU)⟩
   ·rw[aC (fun w=>by subst w;rw[h0]at z;cases z)];exact N.keep b ws z n
   ·refine N.dom b ?_
    by_cases hb:b=a
    ·subst hb;rw[aU]at z;cases z
    ·rw[aC hb]at z;exact z
theorem Aj:∀{bs:List D}{cs:List Bool},bools bs=some cs->bs=cs.map .bl
 |[],_,e=>by cases e;rfl
 |d::bs,cs,e=>by
  cases d with
  |bl b=>
   simp only[bools,QJz]at e
   obtain⟨r,e1,rfl⟩:=e
   simp[Aj e1]
  |_=>cases e
theorem GZ{H:Hp}:∀{cs:List Bool}{vs:List V},ak K H (cs.map .bl) vs->vs=cs.map .bl
 |[],vs,h=>ak.bF.mp h
 |c::cs,vs,h=>by
  obtain⟨v,r,rfl,h1,h2⟩:=ak.aN.mp h
  cases h1
  rw[GZ h2]
  rfl
def jZ(h:o4 x=true):∃k:SK,x=fQ k:=by
 unfold o4 at h
 split at h
 ·rename_i bs j
  obtain⟨cs,e⟩:=Option.isSome_iff_exists.mp h
  exact⟨(cs,j),by rw[Aj e];rfl⟩
 ·cases h
def qU{H:Hp}{v:V}(h:bM K H (fQ k) v):∃a,v=.ref a/\cA K H k a:=by
 obtain⟨a,vs,rfl,sq,l⟩:=h
 obtain⟨v1,r,rfl,h1,l⟩:=ak.aN.mp l
 obtain⟨v2,r2,rfl,h2,l⟩:=ak.aN.mp l
 cases ak.bF.mp l
 cases h2
 obtain⟨b,ws,rfl,sq2,l2⟩:=h1
 rw[GZ l2]at sq2
 exact⟨a,rfl,b,sq,sq2⟩
theorem GF:∀a b:List Bool,jE (a.map .bl) (b.map .bl)=decide (a=b)
 |[],[]=>rfl
 |[],_::_=>by simp[jE]
 |_::_,[]=>by simp[jE]
 |x::a,y::b=>by
  simp only[Qyz,jE,cD,GF a b]
  cases x<;>cases y<;>simp
def Dn x y:cD (fQ x) (fQ y)=decide (x=y):=by
 obtain⟨a,i⟩:=x
 obtain⟨b,j⟩:=y
 simp only[fQ,cD,jE,GF]
 by_cases p:a=b<;>by_cases q:i=j<;>simp[p,q]
theorem pG k:∀xs:List SV,aJ (fQ k) (xs.map fun x=>fQ x.1)=(zG k xs).isSome
 |[]=>rfl
 |x::xs=>by
  simp only[Qyz,aJ,zG,Dn,pG k xs]
  by_cases c:x.1=k<;>simp[c]
theorem Fy{K:QQq}{H:Hp}(k:SK):∀{xs:List SV}{ds:List D}{z:D},bI (fQ k) (xs.map fun x=>fQ x.1) ds=some z->ak K H ds (xs.map (·.2.2))->∃w,zG k xs=some w/\bM K H z w
 |[],ds,z,e,_=>by cases ds<;>cases e
 |x::xs,[],z,e,_=>by cases e
 |x::xs,d::ds,z,e,l=>by
  obtain⟨v,r,e1,h1,h2⟩:=ak.aN.mp l
  cases e1
  simp only[Qyz,bI,Dn]at e
  simp only[zG]
  by_cases c:x.1=k
  ·simp only[c,decide_true,if_true]at e
   cases e
   exact⟨_,if_pos c,h1⟩
  ·simp only[c,decide_false,Qxq,if_false]at e
   rw[if_neg c]
   exact Fy k e h2
def gP.weaken{σ:St}{x:Rv}(h:gP K σ H1 H x v)(d:∀b,H1 b=none->H0 b=none):gP K σ H0 H x v:=by
 cases x with
 |val d=>exact h
 |ref i=>exact h
 |new xs=>obtain⟨a,e,p,z⟩:=h;exact⟨a,e,p,d a z⟩
 |tmp xs=>obtain⟨a,e,p,z⟩:=h;exact⟨a,e,p,d a z⟩
section
def UV{H1:Hp}(S:tM K W env r σ H Q)(N:Nx K env σ H γ H1):tM K W γ r σ H1 Q:=by
 obtain⟨_,h⟩:=S
 refine⟨N.dX,?_⟩
 cases r with
 |bad=>exact h
 |exc c ε=>exact fun H' N'=>h H' (N.trans N')
 |ok x ε=>exact fun v H' N' z=>h v H' (N.trans N') (z.weaken N.dom)
theorem aW{f:D->Ev->Out Rv}(h:tM K W env (r.ao f) σ H Q)
  (k:∀d γ v H1,Nx K env σ H γ H1->bM K H1 d v->tM K W γ (f d γ) σ H1 Q->R v H1):tD K W env r σ H R:=by
 have step:∀d γ,r.ao f=f d γ->∀v H1,Nx K env σ H γ H1->bM K H1 d v->R v H1:=fun d γ e v H1 N D=>by
  rw[e]at h
  exact k d γ v H1 N D (UV h N)
 obtain⟨S,h⟩:=h
 refine⟨S,?_⟩
 cases r with
 |bad=>exact h
 |exc c γ=>exact h
 |ok x γ=>
  cases x with
  |val d=>exact fun v H1 N D=>step d γ rfl v H1 N D
  |new xs=>exact fun v H1 N D=>step xs.d γ rfl v H1 N D
  |ref i=>exact h
  |tmp xs=>exact h
theorem yK{f:Bool->Ev->Out Rv}(h:tM K W env (r.cC iU f) σ H Q)
  (k:∀b γ H1,Nx K env σ H γ H1->tM K W γ (f b γ) σ H1 Q->R b H1):tT K W env r σ H R:=by
 have step:∀d γ x,x.jF=some d->r=.ok x γ->∃b,iU d=some b/\∀H1,Nx K env σ H γ H1->R b H1:=fun d γ x ex er=>by
  subst er
  cases q:iU d with
  |none=>
   cases x with
   |val d'=>cases ex;simp only[Out.cC,Out.ao,q]at h;exact h.2.elim
   |new xs=>cases ex;simp only[Out.cC,Out.ao,q]at h;exact h.2.elim
   |ref i=>cases ex
   |tmp xs=>cases ex
  |some b=>
   refine⟨b,rfl,fun H1 N=>k b γ H1 N (UV ?_ N)⟩
   cases x with
   |val d'=>cases ex;simp only[Out.cC,Out.ao,q]at h;exact h
   |new xs=>cases ex;simp only[Out.cC,Out.ao,q]at h;exact h
   |ref i=>cases ex
   |tmp xs=>cases ex
 refine⟨h.1,?_⟩
 cases r with
 |bad=>exact h.2
 |exc c γ=>exact h.2
 |ok x γ=>
  cases x with
  |val d=>obtain⟨b,e,q⟩:=step d γ _ rfl rfl;exact⟨d,b,rfl,e,q⟩
  |new xs=>obtain⟨b,e,q⟩:=step xs.d γ _ rfl rfl;exact⟨xs.d,b,rfl,e,q⟩
  |ref i=>exact h.2.elim
  |tmp xs=>exact h.2.elim
def cF(h:tM K W env (lift env o) σ H Q):∃z,o=some z/\Sat K env σ H/\∀v H',Nx K env σ H env H'->gP K σ H H' z v->Q v H':=by
 obtain⟨S,h⟩:=h
 cases o with
 |none=>exact h.elim
 |some z=>exact⟨z,rfl,S,h⟩
def dY{v:V}(h:tM K W env (.ok (.val d) env) σ H Q)(e:bM K H d v):Q v H:=h.2 v H (Nx.refl h.1) e
def Nx.laid{o:HO}(S:Sat K env σ H)(hp:H p=none):Nx K env σ H env (upd H p o):=by
 have ne:∀b u,H b=some u->b≠p:=fun b u q z=>by subst z;rw[hp]at q;cases q
 have pe:bV H (upd H p o):=⟨fun b xs q=>by rw[aC (ne b _ q)];exact q,fun b o' u q=>by rw[aC (ne b _ q)];exact q⟩
 refine⟨S.keep pe fun i b u _ q=>by rw[aC (ne b _ q)];exact q,fun _ _ z=>z,pe,fun b vs q _=>by rw[aC (ne b _ q)];exact q,fun b q=>?_,fun _ xs e=>⟨xs,e⟩⟩
 ·by_cases hb:b=p
  ·subst hb;exact hp
  ·rw[aC hb]at q;exact q
end
def GE(X:Cx)(W:Wi)(c:Cf)(m:E)(e:Expr):Prop:=∀env,PE X e (tM X.K W env (ev c m env))
def aD(X:Cx)(W:Wi)(c:Cf)(m:E):TE:=fun σ H Q=>∃env,tD X.K W env (ev c m env) σ H Q
def aT(X:Cx)(W:Wi)(c:Cf)(m:E):TT:=fun σ H Q=>∃env,tT X.K W env (ev c m env) σ H Q
def GT(X:Cx)(W:Wi)(c:Cf)(m:E)(e:Expr):Prop:=PT X e (aT X W c m)
section
def GE.d(h:GE X W c m e):PE X e (aD X W c m):=fun δ s σ H Q I⟨env,q⟩=>Lp (h env) δ s σ H Q I q
theorem bM.iU{H:Hp}{v:V}(h:bM K H x v)(e:iU x=some k):Qe K v H k:=by
 cases x with
 |non=>cases h;simp[Mini.iU]at e;subst e;rfl
 |bl b=>cases h;simp[Mini.iU]at e;subst e;rfl
 |int i=>cases h;simp[Mini.iU]at e;subst e;rfl
 |str y=>simp[Mini.iU]at e
 |tup xs=>
  obtain⟨p,vs,rfl,hq,l⟩:=h
  have e':=QEq e
  refine .inr (.inl ⟨vs,hq,?_⟩)
  have:=l.length
  cases xs<;>cases vs<;>simp_all
 |lst xs=>
  obtain⟨p,vs,rfl,hq,l⟩:=h
  have e':=QEq e
  refine .inl ⟨vs,hq.sq,?_⟩
  have:=l.length
  cases xs<;>cases vs<;>simp_all
 |cH ks vs=>simp[Mini.iU]at e
 |jH ks vs=>simp[Mini.iU]at e
def yL{env:Ev}{σ:St}{Q:Bool->Hp->Prop}(h:tT K W env r σ H Q):tD K W env r σ H (fun v H'=>∃k,Qe K v H' k/\Q k H'):=by
 obtain⟨S,h⟩:=h
 refine⟨S,?_⟩
 cases r with
 |bad=>exact h
 |exc c γ=>exact h
 |ok x γ=>
  obtain⟨d,b,e1,e2,q⟩:=h
  cases x with
  |val d'=>cases e1;exact fun v H' N D=>⟨b,D.iU e2,q H' N⟩
  |new xs=>cases e1;exact fun v H' N D=>⟨b,D.iU e2,q H' N⟩
  |ref i=>cases e1
  |tmp xs=>cases e1
def GE.t(h:GE X W c m e)(he:∀whole,isTrue e X.env whole=(do let v<-whole;standAt e.pos;holding [v] (truthy v))):GT X W c m e:=
 PT.imp (Lb h.d he) fun σ H Q⟨env,q⟩=>⟨env,yL q⟩
def Fo:D->Const->Bool
 |.non,.none=>true
 |.bl b,.bool b'=>b==b'
 |.int i,.int j=>i==j
 |.str x,.str y=>decide (x=y)
 |_,_=>false
def Zf{k:Const}(h:Fo x k=true):GE X W c (.con x) (.Constant k i pos):=by
 intro env
 cases x with
 |non=>cases k<;>first|exact PE.imp Ls (fun σ H Q q=>dY q rfl)|simp[Fo]at h
 |bl y=>cases k<;>first|(simp[Fo]at h;subst h;exact PE.imp ab5 (fun σ H Q q=>dY q rfl))|simp[Fo]at h
 |int y=>cases k<;>first|(simp[Fo]at h;subst h;exact PE.imp XF (fun σ H Q q=>dY q rfl))|simp[Fo]at h
 |str y=>cases k<;>first|(simp[Fo]at h;subst h;exact PE.imp XC (fun σ H Q q=>dY q rfl))|simp[Fo]at h
 |tup _=>cases k<;>simp[Fo]at h
 |lst _=>cases k<;>simp[Fo]at h
 |cH _ _=>cases k<;>simp[Fo]at h
 |jH _ _=>cases k<;>simp[Fo]at h
def bZ{σ:St}{i:Nat}(h:(σ[i]?).join=some v):σ[i]? =some (some v):=by
 cases w:σ[i]? with
 |none=>rw[w]at h;cases h
 |some y=>rw[w]at h;simp at h;rw[h]
def Nx.give{env:Ev}{H:Hp}{q:Ob}{a:Addr}{u:HO}(S:Sat K env σ H)(e:env[i]? =some (.own q))(es:σ[i]? =some (some (.ref a)))
  (ha:H a=some u)(l:JQ K H q u):Nx K env σ H (env.set i (.val q.d)) (upd H a (.frz o u)):=by
 have p:=gR (o:=o) ha l.vp
 have oa:aQ env σ i a:=⟨⟨_,q,e,rfl⟩,es⟩
 have hi:=(QCz.mp e).1
 have sub:∀j b,aQ (env.set i (.val q.d)) σ j b->aQ env σ j b/\j≠i:=fun j b z=>by
  obtain⟨⟨s,ys,e1,e2⟩,e3⟩:=z
  by_cases hj:i=j
  ·subst hj;rw[Qwq hi]at e1;cases e1;simp[isOwn]at e2
  ·rw[Qxz hj]at e1;exact⟨⟨⟨s,ys,e1,e2⟩,e3⟩,fun z=>hj z.symm⟩
 have ne:∀j b,aQ env σ j b->j≠i->b≠a:=fun j b z hj q=>hj (S.ne j i a (q▸z) oa)
 refine⟨⟨by simpa using S.len,fun j s ej=>?_,fun j k b z w=>S.ne j k b (sub j b z).1 (sub k b w).1⟩,fun j b z=>(sub j b z).1,p,fun b ws q n=>?_,fun b q=>?_,fun j ys ej=>?_⟩
 ·by_cases hj:i=j
  ·subst hj
   rw[Qwq hi]at ej
   cases ej
   exact⟨.ref a,by rw[es];rfl,(l.mono p).den aU⟩
  ·rw[Qxz hj]at ej
   refine(S.sl j s ej).keep p fun b w ho ev hb=>?_
   rw[aC (ne j b (w6 ej ho ev) fun z=>hj z.symm)];exact hb
 ·rw[aC (fun z=>by subst z;exact n i oa)];exact q
 ·by_cases hb:b=a
  ·subst hb;rw[aU]at q;cases q
  ·rw[aC hb]at q;exact q
 ·by_cases hj:i=j
  ·subst hj;rw[e]at ej;cases ej
  ·exact⟨ys,by rw[Qxz hj];exact ej⟩
def YX{x:Str}(hN:X.N[i]? =some x)(hv:Vis X.env.scope x)(hd:(x==("__debug__":Str))=false)(hcd:(x==("__classdict__":Str))=false):GE X W c (.var i) (.Name x pos):=by
 intro env δ s σ H Q I q
 have B:=Ln (pos:=pos) hN hv hd hcd
 simp only[v_0,rG]at q
 cases e:env[i]? with
 |none=>rw[e]at q;exact q.2.elim
 |some sl=>
  rw[e]at q
  cases sl with
  |un=>exact q.2.elim
  |bor xs=>exact q.2.elim
  |val d=>
   obtain⟨v,e1,e2⟩:=q.1.sl i _ e
   exact B δ s σ H Q I ⟨v,bZ e1,dY q e2⟩
  |own xs=>
   obtain⟨a,e1,w,e2,e3⟩:=q.1.sl i _ e
   refine b8 (B δ s σ H (fun v H'=>v=.ref a/\H'=H) I ⟨.ref a,bZ e1,rfl,rfl⟩) fun u s1⟨v,H1,I1,r1,k1,k2⟩=>?_
   subst k1 k2
   obtain⟨o,I2⟩:=Inv.freeze I1 e2 e3.vp
   exact⟨.ref a,_,I2,r1,q.2 _ _ (Nx.give q.1 e (bZ e1) e2 e3) ((e3.mono (gR e2 e3.vp)).den aU)⟩
end
section
variable{X:Cx}
end
def ie(K:QQq)(σ:St)(H₀ H:Hp):List Rv->List V->Prop
 |[],vs=>vs=[]
 |x::xs,vs=>∃v r,vs=v::r/\gP K σ H₀ H x v/\ie K σ H₀ H xs r
def QM(K:QQq)(W:Wi)(env:Ev)(r:Out (List Rv)):TA:=fun σ H Q=>Sat K env σ H/\match r with
 |.ok xs env'=>∀vs H',Nx K env σ H env' H'->ie K σ H H' xs vs->Q vs H'
 |.exc c env'=>∀H',Nx K env σ H env' H'->W c env' σ H'
 |.bad=>False
def tA(K:QQq)(W:Wi)(env:Ev)(r:Out Rv):TE:=fun σ H Q=>Sat K env σ H/\match r with
 |.ok x env'=>∀v H',Nx K env σ H env' H'->gP K σ H H' (argv x) v->Q v H'
 |.exc c env'=>∀H',Nx K env σ H env' H'->W c env' σ H'
 |.bad=>False
def GA(X:Cx)(W:Wi)(c:Cf)(m:E)(es:List Expr):Prop:=∀env,PA X es (QM X.K W env (evs c m env))
def gP.on{env γ ε:Ev}{H H1 H2:Hp}{v:V}(S:Sat K env σ H)(N:Nx K env σ H γ H1)(N2:Nx K γ σ H1 ε H2)(h:gP K σ H H1 x v):gP K σ H H2 x v:=by
 have no:=fun a h0 i z=>S.my h0 i (N.sub i a z)
 cases x with
 |val d=>exact bM.mono N2.pers h
 |ref i=>exact h
 |new xs=>obtain⟨a,e,⟨u,p,l⟩,z⟩:=h;exact⟨a,e,⟨u,N2.keep a u p (no a z),l.mono N2.pers⟩,z⟩
 |tmp xs=>obtain⟨a,e,⟨u,p,l⟩,z⟩:=h;exact⟨a,e,⟨u,N2.keep a u p (no a z),l.mono N2.pers⟩,z⟩
def lq{env:Ev}{H:Hp}{xs:List D}(S:Sat K env σ H)(l:ak K H xs vs)(hp:H p=none):gP K σ H (upd H p (.lst vs)) (.new (.lst xs)) (.ref p):=
 ⟨p,rfl,⟨_,aU,vs,rfl,l.mono (Nx.laid S hp).pers⟩,hp⟩
theorem ie.weaken{K:QQq}{σ:St}{H0 H1 H:Hp}:∀{xs:List Rv}{vs:List V},ie K σ H1 H xs vs->(∀b,H1 b=none->H0 b=none)->ie K σ H0 H xs vs
 |[],_,h,_=>h
 |x::xs,vs,h,d=>by
  obtain⟨v,r,e,h1,h2⟩:=h
  exact⟨v,r,e,h1.weaken d,ie.weaken h2 d⟩
section
def PA.imp(h:PA X es t)(i:∀σ H Q,t' σ H Q->t σ H Q):PA X es t':=fun p δ s σ H Q I q=>h p δ s σ H Q I (i σ H Q q)
def GE.ag(h:GE X W c m e)env:PE X e (tA X.K W env (ev c m env)):=by
 intro δ s σ H Q I q
 obtain⟨S,q⟩:=q
 cases r:ev c m env with
 |bad=>rw[r]at q;exact q.elim
 |exc k env'=>rw[r]at q;exact h env δ s σ H Q I ⟨S,by rw[r];exact q⟩
 |ok x env'=>
  rw[r]at q
  cases x with
  |new xs=>exact Lp (h env) δ s σ H Q I ⟨S,by rw[r];exact q⟩
  |val d=>exact h env δ s σ H Q I ⟨S,by rw[r];exact q⟩
  |ref i=>exact h env δ s σ H Q I ⟨S,by rw[r];exact q⟩
  |tmp xs=>exact h env δ s σ H Q I ⟨S,by rw[r];exact q⟩
def Di:GA X W c .nil []:=fun env=>PA.imp eZ fun σ H Q q=>by
 obtain⟨S,q⟩:=q
 exact q [] H (Nx.refl S) rfl
def lE(h:GE X W c m1 e)(t:GA X W c m2 es)(hs:starEach (e::es) X.env=(false,eval e X.env)::starEach es X.env):GA X W c (.cons m1 m2) (e::es):=by
 intro env
 have B:PA X _ (Km (fun σ H Q=>∃env,tA X.K W env _ σ H Q) (fun σ H Q=>∃env,QM X.K W env _ σ H Q)):=
  cG (fun δ s σ H Q I⟨env,q⟩=>h.ag env δ s σ H Q I q) (fun p δ s σ H Q I⟨env,q⟩=>t env p δ s σ H Q I q) hs
 refine PA.imp B fun σ H Q q=>?_
 obtain⟨S,q⟩:=q
 refine⟨env,S,?_⟩
 simp only[evs]at q
 cases r:ev c m1 env with
 |bad=>rw[r]at q;exact q.elim
 |exc k γ=>rw[r]at q;exact q
 |ok x γ=>
  rw[r]at q
  intro v H1 N1 k1
  refine⟨γ,N1.dX,?_⟩
  simp only[Out.bind]at q
  cases r2:evs c m2 γ with
  |bad=>rw[r2]at q;exact q.elim
  |exc k ε=>rw[r2]at q;exact fun H2 N2=>q H2 (N1.trans N2)
  |ok xs ε=>
   rw[r2]at q
   intro vs H2 N2 k2
   exact q _ H2 (N1.trans N2) ⟨v,vs,rfl,k1.on S N1 N2,k2.weaken N1.dom⟩
theorem ie.ds{K:QQq}{σ:St}{H₀ H:Hp}:∀{xs:List Rv}{vs:List V}{ds:List D},ie K σ H₀ H (xs.map argv) vs->aP xs=some ds->ak K H ds vs
 |[],vs,ds,h,e=>by
  simp[aP]at e
  subst e
  cases h
  exact ak.fj
 |x::xs,vs,ds,h,e=>by
  obtain⟨v,r,rfl,h1,h2⟩:=h
  cases x with
  |ref i=>simp[aP,Rv.jF]at e
  |tmp ys=>simp[aP,Rv.jF]at e
  |val d=>
   simp[aP,Rv.jF]at e
   obtain⟨ds',e1,e2⟩:=e
   subst e2
   exact ak.cR h1 (ie.ds h2 e1)
  |new ys=>
   simp[aP,Rv.jF]at e
   obtain⟨ds',e1,e2⟩:=e
   subst e2
   exact ak.cR h1 (ie.ds h2 e1)
def Ab:∀(m:E)(env:Ev){xs:List Rv}{env':Ev},evs c m env=.ok xs env'->xs.map argv=xs:=by
 have aa:∀x:Rv,argv (argv x)=argv x:=fun x=>by cases x<;>rfl
 intro m
 induction m with
 |nil=>intro env xs env' h;simp only[evs]at h;cases h;rfl
 |cons h t _ ih=>
  intro env xs env' q
  simp only[evs]at q
  cases r:ev c h env with
  |bad=>rw[r]at q;cases q
  |exc k e1=>rw[r]at q;cases q
  |ok x e1=>
   rw[r]at q
   simp only[Out.bind]at q
   cases r2:evs c t e1 with
   |bad=>rw[r2]at q;cases q
   |exc k e2=>rw[r2]at q;cases q
   |ok ys e2=>
    rw[r2]at q
    cases q
    rw[Qyz,aa,ih e1 r2]
 |_=>intro env xs env' h;simp only[evs]at h;cases h
def eO(h:fits n=true):n<=sizeLine:=by
 rw[sizeLine_eq]
 simpa[fits]using h
theorem yI{env:Ev}{H:Hp}{f:List D->Option Rv}
  (h:tM K W env ((evs c m env).bind fun rs σ=>lift σ ((aP rs).bind f)) σ H Q)
  (k:∀γ H1 ds vs z,Nx K env σ H γ H1->ak K H1 ds vs->f ds=some z->(∀v H',Nx K γ σ H1 γ H'->gP K σ H1 H' z v->Q v H')->R vs H1):QM K W env (evs c m env) σ H R:=by
 obtain⟨S,q⟩:=h
 refine⟨S,?_⟩
 cases r:evs c m env with
 |bad=>rw[r]at q;exact q.elim
 |exc k γ=>rw[r]at q;exact q
 |ok xs γ=>
  rw[r]at q
  simp only[Out.bind]at q
  intro vs H1 N1 k1
  cases e:aP xs with
  |none=>rw[e]at q;exact q.elim
  |some ds=>
   rw[e]at q
   simp only[Option.bind]at q
   cases e2:f ds with
   |none=>rw[e2]at q;exact q.elim
   |some z=>
    rw[e2]at q
    have k2:=k1
    rw[<-Ab m env r]at k2
    exact k γ H1 ds vs z N1 (ie.ds k2 e) e2 fun v H' N' w=>q v H' (N1.trans N') (w.weaken N1.dom)
def YZ(h:GA X W c m es):GE X W c (.tup m) (.Tuple es k pos):=by
 intro env
 refine PE.imp (Xz (h env)) fun σ H Q q=>?_
 refine yI q fun γ H1 ds vs z N1 l e q=>?_
 split at e
 ·rename_i hf
  cases e
  refine⟨by rw[<-l.length];exact eO hf,fun p hp=>q _ _ (Nx.laid N1.dX hp) ?_⟩
  show bM _ _ _ _
  exact⟨p,vs,rfl,.inl (.inl aU),l.mono (Nx.laid N1.dX hp).pers⟩
 ·cases e
def Y9(h:GA X W c m es):GE X W c (.lis m) (.List es pos):=by
 intro env
 refine PE.imp (XD (h env)) fun σ H Q q=>?_
 refine yI q fun γ H1 ds vs z N1 l e q=>?_
 split at e
 ·rename_i hf
  cases e
  exact⟨by rw[<-l.length];exact eO hf,fun p hp=>q _ _ (Nx.laid N1.dX hp) (lq N1.dX l hp)⟩
 ·cases e
def Wb(X:Cx)(r:R2)(f:D->D->Option Rv):Prop:=
 ∀(env:Ev)(σ:St)(H:Hp)(x y:D)(z:Rv)(v u:V)(Q:VK),Sat X.K env σ H->bM X.K H x v->bM X.K H y u->f x y=some z->(∀w H',Nx X.K env σ H env H'->gP X.K σ H H' z w->Q w H')->r v u H Q
def Wb.bin{f:D->D->Option Rv}(R:Wb X r f)(h:PE X e (tOp r (aD X W c m1) (aD X W c m2))):
  ∀env,PE X e (tM X.K W env ((ev c m1 env).ao fun x σ=>(ev c m2 σ).ao fun y σ=>lift σ (f x y))):=fun env=>
 PE.imp h fun σ H Q q=>⟨env,aW q fun d γ v H1 N1 D1 q1=>⟨γ,aW q1 fun d2 ε v2 H2 N2 D2 q2=>by
  obtain⟨z,ez,S,q3⟩:=cF q2
  exact R ε σ H2 d d2 z v v2 Q S (D1.mono N2.pers) D2 ez q3⟩⟩
def acg:ZQ->Operator
 |.add=>.Add
 |.sub=>.Sub
 |.mul=>.Mult
 |.mod=>.Mod
 |.fdiv=>.FloorDiv
 |.pow=>.Pow
def Vh(K:QQq):R2:=fun x y H Q=>∃a b xs ys,x=.ref a/\y=.ref b/\iV K H a xs/\iV K H b ys/\xs.length+ys.length<=sizeLine/\
 (xs=[]->Q (.ref b) H)/\(xs≠[]->ys=[]->Q (.ref a) H)/\(xs≠[]->ys≠[]->∀p,H p=none->Q (.ref p) (upd H p (.tup (xs++ys))))
def R3:fY X (binaryOp .Add) (Vh X.K):=by
 intro δ s σ H x y v u Q I rx ry h
 obtain⟨a,b,xs,ys,rfl,rfl,ha,hb,hz,q0,q1,q2⟩:=h
 by_cases hx:xs=[]
 ·cases rx
  cases ry
  obtain⟨its,r1,p1,_⟩:=I.tuple ha
  obtain⟨its2,r2,p2,_⟩:=I.tuple hb
  obtain⟨⟨cls,dd,data,sl⟩,ho,hc,n,hd⟩:=id p1
  obtain⟨⟨cls2,dd2,data2,sl2⟩,ho2,hc2,n2,hd2⟩:=id p2
  subst hc hd hc2 hd2
  have e0:its.toArray.isEmpty=true:=by
   have:=r1.bF.mpr hx
   rw[this];rfl
  exact concat_meets ⟨_,ho,rfl⟩ ⟨_,ho2,rfl⟩ noFill_tuple_add seq_tuple_add PySem.F.slot_tuple_add PySem.F.entry_tuple_add (PySem.F.args_tuple_add_2 _ _)
   (PyProof.Rows.tuple_addW0 a b its.toArray its2.toArray n n2 dd dd2 sl sl2 e0) ⟨ho,ho2,⟨.ref b,H,I,rfl,q0 hx⟩⟩
 ·exact RX δ s σ H _ _ v u Q I rx ry ⟨a,b,xs,ys,rfl,rfl,ha,hb,hx,hz,q1 hx,q2 hx⟩
def Vg(K:QQq):R2:=fun x y H Q=>∃l b xs zs,x=.ref l/\y=.ref b/\km K H l xs/\km K H b zs/\xs.length+zs.length<=sizeLine/\∀p,H p=none->Q (.ref p) (upd H p (.lst (xs++zs)))
def RZ:fY X (binaryOp .Add) (Vg X.K):=by
 intro δ s σ H x y v u Q I rx ry h
 obtain⟨l,b,xs,zs,rfl,rfl,hH,hB,hz,q⟩:=h
 cases rx
 cases ry
 obtain⟨its,r1,pl,_⟩:=I.list hH
 obtain⟨its2,r2,pl2,_⟩:=I.list hB
 obtain⟨⟨cls,dd,data,sl⟩,n,ho,hc,_,hd⟩:=id pl
 obtain⟨⟨cls2,dd2,data2,sl2⟩,n2,ho2,hc2,_,hd2⟩:=id pl2
 subst hc hd hc2 hd2
 have hl:=r1.length
 have hl2:=r2.length
 have ea:its.toArray++its2.toArray=(its++its2).toArray:=by simp
 refine concat_meets ⟨_,ho,rfl⟩ ⟨_,ho2,rfl⟩ noFill_list_add seq_list_add F.slot_list_add F.entry_list_add (F.args_list_add_2 _ _) (PyProof.Rows.list_addW l b its.toArray its2.toArray n n2 dd dd2 sl sl2 (by rw[Qyq,Qyq];omega)) ⟨ho,ho2,?_⟩
 rw[ea]
 exact⟨.ref _,_,I.af0 (r1.append r2) (by rw[QTq];omega),rfl,q _ I.fresh⟩
def Vi(K:QQq):R2:=fun x y H Q=>K9 (fun i j=>.int (i+j)) x y H Q\/Vh K x y H Q\/Vg K x y H Q
def R4:fY X (binaryOp .Add) (Vi X.K):=X8.or (R3.or RZ)
def cI{H:Hp}{v:V}(h:bM K H (.tup ds) v):∃a vs,v=.ref a/\iV K H a vs/\ak K H ds vs:=by unfold bM at h;exact h
def dg{H:Hp}{v:V}(h:bM K H (.lst ds) v):∃a vs,v=.ref a/\Hg K H a vs/\ak K H ds vs:=by unfold bM at h;exact h
def dD{H:Hp}{a:Addr}(h:iV K H a vs)(l:ak K H ds vs):bM K H (.tup ds) (.ref a):=by unfold bM;exact⟨a,vs,rfl,h,l⟩
def qY(h:small i=true): -(2 ^64)<i/\i<2 ^64:=by
 simp only[small,QUz]at h
 exact⟨by omega,by omega⟩
def Ri:Wb X (Vi X.K) (binop .add):=by
 intro env σ H x y z v u Q S Dx Dy e q
 cases x with
 |int i=>
  cases y with
  |int j=>cases e;exact .inl ⟨i,j,Dx,Dy,q _ H (Nx.refl S) rfl⟩
  |_=>cases e
 |tup xs=>
  cases y with
  |tup ys=>
   unfold binop at e;dsimp only at e
   split at e
   ·rename_i hf
    cases e
    obtain⟨a,vs,rfl,ha,la⟩:=cI Dx
    obtain⟨b,ws,rfl,hb,lb⟩:=cI Dy
    refine .inr (.inl ⟨a,b,vs,ws,rfl,rfl,ha,hb,by rw[<-la.length,<-lb.length];exact eO hf,fun e0=>?_,fun _ e0=>?_,fun _ _ p hp=>?_⟩)
    ·subst e0
     have:xs=[]:=by have:=la.length;cases xs<;>simp_all
     subst this
     exact q _ H (Nx.refl S) (dD hb lb)
    ·subst e0
     have:ys=[]:=by have:=lb.length;cases ys<;>simp_all
     subst this
     exact q _ H (Nx.refl S) (by rw[List.append_nil];exact dD ha la)
    ·have N:=Nx.laid (o:=.tup (vs++ws)) S hp
     exact q _ _ N (dD (.inl (.inl aU)) ((la.append lb).mono N.pers))
   ·cases e
  |_=>cases e
 |lst xs=>
  cases y with
  |lst ys=>
   unfold binop at e;dsimp only at e
   split at e
   ·rename_i hf
    cases e
    obtain⟨a,vs,rfl,ha,la⟩:=dg Dx
    obtain⟨b,ws,rfl,hb,lb⟩:=dg Dy
    exact .inr (.inr ⟨a,b,vs,ws,rfl,rfl,ha.sq,hb.sq,by rw[<-la.length,<-lb.length];exact eO hf,fun p hp=>q _ _ (Nx.laid (o:=.lst (vs++ws)) S hp) (lq S (la.append lb) hp)⟩)
   ·cases e
  |_=>cases e
 |_=>cases y<;>cases e
def nP(ho:o≠ .add)(hm:o≠ .mul){z:Rv}(e:binop o x y=some z):(∃i,x=.int i)/\∃j,y=.int j:=by
 cases x with
 |int i=>exact⟨⟨i,rfl⟩,by cases y with
  |int j=>exact⟨j,rfl⟩
  |_=>cases o<;>cases e⟩
 |tup _=>cases o<;>first|exact absurd rfl ho|exact absurd rfl hm|cases e
 |lst _=>cases o<;>first|exact absurd rfl ho|cases e
 |_=>cases o<;>cases e
def Q8:Wb X (K9 fun i j=>.int (i-j)) (binop .sub):=by
 intro env σ H x y z v u Q S Dx Dy e q
 obtain⟨⟨i,rfl⟩,j,rfl⟩:=nP (by intro h;cases h) (by intro h;cases h) e
 cases e
 exact⟨_,_,Dx,Dy,q _ H (Nx.refl S) rfl⟩
def Ve(K:QQq):R2:=fun x y H Q=>rI Uk (fun i j=>.int (i*j)) x y H Q
def RV:fY X (binaryOp .Mult) (Ve X.K):=XS
def Ra:Wb X (Ve X.K) (binop .mul):=by
 intro env σ H x y z v u Q S Dx Dy e q
 cases x with
 |int i=>
  cases y with
  |int j=>
   unfold binop at e;dsimp only at e
   split at e
   ·rename_i hs
    cases e
    simp only[Bool.or_eq_true]at hs
    exact⟨i,j,Dx,Dy,hs.imp qY qY,q _ H (Nx.refl S) rfl⟩
   ·cases e
  |_=>cases e
 |_=>cases y<;>cases e
def Rb:Wb X (rI (fun _ j=>0<j) fun i j=>.int (i%j)) (binop .mod):=by
 intro env σ H x y z v u Q S Dx Dy e q
 obtain⟨⟨i,rfl⟩,j,rfl⟩:=nP (by intro h;cases h) (by intro h;cases h) e
 unfold binop at e;dsimp only at e
 split at e
 ·rename_i hs
  cases e
  exact⟨i,j,Dx,Dy,hs,q _ H (Nx.refl S) rfl⟩
 ·cases e
def KY:Wb X (rI ady fun i j=>.int (i/j)) (binop .fdiv):=by
 intro env σ H x y z v u Q S Dx Dy e q
 obtain⟨⟨i,rfl⟩,j,rfl⟩:=nP (by intro h;cases h) (by intro h;cases h) e
 unfold binop at e;dsimp only at e
 split at e
 ·rename_i hs
  cases e
  exact⟨i,j,Dx,Dy,hs,q _ H (Nx.refl S) rfl⟩
 ·cases e
def Q9:Wb X (rI adx fun i j=>.int (i ^j.toNat)) (binop .pow):=by
 intro env σ H x y z v u Q S Dx Dy e q
 obtain⟨⟨i,rfl⟩,j,rfl⟩:=nP (by intro h;cases h) (by intro h;cases h) e
 unfold binop at e;dsimp only at e
 split at e
 ·rename_i hs
  cases e
  have h1:=qY hs.2.2
  exact⟨i,j,Dx,Dy,⟨hs.1,by omega,by omega⟩,q _ H (Nx.refl S) rfl⟩
 ·cases e
def acS(ha:GE X W c m1 a)(hb:GE X W c m2 b):GE X W c (.op o m1 m2) (.BinOp a (acg o) b pos):=by
 intro env
 cases o with
 |add=>exact Ri.bin (vo R4 ha.d hb.d) env
 |sub=>exact Q8.bin (vo XN ha.d hb.d) env
 |mul=>exact Ra.bin (vo RV ha.d hb.d) env
 |mod=>exact Rb.bin (vo XX ha.d hb.d) env
 |fdiv=>exact KY.bin (vo RW ha.d hb.d) env
 |pow=>exact Q9.bin (vo XQ ha.d hb.d) env
def Y8(ha:GE X W c m1 a):GE X W c (.neg m1) (.UnaryOp .USub a pos):=by
 intro env
 refine PE.imp (ab2 Wz ha.d) fun σ H Q q=>?_
 refine⟨env,aW q fun d γ v H1 N1 D1 q1=>?_⟩
 obtain⟨z,ez,S,q3⟩:=cF q1
 cases d<;>first
  |(cases ez;done)
  |(cases ez;exact⟨_,D1,q3 _ H1 (Nx.refl S) rfl⟩)
end
mutual
def py:D->PyData
 |.non=>.none
 |.bl b=>.bool b
 |.int i=>.int i
 |.str x=>.str x
 |.tup xs=>.tuple (Bc xs)
 |.lst xs=>.list (Bc xs)
 |.cH _ _=>.none
 |.jH _ _=>.none
def Bc:List D->List PyData
 |[]=>[]
 |x::xs=>py x::Bc xs
end
mutual
theorem xT:∀a b:D,nd a=true->nd b=true->PyData.eqv (py a) (py b)=cD a b
 |.cH _ _,_=>fun h _=>by simp[nd]at h
 |.jH _ _,_=>fun h _=>by simp[nd]at h
 |.non,.cH _ _=>fun _ h=>by simp[nd]at h
 |.non,.jH _ _=>fun _ h=>by simp[nd]at h
 |.bl _,.cH _ _=>fun _ h=>by simp[nd]at h
 |.bl _,.jH _ _=>fun _ h=>by simp[nd]at h
 |.int _,.cH _ _=>fun _ h=>by simp[nd]at h
 |.int _,.jH _ _=>fun _ h=>by simp[nd]at h
 |.str _,.cH _ _=>fun _ h=>by simp[nd]at h
 |.str _,.jH _ _=>fun _ h=>by simp[nd]at h
 |.tup _,.cH _ _=>fun _ h=>by simp[nd]at h
 |.tup _,.jH _ _=>fun _ h=>by simp[nd]at h
 |.lst _,.cH _ _=>fun _ h=>by simp[nd]at h
 |.lst _,.jH _ _=>fun _ h=>by simp[nd]at h
 |.tup xs,.tup ys=>fun h h'=>by simp only[py,PyData.eqv,cD];exact xR xs ys (by simpa[nd]using h) (by simpa[nd]using h')
 |.lst xs,.lst ys=>fun h h'=>by simp only[py,PyData.eqv,cD];exact xR xs ys (by simpa[nd]using h) (by simpa[nd]using h')
 |.non,.non=>fun _ _=>rfl
 |.non,.bl _=>fun _ _=>rfl
 |.non,.int _=>fun _ _=>rfl
 |.non,.str _=>fun _ _=>rfl
 |.non,.tup _=>fun _ _=>rfl
 |.non,.lst _=>fun _ _=>rfl
 |.bl _,.non=>fun _ _=>rfl
 |.bl _,.bl _=>fun _ _=>rfl
 |.bl a,.int j=>fun _ _=>rfl
 |.bl _,.str _=>fun _ _=>rfl
 |.bl _,.tup _=>fun _ _=>rfl
 |.bl _,.lst _=>fun _ _=>rfl
 |.int _,.non=>fun _ _=>rfl
 |.int i,.bl b=>fun _ _=>rfl
 |.int _,.int _=>fun _ _=>rfl
 |.int _,.str _=>fun _ _=>rfl
 |.int _,.tup _=>fun _ _=>rfl
 |.int _,.lst _=>fun _ _=>rfl
 |.str _,.non=>fun _ _=>rfl
 |.str _,.bl _=>fun _ _=>rfl
 |.str _,.int _=>fun _ _=>rfl
 |.str x,.str y=>fun _ _=>by simp only[py,PyData.eqv,cD];rw[Bool.beq_eq_decide_eq]
 |.str _,.tup _=>fun _ _=>rfl
 |.str _,.lst _=>fun _ _=>rfl
 |.tup _,.non=>fun _ _=>rfl
 |.tup _,.bl _=>fun _ _=>rfl
 |.tup _,.int _=>fun _ _=>rfl
 |.tup _,.str _=>fun _ _=>rfl
 |.tup _,.lst _=>fun _ _=>rfl
 |.lst _,.non=>fun _ _=>rfl
 |.lst _,.bl _=>fun _ _=>rfl
 |.lst _,.int _=>fun _ _=>rfl
 |.lst _,.str _=>fun _ _=>rfl
 |.lst _,.tup _=>fun _ _=>rfl
theorem xR:∀xs ys:List D,lu xs=true->lu ys=true->PyData.eqvAll (Bc xs) (Bc ys)=jE xs ys
 |[],[]=>fun _ _=>rfl
 |[],_::_=>fun _ _=>rfl
 |_::_,[]=>fun _ _=>rfl
 |x::xs,y::ys=>fun h h'=>by
  simp only[lu,QUq]at h h'
  simp only[Bc,PyData.eqvAll,jE]
  rw[xT x y h.1 h'.1,xR xs ys h.2 h'.2]
end
def Ko(h:sOk x=true):PyData.strOk x=true:=by
 unfold sOk at h
 unfold PyData.strOk
 rw[Array.all_eq_true]at h⊢
 intro i hi
 have:=h i hi
 simp only[QUz]at this⊢
 omega
mutual
theorem jn:∀a:D,nd a=true->(py a).canLay0=true
 |.non=>fun _=>rfl
 |.bl _=>fun _=>rfl
 |.int _=>fun _=>rfl
 |.str x=>fun h=>Ko h
 |.tup xs=>fun h=>by simp only[py,PyData.canLay0];exact jm xs (by simpa[nd]using h)
 |.lst xs=>fun h=>by simp only[py,PyData.canLay0];exact jm xs (by simpa[nd]using h)
 |.cH _ _=>fun h=>by simp[nd]at h
 |.jH _ _=>fun h=>by simp[nd]at h
theorem jm:∀xs:List D,lu xs=true->PyData.canLayAll0 (Bc xs)=true
 |[]=>fun _=>rfl
 |x::xs=>fun h=>by
  simp only[lu,QUq]at h
  simp only[Bc,PyData.canLayAll0,QUq]
  exact⟨jn x h.1,jm xs h.2⟩
end
mutual
theorem xW:∀a:D,nd a=true->(py a).depth=dep a
 |.non=>fun _=>rfl
 |.bl _=>fun _=>rfl
 |.int _=>fun _=>rfl
 |.str _=>fun _=>rfl
 |.tup xs=>fun h=>by simp only[py,PyData.depth,dep];rw[xV xs (by simpa[nd]using h)]
 |.lst xs=>fun h=>by simp only[py,PyData.depth,dep];rw[xV xs (by simpa[nd]using h)]
 |.cH _ _=>fun h=>by simp[nd]at h
 |.jH _ _=>fun h=>by simp[nd]at h
theorem xV:∀xs:List D,lu xs=true->PyData.depthAll (Bc xs)=jl xs
 |[]=>fun _=>rfl
 |x::xs=>fun h=>by
  simp only[lu,QUq]at h
  simp only[Bc,PyData.depthAll,jl]
  rw[xW x h.1,xV xs h.2]
end
def cU(K:QQq)(H:Hp)(d:D)(v:V):Prop:=bM K H d v\/∃q a,d=Ob.d q/\v=.ref a/\jG K H q a
section
mutual
theorem bM.reads(I:Inv X δ σ H s):∀{d:D}{v:V}{u:Value},nd d=true->bM X.K H d v->RelV v u->∃as,Reads s.heap u (py d) as
 |.non,v,u,_,h,r=>by cases h;cases r;exact⟨_,.none⟩
 |.bl b,v,u,_,h,r=>by cases h;cases r;exact⟨_,.bool b⟩
 |.int i,v,u,_,h,r=>by cases h;obtain⟨t,rfl⟩:=r;exact⟨_,.int i t⟩
 |.str x,v,u,_,h,r=>by cases h;obtain⟨t,rfl⟩:=r;exact⟨_,.str x t⟩
 |.tup ds,v,u,hn,h,r=>by
  obtain⟨a,vs,rfl,hq,l⟩:=cI h
  cases r
  obtain⟨its,rv,⟨o,e,c,n,dt⟩,_⟩:=I.tuple hq
  obtain⟨as,q⟩:=ak.reads I (by simpa[nd]using hn) l rv
  exact⟨as,by rw[py];exact .tuple e c dt (by simpa using q)⟩
 |.lst ds,v,u,hn,h,r=>by
  obtain⟨a,vs,rfl,hq,l⟩:=dg h
  cases r
  obtain⟨its,rv,⟨o,n,e,c,_,dt⟩,_⟩:=I.list hq.sq
  obtain⟨as,q⟩:=ak.reads I (by simpa[nd]using hn) l rv
  exact⟨a::as,by rw[py];exact .list e c dt (by simpa using q)⟩
 |.cH _ _,_,_,h,_,_=>by simp[nd]at h
theorem ak.reads(I:Inv X δ σ H s):∀{ds:List D}{vs:List V}{us:List Value},lu ds=true->ak X.K H ds vs->Vals vs us->∃as,ReadsAll s.heap us (Bc ds) as
 |[],vs,us,_,h,r=>by rw[ak.bF.mp h]at r;cases r;exact⟨_,.nil⟩
 |d::ds,vs,us,hn,h,r=>by
  obtain⟨v,rs,rfl,h1,h2⟩:=ak.aN.mp h
  simp only[lu,QUq]at hn
  cases r with
  |cons r1 r2=>
   obtain⟨as,q1⟩:=bM.reads I hn.1 h1 r1
   obtain⟨bs,q2⟩:=ak.reads I hn.2 h2 r2
   exact⟨as++bs,.cons q1 q2⟩
end
theorem cU.reads(I:Inv X δ σ H s){v:V}(hn:nd d=true)(h:cU X.K H d v)(r:RelV v u):∃as,Reads s.heap u (py d) as:=by
 rcases h with h|⟨q,a,rfl,rfl,u',ha,hq⟩
 ·exact bM.reads I hn h r
 ·cases r
  cases q with
  |dct ks ds=>simp[Ob.d,nd]at hn
  |sdt ks ds=>simp[Ob.d,nd]at hn
  |lst ds=>
  obtain⟨vs,rfl,l⟩:=hq
  obtain⟨its,rv,⟨o,n,e,c,_,dt⟩,_⟩:=I.list (.inl (.inl ha))
  obtain⟨as,q⟩:=ak.reads I (by simpa[Ob.d,nd]using hn) l rv
  exact⟨a::as,by rw[Ob.d,py];exact .list e c dt (by simpa using q)⟩
end
section
theorem cU.flat{H:Hp}{v:V}(h:cU K H x v)(f:flat x=true):bM K H x v:=by
 rcases h with h|⟨q,a,rfl,_⟩
 ·exact h
 ·cases q<;>simp[Ob.d,Mini.flat]at f
def Gy(f:flat x=true)(hs:∀y,x≠ .str y):nd x=true/\dep x=0:=by
 cases x<;>simp_all[flat,nd,dep]
def afU(K:QQq):R2:=fun x y H Q=>∃p q,cU K H p x/\cU K H q y/\lQ p q=true/\Q (.bl (cD p q)) H
def afR(K:QQq):R2:=fun x y H Q=>∃p q,cU K H p x/\cU K H q y/\lQ p q=true/\Q (.bl (!cD p q)) H
def GD{H:Hp}{x y:V}(Dp:bM K H p x)(Dq:bM K H q y)(fp:flat p=true)(fq:flat q=true)(hs:(∃z,p=.str z)\/∃z,q=.str z):Q5 x y=true/\decide (x=y)=cD p q:=by
 cases p<;>cases q<;>simp_all[flat]<;>(cases Dp;cases Dq;unfold Q5 cD;simp)
def GC{p q:D}(hu:u+60<cLine)(hp:nd p=true)(hq:nd q=true)(hd:dep p<=50):u+min (py p).depth (py q).depth<cLine:=by
 rw[xW p hp,xW q hq]
 omega
def tL(h:lQ p q=true):(nd p=true/\nd q=true/\dep p<=50)\/(flat p=true/\flat q=true/\((∃z,p=.str z)\/∃z,q=.str z)):=by
 simp only[lQ,Bool.or_eq_true,QUq,QUz]at h
 rcases h with ⟨h1,h2⟩|⟨⟨h1,h2⟩,h3⟩
 ·by_cases hs:(∃z,p=.str z)\/∃z,q=.str z
  ·exact .inr ⟨h1,h2,hs⟩
  ·have k1:=Gy h1 (fun y e=>hs (.inl ⟨y,e⟩))
   exact .inl ⟨k1.1,(Gy h2 (fun y e=>hs (.inr ⟨y,e⟩))).1,by omega⟩
 ·exact .inl ⟨h1,h3,h2⟩
def X7(hu:X.A.units+60<cLine):fY X (compareOp .Eq) (afU X.K):=by
 intro δ s σ H x y v u Q I rx ry h
 obtain⟨p,q,Dp,Dq,ok,k⟩:=h
 rcases tL ok with ⟨h1,h2,h3⟩|⟨h1,h2,h3⟩
 ·obtain⟨as,ra⟩:=Dp.reads I h1 rx
  obtain⟨bs,rb⟩:=Dq.reads I h2 ry
  exact SeqAt.compareEq_reads ra rb (jn p h1) (jn q h2) (GC hu h1 h2 h3) (by rw[xT p q h1 h2];exact⟨.bl _,H,I,rfl,k⟩)
 ·obtain⟨e1,e2⟩:=GD (Dp.flat h1) (Dq.flat h2) h1 h2 h3
  exact acf δ s σ H x y v u Q I rx ry ⟨e1,by rw[e2];exact k⟩
def XR(hu:X.A.units+60<cLine):fY X (compareOp .NotEq) (afR X.K):=by
 intro δ s σ H x y v u Q I rx ry h
 obtain⟨p,q,Dp,Dq,ok,k⟩:=h
 rcases tL ok with ⟨h1,h2,h3⟩|⟨h1,h2,h3⟩
 ·obtain⟨as,ra⟩:=Dp.reads I h1 rx
  obtain⟨bs,rb⟩:=Dq.reads I h2 ry
  exact SeqAt.compareNe_reads ra rb (jn p h1) (jn q h2) (GC hu h1 h2 h3) (by rw[xT p q h1 h2];exact⟨.bl _,H,I,rfl,k⟩)
 ·obtain⟨e1,e2⟩:=GD (Dp.flat h1) (Dq.flat h2) h1 h2 h3
  exact ab9 δ s σ H x y v u Q I rx ry ⟨e1,by rw[e2];exact k⟩
theorem xJ{K:QQq}{H:Hp}{p:D}{x:V}(Dp:bM K H p x)(fp:flat p=true):∀{ds:List D}{vs:List V},ak K H ds vs->ds.all flat=true->vs.all jx=true/\inV x vs=aJ p ds
 |[],vs,h,_=>by rw[ak.bF.mp h];exact⟨rfl,rfl⟩
 |d::ds,vs,h,f=>by
  obtain⟨v,r,rfl,h1,h2⟩:=ak.aN.mp h
  rw[List.all_cons,QUq]at f
  obtain⟨k1,k2⟩:=xJ Dp fp h2 f.2
  have fv:jx v=true/\Om v x=cD d p:=by
   obtain⟨f1,_⟩:=f
   cases d<;>cases p<;>simp_all[flat]<;>(cases h1;cases Dp;first|exact⟨rfl,rfl⟩|(refine⟨rfl,?_⟩;simp[Om,cD];try (rw[Bool.beq_eq_decide_eq])))
  refine⟨by rw[List.all_cons,fv.1,k1];rfl,?_⟩
  unfold inV at k2⊢
  rw[List.any_cons,fv.2,k2]
  rfl
theorem ut(hp:nd p=true):∀{ds:List D},lu ds=true->((Bc ds).any fun y=>PyData.eqv y (py p))=aJ p ds
 |[]=>fun _=>rfl
 |d::ds=>fun h=>by
  simp only[lu,QUq]at h
  rw[Bc,List.any_cons,xT d p h.1 hp,ut hp h.2]
  rfl
def Qh(K:QQq)(H:Hp)(xs:List D)(y:V):Prop:=∃a vs,y=.ref a/\(km K H a vs\/iV K H a vs)/\ak K H xs vs
def abV(K:QQq)(neg:Bool):R2:=fun x y H Q=>∃p xs,bM K H p x/\Qh K H xs y/\fG p xs=true/\Q (.bl (if neg then !aJ p xs else aJ p xs)) H
def qz{p:D}(hu:u+60<cLine)(hp:nd p=true)(hd:dep p<=50):u+1+min (PyData.depthAll (Bc xs)) (py p).depth<cLine:=by
 rw[xW p hp]
 omega
theorem Qh.reads{s:Shared}{σ:St}{H:Hp}{y:V}(I:Inv X δ σ H s)(h:Qh X.K H xs y)(hn:lu xs=true)(r:RelV y u):
  ∃as,Reads s.heap u (.list (Bc xs)) as\/Reads s.heap u (.tuple (Bc xs)) as:=by
 obtain⟨a,vs,rfl,hq,l⟩:=h
 cases r
 rcases hq with hq|hq
 ·obtain⟨its,rv,⟨o,n,e,c,_,dt⟩,_⟩:=I.list hq
  obtain⟨as,q⟩:=ak.reads I hn l rv
  exact⟨a::as,.inl (.list e c dt (by simpa using q))⟩
 ·obtain⟨its,rv,⟨o,e,c,n,dt⟩,_⟩:=I.tuple hq
  obtain⟨as,q⟩:=ak.reads I hn l rv
  exact⟨as,.inr (.tuple e c dt (by simpa using q))⟩
def X6(hu:X.A.units+60<cLine):fY X (compareOp .In) (abV X.K false):=by
 intro δ s σ H x y v u Q I rx ry h
 obtain⟨p,xs,Dp,hS,ok,k⟩:=h
 simp only[fG,Bool.or_eq_true,QUq,QUz]at ok
 rcases ok with ⟨h1,h2⟩|⟨⟨h1,h2⟩,h3⟩
 ·obtain⟨a,vs,rfl,hq,l⟩:=hS
  obtain⟨k1,k2⟩:=xJ Dp h1 l h2
  exact Ig δ s σ H x _ v u Q I rx ry ⟨a,vs,rfl,hq,(by cases p<;>simp_all[flat]<;>(cases Dp;rfl)),k1,by simpa[k2]using k⟩
 ·obtain⟨bs,rb⟩:=bM.reads I h1 Dp rx
  obtain⟨as,ra|ra⟩:=hS.reads I h3 ry
  ·exact SeqAt.in_list_reads ra rb (jm xs h3) (jn p h1) (qz hu h1 h2) (by rw[ut h1 h3];exact⟨.bl _,H,I,rfl,k⟩)
  ·exact SeqAt.in_tuple_reads ra rb (jm xs h3) (jn p h1) (qz hu h1 h2) (by rw[ut h1 h3];exact⟨.bl _,H,I,rfl,k⟩)
def Ib(hu:X.A.units+60<cLine):fY X (compareOp .NotIn) (abV X.K true):=by
 intro δ s σ H x y v u Q I rx ry h
 obtain⟨p,xs,Dp,hS,ok,k⟩:=h
 simp only[fG,Bool.or_eq_true,QUq,QUz]at ok
 rcases ok with ⟨h1,h2⟩|⟨⟨h1,h2⟩,h3⟩
 ·obtain⟨a,vs,rfl,hq,l⟩:=hS
  obtain⟨k1,k2⟩:=xJ Dp h1 l h2
  exact xf δ s σ H x _ v u Q I rx ry ⟨a,vs,rfl,hq,(by cases p<;>simp_all[flat]<;>(cases Dp;rfl)),k1,by simpa[k2]using k⟩
 ·obtain⟨bs,rb⟩:=bM.reads I h1 Dp rx
  obtain⟨as,ra|ra⟩:=hS.reads I h3 ry
  ·exact SeqAt.notIn_list_reads ra rb (jm xs h3) (jn p h1) (qz hu h1 h2) (by rw[ut h1 h3];exact⟨.bl _,H,I,rfl,k⟩)
  ·exact SeqAt.notIn_tuple_reads ra rb (jm xs h3) (jn p h1) (qz hu h1 h2) (by rw[ut h1 h3];exact⟨.bl _,H,I,rfl,k⟩)
end
structure Gives(K:QQq)(J:It)(xs:List D)(H:Hp):Prop where
 go:∀H1,bV H H1->∀(i:Nat)d,xs[i]? =some d->J.go i H1
 yld:∀H1,bV H H1->∀(i:Nat)d,xs[i]? =some d->∀x H2,J.yld i H1 x H2->bM K H2 d x/\(H2=H1\/∃p vs,H1 p=none/\H2=upd H1 p (.tup vs))
 stop:∀H1,bV H H1->∀(i:Nat),xs.length<=i->J.stop i H1
 len:xs.length<=sizeLine
def tI(K:QQq)(W:Wi)(env:Ev)(r:Out Rv):TI:=fun σ H R=>Sat K env σ H/\match r with
 |.ok x env'=>∃d xs,x.jF=some d/\items d=some xs/\∀J H',Nx K env σ H env' H'->Gives K J xs H'->R J H'
 |.exc c env'=>∀H',Nx K env σ H env' H'->W c env' σ H'
 |.bad=>False
def GI(X:Cx)(W:Wi)(c:Cf)(m:E)(tg e:Expr):Prop:=∀env,PI X tg e (tI X.K W env (ev c m env))
section
theorem yc{ifs:List Expr}{pos:Pos}{env:Env}(I:Nat->Shared->Prop)
  (turn:∀n s,I n s->wpAny (model prog w) A (pyNext it) (fun r ι=>match r with
   |none=>R (.ok .next) ι
   |some v=>wpAny (model prog w) A (letOwnedTupleGo target it v) (fun _ s₁'=>wpAny (model prog w) A (assign target env v) (fun _ Ω=>
     wpAny (model prog w) A (forIn ifs true fun c r=>if r=true then do let ok<-isTrue c env (eval c env);pure (ForInStep.yield ok)else pure (ForInStep.yield r)) (fun ok s₃=>
      if ok=true then wpAny (model prog w) A (eval elt env) (fun x s₄=>
       wpAny (model prog w) A (call (.builtin "list.append") [acc,x]) (fun _ s₅=>∃m,m<n/\I m s₅) (fun _ _=>False) s₄) (fun _ _=>False) s₃
      else∃m,m<n/\I m s₃) (fun _ _=>False) Ω) (fun _ _=>False) s₁') (fun _ _=>False) ι) (fun _ _=>False) s)
  n(h:I n s):
  codeAny (model prog w) A (.compLoop (.ListComp elt [⟨target,iter,ifs,0⟩] scope pos) 0 it acc env) R s:=by
 refine codeAny_loop rfl I (fun n s hI=>?_) n h
 refine wpAny_noted ?_
 refine QKq (wpAny_standAt (QKq (QGq (turn n s hI) (fun r ι Θ=>?_) fun _ _ h'=>h'.elim)))
 cases r with
 |none=>exact QKz Θ
 |some v=>
  refine QKq (QGq Θ (fun _ s₁' h₁'=>?_) fun _ _ h'=>h'.elim)
  refine QKq (QGq h₁' (fun _ Ω h₂=>QKq (QGq h₂ (fun ok s₃ h₃=>?_) fun _ _ h'=>h'.elim)) fun _ _ h'=>h'.elim)
  cases ok with
  |false=>exact QKz ⟨rfl,h₃⟩
  |true=>
   exact QKq (QKq (QGq h₃ (fun x s₄ h₄=>QKq (QGq h₄ (fun _ s₅ h₅=>QKz (QKz ⟨rfl,h₅⟩)) fun _ _ h'=>h'.elim)) fun _ _ h'=>h'.elim))
end
noncomputable def blk(X:Cx)(scope:Scope)(cl:List (Str×Addr))(N:List Str)(fp:List Addr)(s₀:Shared)(H₀:Hp):Cx where
 prog:=X.prog
 w:=X.w
 K:=X.K
 mg:=X.mg
 base:=X.base
 A:=X.A
 N:=N
 s₀:=s₀
 H₀:=H₀
 env:=compEnvC scope cl s₀.heap.objs.size X.env
 outer:=X.stack
 stack:=X.stack
 ex:=fp
 fn:=fun _=>false
 calm:=X.calm
 pn:=[]
 xe:=fun _ _=>False
def bW(η N:List Str):List Str:=η++N.map fun x=>if η.contains x then(".":Str)++x else x
structure JG(sc inner:Scope)(η N:List Str):Prop where
 kind:inner.kind=.function
 nd:(bW η N).Nodup
 loc:∀x,inner.names.lookup x=some .local->x∈η\/x=(".0":Str)
 locs:∀x∈inner.names,x.2=.local->inner.names.lookup x.1=some .local
 tg:∀x∈η,inner.names.lookup x=some .local
 nocell:∀x∈inner.names,x.2≠ .cell
 fre:∀x∈inner.names,x.2=.free->sc.names.lookup x.1=some .cell\/sc.names.lookup x.1=some .free
 dot:∀x∈N,η.contains x=true->inner.names.lookup ((".":Str)++x)=none
 dot0:(".0":Str)∉N
structure Qp(scope:Scope)(env:Env)(cl:List (Str×Addr)):Prop where
 eq:closureFor scope env=pure cl
 to:∀x c,cl.lookup x=some c->env.cells.lookup x=some c
 has:∀x,scope.names.lookup x=some .free->∃c,cl.lookup x=some c
theorem bN{env:Env}:∀{names:List (Str×NameKind)}{x:Str}{k:NameKind},
  (names.map fun(n,k)=>if (k==NameKind.free&&env.scope.kind== .function&&env.kindOf n==some .cell)then(n,NameKind.cell)else(n,k)).lookup x=some k->
   names.lookup x=some k\/(k=.cell/\names.lookup x=some .free)
 |[],_,_,h=>by simp at h
 |(n,k')::r,x,k,h=>by
  rw[Qyz]at h
  cases hx:x==n with
  |true=>
   by_cases hc:(k'==NameKind.free&&env.scope.kind== .function&&env.kindOf n==some .cell)=true
   ·simp only[hc,if_true,QHz,hx]at h
    cases h
    simp only[QUq,beq_iff_eq]at hc
    exact .inr ⟨rfl,by simp[QHz,hx,hc.1.1]⟩
   ·simp only[eq_false_of_ne_true hc,Qxq,if_false,QHz,hx]at h
    exact .inl (by simpa[QHz,hx]using h)
  |false=>
   have h':(r.map fun(n,k)=>if (k==NameKind.free&&env.scope.kind== .function&&env.kindOf n==some .cell)then(n,NameKind.cell)else(n,k)).lookup x=some k:=by
    by_cases hc:(k'==NameKind.free&&env.scope.kind== .function&&env.kindOf n==some .cell)=true
    ·simpa only[hc,if_true,QHz,hx]using h
    ·simpa only[eq_false_of_ne_true hc,Qxq,if_false,QHz,hx]using h
   rcases (@bN env r x k) h' with q|⟨q1,q2⟩
   ·exact .inl (by simpa[QHz,hx]using q)
   ·exact .inr ⟨q1,by simpa[QHz,hx]using q2⟩
theorem Pj{scope:Scope}{η:List Str}{fp:List Addr}{σ:St}
  (I:Inv X δ σ H s)(sc:JG X.env.scope scope η X.N)(co:Qp scope X.env cl)(hf:∀b∈fp,gQ X δ H b)(hlt:∀b∈fp,b<s.heap.objs.size):
  (blk X scope cl (bW η X.N) fp s H).Ok where
 mod:=I.ok.mod
 kind:=sc.kind
 glob:=I.ok.glob
 blt:=I.ok.blt
 above:=QVz _
 inj:=fun x y c h1 h2=>I.ok.inj x y c (co.to x c h1) (co.to y c h2)
 has:=fun x h=>by
  have z:scope.names.lookup x=some .free:=by
   rcases h with h|h
   ·rcases bN h with q|⟨_,q⟩
    ·exact absurd rfl (sc.nocell _ (PySem.mem_of_lookup q))
    ·exact q
   ·rcases bN h with q|⟨q,_⟩
    ·exact q
    ·cases q
  exact co.has x z
 cab:=fun x c h=>by cases h
 hd:=I.ok.hd
 frames:=I.ok.frames
 stk:=.inl rfl
 exf:=fun b hb=>⟨Qvz (hlt b hb),fun x c h=>(hf b hb).2.2.2.2.1 x c (co.to x c h)⟩
 bs:=I.bs
 bsz:=Nat.le_trans I.ok.bsz I.sz
 noex:=fun b o e hb=>by
  rcases (hf b hb).2.2.2.1 with z|z
  ·exact I.ok.noex b o e z
  ·exact absurd (Qvq (Qqz e) (Nat.le_trans I.ok.bsz z)) (Nat.lt_irrefl _)
 exfs:=fun b hb hs=>by
  obtain⟨_,h1,h2,_⟩:=hf b hb
  rcases QCq.mp (I.Bq b hs)with z|z
  ·exact h1 z
  ·exact h2 z
 mz:=I.stack
 frf:=I.qu
theorem T5{scope:Scope}{η:List Str}{fp:List Addr}{σ:St}{H:Hp}{h':Heap}
  (I:Inv X δ σ H s)(sc:JG X.env.scope scope η X.N)(co:Qp scope X.env cl)(hf:∀b∈fp,gQ X δ H b)(hlt:∀b∈fp,b<s.heap.objs.size)
  (hn:h'.Ns s.heap.objs.size fun _=>none)(hk:∀b o,s.heap.get? b=some o->h'.get? b=some o):
  Inv (blk X scope cl (bW η X.N) fp s H) [] (List.replicate η.length none++σ) H {s with heap:=h',toks:=t}:=by
 have cellK:∀c v,s.heap.IsCell c v->h'.IsCell c v:=fun c v⟨o,e,d⟩=>⟨o,hk c o e,d⟩
 refine⟨Pj I sc co hf hlt,rfl,I.bare,Un.kept hk,⟨_,hn,fun i x v e1 e2 e3=>?_⟩,fun x c e=>?_,I.hok.fresh (QVz _),fun x c e=>I.freeC x c (co.to x c e),fun p hp=>absurd (show p∈([])from hp) (by simp),I.hok.kept hk,?_⟩
 ·--an outer name that is seen within
  have hi:η.length<=i:=by
   refine Nat.le_of_not_lt fun q=>?_
   rw[Qwz (by simpa using q),List.getElem?_replicate]at e2
   split at e2<;>cases e2
  rw[QIz (by simpa using hi)]at e2
  simp only[List.length_replicate]at e2
  have e1':(bW η X.N)[i]? =some x:=e1
  unfold bW at e1'
  rw[QIz hi,QFz]at e1'
  cases ey:X.N[i-η.length]? with
  |none=>rw[ey]at e1';cases e1'
  |some y=>
   rw[ey]at e1'
   have e1'':(if η.contains y=true then(".")++y else y)=x:=QEq e1'
   have e3':=e3
   by_cases hy:η.contains y=true
   ·rw[if_pos hy]at e1''
    subst e1''
    have no:=sc.dot y (QBz ey) hy
    rcases e3' with q|q|q
    ·rcases bN q with z|⟨z,_⟩
     ·rw[no]at z;cases z
     ·cases z
    ·rcases bN q with z|⟨_,z⟩
     ·rw[no]at z;cases z
     ·rw[no]at z;cases z
    ·rcases bN q with z|⟨z,_⟩
     ·rw[no]at z;cases z
     ·cases z
   ·rw[if_neg hy]at e1''
    subst e1''
    have fr:scope.names.lookup y=some .free:=by
     rcases e3' with q|q|q
     ·rcases bN q with z|⟨z,_⟩
      ·rcases sc.loc y z with w|w
       ·exact absurd (by simpa using w) hy
       ·exact absurd (w▸QBz ey) sc.dot0
      ·cases z
     ·rcases bN q with z|⟨_,z⟩
      ·exact absurd rfl (sc.nocell _ (PySem.mem_of_lookup z))
      ·exact z
     ·rcases bN q with z|⟨z,_⟩
      ·exact z
      ·cases z
    have ou:=sc.fre _ (PySem.mem_of_lookup fr) rfl
    obtain⟨m,hm,hl⟩:=I.loc
    obtain⟨u,r,l⟩:=hl _ y v ey e2 (.inr ou)
    obtain⟨c,hc⟩:=co.has y fr
    refine⟨u,r,.inr ⟨?_,c,hc,?_⟩⟩
    ·have z:=e3'
     rcases z with z|z|z
     ·rcases bN z with w|⟨w,_⟩
      ·rw[fr]at w;cases w
      ·cases w
     ·exact .inl z
     ·exact .inr z
    ·rcases l with ⟨k,_⟩|⟨_,c',hc',z⟩
     ·have k':X.env.scope.names.lookup y=some .local:=k
      rcases ou with w|w
      ·rw[k']at w;cases w
      ·rw[k']at w;cases w
     ·rw[co.to y c hc]at hc'
      cases hc'
      exact cellK c _ z
 ·obtain⟨v,z⟩:=I.cell x c (co.to x c e)
  exact⟨v,cellK c v z⟩
 ·show(List.replicate η.length none++σ).length=(bW η X.N).length
  unfold bW
  simp only[QTq,List.length_replicate,QAq,I.len]
def slots:Tg->List Nat
 |.name i=>[i]
 |.tup is=>is
structure jC(K:QQq)(tg:Tg)(env:Ev)(σ:St)(env':Ev)(ζ:St)(H:Hp):Prop where
 dX:Sat K env' ζ H
 same:∀(i:Nat),i∉slots tg->env'[i]? =env[i]? /\ζ[i]? =σ[i]?
 vals:∀(i:Nat),i∈slots tg->∃d,env'[i]? =some (.val d)
 bors:∀(i:Nat)xs,env[i]? =some (.bor xs)->i∉slots tg
 len:ζ.length=σ.length
def tG(K:QQq)(tg:Tg):TG:=fun v σ H Q=>∃env d env',Sat K env σ H/\bM K H d v/\aX tg d env=some env'/\∀ζ,jC K tg env σ env' ζ H->Q ζ H
def GG(X:Cx)(tg:Tg)(e:Expr):Prop:=PG X e (tG X.K tg)
section
def jC.sub(h:jC K tg env σ env' ζ H){a:Addr}(o:aQ env' ζ i a):aQ env σ i a:=by
 obtain⟨⟨s,xs,e1,e2⟩,e3⟩:=o
 by_cases hi:i∈slots tg
 ·obtain⟨d,e⟩:=h.vals i hi
  rw[e]at e1;cases e1;cases e2
 ·obtain⟨q1,q2⟩:=h.same i hi
  exact⟨⟨s,xs,by rw[<-q1];exact e1,e2⟩,by rw[<-q2];exact e3⟩
def rC{s:Sl}(h:bL i s env=some env'):env'=env.set i s/\i<env.length/\∀xs,env[i]? ≠some (.bor xs):=by
 unfold bL at h
 cases e:env[i]? with
 |none=>rw[e]at h;cases h
 |some t=>
  rw[e]at h
  have hi:=(QCz.mp e).1
  cases t with
  |bor xs=>cases h
  |un=>cases h;exact⟨rfl,hi,fun xs q=>by cases q⟩
  |val d=>cases h;exact⟨rfl,hi,fun xs q=>by cases q⟩
  |own ys=>cases h;exact⟨rfl,hi,fun xs q=>by cases q⟩
def Sat.put{d:D}(S:Sat K env σ H)(hi:i<env.length)(hd:bM K H d v):Sat K (env.set i (.val d)) (σ.set i (some v)) H:=by
 have own:∀j a,aQ (env.set i (.val d)) (σ.set i (some v)) j a->aQ env σ j a:=fun j a⟨⟨s,xs,e1,e2⟩,e3⟩=>by
  by_cases hj:i=j
  ·subst hj;rw[Qwq hi]at e1;cases e1;cases e2
  ·rw[Qxz hj]at e1 e3;exact⟨⟨s,xs,e1,e2⟩,e3⟩
 refine⟨by simpa using S.len,fun j s e=>?_,fun j k a h1 h2=>S.ne j k a (own j a h1) (own k a h2)⟩
 by_cases hj:i=j
 ·subst hj
  rw[Qwq hi]at e
  cases e
  rw[Qwq (by rw[<-S.len];exact hi)]
  exact⟨v,rfl,hd⟩
 ·rw[Qxz hj]at e⊢
  exact S.sl j s e
def QV{d:D}(S:Sat K env σ H)(hd:bM K H d v)(h:bL i (.val d) env=some env'):jC K (.name i) env σ env' (σ.set i (some v)) H:=by
 obtain⟨rfl,hi,hb⟩:=rC h
 refine⟨S.put hi hd,fun j hj=>?_,fun j hj=>?_,fun j xs e hj=>?_,by simp⟩
 ·have:i≠j:=fun z=>hj (by simp[slots,z])
  exact⟨Qxz this,Qxz this⟩
 ·have e:j=i:=by simpa[slots]using hj
  subst e
  exact⟨d,Qwq hi⟩
 ·have e':j=i:=by simpa[slots]using hj
  subst e'
  exact hb xs e
end
section
def xN{x:Str}(hN:X.N.Nodup)(hi:X.N[i]? =some x)(hx:Loc X.env.scope x)(hf:X.fn x=true\/X.env.scope.names.lookup x=some .local):GG X (.name i) (.Name x pos):=by
 intro δ s σ H v u Q I r q
 obtain⟨env,d,env',S,hd,e,k⟩:=q
 exact RG hN hi hx hf δ s σ H v u Q I r (k _ (QV S hd e))
def gU(sc:Scope)(N:List Str):List Nat->List Expr->Bool
 |[],[]=>true
 |i::is,.Name x _::es=>(N[i]? ==some x)&&(sc.names.lookup x==some .local)&&gU sc N is es
 |_,_=>false
inductive ux(X:Cx):List Nat->List Expr->Prop
 |nil:ux X [] []
 |cons {i:Nat} {is:List Nat} {x:Str} {p:Pos} {es:List Expr}:X.N[i]? =some x->Loc X.env.scope x->(X.fn x=true\/X.env.scope.names.lookup x=some .local)->ux X is es->ux X (i::is) (.Name x p::es)
theorem Ml:∀{is:List Nat}{es:List Expr},gU X.env.scope X.N is es=true->ux X is es
 |[],[]=>fun _=>.nil
 |[],_::_=>fun h=>by simp[gU]at h
 |_::_,[]=>fun h=>by simp[gU]at h
 |i::is,e::es=>fun h=>by
  cases e with
  |Name x p=>
   simp only[gU,QUq,beq_iff_eq]at h
   exact .cons h.1.1 (.inl h.1.2) (.inr h.1.2) (Ml h.2)
  |_=>simp[gU]at h
theorem zZ(hN:X.N.Nodup):∀(is:List Nat)(es:List Expr),ux X is es->
  PGs X es (fun vs σ H Q=>∃env ds env',Sat X.K env σ H/\ak X.K H ds vs/\dI is ds env=some env'/\∀ζ,jC X.K (.tup is) env σ env' ζ H->Q ζ H)
 |[],[],_=>fun δ s σ H vs us Q I r⟨env,ds,env',S,l,e,k⟩=>by
  cases ds with
  |nil=>
   cases e
   refine RD δ s σ H vs us Q I r ⟨ak.bF.mp l,k σ ⟨S,fun i _=>⟨rfl,rfl⟩,fun i hi=>?_,fun i xs _=>?_,rfl⟩⟩
   ·simp[slots]at hi
   ·simp[slots]
  |cons d ds=>cases e
 |i::is,_,.cons (x:=x) (p:=p) (es:=es) h1 h2 h3 h4=>by
   intro δ s σ H vs us Q I r q
   refine Lk (xN hN h1 h2 h3) (zZ hN is es h4) (by rfl) δ s σ H vs us Q I r ?_
   obtain⟨env,ds,env',S,l,e,k⟩:=q
   cases ds with
   |nil=>cases e
   |cons d ds=>
    obtain⟨v,vr,rfl,hd,l'⟩:=ak.aN.mp l
    have e':(bL i _ env).bind _=some env':=e
    cases e1:bL i _ env with
    |none=>rw[e1]at e';cases e'
    |some γ=>
     rw[e1]at e'
     refine⟨v,vr,rfl,env,d,γ,S,hd,e1,fun ξ s1=>⟨γ,ds,env',s1.dX,l',e',fun ρ s2=>k ρ ⟨s2.dX,fun j hj=>?_,fun j hj=>?_,fun j xs q hj=>?_,s2.len.trans s1.len⟩⟩⟩
     ·have h1:j∉slots (.name i):=fun z=>hj (by simp[slots]at z⊢;exact .inl z)
      have h2:=fun z=>hj (by simp[slots]at z⊢;exact .inr z)
      exact⟨(s2.same j h2).1.trans (s1.same j h1).1,(s2.same j h2).2.trans (s1.same j h1).2⟩
     ·by_cases h2:j∈slots (.tup is)
      ·exact s2.vals j h2
      ·obtain⟨d',q⟩:=s1.vals j (by simp[slots]at hj h2⊢;exact hj.resolve_right h2)
       exact⟨d',(s2.same j h2).1.trans q⟩
     ·by_cases h1:j∈slots (.name i)
      ·exact s1.bors j xs q h1
      ·exact s2.bors j xs ((s1.same j h1).1.trans q) (by simp[slots]at hj h1⊢;exact hj.resolve_left h1)
def Dd{is:List Nat}{k:Nat}(hN:X.N.Nodup)(hc:X.calm=true)(h:ux X is es)(hl:(assignEach es X.env).length=is.length)(hst:(assignEach es X.env).findIdx? (·.1)=none):GG X (.tup is) (.Tuple es k pos):=by
 intro δ s σ H v u Q I r q
 obtain⟨env,d,env',S,hd,e,k⟩:=q
 cases d with
 |tup ds=>
  obtain⟨a,vs,rfl,hq,l⟩:=cI hd
  refine Xx hc (zZ hN is es h) hl hst δ s σ H _ u Q I r ⟨a,vs,rfl,hq,?_,env,ds,env',S,l,e,k⟩
  have lens:∀is ds env env',dI is ds env=some env'->ds.length=is.length:=by
   intro is
   induction is with
   |nil=>intro ds env env' e;cases ds with|nil=>rfl|cons _ _=>cases e
   |cons i is ih=>
    intro ds env env' e
    cases ds with
    |nil=>cases e
    |cons d ds=>
     have e':(bL i _ env).bind _=some env':=e
     cases e1:bL i _ env with
     |none=>rw[e1]at e';cases e'
     |some γ=>rw[e1]at e';simp[ih ds γ env' e']
  rw[<-l.length]
  exact lens is ds env env' e
 |_=>cases e
end
def W0:Wi:=fun _ _ _ _=>False
def Sat.lay{env:Ev}{H H2:Hp}(S:Sat K env σ H)(h:H2=H\/∃p vs,H p=none/\H2=upd H p (.tup vs)):Nx K env σ H env H2:=by
 rcases h with rfl|⟨p,vs,hp,rfl⟩
 ·exact Nx.refl S
 ·exact Nx.laid S hp
def rO{σ:St}{a:Addr}:aQ (env.drop nl) (σ.drop nl) i a↔aQ env σ (nl+i) a:=by
 unfold aQ
 rw[List.getElem?_drop,List.getElem?_drop]
theorem Sat.drop{env:Ev}{H:Hp}(S:Sat K env σ H):Sat K (env.drop nl) (σ.drop nl) H:=by
 refine⟨by rw[List.length_drop,List.length_drop,S.len],fun i s e=>?_,fun i j a h1 h2=>?_⟩
 ·rw[List.getElem?_drop]at e⊢
  exact S.sl _ s e
 ·have:=S.ne _ _ a (rO.mp h1) (rO.mp h2)
  omega
def iM{σ:St}{i:Nat}(h:aQ (List.replicate nl .un++env) (List.replicate nl none++σ) i a):∃j,i=nl+j/\aQ env σ j a:=by
 obtain⟨⟨s,xs,e1,e2⟩,e3⟩:=h
 by_cases hi:i<nl
 ·rw[Qwz (by simpa using hi),List.getElem?_replicate,if_pos hi]at e1
  cases e1;cases e2
 ·refine⟨i-nl,by omega,?_⟩
  rw[QIz (by simp;omega)]at e1 e3
  simp only[List.length_replicate]at e1 e3
  exact⟨⟨s,xs,e1,e2⟩,e3⟩
def Sat.front{env:Ev}{H:Hp}(S:Sat K env σ H)nl:Sat K (List.replicate nl .un++env) (List.replicate nl none++σ) H:=by
 refine⟨by simp[S.len],fun i s e=>?_,fun i j a h1 h2=>?_⟩
 ·by_cases hi:i<nl
  ·rw[Qwz (by simpa using hi),List.getElem?_replicate,if_pos hi]at e
   cases e;trivial
  ·rw[QIz (by simp;omega)]at e⊢
   simp only[List.length_replicate]at e⊢
   exact S.sl _ s e
 ·obtain⟨i',rfl,o1⟩:=iM h1
  obtain⟨j',rfl,o2⟩:=iM h2
  rw[S.ne i' j' a o1 o2]
structure Ba(X:Cx)(c:Cf)(scope:Scope)(η:List Str)(tg:Tg)(cond elt:E)(tgE Ξ:Expr)(ifs:List Expr):Prop where
 sc:JG X.env.scope scope η X.N
 small:∀i∈slots tg,i<η.length
 tgt:∀cl fp s₀ H₀,(blk X scope cl (bW η X.N) fp s₀ H₀).Ok->GG (blk X scope cl (bW η X.N) fp s₀ H₀) tg tgE
 tests:(ifs=[]/\cond=.con (.bl true))\/∃ce,ifs=[ce]/\∀cl fp s₀ H₀,(blk X scope cl (bW η X.N) fp s₀ H₀).Ok->GT (blk X scope cl (bW η X.N) fp s₀ H₀) W0 c cond ce
 elts:∀cl fp s₀ H₀,(blk X scope cl (bW η X.N) fp s₀ H₀).Ok->GE (blk X scope cl (bW η X.N) fp s₀ H₀) W0 c elt Ξ
structure LI(X:Cx)(c:Cf)(tg:Tg)(cond elt:E)(xs ys:List D)(τ env0:Ev)(σ σ0:St)(H3:Hp)(D:Addr)(nl i:Nat)(acc:List Mini.D)(vs:List V)(τ1:Ev)(ξ:St)(H1:Hp):Prop where
 le:i<=xs.length
 go:aV tg (ev c cond) (ev c elt) (xs.drop i) acc τ1=.ok ys τ
 dX:Sat X.K τ1 ξ H1
 out:ξ.drop nl=σ
 acl:acc.length<=i
 cur:H1 D=some (.lst vs)
 den:ak X.K H1 acc vs
 sub:∀k a,aQ τ1 ξ k a->aQ env0 σ0 k a
 pers:bV H3 H1
 keep:∀b u,H3 b=some u->b≠D->(∀k,¬aQ env0 σ0 k b)->H1 b=some u
 dom:∀b,H1 b=none->H3 b=none
 bors:∀(k:Nat)ws,env0[k]? =some (.bor ws)->∃ws',τ1[k]? =some (.bor ws')
section
variable{cond elt:E}{D:Addr}
def LI.no(L:LI X c tg cond elt xs ys τ env0 σ σ0 H3 D nl i acc vs τ1 ξ H1)(hD:∀k,¬aQ env0 σ0 k D):∀k,¬aQ τ1 ξ k D:=fun k z=>hD k (L.sub k D z)
end
structure Ch(K:QQq)(env:Ev)(σ:St)(H:Hp)(env':Ev)(ζ:St)(H':Hp):Prop where
 dX:Sat K env' ζ H'
 sub:∀(i:Nat)a,aQ env' ζ i a->aQ env σ i a
 pers:bV H H'
 keep:∀b u,H b=some u->(∀i,¬aQ env σ i b)->H' b=some u
 dom:∀b,H' b=none->H b=none
 bors:∀(i:Nat)xs,env[i]? =some (.bor xs)->∃ys,env'[i]? =some (.bor ys)
section
def Nx.ch(N:Nx K env σ H γ H1):Ch K env σ H γ σ H1:=⟨N.dX,N.sub,N.pers,N.keep,N.dom,N.bors⟩
def jC.ch(h:jC K tg env σ γ ξ H):Ch K env σ H γ ξ H:=⟨h.dX,fun _ _ z=>h.sub z,bV.refl H,fun _ _ z _=>z,fun _ z=>z,fun i xs e=>⟨xs,(h.same i (h.bors i xs e)).1.trans e⟩⟩
theorem Ch.trans(a:Ch K env σ H γ ξ H1)(b:Ch K γ ξ H1 ε ρ H2):Ch K env σ H ε ρ H2:=
 ⟨b.dX,fun i c z=>a.sub i c (b.sub i c z),a.pers.trans b.pers,fun c vs z n=>b.keep c vs (a.keep c vs z n) fun i w=>n i (a.sub i c w),fun c z=>a.dom c (b.dom c z),fun i xs e=>let ⟨ys,e1⟩:=a.bors i xs e;b.bors i ys e1⟩
end
def jC.out{tg:Tg}{σ ξ:St}{nl:Nat}(h:jC K tg env σ γ ξ H)(hs:∀i∈slots tg,i<nl):ξ.drop nl=σ.drop nl:=by
 apply List.ext_getElem?
 intro i
 rw[List.getElem?_drop,List.getElem?_drop]
 exact(h.same _ fun z=>by have:=hs _ z;omega).2
section
variable{cond elt:E}{D:Addr}
theorem LI.skip(L:LI X c tg cond elt xs ys τ env0 σ σ0 H3 D nl i acc vs τ1 ξ H1)(hD:∀k,¬aQ env0 σ0 k D)(C:Ch X.K τ1 ξ H1 τ2 ρ H2)(hi:i<xs.length)(ho:ρ.drop nl=σ)
  (go:aV tg (ev c cond) (ev c elt) (xs.drop (i+1)) acc τ2=.ok ys τ):LI X c tg cond elt xs ys τ env0 σ σ0 H3 D nl (i+1) acc vs τ2 ρ H2 where
 le:=hi
 go:=go
 dX:=C.dX
 out:=ho
 acl:=Nat.le_succ_of_le L.acl
 cur:=C.keep D _ L.cur (L.no hD)
 den:=L.den.mono C.pers
 sub:=fun k a z=>L.sub k a (C.sub k a z)
 pers:=L.pers.trans C.pers
 keep:=fun b ws z n1 n2=>C.keep b ws (L.keep b ws z n1 n2) fun k o=>n2 k (L.sub k b o)
 dom:=fun b z=>L.dom b (C.dom b z)
 bors:=fun k ws e=>let ⟨w1,e1⟩:=L.bors k ws e;C.bors k w1 e1
def LI.push{v:V}(L:LI X c tg cond elt xs ys τ env0 σ σ0 H3 D nl i acc vs τ1 ξ H1)(hD:∀k,¬aQ env0 σ0 k D)(C:Ch X.K τ1 ξ H1 τ2 ρ H2)(hi:i<xs.length)(ho:ρ.drop nl=σ)
  (go:aV tg (ev c cond) (ev c elt) (xs.drop (i+1)) (acc++[d]) τ2=.ok ys τ)(hd:bM X.K H2 d v):LI X c tg cond elt xs ys τ env0 σ σ0 H3 D nl (i+1) (acc++[d]) (vs++[v]) τ2 ρ (upd H2 D (.lst (vs++[v]))):=by
 have cur:=C.keep D _ L.cur (L.no hD)
 have ne:∀b u,H2 b=some u->(∀ws,u≠ .lst ws)->b≠D:=fun b u q n z=>by subst z;rw[cur]at q;cases q;exact n vs rfl
 have p:bV H2 (upd H2 D (.lst (vs++[v]))):=⟨fun b ws q=>by rw[aC (ne b _ q (by intro ws z;cases z))];exact q,fun b o u q=>by rw[aC (ne b _ q (by intro ws z;cases z))];exact q⟩
 have no2:=fun k z=>L.no hD k (C.sub k D z)
 refine⟨hi,go,C.dX.keep p fun k b u ow hb=>?_,ho,by rw[QTq];exact Nat.succ_le_succ L.acl,aU,((L.den.mono C.pers).append (ak.cR hd ak.fj)).mono p,fun k a z=>L.sub k a (C.sub k a z),
  (L.pers.trans C.pers).trans p,fun b ws z n1 n2=>?_,fun b z=>L.dom b (C.dom b ?_),fun k ws e=>let ⟨w1,e1⟩:=L.bors k ws e;C.bors k w1 e1⟩
 ·rw[aC (fun z=>by subst z;exact no2 k ow)];exact hb
 ·rw[aC n1]
  exact C.keep b ws (L.keep b ws z n1 n2) fun k o=>n2 k (L.sub k b o)
 ·by_cases hb:b=D
  ·subst hb;rw[aU]at z;cases z
  ·rw[aC hb]at z;exact z
end
def vZ{α:Type}{xs:List α}{d:α}(h:xs[i]? =some d):xs.drop i=d::xs.drop (i+1):=by
 obtain⟨hi,e⟩:=QCz.mp h
 rw[List.drop_eq_getElem_cons hi,e]
def v5{c:Cf}{scope:Scope}{tg:Tg}{cond elt:E}{ifs:List Expr}
{σ:St} {s:Shared} {J:It} {it:Addr} {xs ys:List D} {RR:Value->Addr->Result->Shared->Prop} {E:QZq}
  (B:Ba X c scope η tg cond elt tgE Ξ ifs) (hc:X.calm=true) (co:Qp scope X.env cl)
  (I:Inv X δ σ H s) (S:Sat X.K env σ H) (T:Turn X.prog X.w X.K tgE J fp it tn) (t0:tn 0 s.heap) (hf:∀b∈fp,gQ X δ H b) (G:Gives X.K J xs H)
  (hgo:aV tg (ev c cond) (ev c elt) xs [] (List.replicate η.length .un++env)=.ok ys τ)
  (hRR:∀(D C:Addr)(s':Shared)(H':Hp)(vs:List V)(m:QZz),Inv X δ σ H' s'->Nx X.K env σ H (τ.drop η.length) H'->H' D=some (.lst vs)->ak X.K H' ys vs->H D=none->
   s'.heap.Ns C m->gQ X δ H' C->RR (.ref D) C (.ok .next) s'):
  wpAny (model X.prog X.w) X.A (newList []) (fun acc s₃=>wpAny (model X.prog X.w) X.A (newFunctionEnv scope X.env.globals cl [] X.env.qual none .none (some X.env)) (fun cenv s₄=>
   codeAny (model X.prog X.w) X.A (.compStart (.ListComp Ξ [⟨tgE,ο,ifs,0⟩] scope pos) 0 (.ref it) acc {cenv with scope:=relabel scope X.env}) (RR acc cenv.locals) s₄) E s₃) E s:=by
 have hlt:∀b∈fp,b<s.heap.objs.size:=fun b hb=>by
  obtain⟨o,e,_⟩:=T.obj 0 _ t0 b hb
  exact Qqz e
 refine Qjq (wpAny_newFunctionEnv B.sc.nocell (by intro y hy;simp at hy) (fun Θ hns₁ hsb₁=>?_) B.sc.kind)
 dsimp only at hns₁ hsb₁⊢
 generalize hDd:s.heap.objs.size=D at*
 have hDn:H D=none:=by rw[<-hDd];exact I.hok.fresh (QVz _)
 have I3:Inv X δ σ (upd H D (.lst [])) {s with heap:=s.heap.push {cls:=.type "list",dict:=none,data:=.seq ([]:List Value).toArray}}:=by
  have:=I.laid (a:=s.heap.objs.size) (o:=.lst []) (t':=s.toks) (h':=s.heap.push {cls:=.type "list",dict:=none,data:=.seq ([]:List Value).toArray}) (fun b o e=>QWq _ e) (QVz _) ⟨QIq _,[],0,.nil,Qzq _ rfl⟩
  rw[hDd]at this
  exact this
 obtain⟨s3,hs3⟩:∃s3:Shared,s3={s with heap:=s.heap.push {cls:=.type "list",dict:=none,data:=.seq ([]:List Value).toArray}}:=⟨_,rfl⟩
 rw[<-hs3]at I3
 have hs3h:s.heap.push {cls:=.type "list",dict:=none,data:=.seq ([]:List Value).toArray}=s3.heap:=by rw[hs3]
 rw[hs3h]at hns₁ hsb₁⊢
 have hsz:s3.heap.objs.size=D+1:=by rw[<-hs3h,Heap.size_push,hDd]
 have hk3:=fun b o e=>hsb₁.extBut b o (Qvz (Qqz e)) (QWq _ e)
 have hk:∀b o,s.heap.get? b=some o->s3.heap.get? b=some o:=fun b o e=>by rw[<-hs3h];exact QWq _ e
 have hf3:∀b∈fp,gQ X δ (upd H D (.lst [])) b:=fun b hb=>⟨by
  rw[aC (Qvz (hlt b hb))];exact(hf b hb).1,(hf b hb).2⟩
 have hlt3:∀b∈fp,b<s3.heap.objs.size:=fun b hb=>Qvq (hlt b hb) (by rw[hsz];exact Nat.le_succ _)
 have N3:Nx X.K env σ H env (upd H D (.lst [])):=Nx.laid S hDn
 generalize hH3:upd H D (.lst [])=H3 at I3 hf3 N3
 have hD3:H3 D=some (.lst []):=by rw[<-hH3];exact aU
 have noD:∀k,¬aQ (List.replicate η.length .un++env) (List.replicate η.length none++σ) k D:=fun k z=>by
  obtain⟨j,_,o⟩:=iM z
  obtain⟨_,_,q,_⟩:=S.own o
  rw[hDn]at q;cases q
 have ok':=Pj I3 B.sc co hf3 hlt3
 have hns':Θ.Ns s3.heap.objs.size fun _=>none:=by simpa using hns₁
 have fpk:∀{H1:Hp},(∀b∈fp,H1 b=none)->∀b∈fp,gQ (blk X scope cl (bW η X.N) fp s3 H3) [] H1 b:=fun{H1}hn b hb=>
  ⟨hn b hb,(ok'.exf b hb).1,ok'.exfs b hb,.inl hb,fun x q e=>(ok'.exf b hb).2 x q e,fun p hp=>absurd (show p∈([]:QQz)from hp) (by simp)⟩
 have loop:∀s4:Shared,s4={s with heap:=Θ,toks:=s.toks+([]:List (Str×Value)).length}->
   codeAny (model X.prog X.w) X.A (.compLoop (.ListComp Ξ [⟨tgE,ο,ifs,0⟩] scope pos) 0 (.ref it) (.ref D) (compEnvC scope cl s3.heap.objs.size X.env)) (RR (.ref D) s3.heap.objs.size) s4:=by
  rintro s4 rfl
  have I4:Inv (blk X scope cl (bW η X.N) fp s3 H3) [] (List.replicate η.length none++σ) H3 {s with heap:=Θ,toks:=s.toks+([]:List (Str×Value)).length}:=by
   have:=T5 (t:=s.toks+([]:List (Str×Value)).length) I3 B.sc co hf3 hlt3 hns' hk3
   rw[hs3]at this⊢
   exact this
  refine yc (fun n s'=>∃i acc vs τ1 ξ H1,n=xs.length-i/\Inv (blk X scope cl (bW η X.N) fp s3 H3) [] ξ H1 s'/\tn i s'.heap/\(∀b∈fp,H1 b=none)/\
   LI X c tg cond elt xs ys τ (List.replicate η.length .un++env) σ (List.replicate η.length none++σ) H3 D η.length i acc vs τ1 ξ H1) ?_ xs.length ?_
  ·rintro n s1 ⟨i,acc,vs,τ1,ξ,H1,rfl,I1,t1,f1,L⟩
   by_cases hi:i<xs.length
   ·--one more turn
    obtain⟨d,hd⟩:∃d,xs[i]? =some d:=⟨xs[i],by simp[hi]⟩
    have q0:=L.go
    rw[vZ hd,aV]at q0
    cases hset:aX tg d τ1 with
    |none=>rw[hset]at q0;cases q0
    |some τ2=>
     rw[hset]at q0
     simp only at q0
     have p1:=N3.pers.trans L.pers
     refine b8 (T.item (blk X scope cl (bW η X.N) fp s3 H3) rfl rfl rfl hc i [] s1 ξ H1 _ I1 (fpk f1) t1 (G.go H1 p1 i d hd)) fun r s2⟨u,hr,h2⟩=>?_
     subst hr
     refine b8 h2 fun _ s3'⟨x,H2,I2,r2,y2,t2,f2⟩=>?_
     obtain⟨Dx,lay⟩:=G.yld H1 p1 i d hd x H2 y2
     have N2:=L.dX.lay lay
     have D2:=N2.keep D _ L.cur (L.no noD)
     have I2':=I2.pinned (fpk f2) (T.obj _ _ t2)
     refine b8 (B.tgt cl fp s3 H3 ok' _ s3' ξ H2 x u (fun ρ H'=>H'=H2/\jC X.K tg τ1 ξ τ2 ρ H2) I2' r2 ⟨τ1,d,τ2,N2.dX,Dx,hset,fun ρ st=>⟨rfl,st⟩⟩) fun _ s4'⟨ρ,H2',I3',hH,st⟩=>?_
     subst hH
     have ho:=(st.out B.small).trans L.out
     have C2:=N2.ch.trans st.ch
     have again:∀{s7:Shared}{H7:Hp}{acc':List Mini.D}{vs':List V}{τ7:Ev},Inv (blk X scope cl (bW η X.N) fp s3 H3) ([]++rM fp s3'.heap) ρ H7 s7->
       LI X c tg cond elt xs ys τ (List.replicate η.length .un++env) σ (List.replicate η.length none++σ) H3 D η.length (i+1) acc' vs' τ7 ρ H7->
       ∃k,k<xs.length-i/\∃i acc vs τ1 ξ H1,k=xs.length-i/\Inv (blk X scope cl (bW η X.N) fp s3 H3) [] ξ H1 s7/\tn i s7.heap/\(∀b∈fp,H1 b=none)/\
        LI X c tg cond elt xs ys τ (List.replicate η.length .un++env) σ (List.replicate η.length none++σ) H3 D η.length i acc vs τ1 ξ H1:=fun{s7 H7 acc' vs' τ7}I7 L7=>by
      refine⟨xs.length- (i+1),by omega,i+1,acc',vs',τ7,ρ,H7,rfl,I7.mK,T.keep _ _ _ t2 fun b hb o e=>(I7.pin (b,o) (QVq _ (QVq _ (jd hb e)))).1,fun b hb=>?_,L7⟩
      obtain⟨o,e,_⟩:=T.obj _ _ t2 b hb
      exact(I7.pin (b,o) (QVq _ (QVq _ (jd hb e)))).2.1
     obtain⟨xc,dc,bc,τ3,e1,e2,e3,q1⟩:∃xc dc bc τ3,ev c cond τ2=.ok xc τ3/\xc.jF=some dc/\iU dc=some bc/\
       (if bc then(ev c elt τ3).ao fun d σ₃=>aV tg (ev c cond) (ev c elt) (xs.drop (i+1)) (acc++[d]) σ₃ else aV tg (ev c cond) (ev c elt) (xs.drop (i+1)) acc τ3)=.ok ys τ:=by
      cases r:ev c cond τ2 with
      |bad=>rw[r]at q0;cases q0
      |exc k τ3=>rw[r]at q0;cases q0
      |ok xc τ3=>
       rw[r]at q0
       cases xc with
       |ref k=>cases q0
       |tmp zs=>cases q0
       |val dc=>
        simp only[Out.cC,Out.ao]at q0
        cases q:iU dc with
        |none=>rw[q]at q0;cases q0
        |some bc=>rw[q]at q0;exact⟨_,dc,bc,τ3,rfl,rfl,q,q0⟩
       |new zs=>
        simp only[Out.cC,Out.ao]at q0
        cases q:iU zs.d with
        |none=>rw[q]at q0;cases q0
        |some bc=>rw[q]at q0;exact⟨_,zs.d,bc,τ3,rfl,rfl,q,q0⟩
     have after:∀(s5:Shared)(H5:Hp),Inv (blk X scope cl (bW η X.N) fp s3 H3) ([]++rM fp s3'.heap) ρ H5 s5->Nx X.K τ2 ρ H2' τ3 H5->
       (if bc=true then wpAny (model X.prog X.w) X.A (eval Ξ (compEnvC scope cl s3.heap.objs.size X.env)) (fun x s₄=>
        wpAny (model X.prog X.w) X.A (call (.builtin "list.append") [.ref D,x]) (fun _ s₅=>∃m,m<xs.length-i/\∃i acc vs τ1 ξ H1,m=xs.length-i/\Inv (blk X scope cl (bW η X.N) fp s3 H3) [] ξ H1 s₅/\tn i s₅.heap/\(∀b∈fp,H1 b=none)/\
        LI X c tg cond elt xs ys τ (List.replicate η.length .un++env) σ (List.replicate η.length none++σ) H3 D η.length i acc vs τ1 ξ H1) (fun _ _=>False) s₄) (fun _ _=>False) s5
       else∃m,m<xs.length-i/\∃i acc vs τ1 ξ H1,m=xs.length-i/\Inv (blk X scope cl (bW η X.N) fp s3 H3) [] ξ H1 s5/\tn i s5.heap/\(∀b∈fp,H1 b=none)/\
        LI X c tg cond elt xs ys τ (List.replicate η.length .un++env) σ (List.replicate η.length none++σ) H3 D η.length i acc vs τ1 ξ H1):=fun s5 H5 I5 N5=>by
      have C5:=C2.trans N5.ch
      cases bc with
      |false=>
       exact again I5 (L.skip noD C5 hi ho q1)
      |true=>
       obtain⟨xe,de,τ4,e4,e5,q2⟩:∃xe de τ4,ev c elt τ3=.ok xe τ4/\xe.jF=some de/\aV tg (ev c cond) (ev c elt) (xs.drop (i+1)) (acc++[de]) τ4=.ok ys τ:=by
        cases r:ev c elt τ3 with
        |bad=>rw[r]at q1;cases q1
        |exc k τ3=>rw[r]at q1;cases q1
        |ok xe τ4=>
         rw[r]at q1
         cases xe with
         |ref k=>cases q1
         |tmp zs=>cases q1
         |val de=>exact⟨_,de,τ4,rfl,rfl,q1⟩
         |new zs=>exact⟨_,zs.d,τ4,rfl,rfl,q1⟩
       refine b8 ((B.elts cl fp s3 H3 ok').d _ s5 ρ H5 (fun v H6=>Nx X.K τ3 ρ H5 τ4 H6/\bM X.K H6 de v) I5 ⟨τ3,N5.dX,?_⟩) fun u s6⟨v,H6,I6,r6,N6,D6⟩=>?_
       ·rw[e4]
        cases xe with
        |ref k=>cases e5
        |tmp zs=>cases e5
        |val d'=>cases e5;exact fun v H' N Dv=>⟨N,Dv⟩
        |new zs=>cases e5;exact fun v H' N Dv=>⟨N,Dv⟩
       ·have C6:=C5.trans N6.ch
        have cur:=C6.keep D _ L.cur (L.no noD)
        have lenv:vs.length<sizeLine:=by
         have h1:=L.den.length
         have h2:=L.acl
         have h3:=G.len
         omega
        refine b8 (vB (X:=blk X scope cl (bW η X.N) fp s3 H3) _ s6 ρ H6 (.ref D) [v] (.ref D) [u] (fun _ H7=>H7=upd H6 D (.lst (vs++[v]))) I6 rfl (.cons r6 .nil) ⟨D,vs,v,rfl,rfl,cur,lenv,rfl⟩) fun _ s7⟨_,H7,I7,_,e7⟩=>?_
        subst e7
        exact again I7 (L.push noD C6 hi ho q2 D6)
     rcases B.tests with ⟨ei,ec⟩|⟨ce,ei,hC⟩
     ·subst ei ec
      cases e1
      cases e2
      cases e3
      exact QKz (after s4' H2' I3' (Nx.refl st.dX))
     ·subst ei
      refine wpAny_tests_one (b8 (hC cl fp s3 H3 ok' _ s4' ρ H2' (fun k H'=>k=bc/\Nx X.K τ2 ρ H2' τ3 H') I3' ⟨τ2,st.dX,by rw[e1];exact⟨dc,bc,e2,e3,fun H' N=>⟨rfl,N⟩⟩⟩) fun k s5⟨H5,I5,hk',N5⟩=>?_)
      subst hk'
      exact after s5 H5 I5 N5
   ·--the end
    have e:=Nat.le_antisymm L.le (Nat.le_of_not_lt hi)
    have q0:=L.go
    rw[e,List.drop_length,aV]at q0
    cases q0
    refine b8 (T.done (blk X scope cl (bW η X.N) fp s3 H3) rfl rfl rfl hc i [] s1 ξ H1 _ I1 (fpk f1) t1 (G.stop H1 (N3.pers.trans L.pers) i (by omega))) fun r s2⟨hr,I2⟩=>?_
    subst hr
    obtain⟨m,hm,_⟩:=I2.loc
    have IX:=Inv.call' I3 I2.os I2.base I2.hok I2.bare fun b hb=>⟨(hf3 b hb).2.2.2.1,(hf3 b hb).2.1,(hf3 b hb).2.2.2.2.1,(hf3 b hb).2.2.2.2.2⟩
    refine hRR D s3.heap.objs.size s2 H1 vs m IX ⟨?_,fun k a z=>?_,N3.pers.trans L.pers,fun b ws z w=>?_,fun b z=>N3.dom b (L.dom b z),fun k ws z=>?_⟩ L.cur L.den hDn hm (I3.z9 (QVz _) I2.free)
    ·have:=L.dX.drop (nl:=η.length)
     rw[L.out]at this
     exact this
    ·have z':aQ (τ.drop η.length) (ξ.drop η.length) k a:=by rw[L.out];exact z
     obtain⟨j,ej,o⟩:=iM (L.sub _ a (rO.mp z'))
     have:k=j:=by omega
     subst this
     exact o
    ·refine L.keep b ws (N3.keep b ws z w) (fun q=>?_) fun k o=>?_
     ·subst q;rw[hDn]at z;cases z
     ·obtain⟨j,_,o'⟩:=iM o
      exact w j o'
    ·obtain⟨ws',q⟩:=L.bors (η.length+k) ws (by rw[QIz (by simp)];simpa using z)
     exact⟨ws',by rw[List.getElem?_drop];exact q⟩
  ·refine⟨0,[],[],_,_,H3,rfl,I4,T.keep _ _ _ t0 fun b _ o e=>hk3 b o (hk b o e),fun b hb=>(hf3 b hb).1,⟨QIq _,hgo,N3.dX.front _,by simp,QVz _,hD3,ak.fj,fun _ _ z=>z,bV.refl _,fun _ _ z _ _=>z,fun _ z=>z,fun _ ws z=>⟨ws,z⟩⟩⟩
 exact codeAny_compStart_list (loop _ rfl) (T.self _ 0 _ _ _ (T.keep _ _ _ t0 fun b _ o e=>hk3 b o (hk b o e)) (loop _ rfl))
section
def eV:Cm->CmpOp
 |.eq=>.Eq
 |.ne=>.NotEq
 |.lt=>.Lt
 |.le=>.LtE
 |.gt=>.Gt
 |.ge=>.GtE
 |.isin=>.In
 |.notin=>.NotIn
 |.jJ=>.Is
 |.notN=>.IsNot
def iD(X:Cx)(op:CmpOp)(f:D->D->Option Bool):Prop:=
 ∃r,fY X (compareOp op) r/\∀(H:Hp)(x y:D)(k:Bool)(v u:V)(Q:VK),bM X.K H x v->cU X.K H y u->f x y=some k->Q (.bl k) H->r v u H Q
theorem cU.int{H:Hp}{v:V}(h:cU K H (.int i) v):v=.int i:=by
 rcases h with h|⟨o,a,q,_⟩
 ·exact h
 ·cases o<;>cases q
def BJ{g:Int->Int->Bool}(ho:fY X (compareOp op) (K9 fun i j=>.bl (g i j)))(hf:∀x y k,f x y=some k->∃i j,x=.int i/\y=.int j/\k=g i j):iD X op f:=
 ⟨_,ho,fun H x y k v u Q Dx Dy e q=>by
  obtain⟨i,j,rfl,rfl,rfl⟩:=hf x y k e
  exact⟨i,j,Dx,Dy.int,q⟩⟩
def abM(hu:X.A.units+60<cLine):iD X .Eq (aG .eq):=⟨_,X7 hu,fun H x y k v u Q Dx Dy e q=>by
 unfold aG at e;dsimp only at e
 split at e
 ·rename_i h;cases e;exact⟨x,y,.inl Dx,Dy,h,q⟩
 ·cases e⟩
def abG(hu:X.A.units+60<cLine):iD X .NotEq (aG .ne):=⟨_,XR hu,fun H x y k v u Q Dx Dy e q=>by
 unfold aG at e;dsimp only at e
 split at e
 ·rename_i h;cases e;exact⟨x,y,.inl Dx,Dy,h,q⟩
 ·cases e⟩
def abI:iD X .LtE (aG .le):=BJ acb fun x y k e=>by
 cases x<;>cases y<;>(unfold aG at e;simp at e)
 exact⟨_,_,rfl,rfl,e.symm⟩
def abL:iD X .GtE (aG .ge):=BJ ace fun x y k e=>by
 cases x<;>cases y<;>(unfold aG at e;simp at e)
 exact⟨_,_,rfl,rfl,e.symm⟩
def cU.Q0{H:Hp}{v:V}(h:cU K H (.tup xs) v):Qh K H xs v:=by
 rcases h with h|⟨o,a,q,_⟩
 ·obtain⟨a,vs,rfl,hq,l⟩:=cI h
  exact⟨a,vs,rfl,.inr hq,l⟩
 ·cases o<;>cases q
def cU.KC{H:Hp}{v:V}(h:cU K H (.lst xs) v):Qh K H xs v:=by
 rcases h with h|⟨o,a,q,rfl,u,ha,hq⟩
 ·obtain⟨a,vs,rfl,hq,l⟩:=dg h
  exact⟨a,vs,rfl,.inl hq.sq,l⟩
 ·cases o<;>cases q
  obtain⟨vs,rfl,l⟩:=hq
  exact⟨a,vs,rfl,.inl (.inl (.inl ha)),l⟩
theorem cU.str{H:Hp}{v:V}(h:cU K H (.str x) v):v=.str x:=by
 rcases h with h|⟨o,a,q,_⟩
 ·exact h
 ·cases o<;>cases q
def Nq x y(h:x.length=1):(!(Builtin.Str.occurrences y x 0 y.length 1).isEmpty)=aJ (.str x) (signs y):=by
 obtain⟨cps⟩:=x
 obtain⟨l⟩:=cps
 match l,h with
 |[k],_=>
  have:=PySem.StrLaws.found_one y k
  rw[this]
  unfold signs
  generalize y.cps.toList=cs
  induction cs with
  |nil=>rfl
  |cons z zs ih=>
   show decide _=(cD _ _||aJ _ _)
   rw[<-ih]
   have e:cD (.str ⟨#[z]⟩) (.str ⟨#[k]⟩)=decide (k=z):=by
    simp only[cD]
    by_cases q:k=z
    ·subst q;simp
    ·have q':¬z=k:=fun e=>q e.symm
     simp[q,q']
   rw[e]
   by_cases q:k=z
   ·simp[q]
   ·simp[q]
def kI k:(jD kvs k).isSome=aJ (dN k) (kvs.map fun p=>dN p.1):=by
 induction kvs with
 |nil=>rfl
 |cons p r ih=>
  obtain⟨k',v⟩:=p
  show _=(cD _ _||aJ _ _)
  rw[<-ih]
  have e:cD (dN k') (dN k)=decide (k'=k):=by
   cases k'<;>cases k<;>simp[dN,cD,Bool.beq_eq_decide_eq]
  rw[e]
  by_cases q:k'=k
  ·subst q;simp[jM]
  ·simp[q,jN]
def gm(h:keyOk x=true):∃k:Key,x=dN k:=by
 cases x<;>simp[keyOk]at h
 ·exact⟨.inl _,rfl⟩
 ·exact⟨.inr _,rfl⟩
def lH{H:Hp}{v:V}(h:bM K H (dN k) v):v=kV k:=by
 cases k<;>exact h
def K8(neg:Bool):R2:=fun x y H Q=>∃a k kvs,y=.ref a/\x=kV k/\Rd H a (.dK kvs)/\Q (.bl (if neg then !(jD kvs k).isSome else(jD kvs k).isSome)) H
def LQ(hu:X.A.units+1<cLine):fY X (compareOp .In) (K8 false):=by
 intro δ s σ H x y v u Q I rx ry h
 obtain⟨a,k,kvs,rfl,rfl,hd,q⟩:=h
 cases ry
 exact agX hu I (.inl ⟨kvs,k,hd,rfl,rfl⟩) rx fun s3 I3=>⟨.bl _,H,I3,rfl,q⟩
def zu(hu:X.A.units+1<cLine):fY X (compareOp .NotIn) (K8 true):=by
 intro δ s σ H x y v u Q I rx ry h
 obtain⟨a,k,kvs,rfl,rfl,hd,q⟩:=h
 cases ry
 exact TJ hu I (.inl ⟨kvs,k,hd,rfl,rfl⟩) rx fun s3 I3=>⟨.bl _,H,I3,rfl,q⟩
def nH{H:Hp}{v:V}(h:cU K H (.cH ks ds) v):∃a kvs,v=.ref a/\Rd H a (.dK kvs)/\ks=kvs.map (fun p=>dN p.1)/\ak K H ds (kvs.map (·.2)):=by
 rcases h with h|⟨o,a,q,rfl,u,ha,hq⟩
 ·unfold bM at h;obtain⟨a,o,kvs,e,r,k⟩:=h;exact⟨a,kvs,e,.inr ⟨o,r⟩,k⟩
 ·cases o<;>cases q
  obtain⟨kvs,rfl,k,l⟩:=hq
  exact⟨a,kvs,rfl,.inl ha,k,l⟩
def abU(K:QQq)(neg:Bool):R2:=fun x y H Q=>∃a d k xs,x=.ref a/\y=.ref d/\Rd H d (.dS xs)/\(∀x∈xs,cA K H x.1 x.2.1)/\cA K H k a/\Q (.bl (if neg then !(zG k xs).isSome else(zG k xs).isSome)) H
def X5(hu:X.A.units+2<cLine):fY X (compareOp .In) (abU X.K false):=by
 intro δ s σ H x y v u Q I rx ry h
 obtain⟨a,d,k,xs,rfl,rfl,hd,hk,ha,q⟩:=h
 cases rx
 cases ry
 exact ae3 hu I hd hk ha fun s3 I3=>⟨.bl _,H,I3,rfl,q⟩
def Ia(hu:X.A.units+2<cLine):fY X (compareOp .NotIn) (abU X.K true):=by
 intro δ s σ H x y v u Q I rx ry h
 obtain⟨a,d,k,xs,rfl,rfl,hd,hk,ha,q⟩:=h
 cases rx
 cases ry
 exact Q6 hu I hd hk ha fun s3 I3=>⟨.bl _,H,I3,rfl,q⟩
def xX{H:Hp}{v:V}(h:cU K H (.jH ks ds) v):∃a xs,v=.ref a/\Rd H a (.dS xs)/\ks=xs.map (fun x=>fQ x.1)/\(∀x∈xs,cA K H x.1 x.2.1)/\ak K H ds (xs.map (·.2.2)):=by
 rcases h with h|⟨o,a,q,rfl,u,ha,hq⟩
 ·unfold bM at h;obtain⟨a,o,xs,e,r,k⟩:=h;exact⟨a,xs,e,.inr ⟨o,r⟩,k⟩
 ·cases o<;>cases q
  obtain⟨xs,rfl,k⟩:=hq
  exact⟨a,xs,rfl,.inl ha,k⟩
def abJ(hu:X.A.units+60<cLine):iD X .In (aG .isin):=
 ⟨_,(X6 hu).or ((LQ (by omega)).or (Ie.or (X5 (by omega)))),fun H x y k v u Q Dx Dy e q=>by
  cases y with
  |tup xs=>
   unfold aG at e;dsimp only at e
   split at e
   ·rename_i h;cases e;exact .inl ⟨x,xs,Dx,Dy.Q0,h,q⟩
   ·cases e
  |lst xs=>
   unfold aG at e;dsimp only at e
   split at e
   ·rename_i h;cases e;exact .inl ⟨x,xs,Dx,Dy.KC,h,q⟩
   ·cases e
  |cH ks vs=>
   unfold aG at e;dsimp only at e
   split at e
   ·rename_i h
    cases e
    obtain⟨k,rfl⟩:=gm h
    obtain⟨a,kvs,rfl,ha,rfl,l⟩:=nH Dy
    exact .inr (.inl ⟨a,k,kvs,rfl,lH Dx,ha,by simpa[kI]using q⟩)
   ·cases e
  |jH ks vs=>
   unfold aG at e;dsimp only at e
   split at e
   ·rename_i h
    cases e
    obtain⟨k,rfl⟩:=jZ h
    obtain⟨a,rfl,ka⟩:=qU Dx
    obtain⟨d,xs,rfl,hd,rfl,hk,l⟩:=xX Dy
    exact .inr (.inr (.inr ⟨a,d,k,xs,rfl,rfl,hd,hk,ka,by rw[pG]at q;simpa using q⟩))
   ·cases e
  |str y=>
   cases x with
   |str x=>
    unfold aG at e;dsimp only at e
    split at e
    ·rename_i h;cases e;exact .inr (.inr (.inl ⟨x,y,Dx,Dy.str,by rw[Nq x y h];exact q⟩))
    ·cases e
   |_=>unfold aG at e;simp at e
  |_=>unfold aG at e;simp at e⟩
def K1(hu:X.A.units+60<cLine):iD X .NotIn (aG .notin):=
 ⟨_,(Ib hu).or ((zu (by omega)).or (Ia (by omega))),fun H x y k v u Q Dx Dy e q=>by
  cases y with
  |tup xs=>
   unfold aG at e;dsimp only at e
   split at e
   ·rename_i h;cases e;exact .inl ⟨x,xs,Dx,Dy.Q0,h,q⟩
   ·cases e
  |lst xs=>
   unfold aG at e;dsimp only at e
   split at e
   ·rename_i h;cases e;exact .inl ⟨x,xs,Dx,Dy.KC,h,q⟩
   ·cases e
  |cH ks vs=>
   unfold aG at e;dsimp only at e
   split at e
   ·rename_i h
    cases e
    obtain⟨k,rfl⟩:=gm h
    obtain⟨a,kvs,rfl,ha,rfl,l⟩:=nH Dy
    exact .inr (.inl ⟨a,k,kvs,rfl,lH Dx,ha,by simpa[kI]using q⟩)
   ·cases e
  |jH ks vs=>
   unfold aG at e;dsimp only at e
   split at e
   ·rename_i h
    cases e
    obtain⟨k,rfl⟩:=jZ h
    obtain⟨a,rfl,ka⟩:=qU Dx
    obtain⟨d,xs,rfl,hd,rfl,hk,l⟩:=xX Dy
    exact .inr (.inr ⟨a,d,k,xs,rfl,rfl,hd,hk,ka,by rw[pG]at q;simpa using q⟩)
   ·cases e
  |_=>unfold aG at e;simp at e⟩
end
section
open PySem.SeqAt
open PySem.AutoSeq1 (wpAny_loadPart')
open PySem.MeetsSeq PySem.MeetsSeq2 PySem.MeetsSeq3
inductive BoolsAre:List Value->List Bool->Prop
 |nil:BoolsAre [] []
 |cons (b:Bool) {vs:List Value} {bs:List Bool}:BoolsAre vs bs->BoolsAre (.bool b::vs) (b::bs)
theorem BoolsAre.length{bs:List Bool}(h:BoolsAre vs bs):vs.length=bs.length:=by
 induction h with
 |nil=>rfl
 |cons b _ ih=>simp[ih]
def vJ x y xs ys:lL (x::xs) (y::ys)=if x=y then lL xs ys else(!x&&y):=rfl
def Ga:lL [] []=false:=rfl
def Gb y ys:lL [] (y::ys)=true:=rfl
def Sy x xs:lL (x::xs) []=false:=rfl
def u6 A s a c prog w E Q(h:Q (.bool (!a&&c)) s):
  wpAny (model prog w) A (richCompare .Lt (.bool a) (.bool c)) Q E s:=
 (PyProof.Rows.lt_bool (by cases a<;>cases c<;>exact h))
def qN l b items items2 n n2 dd dd2 sl sl2 ns ms(hi:BoolsAre items.toList ns)(hj:BoolsAre items2.toList ms):
  Meets (Builtin.«tuple.__lt__» ⟨[.ref l,.ref b],[]⟩)
   (fun _ R s=>s.heap.get? l=some {cls:=.type "tuple",dict:=dd,data:=.seq items n,slots:=sl}/\s.heap.get? b=some {cls:=.type "tuple",dict:=dd2,data:=.seq items2 n2,slots:=sl2}/\
    R (.ok (.ret (.bool (lL ns ms)))) s):=
 .of_wp fun prog w A R s h=>by
  obtain⟨hp,g,d,tk,os⟩:=s;obtain⟨hl,hb,h⟩:=h
  have f2:=AutoSeq1.sub_tuple_tuple
  have z1:items.size=ns.length:=by rw[<-hi.length];simp
  have z2:items2.size=ms.length:=by rw[<-hj.length];simp
  wp_walk using wpAny_loadPart' hl,wpAny_loadPart' hb,wpAny_forIn_list _ (fun rest b s'=>b.1=none/\s'=⟨hp,g,d,tk,os⟩/\∃(vs ws:List Value)(ns' ms':List Bool),rest=vs.zip ws/\
   BoolsAre vs ns'/\BoolsAre ws ms'/\ns'.length+items2.size=ms'.length+items.size/\R (.ok (.ret (.bool (lL ns' ms')))) ⟨hp,g,d,tk,os⟩) _
  case turn=>
   rintro ⟨y,x⟩ rest b s' ⟨hb',rfl,vs,ws,ns',ms',hz,hvi,hwi,hlen,hR⟩
   cases hvi with
   |nil=>rw[List.zip_nil_left]at hz;cases hz
   |cons a hvi'=>
    cases hwi with
    |nil=>rw[List.zip_nil_right]at hz;cases hz
    |cons c hwi'=>
     rw[List.zip_cons_cons]at hz
     injection hz with hyx hrest
     injection hyx with hy hx
     subst hy hx
     rw[vJ]at hR
     simp only[QBq]at hlen
     refine QKq ((SeqAt.EqAt.bool_bool (A:=A.in1) (s:=⟨hp,g,d,tk,os⟩) a c) prog w _ _ ?_)
     by_cases hac:a=c
     ·subst hac
      rw[if_pos rfl]at hR
      rw[beq_self_eq_true]
      wp_walk
      exact⟨rfl,rfl,_,_,_,_,hrest,hvi',hwi',by omega,hR⟩
     ·rw[if_neg hac]at hR
      wp_walk using (u6 A.in1 ⟨hp,g,d,tk,os⟩ a c prog w)
      exact⟨_,rfl,by simpa using hR⟩
  case fin=>
   rintro ⟨b1,b2⟩ s' ⟨hb',rfl,vs,ws,ns',ms',hz,hvi,hwi,hlen,hR⟩
   simp only at hb'
   subst hb'
   have hv:lL ns' ms'=decide (items.size<items2.size):=by
    cases hvi with
    |nil=>
     cases hwi with
     |nil=>
      rw[Ga]
      exact(QEz (by omega)).symm
     |cons c hw=>
      simp only[List.length_nil,QBq]at hlen
      rw[Gb]
      exact(QFq (by omega)).symm
    |cons a hv=>
     cases hwi with
     |nil=>
      simp only[List.length_nil,QBq]at hlen
      rw[Sy]
      exact(QEz (by omega)).symm
     |cons c hw=>
      rw[List.zip_cons_cons]at hz
      cases hz
   rw[hv]at hR
   wp_walk
   exact⟨_,rfl,by simpa[Builtin.Tuple.tupleCompareSizes]using hR⟩
  case h=>
   exact⟨rfl,rfl,items.toList,items2.toList,ns,ms,rfl,hi,hj,by omega,h⟩
end
theorem gn{K:QQq}{H:Hp}:∀{ds:List D}{vs:List V}{us:List Value}{bs:List Bool},bools ds=some bs->ak K H ds vs->Vals vs us->BoolsAre us bs
 |[],vs,us,bs,e,l,r=>by
  cases e
  rw[ak.bF.mp l]at r
  cases r
  exact .nil
 |d::ds,vs,us,bs,e,l,r=>by
  obtain⟨v,w,rfl,h1,h2⟩:=ak.aN.mp l
  cases d with
  |bl b=>
   simp only[bools,QJz]at e
   obtain⟨bs',e1,rfl⟩:=e
   cases h1
   cases r with
   |cons r1 r2=>cases r1;exact .cons b (gn e1 h2 r2)
  |_=>cases e
section
variable{m m1 m2 m3:E}
def afS(K:QQq):R2:=fun x y H Q=>∃xs ys bs cs,bM K H (.tup xs) x/\bM K H (.tup ys) y/\bools xs=some bs/\bools ys=some cs/\Q (.bl (lL bs cs)) H
def X3(hu:X.A.units<cLine):fY X (compareOp .Lt) (afS X.K):=by
 intro δ s σ H x y v u Q I rx ry h
 obtain⟨xs,ys,bs,cs,Dx,Dy,e1,e2,q⟩:=h
 obtain⟨a,vs,rfl,ha,la⟩:=cI Dx
 obtain⟨b,ws,rfl,hb,lb⟩:=cI Dy
 cases rx
 cases ry
 obtain⟨its,r1,p1,_⟩:=I.tuple ha
 obtain⟨its2,r2,p2,_⟩:=I.tuple hb
 obtain⟨⟨cls,dd,data,sl⟩,ho,hc,n,hd⟩:=id p1
 obtain⟨⟨cls2,dd2,data2,sl2⟩,ho2,hc2,n2,hd2⟩:=id p2
 subst hc hd hc2 hd2
 exact richCompare_meets_room (op:=.Lt) ⟨_,ho,rfl⟩ ⟨_,ho2,rfl⟩ PySem.F.slot_tuple_lt PySem.F.entry_tuple_lt (PySem.F.args_tuple_lt_2 _ _)
  (qN a b its.toArray its2.toArray n n2 dd dd2 sl sl2 bs cs (by simpa using gn e1 la r1) (by simpa using gn e2 lb r2))
  ⟨ho,ho2,show Value.bool _≠Value.notImplemented/\EP X δ σ Q _ s from⟨(fun x=>nomatch x),⟨.bl _,H,I,rfl,q⟩⟩⟩ hu
theorem cU.tup{K:QQq}{H:Hp}{xs:List D}{v:V}(h:cU K H (.tup xs) v):bM K H (.tup xs) v:=by
 rcases h with h|⟨o,a,q,_⟩
 ·exact h
 ·cases o<;>cases q
def abH(hu:X.A.units+60<cLine):iD X .Lt (aG .lt):=
 ⟨_,aca.or (X3 (by omega)),fun H x y k v u Q Dx Dy e q=>by
  cases x with
  |int i=>
   cases y with
   |int j=>cases e;exact .inl ⟨i,j,Dx,Dy.int,q⟩
   |_=>cases e
  |tup xs=>
   cases y with
   |tup ys=>
    unfold aG at e;dsimp only[ltD]at e
    cases e1:bools xs with
    |none=>rw[e1]at e;cases e
    |some bs=>
     cases e2:bools ys with
     |none=>rw[e1,e2]at e;cases e
     |some cs=>
      rw[e1,e2]at e
      cases e
      exact .inr ⟨xs,ys,bs,cs,Dx,Dy.tup,e1,e2,q⟩
   |_=>cases e
  |_=>cases y<;>cases e⟩
def abK:iD X .Gt (aG .gt):=BJ acd fun x y k e=>by
 cases x<;>cases y<;>(unfold aG at e;simp at e)
 exact⟨_,_,rfl,rfl,e.symm⟩
def GX{H:Hp}{v:V}(h:bM K H d v):decide (v=.non)=bO d:=by
 cases d<;>unfold bM at h<;>first
  |(obtain⟨a,_,rfl,_⟩:=h;rfl)
  |(obtain⟨a,_,_,rfl,_⟩:=h;rfl)
  |(subst h;rfl)
def Xh:iD X .Is (aG .jJ):=⟨_,X4,fun H x y k v u Q Dx Dy e q=>by
 cases y<;>(unfold aG at e;dsimp only at e;cases e)
 rcases Dy with h|⟨o,a,z,_⟩
 ·exact⟨h,by rw[GX Dx];exact q⟩
 ·cases o<;>cases z⟩
def Rm:iD X .IsNot (aG .notN):=⟨_,RT,fun H x y k v u Q Dx Dy e q=>by
 cases y<;>(unfold aG at e;dsimp only at e;cases e)
 rcases Dy with h|⟨o,a,z,_⟩
 ·exact⟨h,by rw[GX Dx];exact q⟩
 ·cases o<;>cases z⟩
def oJ(hu:X.A.units+60<cLine)o:iD X (eV o) (aG o):=by
 cases o with
 |eq=>exact abM hu
 |ne=>exact abG hu
 |lt=>exact abH hu
 |le=>exact abI
 |gt=>exact abK
 |ge=>exact abL
 |isin=>exact abJ hu
 |notin=>exact K1 hu
 |jJ=>exact Xh
 |notN=>exact Rm
def eE{env:Ev}{H:Hp}{d:D}(S:Sat K env σ H)(h:bA k env=some d):∃v,σ[k]? =some (some v)/\cU K H d v:=by
 unfold bA at h
 cases e:env[k]? with
 |none=>rw[e]at h;cases h
 |some s=>
  rw[e]at h
  have q:=S.sl k s e
  cases s with
  |un=>cases h
  |val d'=>cases h;obtain⟨v,e1,e2⟩:=q;exact⟨v,bZ e1,.inl e2⟩
  |own xs=>cases h;obtain⟨a,e1,e2⟩:=q;exact⟨.ref a,bZ e1,.inr ⟨xs,a,rfl,rfl,e2⟩⟩
  |bor xs=>cases h;obtain⟨a,e1,e2⟩:=q;exact⟨.ref a,bZ e1,.inr ⟨xs,a,rfl,rfl,e2⟩⟩
structure gj(X:Cx)(i:Nat)(x:Str):Prop where
 at_:X.N[i]? =some x
 vis:Vis X.env.scope x
 nd:(x==("__debug__":Str))=false
 nc:(x==("__classdict__":Str))=false
def gj.pe{x:Str}(h:gj X i x):PE X (.Name x pos) (Kd i):=Ln h.at_ h.vis h.nd h.nc
def gj.ge{x:Str}(h:gj X i x):GE X W c (.var i) (.Name x pos):=YX h.at_ h.vis h.nd h.nc
theorem G8(R:iD X (eV o) (aG o))(hb:GE X W c m2 b)(hv:∀k,m2.au=some k->∃x p,b=.Name x p/\gj X k x):
  ∃r tb,fY X (compareOp (eV o)) r/\PE X b tb/\∀env σ H Q,tM X.K W env (ev c (.cmp o m1 m2) env) σ H Q->tOp r (aD X W c m1) tb σ H Q:=by
 obtain⟨r,ho,rule⟩:=R
 cases q:m2.au with
 |some k=>
  obtain⟨x,p,rfl,nm⟩:=hv k q
  refine⟨r,Kd k,ho,nm.pe,fun env σ H Q h=>?_⟩
  simp only[v_7,q]at h
  refine⟨env,aW h fun d γ v H1 N1 D1 h1=>?_⟩
  obtain⟨z,ez,S,q3⟩:=cF h1
  cases e1:bA k γ with
  |none=>rw[e1]at ez;cases ez
  |some d2=>
   rw[e1]at ez
   simp only[Option.bind]at ez
   obtain⟨u,eu,D2⟩:=eE S e1
   cases e2:aG o d d2 with
   |none=>rw[e2]at ez;cases ez
   |some k2=>
    rw[e2]at ez
    cases ez
    exact⟨u,eu,rule H1 d d2 k2 v u Q D1 D2 e2 (q3 _ H1 (Nx.refl S) rfl)⟩
 |none=>
  refine⟨r,aD X W c m2,ho,hb.d,fun env σ H Q h=>?_⟩
  simp only[v_7,q]at h
  refine⟨env,aW h fun d γ v H1 N1 D1 h1=>⟨γ,aW h1 fun d2 ε u H2 N2 D2 h2=>?_⟩⟩
  obtain⟨z,ez,S,q3⟩:=cF h2
  cases e2:aG o d d2 with
  |none=>rw[e2]at ez;cases ez
  |some k2=>
   rw[e2]at ez
   cases ez
   exact rule H2 d d2 k2 v u Q (D1.mono N2.pers) (.inl D2) e2 (q3 _ H2 (Nx.refl S) rfl)
def Zg(R:iD X (eV o) (aG o))(ha:GE X W c m1 a)(hb:GE X W c m2 b)(hv:∀k,m2.au=some k->∃x p,b=.Name x p/\gj X k x)
  (hm:behindInMarks (eV o) b=false):GE X W c (.cmp o m1 m2) (.Compare a [eV o] [b] pos):=by
 intro env
 obtain⟨r,tb,ho,pb,imp⟩:=G8 R hb hv
 exact PE.imp (RM ho ha.d pb hm) fun σ H Q h=>imp env σ H Q h
theorem yG{env:Ev}{σ:St}{Q:Bool->Hp->Prop}(h:tT K W env r σ H Q)(hb:∀x env',r=.ok x env'->∃b,x=.val (.bl b)):
  tM K W env r σ H (fun v H'=>∃k,v=.bl k/\Q k H'):=by
 obtain⟨S,h⟩:=h
 refine⟨S,?_⟩
 cases r with
 |bad=>exact h
 |exc c γ=>exact h
 |ok x γ=>
  obtain⟨b,rfl⟩:=hb x γ rfl
  obtain⟨d,k,e1,e2,q⟩:=h
  cases e1
  cases e2
  exact fun v H' N z=>⟨b,z,q H' N⟩
def lB{o:Option Bool}(h:lift env (o.map fun q=>Rv.val (.bl q))=.ok x env'):∃b,x=.val (.bl b):=by
 cases o with
 |none=>cases h
 |some b=>cases h;exact⟨b,rfl⟩
def Ac{env env':Ev}(h:ev c (.cmp o m1 m2) env=.ok x env'):∃b,x=.val (.bl b):=by
 simp only[v_7]at h
 cases r:ev c m1 env with
 |bad=>rw[r]at h;cases h
 |exc k γ=>rw[r]at h;cases h
 |ok x1 γ=>
  rw[r]at h
  have go:∀d,(match m2.au with
    |some k=>lift γ ((bA k γ).bind fun d'=>(aG o d d').map fun q=>Rv.val (.bl q))
    |none=>(ev c m2 γ).ao fun y σ=>lift σ ((aG o d y).map fun q=>Rv.val (.bl q)))=.ok x env'->∃b,x=.val _:=fun d h=>by
   cases q:m2.au with
   |some k=>
    simp only[q]at h
    cases e:bA k γ with
    |none=>simp only[e,Option.bind]at h;cases h
    |some d'=>simp only[e,Option.bind]at h;exact lB h
   |none=>
    simp only[q]at h
    cases r2:ev c m2 γ with
    |bad=>rw[r2]at h;cases h
    |exc k ε=>rw[r2]at h;cases h
    |ok x2 ε=>
     rw[r2]at h
     cases x2 with
     |val d2=>exact lB h
     |new xs=>exact lB h
     |ref i=>cases h
     |tmp xs=>cases h
  cases x1 with
  |val d=>exact go d h
  |new xs=>exact go xs.d h
  |ref i=>cases h
  |tmp xs=>cases h
def YK(R:iD X (eV o) (aG o))(ha:GE X W c m1 a)(hb:GE X W c m2 b)(hv:∀k,m2.au=some k->∃x p,b=.Name x p/\gj X k x)
  (hm:behindInMarks (eV o) b=false):GT X W c (.cmp o m1 m2) (.Compare a [eV o] [b] pos):=by
 obtain⟨r,tb,ho,pb,imp⟩:=G8 R hb hv
 exact PT.imp (Ru ho ha.d pb hm) fun σ H Q⟨env,h⟩=>imp env σ H _ (yG h fun x env' e=>Ac e)
theorem v6(R1:iD X (eV υ) (aG υ))(R2:iD X (eV ψ) (aG ψ)):
  ∃r r',fY X (compareOp (eV υ)) r/\fY X (compareOp (eV ψ)) r'/\∀env σ H Q,tM X.K W env (ev c (.chain υ ψ m1 m2 m3) env) σ H Q->Bo r r' (aD X W c m1) (aD X W c m2) (aD X W c m3) σ H Q:=by
 obtain⟨r,ho,rule⟩:=R1
 obtain⟨r',ho',rule'⟩:=R2
 refine⟨r,r',ho,ho',fun env σ H Q h=>?_⟩
 refine⟨env,aW h fun d γ v H1 N1 D1 h1=>⟨γ,aW h1 fun d2 ε u H2 N2 D2 h2=>?_⟩⟩
 cases e2:aG υ d d2 with
 |none=>rw[e2]at h2;exact h2.2.elim
 |some k=>
  rw[e2]at h2
  simp only[lift,Out.bind]at h2
  refine rule H2 d d2 k v u _ (D1.mono N2.pers) (.inl D2) e2 ⟨k,rfl,?_⟩
  cases k with
  |false=>
   exact dY h2 rfl
  |true=>
   refine⟨ε,aW h2 fun d3 env3 w H3 N3 D3 h3=>?_⟩
   obtain⟨z,ez,S,q3⟩:=cF h3
   cases e3:aG ψ d2 d3 with
   |none=>rw[e3]at ez;cases ez
   |some k2=>
    rw[e3]at ez
    cases ez
    exact rule' H3 d2 d3 k2 u w Q (D2.mono N3.pers) (.inl D3) e3 (q3 _ H3 (Nx.refl S) rfl)
def uJ{env env':Ev}(h:ev c (.chain υ ψ m1 m2 m3) env=.ok x env'):∃b,x=.val (.bl b):=by
 have val:∀{r:Out Rv}{f:D->Ev->Out Rv},r.ao f=.ok x env'->∃d σ,f d σ=.ok x env':=fun{r f}q=>by
  cases r with
  |bad=>cases q
  |exc k e1=>cases q
  |ok y e1=>
   cases y with
   |val d=>exact⟨d,e1,q⟩
   |new xs=>exact⟨_,e1,q⟩
   |ref i=>cases q
   |tmp xs=>cases q
 obtain⟨d1,ξ,h⟩:=val h
 obtain⟨d2,ρ,h⟩:=val h
 cases e:aG υ d1 d2 with
 |none=>rw[e]at h;cases h
 |some k=>
  rw[e]at h
  simp only[lift,Out.bind]at h
  cases k with
  |false=>cases h;exact⟨false,rfl⟩
  |true=>
   obtain⟨d3,σ3,h⟩:=val h
   exact lB h
def Oa{d:Expr}(R1:iD X (eV υ) (aG υ))(R2:iD X (eV ψ) (aG ψ))(ha:GE X W c m1 a)(hb:GE X W c m2 b)(hd:GE X W c m3 d)(hm:lastMarks [eV υ,eV ψ] [b,d]=false):
  GE X W c (.chain υ ψ m1 m2 m3) (.Compare a [eV υ,eV ψ] [b,d] pos):=by
 obtain⟨r,r',ho,ho',imp⟩:=v6 R1 R2
 exact fun env=>PE.imp (Lz ho ho' ha.d hb.d hd.d hm) fun σ H Q h=>imp env σ H Q h
def Ny{d:Expr}(R1:iD X (eV υ) (aG υ))(R2:iD X (eV ψ) (aG ψ))(ha:GE X W c m1 a)(hb:GE X W c m2 b)(hd:GE X W c m3 d)(hm:lastMarks [eV υ,eV ψ] [b,d]=false):
  GT X W c (.chain υ ψ m1 m2 m3) (.Compare a [eV υ,eV ψ] [b,d] pos):=by
 obtain⟨r,r',ho,ho',imp⟩:=v6 R1 R2
 exact PT.imp (Ld ho ho' ha.d hb.d hd.d hm) fun σ H Q⟨env,h⟩=>imp env σ H _ (yG h fun x env' e=>uJ e)
def abj(K:QQq)(ta:TE):TE:=fun σ H Q=>ta σ H fun x H1=>∃k,Qe K x H1 k/\Q (.bl (!k)) H1
def RJ(ha:PE X a ta):PE X (.UnaryOp .Not a pos) (abj X.K ta):=by
 intro δ s σ H Q I h
 exact PyProof.Rows.UnaryOp_ (b8 (ha δ s σ H _ I h) fun v s1⟨x,H1,I1,r1,k,t,q1⟩=>PyProof.Rows.not_of (b8 (J5 δ s1 σ H1 x v _ I1 r1 ⟨k,t,q1⟩) fun b s2⟨H2,I2,q2⟩=>⟨.bl (!b),H2,I2,rfl,q2⟩))
def Y7(ha:GE X W c m1 a):GE X W c (.not m1) (.UnaryOp .Not a pos):=fun env=>
 PE.imp (RJ ha.d) fun σ H Q q=>⟨env,yL (yK (by simpa only[aa1]using q) fun k γ H1 N q1=>dY (d:=.bl (!k)) q1 rfl)⟩
def YH(ha:GT X W c m1 a):GT X W c (.not m1) (.UnaryOp .Not a pos):=by
 refine PT.imp (Xu ha) fun σ H Q⟨env,q⟩=>⟨env,q.1,?_⟩
 have q2:=q.2
 simp only[aa1]at q2
 cases r:ev c m1 env with
 |bad=>rw[r]at q2;exact q2
 |exc k γ=>rw[r]at q2;exact q2
 |ok x γ=>
  rw[r]at q2
  have go:∀d,x.jF=some d->(match (match iU d with|some b=>Out.ok (Rv.val (.bl (!b))) γ|none=>.bad)with
    |.ok x env'=>∃d b,x.jF=some d/\iU d=some b/\∀H',Nx X.K env σ H env' H'->Q b H'
    |.exc c env'=>∀H',Nx X.K env σ H env' H'->W c env' σ H'
    |.bad=>False)->∃d b,x.jF=some d/\iU d=some b/\∀H',Nx X.K env σ H γ H'->Q (!b) H':=fun d ed z=>by
   cases t:iU d with
   |none=>rw[t]at z;exact z.elim
   |some b=>
    rw[t]at z
    obtain⟨d',b',e1,e2,z⟩:=z
    cases e1
    cases e2
    exact⟨d,b,ed,t,z⟩
  cases x with
  |val d=>exact go d rfl q2
  |new o=>exact go o.d rfl q2
  |ref i=>exact q2.elim
  |tmp xs=>exact q2.elim
def Tq(ha:GE X W c m1 a):GE X W c (.and (.cons m1 .nil)) (.BoolOp .And [a] pos):=fun env=>by
 have:=Lr (op:=.And) (pos:=pos) (ha env)
 simpa only[v_9,gZ]using this
def Y6(ha:GE X W c m1 a):GE X W c (.or (.cons m1 .nil)) (.BoolOp .Or [a] pos):=fun env=>by
 have:=Lr (op:=.Or) (pos:=pos) (ha env)
 simpa only[QH,nF]using this
end
def aM(X:Cx)(W:Wi)(c:Cf)(m:E):TE:=fun σ H Q=>∃env,tM X.K W env (ev c m env) σ H Q
def UL{W:Wi}{σ:St}{r:Out Rv}(h:tT K W env r σ H Q)(N:Nx K env σ H γ H1):tT K W γ r σ H1 Q:=by
 obtain⟨_,h⟩:=h
 refine⟨N.dX,?_⟩
 cases r with
 |bad=>exact h
 |exc c ε=>exact fun H' N'=>h H' (N.trans N')
 |ok x ε=>
  obtain⟨d,b,e1,e2,q⟩:=h
  exact⟨d,b,e1,e2,fun H' N'=>q H' (N.trans N')⟩
section
variable{es rest:List Expr}
def GE.am(h:GE X W c m e):PE X e (aM X W c m):=fun δ s σ H Q I⟨env,q⟩=>h env δ s σ H Q I q
def Zh(ha:GE X W c m1 a)(hb:GE X W c (.and (.cons m2 m3)) (.BoolOp .And (b::rest) pos)):GE X W c (.and (.cons m1 (.cons m2 m3))) (.BoolOp .And (a::b::rest) pos):=by
 intro env
 refine PE.imp (XJ ha.d hb.am) fun σ H Q q=>?_
 refine⟨env,aW q fun d γ v H1 N1 D1 q1=>?_⟩
 cases d with
 |bl k=>
  refine⟨k,D1,?_⟩
  cases k with
  |true=>rw[if_pos rfl];exact⟨γ,by simpa only[v_9,gZ]using q1⟩
  |false=>rw[if_neg Qjz];exact dY q1 rfl
 |_=>exact q1.2.elim
def acR(ha:GE X W c m1 a)(hb:GE X W c (.or (.cons m2 m3)) (.BoolOp .Or (b::rest) pos)):GE X W c (.or (.cons m1 (.cons m2 m3))) (.BoolOp .Or (a::b::rest) pos):=by
 intro env
 refine PE.imp (ab3 ha.d hb.am) fun σ H Q q=>?_
 refine⟨env,aW q fun d γ v H1 N1 D1 q1=>?_⟩
 cases d with
 |bl k=>
  refine⟨k,D1,?_⟩
  cases k with
  |true=>rw[if_pos rfl];exact dY q1 rfl
  |false=>rw[if_neg Qjz];exact⟨γ,by simpa only[QH,nF]using q1⟩
 |_=>exact q1.2.elim
def GW(X:Cx)(W:Wi)(c:Cf)(m:E)(e:Expr):Prop:=PW X e (aT X W c m)
def PW.imp(h:PW X e t)(i:∀σ H Q,t' σ H Q->t σ H Q):PW X e t':=fun wh δ s σ H Q I q=>h wh δ s σ H Q I (i σ H Q q)
def GW.t(h:GW X W c m e):GT X W c m e:=PW.pt h
theorem yH{env:Ev}{σ:St}{Q R:Bool->Hp->Prop}(h:tT K W env (r.ao f) σ H Q)
  (hf:∀d γ,(∀k,d≠ .bl k)->f d γ=.bad)
  (k:∀b γ H1,Nx K env σ H γ H1->tT K W γ (f (.bl b) γ) σ H1 Q->R b H1):tT K W env r σ H R:=by
 have step:∀d γ x,x.jF=some d->r=.ok x γ->∃b,iU d=some b/\∀H1,Nx K env σ H γ H1->R b H1:=fun d γ x ex er=>by
  subst er
  have h':tT K W env (f d γ) σ H Q:=by
   cases x with
   |val d'=>cases ex;exact h
   |new xs=>cases ex;exact h
   |ref i=>cases ex
   |tmp xs=>cases ex
  by_cases hb:∃b,d=.bl b
  ·obtain⟨b,rfl⟩:=hb
   exact⟨b,rfl,fun H1 N=>k b γ H1 N (UL h' N)⟩
  ·rw[hf d γ fun b e=>hb ⟨b,e⟩]at h'
   exact h'.2.elim
 refine⟨h.1,?_⟩
 cases r with
 |bad=>exact h.2
 |exc c γ=>exact h.2
 |ok x γ=>
  cases x with
  |val d=>obtain⟨b,e,q⟩:=step d γ _ rfl rfl;exact⟨d,b,rfl,e,q⟩
  |new xs=>obtain⟨b,e,q⟩:=step (xs.d) γ _ rfl rfl;exact⟨xs.d,b,rfl,e,q⟩
  |ref i=>exact h.2.elim
  |tmp xs=>exact h.2.elim
def S5(ha:GT X W c m1 a):GW X W c (.and (.cons m1 .nil)) (.BoolOp .And [a] pos):=PW.imp (Rr ha) fun σ H Q⟨env,q⟩=>⟨env,by simpa only[v_9,gZ]using q⟩
def YG(ha:GT X W c m1 a):GW X W c (.or (.cons m1 .nil)) (.BoolOp .Or [a] pos):=PW.imp (Xo ha) fun σ H Q⟨env,q⟩=>⟨env,by simpa only[QH,nF]using q⟩
def YL(ha:GT X W c m1 a)(hb:GW X W c (.and (.cons m2 m3)) (.BoolOp .And (b::rest) pos)):GW X W c (.and (.cons m1 (.cons m2 m3))) (.BoolOp .And (a::b::rest) pos):=by
 refine PW.imp (Xp ha hb) fun σ H Q⟨env,q⟩=>⟨env,?_⟩
 refine yH q (fun d γ hd=>?_) fun k γ H1 N q1=>?_
 ·cases d with
  |bl k=>exact absurd rfl (hd k)
  |_=>rfl
 ·cases k with
  |true=>rw[if_pos rfl];exact⟨γ,by simpa only[v_9,gZ]using q1⟩
  |false=>
   obtain⟨d,k',e1,e2,q3⟩:=q1.2
   cases e1
   cases e2
   exact q3 H1 (Nx.refl q1.1)
def acM(ha:GT X W c m1 a)(hb:GW X W c (.or (.cons m2 m3)) (.BoolOp .Or (b::rest) pos)):GW X W c (.or (.cons m1 (.cons m2 m3))) (.BoolOp .Or (a::b::rest) pos):=by
 refine PW.imp (abX ha hb) fun σ H Q⟨env,q⟩=>⟨env,?_⟩
 refine yH q (fun d γ hd=>?_) fun k γ H1 N q1=>?_
 ·cases d with
  |bl k=>exact absurd rfl (hd k)
  |_=>rfl
 ·cases k with
  |false=>rw[if_neg Qjz];exact⟨γ,by simpa only[QH,nF]using q1⟩
  |true=>
   obtain⟨d,k',e1,e2,q3⟩:=q1.2
   cases e1
   cases e2
   exact q3 H1 (Nx.refl q1.1)
def Za(ht:GT X W c m1 t)(ha:GE X W c m2 a)(hb:GE X W c m3 b):GE X W c (.ite m1 m2 m3) (.IfExp t a b pos):=by
 intro env
 refine PE.imp (Lw ht ha.am hb.am) fun σ H Q q=>?_
 refine⟨env,yK q fun k γ H1 N q1=>?_⟩
 cases k with
 |true=>rw[if_pos rfl]at q1⊢;exact⟨γ,q1⟩
 |false=>rw[if_neg Qjz]at q1⊢;exact⟨γ,q1⟩
def Ec{i:Int}{K:QQq}{vs:List V}(h:at? xs i=some d)(l:ak K H xs vs):∃v,ZK vs i=some v/\bM K H d v:=by
 unfold at? at h
 cases e:ix? xs.length i with
 |none=>rw[e]at h;cases h
 |some j=>
  rw[e]at h
  obtain⟨v,q1,q2⟩:=l.get (h)
  refine⟨v,?_,q2⟩
  unfold ZK
  have:SN vs.length i=some j:=by
   unfold ix? at e
   unfold SN
   rw[<-l.length]
   by_cases h0:i<0
   ·simp only[h0,if_true]at e
    split at e
    ·rename_i hc
     cases e
     rw[if_neg (by omega),if_pos (by omega)]
    ·cases e
   ·simp only[h0,if_false]at e
    split at e
    ·rename_i hc
     cases e
     rw[if_pos (by omega),if_pos (by omega)]
    ·cases e
  rw[this]
  exact q1
theorem oU{K:QQq}{H:Hp}(k:Key):∀{kvs:List (Key×V)}{ds:List D}{d:D},bI (dN k) (kvs.map fun p=>dN p.1) ds=some d->ak K H ds (kvs.map (·.2))->∃v,jD kvs k=some v/\bM K H d v
 |[],ds,d,h,_=>by cases h
 |(k',v)::r,ds,d,h,l=>by
  rw[Qyz]at h l
  cases ds with
  |nil=>obtain⟨⟩:=ak.bF.mp l
  |cons d' ds=>
   obtain⟨w,ws,e,h1,h2⟩:=ak.aN.mp l
   cases e
   have e:cD (dN k') (dN k)=decide (k'=k):=by
    cases k'<;>cases k<;>simp[dN,cD,Bool.beq_eq_decide_eq]
   simp only[bI,e]at h
   by_cases q:k'=k
   ·simp only[q,decide_true,if_true]at h
    cases h
    exact⟨v,jM q,h1⟩
   ·simp only[q,decide_false,Qxq,if_false]at h
    obtain⟨u,q1,q2⟩:=oU k h h2
    exact⟨u,by rw[jN q];exact q1,q2⟩
def abS:R2:=fun x y H Q=>∃a k kvs v,x=.ref a/\y=kV k/\Rd H a (.dK kvs)/\jD kvs k=some v/\Q v H
def Yx(hu:X.A.units+1<cLine):JR X abS:=by
 intro value slice δ s σ H x y v u Q I rx ry h hs
 obtain⟨a,k,kvs,w,rfl,rfl,hd,hv,q⟩:=h
 cases rx
 have g:Az H a (kV k) _:=.inl ⟨kvs,k,hd,rfl,hv.symm⟩
 exact PyProof.Rows.tail_any (Ae I g) PySem.F.slot_dict_getitem.lookup (Ju hu I g ry fun w' s3 I3 rw'=>⟨w,H,I3,rw',q⟩) hs
def K7(K:QQq):R2:=fun x y H Q=>∃d a k xs v,x=.ref d/\y=.ref a/\Rd H d (.dS xs)/\(∀x∈xs,cA K H x.1 x.2.1)/\cA K H k a/\zG k xs=some v/\Q v H
def acJ(hu:X.A.units+2<cLine):JR X (K7 X.K):=by
 intro value slice δ s σ H x y v u Q I rx ry h hs
 obtain⟨d,a,k,xs,w,rfl,rfl,hd,hk,ka,hv,q⟩:=h
 cases rx
 cases ry
 obtain⟨ys,_,dd,_⟩:=nG I hd hk
 exact PyProof.Rows.tail_any dd.typeIs PySem.F.slot_dict_getitem.lookup (HD hu I hd hk ka hv fun u s3 I3 ru=>⟨w,H,I3,ru,q⟩) hs
def abT(K:QQq):R2:=fun x y H Q=>Xm K x y H Q\/Xl K x y H Q\/abS x y H Q\/K7 K x y H Q
def M9(hu:X.A.units+2<cLine):JR X (abT X.K):=Gj.or (M7.or ((Yx (by omega)).or (acJ hu)))
def vY{H:Hp}{v u:V}(D1:cU K H d v)(D2:bM K H y u)(e:getD d y=some z)(q:∀w,bM K H z w->Q w H):abT K v u H Q:=by
 cases d with
 |tup xs=>
  cases y with
  |int i=>
   obtain⟨a,vs,rfl,hq,l⟩:=cI D1.tup
   obtain⟨w,e1,e2⟩:=Ec e l
   exact .inr (.inl ⟨a,vs,i,w,rfl,D2,hq,e1,q w e2⟩)
  |_=>cases e
 |lst xs=>
  cases y with
  |int i=>
   obtain⟨a,vs,rfl,hq,l⟩:=D1.KC
   rcases hq with hq|hq
   ·obtain⟨w,e1,e2⟩:=Ec e l
    exact .inl ⟨a,vs,i,w,rfl,D2,hq,e1,q w e2⟩
   ·obtain⟨w,e1,e2⟩:=Ec e l
    exact .inr (.inl ⟨a,vs,i,w,rfl,D2,hq,e1,q w e2⟩)
  |_=>cases e
 |cH ks ds=>
  have e':(if keyOk y=true then bI y ks ds else none)=some z:=by cases y<;>exact e
  split at e'
  ·rename_i hk
   obtain⟨k,rfl⟩:=gm hk
   obtain⟨a,kvs,rfl,ha,rfl,l⟩:=nH D1
   obtain⟨w,e1,e2⟩:=oU k e' l
   exact .inr (.inr (.inl ⟨a,k,kvs,w,rfl,lH D2,ha,e1,q w e2⟩))
  ·cases e'
 |jH ks ds=>
  have e':(if o4 y=true then bI y ks ds else none)=some z:=by cases y<;>exact e
  split at e'
  ·rename_i hk
   obtain⟨k,rfl⟩:=jZ hk
   obtain⟨a,rfl,ka⟩:=qU D2
   obtain⟨d,xs,rfl,hd,rfl,hks,l⟩:=xX D1
   obtain⟨w,e1,e2⟩:=Fy k e' l
   exact .inr (.inr (.inr ⟨d,a,k,xs,w,rfl,rfl,hd,hks,ka,e1,q w e2⟩))
  ·cases e'
 |_=>cases y<;>cases e
def Zc(hu:X.A.units+2<cLine)(ha:GE X W c m1 a)(hb:GE X W c m2 b)(hv:∀k,m1.au=some k->∃x p,a=.Name x p/\gj X k x)(hs:yq b):GE X W c (.idx m1 m2) (.Subscript a b pos):=by
 intro env
 cases q:m1.au with
 |some k=>
  obtain⟨x,p,rfl,nm⟩:=hv k q
  refine PE.imp (Vk (M9 hu) nm.pe hb.d hs) fun σ H Q h=>?_
  simp only[Wx,q]at h
  cases e0:bA k env with
  |none=>rw[e0]at h;exact h.2.elim
  |some d0=>
   rw[e0]at h
   obtain⟨u,eu,_⟩:=eE h.1 e0
   refine⟨u,eu,env,aW h fun d γ v H1 N1 D1 h1=>?_⟩
   obtain⟨z,ez,S,q3⟩:=cF h1
   cases e1:bA k γ with
   |none=>rw[e1]at ez;cases ez
   |some d2=>
    rw[e1]at ez
    simp only[Option.bind]at ez
    obtain⟨u',eu',D2⟩:=eE S e1
    rw[eu]at eu'
    cases eu'
    cases e2:getD d2 d with
    |none=>rw[e2]at ez;cases ez
    |some w=>
     rw[e2]at ez
     cases ez
     exact vY D2 D1 e2 fun w' hw=>q3 w' H1 (Nx.refl S) hw
 |none=>
  refine PE.imp (Vk (M9 hu) ha.d hb.d hs) fun σ H Q h=>?_
  simp only[Wx,q]at h
  refine⟨env,aW h fun d γ v H1 N1 D1 h1=>⟨γ,aW h1 fun d2 ε u H2 N2 D2 h2=>?_⟩⟩
  obtain⟨z,ez,S,q3⟩:=cF h2
  cases e2:getD d d2 with
  |none=>rw[e2]at ez;cases ez
  |some w=>
   rw[e2]at ez
   cases ez
   exact vY (.inl (D1.mono N2.pers)) D2 e2 fun w' hw=>q3 w' H2 (Nx.refl S) hw
end
structure Nz(K:QQq)(env:Ev)(σ:St)(H:Hp)(env':Ev)(ζ:St)(H':Hp):Prop where
 dX:Sat K env' ζ H'
 sub:∀(i:Nat)a,aQ env' ζ i a->aQ env σ i a\/H a=none
 pers:bV H H'
 keep:∀b u,H b=some u->(∀i,¬aQ env σ i b)->H' b=some u
 dom:∀b,H' b=none->H b=none
 bors:∀(i:Nat)xs,env[i]? =some (.bor xs)->(∃ys,env'[i]? =some (.bor ys))/\ζ[i]? =σ[i]?
section
theorem Nx.z(N:Nx K env σ H γ H1):Nz K env σ H γ σ H1:=⟨N.dX,fun i a z=>.inl (N.sub i a z),N.pers,N.keep,N.dom,fun i xs e=>⟨N.bors i xs e,rfl⟩⟩
theorem Nz.refl(S:Sat K env σ H):Nz K env σ H env σ H:=(Nx.refl S).z
theorem Nz.trans(a:Nz K env σ H γ ξ H1)(b:Nz K γ ξ H1 ε ρ H2):Nz K env σ H ε ρ H2 where
 dX:=b.dX
 sub:=fun i c z=>by
  rcases b.sub i c z with q|q
  ·exact a.sub i c q
  ·exact .inr (a.dom c q)
 pers:=a.pers.trans b.pers
 keep:=fun c vs z n=>b.keep c vs (a.keep c vs z n) fun i w=>by
  rcases a.sub i c w with q|q
  ·exact n i q
  ·rw[q]at z;cases z
 dom:=fun c z=>a.dom c (b.dom c z)
 bors:=fun i xs e=>by
  obtain⟨⟨ys,e1⟩,s1⟩:=a.bors i xs e
  obtain⟨q,s2⟩:=b.bors i ys e1
  exact⟨q,s2.trans s1⟩
def Qi(K:QQq)(env:Ev)(σ:St)(H H':Hp):Rv->V->Prop
 |.val d,v=>bM K H' d v
 |.new q,v=>∃a,v=.ref a/\jG K H' q a/\(H a=none\/∃(i:Nat)(ys:Ob),env[i]? =some (.own ys)/\σ[i]? =some (some (.ref a)))
 |_,_=>False
def Qi.back{v:V}(N:Nz K env σ H γ ξ H1)(h:Qi K γ ξ H1 H2 r v):Qi K env σ H H2 r v:=by
 cases r with
 |val d=>exact h
 |new xs=>
  obtain⟨a,e,p,z⟩:=h
  refine⟨a,e,p,?_⟩
  rcases z with z|⟨i,ys,z1,z2⟩
  ·exact .inl (N.dom a z)
  ·rcases N.sub i a ⟨⟨_,ys,z1,rfl⟩,z2⟩with ⟨⟨s,xs',q1,q2⟩,q3⟩|q
   ·cases s with
    |own w=>exact .inr ⟨i,w,q1,q3⟩
    |bor w=>
     obtain⟨⟨w',q⟩,_⟩:=N.bors i w q1
     rw[z1]at q;cases q
    |un=>cases q2
    |val d=>cases q2
   ·exact .inl q
 |ref i=>exact h.elim
 |tmp xs=>exact h.elim
end
noncomputable def tS(K:QQq)(W:Wi)(env:Ev)(f:Fl):TS:=fun D σ H=>Sat K env σ H/\match f with
 |.next env'=>∀ζ H',Nz K env σ H env' ζ H'->D.nx ζ H'
 |.ret r env'=>∀v ζ H',Nz K env σ H env' ζ H'->Qi K env σ H H' r v->D.rt v H'
 |.brk env'=>∀ζ H',Nz K env σ H env' ζ H'->D.bk ζ H'
 |.cont env'=>∀ζ H',Nz K env σ H env' ζ H'->D.ct ζ H'
 |.exc c env'=>∀ζ H',Nz K env σ H env' ζ H'->W c env' ζ H'
 |.bad=>False
def GS(X:Cx)(W:Wi)(c:Cf)(m:S)(st:Stmt):Prop:=∀env,PS X st (tS X.K W env (ex c m env))
def Qm(X:Cx)(W:Wi)(c:Cf)(m:S)(st:List Stmt):Prop:=∀env,wG X st (tS X.K W env (ex c m env))
section
def PS.imp(h:PS X st t)(i:∀D σ H,t' D σ H->t D σ H):PS X st t':=fun δ s σ H D I q=>h δ s σ H D I (i D σ H q)
def wG.imp(h:wG X sts t)(i:∀D σ H,t' D σ H->t D σ H):wG X sts t':=fun δ s σ H D I q=>h δ s σ H D I (i D σ H q)
def qO{env γ:Ev}{H H1:Hp}{D:Ends}(h:tS K W env f D σ H)(N:Nz K env σ H γ ξ H1):tS K W γ f D ξ H1:=by
 obtain⟨_,h⟩:=h
 refine⟨N.dX,?_⟩
 cases f with
 |next ε=>exact fun ζ H' N'=>h ζ H' (N.trans N')
 |ret r ε=>exact fun v ζ H' N' k=>h v ζ H' (N.trans N') (k.back N)
 |brk ε=>exact fun ζ H' N'=>h ζ H' (N.trans N')
 |cont ε=>exact fun ζ H' N'=>h ζ H' (N.trans N')
 |exc k ε=>exact fun ζ H' N'=>h ζ H' (N.trans N')
 |bad=>exact h
def Gp:Qm X W c .nil []:=fun env=>wG.imp Rx fun D σ H q=>by
 exact q.2 σ H (Nz.refl q.1)
def zY(h:GS X W c m1 st)(t:Qm X W c m2 sts):Qm X W c (.cons m1 m2) (st::sts):=by
 intro env
 have B:wG X _ (abf (fun D σ H=>∃env,tS X.K W env _ D σ H) (fun D σ H=>∃env,tS X.K W env _ D σ H)):=
  Le (fun δ s σ H D I⟨env,q⟩=>h env δ s σ H D I q) (fun δ s σ H D I⟨env,q⟩=>t env δ s σ H D I q)
 refine wG.imp B fun D σ H q=>?_
 simp only[x_1]at q
 refine⟨env,q.1,?_⟩
 cases r:ex c m1 env with
 |next γ=>
  rw[r]at q
  exact fun ξ H1 N1=>⟨γ,qO q N1⟩
 |_=>rw[r]at q;exact q.2
theorem qP{env:Ev}{H:Hp}{D:Ends}{r:Out Rv}{R:VK}(h:tS K W env (r.qi f) D σ H)
  (k:∀d γ v H1,Nx K env σ H γ H1->bM K H1 d v->tS K W γ (f d γ) D σ H1->R v H1):tD K W env r σ H R:=by
 have step:∀d γ,r.qi f=f d γ->∀v H1,Nx K env σ H γ H1->bM K H1 d v->R v H1:=fun d γ e v H1 N Dv=>by
  rw[e]at h
  exact k d γ v H1 N Dv (qO h N.z)
 obtain⟨S,h⟩:=h
 refine⟨S,?_⟩
 cases r with
 |bad=>exact h
 |exc c γ=>exact fun H' N=>h σ H' N.z
 |ok x γ=>
  cases x with
  |val d=>exact fun v H1 N Dv=>step d γ rfl v H1 N Dv
  |new xs=>exact fun v H1 N Dv=>step xs.d γ rfl v H1 N Dv
  |ref i=>exact h
  |tmp xs=>exact h
theorem Kl{env:Ev}{H:Hp}{D:Ends}{f:Bool->Ev->Fl}(h:tS K W env (r.Dj f) D σ H)
  (k:∀b γ H1,Nx K env σ H γ H1->tS K W γ (f b γ) D σ H1->R b H1):tT K W env r σ H R:=by
 have step:∀d γ x,x.jF=some d->r=.ok x γ->∃b,iU d=some b/\∀H1,Nx K env σ H γ H1->R b H1:=fun d γ x ex er=>by
  subst er
  cases q:iU d with
  |none=>
   cases x with
   |val d'=>cases ex;simp only[Out.Dj,Out.qi,q]at h;exact h.2.elim
   |new xs=>cases ex;simp only[Out.Dj,Out.qi,q]at h;exact h.2.elim
   |ref i=>cases ex
   |tmp xs=>cases ex
  |some b=>
   refine⟨b,rfl,fun H1 N=>k b γ H1 N (qO ?_ N.z)⟩
   cases x with
   |val d'=>cases ex;simp only[Out.Dj,Out.qi,q]at h;exact h
   |new xs=>cases ex;simp only[Out.Dj,Out.qi,q]at h;exact h
   |ref i=>cases ex
   |tmp xs=>cases ex
 refine⟨h.1,?_⟩
 cases r with
 |bad=>exact h.2
 |exc c γ=>exact fun H' N=>h.2 σ H' N.z
 |ok x γ=>
  cases x with
  |val d=>obtain⟨b,e,q⟩:=step d γ _ rfl rfl;exact⟨d,b,rfl,e,q⟩
  |new xs=>obtain⟨b,e,q⟩:=step xs.d γ _ rfl rfl;exact⟨xs.d,b,rfl,e,q⟩
  |ref i=>exact h.2.elim
  |tmp xs=>exact h.2.elim
def acN{te:Expr}(ht:GT X W c t te)(h1:Qm X W c m1 s1)(h2:Qm X W c m2 s2):GS X W c (.ite t m1 m2) (.If te s1 s2 pos):=by
 intro env
 refine PS.imp (ab0 ht (t:=fun D σ H=>∃env,tS X.K W env _ D σ H) (u:=fun D σ H=>∃env,tS X.K W env _ D σ H)
  (fun δ s σ H D I⟨env,q⟩=>h1 env δ s σ H D I q) (fun δ s σ H D I⟨env,q⟩=>h2 env δ s σ H D I q)) fun D σ H q=>?_
 refine⟨env,Kl q fun b γ H1 N q1=>?_⟩
 cases b with
 |true=>rw[if_pos rfl]at q1⊢;exact⟨γ,q1⟩
 |false=>rw[if_neg Qjz]at q1⊢;exact⟨γ,q1⟩
def S9{m:E}(h:GE X W c m e)(hs:swapsWith e none pos.line X.env=pure false):GS X W c (.expr m) (.Expr e pos):=by
 intro env
 exact PS.imp (wZ h.d hs) fun D σ H q=>⟨env,qP q fun d γ v H1 N Dv q1=>q1.2 σ H1 (Nz.refl q1.1)⟩
def NQ:GS X W0 c (.raise k) st:=fun env δ s σ H D I q=>by
 exact(q.2 σ H (Nz.refl q.1)).elim
end
section
variable{env γ ε:Ev}{σ ξ ρ:St}
def kY{s:Sl}{a:Addr}(h:aQ (env.set i s) (σ.set i (some v)) j a)(hj:i≠j):aQ env σ j a:=by
 obtain⟨⟨t,xs,e1,e2⟩,e3⟩:=h
 rw[Qxz hj]at e1 e3
 exact⟨⟨t,xs,e1,e2⟩,e3⟩
def mV{s:Sl}{a:Addr}(hi:i<env.length)(hs:i<σ.length)(h:aQ (env.set i s) (σ.set i (some v)) i a):isOwn s≠none/\v=.ref a:=by
 obtain⟨⟨t,xs,e1,e2⟩,e3⟩:=h
 rw[Qwq hi]at e1
 rw[Qwq hs]at e3
 cases e1
 cases e3
 exact⟨by rw[e2];simp,rfl⟩
def Sat.Ck{q:Ob}(S:Sat K env σ H)(hi:i<env.length)(ha:jG K H q a)(no:∀k,¬aQ env σ k a):Sat K (env.set i (.own q)) (σ.set i (some (.ref a))) H:=by
 have hs:i<σ.length:=by rw[<-S.len];exact hi
 refine⟨by simpa using S.len,fun j s e=>?_,fun j k b h1 h2=>?_⟩
 ·by_cases hj:i=j
  ·subst hj
   rw[Qwq hi]at e
   cases e
   exact⟨a,by rw[Qwq hs];rfl,ha⟩
  ·rw[Qxz hj]at e⊢
   exact S.sl j s e
 ·by_cases hj:i=j
  ·subst hj
   by_cases hk:i=k
   ·exact hk
   ·obtain⟨_,z⟩:=mV hi hs h1
    cases z
    exact absurd (kY h2 hk) (no k)
  ·by_cases hk:i=k
   ·subst hk
    obtain⟨_,z⟩:=mV hi hs h2
    cases z
    exact absurd (kY h1 hj) (no j)
   ·exact S.ne j k b (kY h1 hj) (kY h2 hk)
theorem Nz.put{x:Rv}{v:V}(S:Sat K env σ H)(N:Nx K env σ H γ H1)(hx:gP K σ H H1 x v)(hs:x.Bu=some s)(h:bL i s γ=some ε):Nz K env σ H ε (σ.set i (some v)) H1:=by
 obtain⟨rfl,hi,nb⟩:=rC h
 have hsl:i<σ.length:=by rw[<-N.dX.len];exact hi
 have bors:∀(j:Nat)xs,env[j]? =some _->(∃ys,(γ.set i s)[j]? =some _)/\(σ.set i (some v))[j]? =σ[j]? :=fun j xs e=>by
  obtain⟨ys,e1⟩:=N.bors j xs e
  have hj:i≠j:=fun z=>by subst z;exact nb ys e1
  exact⟨⟨ys,by rw[Qxz hj];exact e1⟩,by rw[Qxz hj]⟩
 cases x with
 |val d=>
  cases hs
  refine⟨N.dX.put hi hx,fun j a z=>.inl ?_,N.pers,N.keep,N.dom,bors⟩
  by_cases hj:i=j
  ·subst hj
   exact absurd rfl (mV hi hsl z).1
  ·exact N.sub j a (kY z hj)
 |new q=>
  cases hs
  obtain⟨a,rfl,oa,h0⟩:=hx
  refine⟨N.dX.Ck hi oa fun k z=>S.my h0 k (N.sub k a z),fun j b z=>?_,N.pers,N.keep,N.dom,bors⟩
  by_cases hj:i=j
  ·subst hj
   obtain⟨_,z⟩:=mV hi hsl z
   cases z
   exact .inr h0
  ·exact .inl (N.sub j b (kY z hj))
 |ref j=>cases hs
 |tmp q=>cases hs
end
section
theorem UT{env:Ev}{H:Hp}{D:Ends}{r:Out Rv}{R:VK}(h:tS K W env (r.fl f) D σ H)
  (k:∀x γ v H1,Nx K env σ H γ H1->gP K σ H H1 x v->tS K W env (f x γ) D σ H->R v H1):tM K W env r σ H R:=by
 obtain⟨S,h⟩:=h
 refine⟨S,?_⟩
 cases r with
 |bad=>exact h
 |exc c γ=>exact fun H' N=>h σ H' N.z
 |ok x γ=>exact fun v H1 N z=>k x γ v H1 N z ⟨S,h⟩
def Ew{i:Nat}{D:Ends}{H:Hp}(q:tS K W env (ex c (.set i m) env) D σ H):tM K W env (ev c m env) σ H fun v H1=>D.nx (σ.set i (some v)) H1:=by
 refine UT q fun x γ v H1 N z q1=>?_
 cases e1:x.Bu with
 |none=>rw[e1]at q1;exact q1.2.elim
 |some s=>
  rw[e1]at q1
  simp only[Option.bind]at q1
  cases e2:bL i s γ with
  |none=>rw[e2]at q1;exact q1.2.elim
  |some ε=>
   rw[e2]at q1
   exact q1.2 _ _ (Nz.put q1.1 N z e1 e2)
def NP{x:Str}(h:GE X W c m e)(hN:X.N.Nodup)(hi:X.N[i]? =some x)(hx:Loc X.env.scope x)(hf:X.fn x=true\/X.env.scope.names.lookup x=some .local)
  (hs:swapsWith e (some (.Name x pos')) pos.line X.env=pure false):GS X W c (.set i m) (.Assign [.Name x pos'] e pos):=fun env=>
 PS.imp (Xv hN hi hx h.am hs hf) fun D σ H q=>⟨env,Ew q⟩
def Kw{env:Ev}{D:Ends}{H:Hp}(q:tS K W env (ex c (.setT is m) env) D σ H):tD K W env (ev c m env) σ H fun v H1=>tG K (.tup is) v σ H1 D.nx:=by
 refine qP q fun d γ v H1 N Dv q1=>?_
 cases e2:aX _ d γ with
 |none=>rw[e2]at q1;exact q1.2.elim
 |some ε=>
  rw[e2]at q1
  exact⟨γ,d,ε,q1.1,Dv,e2,fun ζ st=>q1.2 ζ H1 ⟨st.dX,fun i a z=>.inl (st.sub z),bV.refl _,fun _ _ z _=>z,fun _ z=>z,fun i xs e=>⟨⟨xs,(st.same i (st.bors i xs e)).1.trans e⟩,(st.same i (st.bors i xs e)).2⟩⟩⟩
def S7{tg:Expr}(h:GE X W c m e)(hg:GG X (.tup is) tg)(hs:swapsWithSole [tg] e pos.line X.env=pure false)(hw:swappedStores [tg] e X.env=pure none)
  (h1:(assignEach [tg] X.env).map (·.2)=[assign tg X.env]):GS X W c (.setT is m) (.Assign [tg] e pos):=fun env=>
 PS.imp (Lg h.d hg hs hw h1) fun D σ H q=>⟨env,Kw q⟩
end
theorem DK(env:Env):∀(names:List (Str×NameKind))(cs:List (Str×Addr)),(∀x∈names,x.2=.free->∃c,env.cells.lookup x.1=some c)->(∀x c,cs.lookup x=some c->env.cells.lookup x=some c)->
  ∃cl,(do
   let s<-forIn names cs (fun(x:Str×NameKind)cs=>match x with
    |(name,kind)=>if (kind==NameKind.free)=true then do
      let a<-cellOf env name
      pure (ForInStep.yield ((name,a)::cs))
     else pure (ForInStep.yield cs))
   pure s:Sem (List (Str×Addr)))=(pure cl:Sem _)/\
   (∀x c,cl.lookup x=some c->env.cells.lookup x=some c)/\(∀x,(x,NameKind.free)∈names->∃c,cl.lookup x=some c)/\∀x c,cs.lookup x=some c->∃c,cl.lookup x=some c:=by
 intro names
 induction names with
 |nil=>intro cs h1 h2;exact⟨cs,rfl,h2,by simp,fun x c e=>⟨c,e⟩⟩
 |cons p r ih=>
  intro cs h1 h2
  obtain⟨n,k⟩:=p
  by_cases hk:k=.free
  ·subst hk
   obtain⟨c,hc⟩:=h1 _ QYz rfl
   have q2:∀x d,((n,c)::cs).lookup x=some d->env.cells.lookup x=some d:=fun x d e=>by
    rw[QHz]at e
    cases hx:x==n with
    |true=>rw[hx]at e;cases e;rw[eq_of_beq hx];exact hc
    |false=>rw[hx]at e;exact h2 x d e
   obtain⟨cl,e1,e2,e3,e4⟩:=ih _ (fun x hx=>h1 x (QYq _ hx)) q2
   have own:=e4 n c (by simp[QHz])
   refine⟨cl,?_,e2,fun x hx=>?_,fun x d e=>?_⟩
   ·rw[<-e1]
    have:cellOf env n=pure c:=by unfold cellOf;rw[hc]
    simp only[List.forIn_cons]
    rw[if_pos (show(NameKind.free==NameKind.free)=true from rfl),this]
    rfl
   ·rcases QCq.mp hx with z|z
    ·cases z;exact own
    ·exact e3 x z
   ·cases hx:x==n with
    |true=>rw[eq_of_beq hx];exact own
    |false=>exact e4 x d (by rw[QHz,hx];exact e)
  ·obtain⟨cl,e1,e2,e3,e4⟩:=ih cs (fun x hx=>h1 x (QYq _ hx)) h2
   refine⟨cl,?_,e2,fun x hx=>?_,e4⟩
   ·rw[<-e1]
    simp only[List.forIn_cons]
    rw[if_neg (fun z=>hk (eq_of_beq z))]
    rfl
   ·rcases QCq.mp hx with z|z
    ·cases z;exact absurd rfl hk
    ·exact e3 x z
def ag0{env:Env}(h:∀x∈scope.names,x.2=.free->∃c,env.cells.lookup x.1=some c):∃cl,Qp scope env cl:=by
 obtain⟨cl,e1,e2,e3,_⟩:=DK env scope.names [] h (by simp)
 refine⟨cl,?_,e2,fun x hx=>e3 x (PySem.mem_of_lookup hx)⟩
 have q:closureFor scope env=(forIn scope.names [] (fun(x:Str×NameKind)cs=>match x with
    |(name,kind)=>if (kind==NameKind.free)=true then do
      let a<-cellOf env name
      pure (ForInStep.yield ((name,a)::cs))
     else pure (ForInStep.yield cs)))>>=pure:=rfl
 rw[q,e1]
 rfl
section
variable{it cond elt:E}{pos spos py:Pos}
theorem G7{env:Ev}{H:Hp}{Q:VK}
  (q:tM K W env (ev c (.comp nl tg it cond elt) env) σ H Q)
  (k:∀J H1 γ xs ys τ,Nx K env σ H γ H1->Gives K J xs H1->aV tg (ev c cond) (ev c elt) xs [] (List.replicate nl Sl.un++γ)=.ok ys τ->
   (∀v H2,Nx K env σ H (τ.drop nl) H2->gP K σ H H2 (.new (.lst ys)) v->Q v H2)->R J H1):tI K W env (ev c it env) σ H R:=by
 simp only[qJ]at q
 obtain⟨S,q⟩:=q
 refine⟨S,?_⟩
 cases r:ev c it env with
 |bad=>rw[r]at q;exact q
 |exc k γ=>rw[r]at q;exact q
 |ok x γ=>
  rw[r]at q
  have go:∀d,x.jF=some d->(match (match items d with
    |some xs=>match aV tg (ev c cond) (ev c elt) xs [] (List.replicate nl Sl.un++γ)with
     |.ok ys τ=>Out.ok (Rv.new (.lst ys)) (τ.drop nl)
     |_=>.bad
    |none=>.bad)with
   |.ok x env'=>∀v H',Nx K env σ H env' H'->gP K σ H H' x v->Q v H'
   |.exc c env'=>∀H',Nx K env σ H env' H'->W c env' σ H'
   |.bad=>False)->∃d xs,x.jF=some d/\items d=some xs/\∀J H',Nx K env σ H γ H'->Gives K J xs H'->R J H':=fun d ed z=>by
   cases e1:items d with
   |none=>rw[e1]at z;exact z.elim
   |some xs=>
    rw[e1]at z
    simp only at z
    cases e2:aV tg _ _ xs [] _ with
    |bad=>rw[e2]at z;exact z.elim
    |exc k τ=>rw[e2]at z;exact z.elim
    |ok ys τ=>
     rw[e2]at z
     exact⟨d,xs,ed,e1,fun J H1 N G=>k J H1 γ xs ys τ N G e2 z⟩
  cases x with
  |val d=>exact go d rfl q
  |new o=>exact go o.d rfl q
  |ref i=>exact q.elim
  |tmp o=>exact q.elim
def Inv.letGo{σ:St}{H:Hp}{C:Addr}(I:Inv X δ σ H s)(f:gQ X δ H C)(hs:Heap.SameBut C s.heap h'):Inv X δ σ H {s with heap:=h'}:=by
 exact I.turned (fun b o hb e=>(hs.2 b hb).trans e) f.1 f.2.1 f.2.2.2.1 f.2.2.2.2.1 f.2.2.2.2.2
theorem JG.cl{σ:St}{H:Hp}(sc:JG X.env.scope scope η X.N)(I:Inv X δ σ H s):∃cl,Qp scope X.env cl:=
 ag0 fun x hx hf=>I.ok.has x.1 (sc.fre x hx hf)
def Tj(B:Ba X c scope η tg cond elt tgE Ξ ifs)(hi:GI X W c it tgE ο)(hc:X.calm=true)(hs:∀x,foldedSetIterable ο X.env x=pure x):
  GE X W c (.comp η.length tg it cond elt) (.ListComp Ξ [⟨tgE,ο,ifs,0⟩] scope pos):=by
 intro env δ s σ H Q I q
 obtain⟨cl,co⟩:=B.sc.cl I
 refine wpAny_comprehension_free rfl hs co.eq B.sc.kind B.sc.locs (b8 (hi env δ s σ H _ I (G7 q (R:=fun J H1=>∃γ xs ys τ,Nx X.K env σ H γ H1/\Gives X.K J xs H1/\aV tg _ _ xs [] _=.ok ys τ/\
  (∀v H2,Nx X.K env σ H _ H2->gP X.K σ H H2 _ v->Q v H2)) fun J H1 γ xs ys τ N G e z=>⟨γ,xs,ys,τ,N,G,e,z⟩)) fun v s1 h1=>b8 h1 fun itv s2 h2=>?_)
 obtain⟨ita,fp,tn,J,H1,rfl,I1,T,t0,hf,γ,xs,ys,τ,N,G,e,z⟩:=h2
 refine v5 B hc co I1 N.dX T t0 hf G e fun D C s' H' vs m I' N' hD hl hn hC fC=>?_
 refine⟨m,hC,fun h' hs'=>⟨.ref D,H',Inv.letGo I' fC hs',rfl,z _ _ (N.trans N') ⟨D,rfl,⟨_,hD,vs,rfl,hl⟩,N.dom D hn⟩⟩⟩
def CZ{x:Str}(B:Ba X c scope η tg cond elt tgE Ξ ifs)(hi:GI X W c it tgE ο)(hc:X.calm=true)(hs:∀x,foldedSetIterable ο X.env x=pure x)
  (hN:X.N.Nodup)(hx:X.N[i]? =some x)(hl:Loc X.env.scope x)(hf:X.fn x=true\/X.env.scope.names.lookup x=some .local)
  (hsw:swapsWith (.ListComp Ξ [⟨tgE,ο,ifs,0⟩] scope pos) (some (.Name x py)) spos.line X.env=pure true):
  GS X W c (.set i (.comp η.length tg it cond elt)) (.Assign [.Name x py] (.ListComp Ξ [⟨tgE,ο,ifs,0⟩] scope pos) spos):=by
 intro env δ s σ H D I q
 obtain⟨cl,co⟩:=B.sc.cl I
 rw[exec_Assign_Name_used _ _ _ _ hsw]
 refine QKq (wpAny_standAt (QKq ?_))
 refine QKq (QGq (wpAny_comprehension_free rfl hs co.eq B.sc.kind B.sc.locs
  (b8 (hi env δ s σ H _ I (G7 (Ew q) (R:=fun J H1=>∃γ xs ys τ,Nx X.K env σ H γ H1/\Gives X.K J xs H1/\aV tg _ _ xs [] _=.ok ys τ/\
  (∀v H2,Nx X.K env σ H _ H2->gP X.K σ H H2 _ v->D.nx _ H2)) fun J H1 γ xs ys τ N G e z=>⟨γ,xs,ys,τ,N,G,e,z⟩)) fun v s1 h1=>b8 h1 fun itv s2 h2=>?_))
  (fun _ s' hq=>QKz (QKz hq)) fun _ _ e=>e)
 obtain⟨ita,fp,tn,J,H1,rfl,I1,T,t0,hf',γ,xs,ys,τ,N,G,e,z⟩:=h2
 refine v5 B hc co I1 N.dX T t0 hf' G e fun A C s' H' vs m I' N' hD hl' hn hC fC=>?_
 refine wpAny_assign_Name (uQ (v:=.ref A) I' hN hx hl rfl (fun s'' I''⟨a,ha,hor⟩=>?_) hf)
 have hCa:C≠a:=by
  rcases hor with rfl|hor
  ·exact fC.2.1
  ·exact fun z=>fC.2.2.2.2.1 x a hor z.symm
 refine⟨m,hC.sameBut ha hCa,fun h' hs'=>⟨_,H',Inv.letGo I'' fC hs',z _ _ (N.trans N') ⟨A,rfl,⟨_,hD,vs,rfl,hl'⟩,N.dom A hn⟩⟩⟩
end
section
theorem Jm(hq:iV K H a vs)(l:ak K H xs vs)(hz:vs.length<=sizeLine):Gives K (Itt K a) xs H where
 go:=fun H1 p i d e=>by
  obtain⟨v,ev,_⟩:=l.get e
  exact⟨vs,v,p.Hu hq,ev⟩
 yld:=fun H1 p i d e x H2 y=>by
  obtain⟨rfl,y⟩:=y
  obtain⟨v,ev,dv⟩:=l.get e
  have:=y vs (p.Hu hq)
  rw[ev]at this
  cases this
  exact⟨dv.mono p,.inl rfl⟩
 stop:=fun H1 p i hi=>⟨vs,p.Hu hq,by rw[<-l.length];exact hi⟩
 len:=by rw[l.length];exact hz
theorem Jo(hq:Hg K H a vs)(l:ak K H xs vs)(hz:vs.length<=sizeLine):Gives K (Itl K a) xs H where
 go:=fun H1 p i d e=>by
  obtain⟨v,ev,_⟩:=l.get e
  exact⟨vs,v,(p.Gu hq).sq,ev⟩
 yld:=fun H1 p i d e x H2 y=>by
  obtain⟨rfl,y⟩:=y
  obtain⟨v,ev,dv⟩:=l.get e
  have:=y vs (p.Gu hq).sq
  rw[ev]at this
  cases this
  exact⟨dv.mono p,.inl rfl⟩
 stop:=fun H1 p i hi=>⟨vs,(p.Gu hq).sq,by rw[<-l.length];exact hi⟩
 len:=by rw[l.length];exact hz
def Its(x:Str):It:=⟨fun i _=>i<x.cps.size,fun i H v H'=>H'=H/\∃c,x.cps[i]? =some c/\v=.str ⟨#[c]⟩,fun i _=>x.cps.size<=i⟩
def signs_get{i:Nat}(h:(signs x)[i]? =some d):∃c,x.cps[i]? =some c/\d=.str ⟨#[c]⟩:=by
 unfold signs at h
 rw[QFz]at h
 cases e:x.cps.toList[i]? with
 |none=>rw[e]at h;cases h
 |some c=>rw[e]at h;cases h;exact⟨c,by simpa using e,rfl⟩
def oE x:(signs x).length=x.cps.size:=by simp[signs]
theorem vX(hz:x.cps.size<=sizeLine):Gives K (Its x) (signs x) H where
 go:=fun H1 p i d e=>by
  have:=(QCz.mp e).1
  rw[oE]at this
  exact this
 yld:=fun H1 p i d e v H2 y=>by
  obtain⟨rfl,c,e1,rfl⟩:=y
  obtain⟨c',e2,rfl⟩:=signs_get e
  rw[e1]at e2
  cases e2
  exact⟨rfl,.inl rfl⟩
 stop:=fun H1 p i hi=>by rw[oE]at hi;exact hi
 len:=by rw[oE];exact hz
end
section
theorem yC it x t ty(W:∀A':Around,A'.handled=none->Walks P w A' it [it] [it] x.cps.size (SignAt x) (fun i h=>h.IsStrIter it ty x t i))
  (hn:["enumerate","zip","dict_itemiterator","dict_reverseitemiterator","odict_iterator","itertools.zip_longest","itertools.pairwise"].contains ty=false)
  (hself:∀(A:Around)(i:Nat)(s:Shared)(Q:QZq)(E:QZq),s.heap.IsStrIter it ty x t i->Q (.ref it) s->wpAny (model P w) A (pyIter (.ref it)) Q E s):
  Turn P w K tg (Its x) [it] it (fun i h=>h.IsStrIter it ty x t i/\i<=x.cps.size) where
 mem:=by simp
 obj:=fun i h st b hb=>by
  have e:b=it:=by simpa using hb
  subst e
  obtain⟨⟨o,e,_,d⟩,_⟩:=st
  exact⟨o,e,fun v z=>by rw[d]at z;cases z⟩
 keep:=fun i h h' st k=>⟨let ⟨o,e,r⟩:=st.1;⟨o,k it (by simp) o e,r⟩,st.2⟩
 item:=by
  intro X hP hw hK hc i δ s σ H E I hf st hg
  obtain⟨f0,f1,f2,f3,f4,f5⟩:=hf it (by simp)
  refine(W X.A (I.ok.hd hc)).item i s _ _ hg st.1 fun v h' tk hv st' kk=>?_
  obtain⟨c,t,hx,rfl⟩:=hv
  obtain⟨o,e,cl,d⟩:=id st'
  exact⟨_,rfl,Gs e cl d hn ⟨.str ⟨#[c]⟩,H,(I.turned (fun b o hb e=>kk b o (by simpa using hb) e) f0 f1 f3 f4 f5),⟨t,rfl⟩,⟨rfl,c,hx,rfl⟩,⟨st',hg⟩,fun b hb=>(hf b hb).1⟩⟩
 done:=by
  intro X hP hw hK hc i δ s σ H E I hf st hg
  obtain⟨f0,f1,f2,f3,f4,f5⟩:=hf it (by simp)
  have e:=Nat.le_antisymm st.2 hg
  subst e
  exact(W X.A (I.ok.hd hc)).done s _ _ st.1 fun h' tk kk=>⟨rfl,I.turned (fun b o hb e=>kk b o (by simpa using hb) e) f0 f1 f3 f4 f5⟩
 self:=fun A i s Q E st h=>hself A i s Q E st.1 h
end
section
theorem GR:∀cs:List Bool,ak K H (cs.map .bl) (cs.map .bl)
 |[]=>ak.fj
 |c::cs=>ak.aN.mpr ⟨_,_,rfl,by rfl,GR cs⟩
def Zt(h:cA K H k a):bM K H (fQ k) (.ref a):=by
 obtain⟨b,q1,q2⟩:=h
 exact⟨a,_,rfl,q1,ak.aN.mpr ⟨_,_,rfl,⟨b,_,rfl,q2,GR _⟩,ak.aN.mpr ⟨_,_,rfl,by rfl,ak.fj⟩⟩⟩
end
section
end
section
theorem Nb{σ:St}{s:Shared}{d:D}{v:V}(I:Inv X δ σ H s)(rv:RelV v u)(hd:bM X.K H d v)(hi:items d=some xs)(q:∀J,Gives X.K J xs H->R J H):
  wpAny (model X.prog X.w) X.A (pyIter u) (PIE X δ σ tg R) X.xe s:=by
 cases d with
 |tup ds=>
  cases hi
  obtain⟨a,vs,rfl,hq,l⟩:=cI hd
  cases rv
  obtain⟨its,r,p,hz⟩:=I.tuple hq
  refine wpAny_pyIter_tuple (p) ?_
  refine⟨s.heap.objs.size,[s.heap.objs.size],_,_,H,rfl,I.kept fun b o e=>QWq _ e,Bk a _,⟨_,Qzq _ rfl,rfl,rfl⟩,fun b hb=>?_,q _ (Jm hq l hz)⟩
  have e:b=s.heap.objs.size:=by simpa using hb
  subst e
  exact I.z9 (QVz _) (I.hok.fresh (QVz _))
 |lst ds=>
  cases hi
  obtain⟨a,vs,rfl,hq,l⟩:=dg hd
  cases rv
  obtain⟨its,r,p,hz⟩:=I.list hq.sq
  refine wpAny_pyIter_list p.isList ?_
  refine⟨s.heap.objs.size,[s.heap.objs.size],_,_,H,rfl,I.kept fun b o e=>QWq _ e,Hm a _,⟨_,Qzq _ rfl,rfl,rfl⟩,fun b hb=>?_,q _ (Jo hq l hz)⟩
  have e:b=s.heap.objs.size:=by simpa using hb
  subst e
  exact I.z9 (QVz _) (I.hok.fresh (QVz _))
 |str x=>
  simp only[items]at hi
  split at hi
  ·rename_i hf
   cases hi
   cases hd
   obtain⟨t,rfl⟩:=rv
   have hz:=eO hf
   have fin:∀b∈[s.heap.objs.size],gQ X δ H b:=fun b hb=>by
    have e:b=s.heap.objs.size:=by simpa using hb
    subst e
    exact I.z9 (QVz _) (I.hok.fresh (QVz _))
   cases ha:x.cps.all _
   ·exact wpAny_pyIter_wide ha ⟨s.heap.objs.size,[s.heap.objs.size],_,_,H,rfl,I.kept fun b o e=>QWq _ e,yC _ x t "str_iterator" (fun A' hA=>Walks.strWide hA _ x t) (by decide) (fun A i s Q E st h=>wpAny_pyIter_striter_wide st h),⟨⟨_,Qzq _ rfl,rfl,rfl⟩,QIq _⟩,fin,q _ (vX hz)⟩
   ·exact wpAny_pyIter_ascii ha ⟨s.heap.objs.size,[s.heap.objs.size],_,_,H,rfl,I.kept fun b o e=>QWq _ e,yC _ x t "str_ascii_iterator" (fun A' hA=>Walks.strAscii hA _ x t) (by decide) (fun A i s Q E st h=>wpAny_pyIter_striter_ascii st h),⟨⟨_,Qzq _ rfl,rfl,rfl⟩,QIq _⟩,fin,q _ (vX hz)⟩
  ·cases hi
 |_=>cases hi
def acQ(h:GE X W c m e):GI X W c m tg e:=by
 intro env δ s σ H R I q
 refine b8 (h.d δ s σ H (fun v H'=>∃d xs,bM X.K H' d v/\items d=some xs/\∀J,Gives X.K J xs H'->R J H') I ⟨env,q.1,?_⟩) fun u s1⟨v,H1,I1,r1,d,xs,hd,hi,q1⟩=>Nb I1 r1 hd hi q1
 have q2:=q.2
 cases r:ev c m env with
 |bad=>rw[r]at q2;exact q2
 |exc k γ=>rw[r]at q2;exact q2
 |ok x γ=>
  rw[r]at q2
  obtain⟨d,xs,ed,ei,q3⟩:=q2
  cases x with
  |val d'=>cases ed;exact fun v H' N Dv=>⟨d,xs,Dv,ei,fun J G=>q3 J H' N G⟩
  |new o=>cases ed;exact fun v H' N Dv=>⟨o.d,xs,Dv,ei,fun J G=>q3 J H' N G⟩
  |ref i=>cases ed
  |tmp o=>cases ed
end
def tyN:Ty->String
 |.tup=>"tuple"
 |.lst=>"list"
 |.str=>"str"
 |.bool=>"bool"
 |.int=>"int"
 |.cH=>"dict"
section
def afT(K:QQq):List V->Hp->VK->Prop:=fun xs H Q=>∃d v t,xs=[v,.ty (tyN t)]/\bM K H d v/\Q (.bl (oZ t d)) H
def Ph:fZ X (.builtin "isinstance") (afT X.K):=by
 intro δ s σ H xs us Q I r h
 obtain⟨d,v,t,rfl,hd,q⟩:=h
 obtain⟨u,u',rfl,ru,rt⟩:=Vals.two r
 cases rt
 have fin:∀k,Q _ H->EP X δ σ Q _ {s with toks:=s.toks+1}:=fun k z=>⟨.bl k,H,I.tok _,rfl,z⟩
 have fin0:∀k,Q _ H->EP X δ σ Q _ s:=fun k z=>⟨.bl k,H,I,rfl,z⟩
 cases d with
 |non=>
  cases hd;cases ru
  cases t with
  |tup=>exact IsiPair.NoneType_tuple (fin _ q)
  |lst=>exact IsiPair.NoneType_list (fin _ q)
  |str=>exact IsiPair.NoneType_str (fin _ q)
  |bool=>exact IsiPair.NoneType_bool (fin _ q)
  |int=>exact IsiPair.NoneType_int (fin _ q)
  |cH=>exact IsiPair.NoneType_dict (fin _ q)
 |bl k=>
  cases hd;cases ru
  cases t with
  |tup=>exact IsiPair.bool_tuple (fin _ q)
  |lst=>exact IsiPair.bool_list (fin _ q)
  |str=>exact IsiPair.bool_str (fin _ q)
  |bool=>exact IsiPair.bool_bool (fin0 _ q)
  |int=>exact IsiPair.bool_int (fin0 _ q)
  |cH=>exact IsiPair.bool_dict (fin _ q)
 |int k=>
  cases hd;obtain⟨tk,rfl⟩:=ru
  cases t with
  |tup=>exact IsiPair.int_tuple (fin _ q)
  |lst=>exact IsiPair.int_list (fin _ q)
  |str=>exact IsiPair.int_str (fin _ q)
  |bool=>exact IsiPair.int_bool (fin _ q)
  |int=>exact IsiPair.int_int (fin0 _ q)
  |cH=>exact IsiPair.int_dict (fin _ q)
 |str k=>
  cases hd;obtain⟨tk,rfl⟩:=ru
  cases t with
  |tup=>exact IsiPair.str_tuple (fin _ q)
  |lst=>exact IsiPair.str_list (fin _ q)
  |str=>exact IsiPair.str_str (fin0 _ q)
  |bool=>exact IsiPair.str_bool (fin _ q)
  |int=>exact IsiPair.str_int (fin _ q)
  |cH=>exact IsiPair.str_dict (fin _ q)
 |tup ds=>
  obtain⟨a,vs,rfl,hq,_⟩:=cI hd
  cases ru
  obtain⟨its,_,⟨o,e,cl,_⟩,_⟩:=I.tuple hq
  cases t with
  |tup=>exact IsiPair.tuple_tuple e cl (fin0 _ q)
  |lst=>exact IsiPair.tuple_list e cl (fin _ q)
  |str=>exact IsiPair.tuple_str e cl (fin _ q)
  |bool=>exact IsiPair.tuple_bool e cl (fin _ q)
  |int=>exact IsiPair.tuple_int e cl (fin _ q)
  |cH=>exact IsiPair.tuple_dict e cl (fin _ q)
 |lst ds=>
  obtain⟨a,vs,rfl,hq,_⟩:=dg hd
  cases ru
  obtain⟨its,_,⟨o,n,e,cl,_⟩,_⟩:=I.list hq.sq
  cases t with
  |tup=>exact IsiPair.list_tuple e cl (fin _ q)
  |lst=>exact IsiPair.list_list e cl (fin0 _ q)
  |str=>exact IsiPair.list_str e cl (fin _ q)
  |bool=>exact IsiPair.list_bool e cl (fin _ q)
  |int=>exact IsiPair.list_int e cl (fin _ q)
  |cH=>exact IsiPair.list_dict e cl (fin _ q)
 |cH ks ds=>
  obtain⟨a,o,kvs,rfl,ha,_⟩:=hd
  cases ru
  obtain⟨e,_,_,_,_,o',_,_,e',ex,_⟩:=I.hok a _ ha
  rw[e]at e'
  cases e'
  have cl:=ex.1
  cases t with
  |tup=>exact IsiPair.dict_tuple e cl (fin _ q)
  |lst=>exact IsiPair.dict_list e cl (fin _ q)
  |str=>exact IsiPair.dict_str e cl (fin _ q)
  |bool=>exact IsiPair.dict_bool e cl (fin _ q)
  |int=>exact IsiPair.dict_int e cl (fin _ q)
  |cH=>exact IsiPair.dict_dict e cl (fin0 _ q)
 |jH ks ds=>
  obtain⟨a,o,kvs,rfl,ha,_⟩:=hd
  cases ru
  obtain⟨e,_,_,_,_,o',_,_,_,e',ex,_⟩:=I.hok a _ ha
  rw[e]at e'
  cases e'
  have cl:=ex.1
  cases t with
  |tup=>exact IsiPair.dict_tuple e cl (fin _ q)
  |lst=>exact IsiPair.dict_list e cl (fin _ q)
  |str=>exact IsiPair.dict_str e cl (fin _ q)
  |bool=>exact IsiPair.dict_bool e cl (fin _ q)
  |int=>exact IsiPair.dict_int e cl (fin _ q)
  |cH=>exact IsiPair.dict_dict e cl (fin0 _ q)
def Zb{x:Str}(ha:GE X W c m a)(hx:x=Str.ofString (tyN t))(hg:Gl X x)(hm:X.mg x=none)(hi:Gl X "isinstance")(hmi:X.mg "isinstance"=none)
  (hs:starEach [a,.Name x p'] X.env=(false,eval a X.env)::starEach [.Name x p'] X.env):
  GE X W c (.isi m t) (.Call (.Name "isinstance" p) [a,.Name x p'] [] pos):=by
 intro env
 have hv:bootBuiltins x=some (.type (tyN t)):=by subst hx;cases t<;>kernel_rfl
 have N:PE X (.Name x p') (tC (.ty _)):=RN hg hm hv rfl (by subst hx;cases t<;>decide+kernel) (by subst hx;cases t<;>decide+kernel)
 exact PE.imp (rN Ph hi hmi (by kernel_rfl) (cG ha.d (cG N eZ rfl) hs) (by decide+kernel) (by decide+kernel) hs rfl) fun σ H Q q=>⟨env,aW q fun d γ v H1 N1 D1 q1=>⟨d,v,t,rfl,D1,dY q1 rfl⟩⟩
end
def ql(X:Cx)(r:List V->Hp->VK->Prop)(f:D->Option Rv):Prop:=
 ∀(env:Ev)(σ:St)(H:Hp)(x:D)(z:Rv)(v:V)(Q:VK),Sat X.K env σ H->cU X.K H x v->f x=some z->(∀w H',Nx X.K env σ H env H'->gP X.K σ H H' z w->Q w H')->r [v] H Q
section
def Pk{r:List V->Hp->VK->Prop}(R:ql X r (b1 bb)){σ:St}{Q:VK}(hv:m.au=none)(q:tM X.K W env (ev c (.bi bb m) env) σ H Q):aD X W c m σ H fun v H1=>r [v] H1 Q:=by
 simp only[uC,hv]at q
 refine⟨env,aW q fun d γ v H1 N1 D1 q1=>?_⟩
 obtain⟨z,ez,S,q3⟩:=cF q1
 exact R γ σ H1 d z v Q S (.inl D1) ez q3
def Hc{r:List V->Hp->VK->Prop}(R:ql X r (b1 bb)){σ:St}{Q:VK}(hv:m.au=some k)(q:tM X.K W env (ev c (.bi bb m) env) σ H Q):Kd k σ H fun v H1=>r [v] H1 Q:=by
 simp only[uC,hv]at q
 obtain⟨z,ez,S,q3⟩:=cF q
 cases e0:bA k env with
 |none=>rw[e0]at ez;cases ez
 |some d0=>
  rw[e0]at ez
  obtain⟨u,eu,Du⟩:=eE S e0
  exact⟨u,eu,R env σ H d0 z u Q S Du ez q3⟩
theorem xP{id:String}{x:Str}(C:fZ X (.builtin id) r)(R:ql X r (b1 bb))(ha:GE X W c m a)(hv:∀k,m.au=some k->∃x p,a=.Name x p/\gj X k x)
  (hg:Gl X x)(hm:X.mg x=none)(hb:bootBuiltins x=some (.builtin id))(hn:x≠"__name__")(hd:(x==("__debug__":Str))=false)(hs:starEach [a] X.env=[(false,eval a X.env)]):
  GE X W c (.bi bb m) (.Call (.Name x p) [a] [] pos):=by
 intro env
 cases q:m.au with
 |none=>exact PE.imp (rN C hg hm hb (cG ha.d eZ hs) hn hd hs rfl) fun σ H Q h=>Pk R q h
 |some k=>
  obtain⟨y,p',rfl,nm⟩:=hv k q
  exact PE.imp (rN C hg hm hb (cG nm.pe eZ hs) hn hd hs rfl) fun σ H Q h=>Hc R q h
theorem Dh{id:String}{x:Str}(C:fZ X (.type id) r)(R:ql X r (b1 bb))(ha:GE X W c m a)(hv:∀k,m.au=some k->∃x p,a=.Name x p/\gj X k x)
  (hg:Gl X x)(hm:X.mg x=none)(hb:bootBuiltins x=some (.type id))(hn:x≠"__name__")(hd:(x==("__debug__":Str))=false)(hs:starEach [a] X.env=[(false,eval a X.env)]):
  GE X W c (.bi bb m) (.Call (.Name x p) [a] [] pos):=by
 intro env
 cases q:m.au with
 |none=>exact PE.imp (oM C hg hm hb (cG ha.d eZ hs) hn hd hs rfl) fun σ H Q h=>Pk R q h
 |some k=>
  obtain⟨y,p',rfl,nm⟩:=hv k q
  exact PE.imp (oM C hg hm hb (cG nm.pe eZ hs) hn hd hs rfl) fun σ H Q h=>Hc R q h
def cU.seq{H:Hp}{xs:List D}(h:cU K H d v)(e:bG d=some xs):∃a vs,v=.ref a/\(km K H a vs\/iV K H a vs)/\ak K H xs vs:=by
 cases d with
 |tup ys=>cases e;exact h.Q0
 |lst ys=>cases e;exact h.KC
 |_=>cases e
theorem cU.cH{H:Hp}{v:V}(h:cU K H (.cH ks ds) v):∃a kvs,v=.ref a/\Rd H a (.dK kvs)/\ks=kvs.map (fun p=>dN p.1)/\ak K H ds (kvs.map (·.2)):=by
 rcases h with h|⟨o,a,q,rfl,u,ha,hq⟩
 ·unfold bM at h
  obtain⟨a,o,kvs,rfl,ha,k,l⟩:=h
  exact⟨a,kvs,rfl,.inr ⟨o,ha⟩,k,l⟩
 ·cases o<;>cases q
  obtain⟨kvs,rfl,k,l⟩:=hq
  exact⟨a,kvs,rfl,.inl ha,k,l⟩
def Xk(K:QQq):List V->Hp->VK->Prop:=fun xs H Q=>(∃x n,xs=[x]/\ZR K x H n/\Q (.int n) H)\/∃a kvs,xs=[.ref a]/\Rd H a (.dK kvs)/\Q (.int kvs.length) H
def Jw:fZ X (.builtin "len") (Xk X.K):=by
 intro δ s σ H xs us Q I r h
 rcases h with h|⟨a,kvs,rfl,e,q⟩
 ·exact Pb δ s σ H xs us Q I r h
 ·obtain⟨u,rfl,ru⟩:=vals1 r
  cases ru
  exact ac0 I e fun t s' I'=>⟨.int kvs.length,H,I',⟨t,rfl⟩,q⟩
def Rc:ql X (Xk X.K) (b1 .len):=by
 intro env σ H x z v Q S Dx e q
 have go:∀n,Iz x=some n->ZR X.K v H n->Xk X.K [v] H Q:=fun n en ln=>by
  simp only[b1,en]at e
  cases e
  exact .inl ⟨v,n,rfl,ln,q _ H (Nx.refl S) rfl⟩
 cases x with
 |tup xs=>
  obtain⟨a,vs,rfl,hq,l⟩:=Dx.Q0
  refine go xs.length rfl ?_
  rcases hq with hq|hq
  ·exact .inl ⟨vs,hq,l.length⟩
  ·exact .inr ⟨vs,hq,l.length⟩
 |lst xs=>
  obtain⟨a,vs,rfl,hq,l⟩:=Dx.KC
  refine go xs.length rfl ?_
  rcases hq with hq|hq
  ·exact .inl ⟨vs,hq,l.length⟩
  ·exact .inr ⟨vs,hq,l.length⟩
 |str y=>
  have:=Dx.str
  subst this
  by_cases hf:fits y.length=true
  ·exact go y.length (by simp[Iz,hf]) ⟨eO hf,rfl⟩
  ·simp[b1,Iz,hf]at e
 |cH ks ds=>
  cases e
  obtain⟨a,kvs,rfl,hr,hk,l⟩:=Dx.cH
  have e2:ks.length=kvs.length:=by rw[hk,QAq]
  exact .inr ⟨a,kvs,rfl,hr,by rw[<-e2];exact q _ H (Nx.refl S) rfl⟩
 |_=>cases e
def Rf:ql X (fun xs H Q=>(∃i,xs=[.int i]/\Q (.int i) H)\/∃k,xs=[.bl k]/\Q (.int (if k then 1 else 0)) H) (b1 .int):=by
 intro env σ H x z v Q S Dx e q
 cases x with
 |int i=>
  cases e
  have:=Dx.int
  subst this
  exact .inl ⟨i,rfl,q _ H (Nx.refl S) rfl⟩
 |bl k=>
  cases e
  rcases Dx with h|⟨o,a,q',_⟩
  ·cases h
   exact .inr ⟨k,rfl,q _ H (Nx.refl S) (by cases k<;>rfl)⟩
  ·cases o<;>cases q'
 |_=>cases e
def HF:ql X (fun xs H Q=>∃p ys,xs=[.ref p]/\((km X.K H p ys/\∀l,H l=none->Q (.ref l) (upd H l (.tup ys)))\/(iV X.K H p ys/\Q (.ref p) H))) (b1 .tuple):=by
 intro env σ H x z v Q S Dx e q
 simp only[b1]at e
 cases es:bG x with
 |none=>rw[es]at e;cases e
 |some xs=>
  rw[es]at e
  cases e
  obtain⟨a,vs,rfl,hq,l⟩:=Dx.seq es
  refine⟨a,vs,rfl,?_⟩
  rcases hq with hq|hq
  ·refine .inl ⟨hq,fun p hp=>?_⟩
   have N:=Nx.laid (o:=.tup vs) S hp
   exact q _ _ N (dD (.inl (.inl aU)) (l.mono N.pers))
  ·exact .inr ⟨hq,q _ H (Nx.refl S) (dD hq l)⟩
theorem cU.jH{H:Hp}{v:V}(h:cU K H (.jH ks ds) v):∃a xs,v=.ref a/\Rd H a (sD xs)/\ks=xs.map (fun x=>fQ x.1)/\∀x∈xs,cA K H x.1 x.2.1:=by
 rcases h with h|⟨o,a,q,rfl,u,ha,hq⟩
 ·unfold bM at h
  obtain⟨a,o,xs,rfl,ha,k,ka,l⟩:=h
  exact⟨a,xs,rfl,.inr ⟨o,ha⟩,k,ka⟩
 ·cases o<;>cases q
  obtain⟨xs,rfl,k,ka,l⟩:=hq
  exact⟨a,xs,rfl,.inl ha,k,ka⟩
theorem GQ{H:Hp}:∀{xs:List SV},(∀x∈xs,cA K H x.1 x.2.1)->ak K H (xs.map fun x=>fQ x.1) (xs.map fun x=>.ref x.2.1)
 |[]=>fun _=>ak.fj
 |x::xs=>fun h=>ak.aN.mpr ⟨_,_,rfl,Zt (h x QYz),GQ fun y hy=>h y (QYq _ hy)⟩
def KR:ql X (fun xs H Q=>(∃p ys,xs=[.ref p]/\(km X.K H p ys\/iV X.K H p ys)/\∀l,H l=none->Q (.ref l) (upd H l (.lst ys)))\/∃a ks,xs=[.ref a]/\Rd H a (sD ks)/\∀l,H l=none->Q (.ref l) (upd H l (.lst (ks.map fun x=>.ref x.2.1)))) (b1 .list):=by
 intro env σ H x z v Q S Dx e q
 have go:∀{xs:List D},bG x=some xs->Qu .list xs=some z->∃p ys,[v]=[V.ref p]/\(km X.K H p ys\/iV X.K H p ys)/\∀l,H l=none->Q (.ref l) (upd H l (.lst ys)):=fun es e=>by
  cases e
  obtain⟨a,vs,rfl,hq,l⟩:=Dx.seq es
  exact⟨a,vs,rfl,hq,fun p hp=>q _ _ (Nx.laid S hp) (lq S l hp)⟩
 cases x with
 |jH ks ds=>
  cases e
  obtain⟨a,xs,rfl,hr,rfl,ka⟩:=Dx.jH
  exact .inr ⟨a,xs,rfl,hr,fun p hp=>q _ _ (Nx.laid S hp) (lq S (GQ ka) hp)⟩
 |tup xs=>exact .inl (go rfl e)
 |lst xs=>exact .inl (go rfl e)
 |_=>cases e
def BoolsAre.get{vs:List Value}{bs:List Bool}(h:BoolsAre vs bs):∀{i:Nat}{v:Value},vs[i]? =some v->∃b,bs[i]? =some b/\v=.bool b:=by
 induction h with
 |nil=>intro i v e;simp at e
 |cons b t ih=>
  intro i v e
  cases i with
  |zero=>simp at e;subst e;exact⟨b,rfl,rfl⟩
  |succ i=>exact ih (by simpa using e)
def range_all(bs:List Bool):((List.range bs.length).all fun i=>bs.getD i false)=bs.all id:=by
 rw[Bool.eq_iff_iff]
 simp only[List.all_eq_true,List.mem_range,id]
 constructor
 ·intro h b hb
  obtain⟨i,hi,e⟩:=List.mem_iff_getElem.mp hb
  have:=h i hi
  rw[List.getD_eq_getElem?_getD,QXq hi]at this
  simpa[e]using this
 ·intro h i hi
  rw[List.getD_eq_getElem?_getD,QXq hi]
  exact h _ (List.getElem_mem hi)
def range_any(bs:List Bool):((List.range bs.length).any fun i=>bs.getD i false)=bs.any id:=by
 rw[Bool.eq_iff_iff]
 simp only[List.any_eq_true,List.mem_range,id]
 constructor
 ·rintro ⟨i,hi,h⟩
  rw[List.getD_eq_getElem?_getD,QXq hi]at h
  exact⟨bs[i],List.getElem_mem hi,by simpa using h⟩
 ·rintro ⟨b,hb,h⟩
  obtain⟨i,hi,e⟩:=List.mem_iff_getElem.mp hb
  exact⟨i,hi,by rw[List.getD_eq_getElem?_getD,QXq hi];simpa[e]using h⟩
def rQu(K:QQq)(f:List Bool->Bool):List V->Hp->VK->Prop:=fun xs H Q=>∃p vs ds bs,xs=[.ref p]/\(km K H p vs\/iV K H p vs)/\ak K H ds vs/\bools ds=some bs/\Q (.bl (f bs)) H
def pB{w:World}{its:List Value}(hb:BoolsAre its bs):TruthOf P w A (fun i v=>its.toArray[i]? =some v) fun i=>bs.getD i false:=by
 intro i v s Q E hv h
 obtain⟨b,e,rfl⟩:=hb.get (by simpa using hv)
 have h:Q (bs.getD i false) s:=h
 rw[List.getD_eq_getElem?_getD,e]at h
 exact wpAny_truthy_bool h
def tV{id:String}{g:Nat->(Nat->Bool)->Bool}(hc:X.calm=true)(hg:∀bs:List Bool,g bs.length (fun i=>bs.getD i false)=f bs)
  (hcall:∀{E:QZq}{s:Shared}{x:Value}{Q:QZq},
   wpAny (model X.prog X.w) X.A.in1 (pyIter x) (fun it Ω=>∃I fp wr n P St tr,it=.ref I/\Walks X.prog X.w X.A.in1 I fp wr n P St/\St 0 Ω.heap/\TruthOf X.prog X.w X.A.in1 P tr/\
    ∀h' tk,(∀b o,b∉wr->Ω.heap.get? b=some o->h'.get? b=some o)->Q (.bool (g n tr)) {Ω with heap:=h',toks:=tk}) E s->wpAny (model X.prog X.w) X.A (call (.builtin id) [x]) Q E s):
  fZ X (.builtin id) (rQu X.K f):=by
 intro δ s σ H xs us Q I r h
 obtain⟨a,vs,ds,bs,rfl,hq,l,hb,q⟩:=h
 obtain⟨u,rfl,ru⟩:=Vals.one r
 cases ru
 have hh:X.A.in1.handled=none:=I.ok.hd hc
 refine hcall ?_
 have fin:∀its o,Vals vs its->∀h' tk,(∀b o',b∉[s.heap.objs.size]->(s.heap.push o).get? b=some o'->h'.get? b=some o')->EP X δ σ Q (.bool (g its.toArray.size fun i=>bs.getD i false)) {s with heap:=h',toks:=tk}:=fun its o rv h' tk k=>by
  have hl:its.toArray.size=bs.length:=by
   have:=(gn hb l rv).length
   simpa using this
  rw[hl,hg]
  refine⟨.bl (f bs),H,I.kept fun b o' e=>k b o' ?_ (QWq _ e),rfl,q⟩
  simp only[QDz]
  exact Qvz (Qqz e)
 rcases hq with hq|hq
 ·obtain⟨its,rv,p,hz⟩:=I.list hq
  have hlt:a≠s.heap.objs.size:=by
   obtain⟨o,n,e,_⟩:=p
   exact Qvz (Qqz e)
  refine wpAny_pyIter_list p.isList ⟨s.heap.objs.size,[s.heap.objs.size,a],[s.heap.objs.size],its.toArray.size,_,_,_,rfl,Walks.list hh _ a hlt its.toArray,⟨⟨_,Qzq _ rfl,rfl,rfl⟩,p.isList.at fun o e=>QWq _ e⟩,pB (gn hb l rv),fin its _ rv⟩
 ·obtain⟨its,rv,p,hz⟩:=I.tuple hq
  have hlt:a≠s.heap.objs.size:=by
   obtain⟨o,e,_⟩:=p
   exact Qvz (Qqz e)
  have p':s.heap.IsTuple a its.toArray:=p
  refine wpAny_pyIter_tuple p' ⟨s.heap.objs.size,[s.heap.objs.size,a],[s.heap.objs.size],its.toArray.size,_,_,_,rfl,Walks.tuple hh _ a hlt its.toArray,⟨⟨_,Qzq _ rfl,rfl,rfl⟩,p'.at fun o e=>QWq _ e⟩,pB (gn hb l rv),fin its _ rv⟩
def Jz(hc:X.calm=true):fZ X (.builtin "all") (rQu X.K (·.all id)):=tV hc range_all call_all_walk
def Jy(hc:X.calm=true):fZ X (.builtin "any") (rQu X.K (·.any id)):=tV hc range_any call_any_walk
def uY{f:List Bool->Bool}(hb:∀xs,Qu bb xs=(bools xs).map fun bs=>.val (.bl (f bs)))(h1:∀x,b1 bb x=(bG x).bind (Qu bb)):ql X (rQu X.K f) (b1 bb):=by
 intro env σ H x z v Q S Dx e q
 rw[h1]at e
 cases es:bG x with
 |none=>rw[es]at e;cases e
 |some xs=>
  rw[es]at e
  simp only[Option.bind,hb]at e
  cases eb:bools xs with
  |none=>rw[eb]at e;cases e
  |some bs=>
   rw[eb]at e
   cases e
   obtain⟨a,vs,rfl,hq,l⟩:=Dx.seq es
   exact⟨a,vs,xs,bs,rfl,hq,l,eb,q _ H (Nx.refl S) rfl⟩
def Rh:ql X (rQu X.K (·.all id)) (b1 .all):=uY (fun _=>rfl) fun _=>rfl
def Rg:ql X (rQu X.K (·.any id)) (b1 .any):=uY (fun _=>rfl) fun _=>rfl
end
end Mini
end
section
namespace HT
open PySem PySem.Spec PyProof.Rows
section
def lM{t sl:Addr}{vl vu:Value}{lo hi:Option Int}(ht:IsTup s.heap t items)(hs:s.heap.IsSliceOf sl vl vu .none)(pl:IsPart vl lo)(pu:IsPart vu hi)
  (hw:fX items.size 0 lo=0/\fX items.size items.size hi=items.size)(h:Q (.ref t) s):wpAny (model prog w) A (getItem (.ref t) (.ref sl)) Q E s:=by
 obtain⟨os,hos,hcs,hds⟩:=id hs
 unfold getItem
 try with_reducible refine Qqq ?_
 first|refine QKq _|skip
 refine QKq (wpAny_sequenceKey ht.typeIs (by decide) ?_)
 refine QKq (wpAny_callSpecial?_slot ht.typeIs PyProof.Rows.slot_tuple_getitem
  (Qzz PyProof.Rows.slot_tuple_getitem ht.typeIs entry_tuple_getitem ?_ (args_tuple_getitem _ _)))
 show wpAny _ _ (Builtin.Tuple.tupleItemsOf _>>=_) _ _ s
 refine QKq (tupleItemsOf_ ht ?_)
 refine QKq (wpAny_typeOf ⟨os,hos,hcs⟩ ?_)
 refine QKq (iJ hs pl pu ?_)
 have hno:((((fX items.size 0 lo):Int)==0&&(1:Int)==1&&(fX items.size items.size hi-fX items.size 0 lo)==items.size)=true):=by
  rw[hw.1,hw.2];simp
 show wpAny _ _ (if (((fX items.size 0 lo):Int)==0&&1==1&&_==items.size)=true then _ else _) _ _ s
 rw[if_pos hno]
 exact QKq (QKq (wpAny_typeOf ht.typeIs (QKz (QKq (wpAny_rule (QKz ⟨_,rfl,QKz h⟩))))))
end
end HT
namespace Mini
open PySem L2
section
def Va(K:QQq):V->Option Int->Option Int->Hp->VK->Prop:=fun x lo hi H Q=>∃a xs,x=.ref a/\iV K H a xs/\
 (HT.fX xs.length 0 lo=0/\HT.fX xs.length xs.length hi=xs.length)/\Q (.ref a) H
def QS:Ug X (Va X.K):=by
 intro δ s σ H x v vl vu lo hi sl Q I rx hs pl pu h
 obtain⟨a,xs,rfl,hx,hw,q⟩:=h
 cases rx
 obtain⟨its,r,ht,hz⟩:=I.tuple hx
 have hlen:its.toArray.size=xs.length:=by rw[Qyq];exact r.length.symm
 exact⟨"tuple",_,PyProof.Rows.slot_tuple_getitem.lookup,ht.typeIs,HT.lM ht hs pl pu (by rw[hlen];exact hw) ⟨.ref a,H,I,rfl,q⟩⟩
def abQ(K:QQq):V->Option Int->Option Int->Hp->VK->Prop:=fun x lo hi H Q=>abO K x lo hi H Q\/Va K x lo hi H Q\/abP K x lo hi H Q
def W8:Ug X (abQ X.K):=W7.or (QS.or QT)
def qG n i d:clip n i=HT.fX n d (some i):=by
 unfold clip HT.fX
 dsimp only
 by_cases h:i<0
 ·rw[if_pos h,if_pos h]
  split
  ·omega
  ·split<;>omega
 ·rw[if_neg h,if_neg h,if_neg h]
  split<;>omega
def Zx{α:Type}(xs:List α)a b:(xs.take b).drop a=(xs.drop a).take (b-a):=by
 rw[List.drop_take]
def xY{H:Hp}{vs:List V}(l:ak K H ds vs)lo hi:ak K H (cut ds lo hi) (xZ vs lo hi):=by
 have hl:=l.length
 unfold cut xZ
 rw[Zx]
 cases lo with
 |none=>
  cases hi with
  |none=>rw[HT.mO,HT.mO,<-hl];exact(l.drop _).take _
  |some j=>rw[HT.mO,<-hl,<-qG];exact(l.drop _).take _
 |some i=>
  cases hi with
  |none=>rw[HT.mO,<-hl,<-qG];exact(l.drop _).take _
  |some j=>rw[<-hl,<-qG,<-qG];exact(l.drop _).take _
def Jv{lo hi:Option Int}(h:HT.fX vs.length 0 lo=0/\HT.fX vs.length vs.length hi=vs.length):xZ vs lo hi=vs:=by
 unfold xZ
 rw[h.1,h.2]
 simp
def Bt{env:Ev}{H:Hp}{z:Rv}{lo hi:Option Int}(S:Sat K env σ H)(D1:bM K H d v)(e:ik d lo hi=some z)(q:∀w H',Nx K env σ H env H'->gP K σ H H' z w->Q w H'):abQ K v lo hi H Q:=by
 cases d with
 |tup xs=>
  cases e
  obtain⟨a,vs,rfl,hq,l⟩:=cI D1
  by_cases hw:HT.fX vs.length 0 lo=0/\HT.fX vs.length vs.length hi=vs.length
  ·refine .inr (.inl ⟨a,vs,rfl,hq,hw,q _ H (Nx.refl S) ?_⟩)
   have:=xY l lo hi
   rw[Jv hw]at this
   exact dD hq this
  ·refine .inl ⟨a,vs,rfl,hq,hw,fun p hp=>?_⟩
   have N:=Nx.laid (o:=.tup (xZ vs lo hi)) S hp
   exact q _ _ N (dD (.inl (.inl aU)) ((xY l lo hi).mono N.pers))
 |lst xs=>
  cases e
  obtain⟨a,vs,rfl,hq,l⟩:=dg D1
  exact .inr (.inr ⟨a,vs,rfl,hq.sq,fun p hp=>q _ _ (Nx.laid S hp) (lq S (xY l lo hi) hp)⟩)
 |_=>cases e
def GO(X:Cx)(W:Wi)(c:Cf)(m:E)(eo:Option Expr):Prop:=(m=.noneE/\eo=Option.none)\/∃e,eo=Option.some e/\m.jJ=false/\GE X W c m e
def tPt(X:Cx)(W:Wi)(c:Cf)(m:E):TO:=fun σ H Q=>∃env,tD X.K W env (ev c m env) σ H fun v H1=>∀d,bM X.K H1 d v->∃o,cV m.jJ d=some o/\Q o H1
def GO.po(h:GO X W c m eo):PO X eo (tPt X W c m):=by
 rcases h with ⟨rfl,rfl⟩|⟨e,rfl,hn,h⟩
 ·intro δ s σ H Q I q
  obtain⟨env,q⟩:=q
  obtain⟨o,e,z⟩:=q.2 .non H (Nx.refl q.1) rfl .non rfl
  cases e
  exact RC δ s σ H Q I z
 ·intro δ s σ H Q I q
  obtain⟨env,q⟩:=q
  refine RB h.d δ s σ H Q I ⟨env,q.1,?_⟩
  have q2:=q.2
  have go:∀d v H',bM X.K H' d v->(∀d,bM X.K H' d v->∃o,cV m.jJ d=some o/\Q o H')->∃i,v=.int i/\Q (some i) H':=fun d v H' Dv z=>by
   obtain⟨o,e,z⟩:=z d Dv
   rw[hn]at e
   cases d with
   |int i=>cases e;exact⟨i,Dv,z⟩
   |_=>cases e
  cases r:ev c m env with
  |bad=>rw[r]at q2;exact q2
  |exc k γ=>rw[r]at q2;exact q2
  |ok x γ=>
   rw[r]at q2
   cases x with
   |val d=>exact fun v H' N Dv=>go d v H' Dv (q2 v H' N Dv)
   |new o=>exact fun v H' N Dv=>go o.d v H' Dv (q2 v H' N Dv)
   |ref i=>exact q2
   |tmp o=>exact q2
def zq{H:Hp}{d d':D}{o:Option Int}(h:bM K H d v)(e:cV jJ d=some o)(h':bM K H d' v):cV jJ d'=some o:=by
 cases jJ with
 |true=>exact e
 |false=>
  cases d with
  |int i=>
   subst h
   cases d' with
   |int j=>cases (h');exact e
   |non=>cases (h')
   |bl b=>cases (h')
   |str x=>cases (h')
   |tup ds=>obtain⟨a,vs,z,_⟩:=cI h';cases z
   |lst ds=>obtain⟨a,vs,z,_⟩:=dg h';cases z
   |cH ks ds=>unfold bM at h';obtain⟨a,o,kvs,z,_⟩:=h';cases z
   |jH ks ds=>unfold bM at h';obtain⟨a,o,xs,z,_⟩:=h';cases z
  |_=>cases e
def Y4(ha:GE X W c m1 a)(hl:GO X W c m2 lo)(hh:GO X W c m3 hi):GE X W c (.slc m1 m2 m3) (.Subscript a (.Slice lo hi none p2) pos):=by
 intro env
 refine PE.imp (Lq W8 ha.d hl.po hh.po) fun σ H Q q=>?_
 refine⟨env,aW q fun d γ v H1 N1 D1 q1=>⟨γ,aW q1 fun dl ε vl H2 N2 D2 q2 dl' D2'=>?_⟩⟩
 cases el:cV m2.jJ dl with
 |none=>rw[el]at q2;exact q2.2.elim
 |some l=>
  rw[el]at q2
  refine⟨l,zq D2 el D2',ε,aW q2 fun dh env3 vh H3 N3 D3 q3 dh' D3'=>?_⟩
  obtain⟨z,ez,S,q4⟩:=cF q3
  cases eh:cV m3.jJ dh with
  |none=>rw[eh]at ez;cases ez
  |some h=>
   rw[eh]at ez
   exact⟨h,zq D3 eh D3',Bt S (D1.mono (N2.trans N3).pers) ez q4⟩
def adw(X:Cx)(x:Str)(d:D):Prop:=∃v u,X.mg x=some u/\RelV v u/\∀H,bM X.K H d v
def Tf{x:Str}(hk:c.gl k=some d)(h:adw X x d)(hg:Gl X x)(hd:(x==("__debug__":Str))=false):GE X W c (.glob k) (.Name x pos):=by
 obtain⟨v,u,hm,r,hD⟩:=h
 intro env
 refine PE.imp (RK hg hm r hd) fun σ H Q q=>?_
 simp only[v_2,hk]at q
 exact dY q (hD H)
end
def iK{a:Addr}(h:H a=some u)(hu:Qx u):bV H (upd H a u'):=by
 refine⟨fun b xs q=>?_,fun b o' w q=>?_⟩
 ·rw[aC (fun z=>by subst z;rw[h]at q;cases q;exact hu.tup xs rfl)];exact q
 ·rw[aC (fun z=>by subst z;rw[h]at q;cases q;exact hu.frz o' w rfl)];exact q
def qM{f:Ob->Option Ob}(h:eX k f env=some env'):∃o o',f o=some o'/\((env[k]? =some (.own o)/\env'=env.set k (.own o'))\/(env[k]? =some (.bor o)/\env'=env.set k (.bor o'))):=by
 unfold eX at h
 cases e:env[k]? with
 |none=>rw[e]at h;cases h
 |some s=>
  rw[e]at h
  cases s with
  |un=>cases h
  |val d=>cases h
  |own o=>
   cases e2:f o with
   |none=>simp only[e2]at h;cases h
   |some o'=>simp only[e2]at h;cases h;exact⟨o,o',e2,.inl ⟨rfl,rfl⟩⟩
  |bor o=>
   cases e2:f o with
   |none=>simp only[e2]at h;cases h
   |some o'=>simp only[e2]at h;cases h;exact⟨o,o',e2,.inr ⟨rfl,rfl⟩⟩
def Nx.turn{env:Ev}{H:Hp}{sl sl':Sl}{a:Addr}(S:Sat K env σ H)(hs:(sl=.own o/\sl'=.own o')\/(sl=.bor o/\sl'=.bor o'))(e:env[k]? =some sl)(es:σ[k]? =some (some (.ref a)))
  (ha:H a=some u)(hu:Qx u)(hd:JQ K H o' u'):Nx K env σ H (env.set k sl') (upd H a u'):=by
 have p:=iK (u':=u') ha hu
 have ow:isOwn sl=some o/\isOwn sl'=some o':=by rcases hs with ⟨rfl,rfl⟩|⟨rfl,rfl⟩<;>exact⟨rfl,rfl⟩
 have oa:aQ env σ k a:=⟨⟨_,o,e,ow.1⟩,es⟩
 have hi:=(QCz.mp e).1
 have sub:∀j b,aQ (env.set k sl') σ j b->aQ env σ j b:=fun j b z=>by
  obtain⟨⟨s,ys,e1,e2⟩,e3⟩:=z
  by_cases hj:k=j
  ·subst hj;exact⟨⟨sl,o,e,ow.1⟩,e3⟩
  ·rw[Qxz hj]at e1;exact⟨⟨s,ys,e1,e2⟩,e3⟩
 refine⟨⟨by simpa using S.len,fun j s ej=>?_,fun j l b z w=>S.ne j l b (sub j b z) (sub l b w)⟩,sub,p,fun b w q n=>?_,fun b q=>?_,fun j ys ej=>?_⟩
 ·by_cases hj:k=j
  ·subst hj
   rw[Qwq hi]at ej
   cases ej
   have at_:jG K _ o' a:=⟨u',aU,hd.mono p⟩
   rcases hs with ⟨_,rfl⟩|⟨_,rfl⟩
   ·exact⟨a,by rw[es];rfl,at_⟩
   ·exact⟨a,by rw[es];rfl,at_⟩
  ·rw[Qxz hj]at ej
   refine(S.sl j s ej).keep p fun b w ho ev hb=>?_
   have nb:b≠a:=fun z=>by
    subst z
    exact hj (S.ne k j b oa (w6 ej ho ev))
   rw[aC nb];exact hb
 ·rw[aC (fun z=>by subst z;exact n k oa)];exact q
 ·by_cases hb:b=a
  ·subst hb;rw[aU]at q;cases q
  ·rw[aC hb]at q;exact q
 ·by_cases hj:k=j
  ·subst hj
   rw[e]at ej
   cases ej
   rcases hs with ⟨z,_⟩|⟨_,rfl⟩
   ·cases z
   ·exact⟨o',by rw[Qwq hi]⟩
  ·exact⟨ys,by rw[Qxz hj];exact ej⟩
def Eo{env env':Ev}{H:Hp}{f:Ob->Option Ob}(S:Sat K env σ H)(h:eX k f env=some env'):
  ∃o o' a u,f o=some o'/\σ[k]? =some (some (.ref a))/\H a=some u/\JQ K H o u/\bA k env=some o.d/\∀u',JQ K H o' u'->Nx K env σ H env' (upd H a u'):=by
 obtain⟨o,o',ef,hh⟩:=qM h
 rcases hh with ⟨e,rfl⟩|⟨e,rfl⟩
 ·obtain⟨a,e1,u,e2,e3⟩:=S.sl k _ e
  exact⟨o,o',a,u,ef,bZ e1,e2,e3,by unfold bA;rw[e],fun u' hd=>Nx.turn S (.inl ⟨rfl,rfl⟩) e (bZ e1) e2 e3.vp hd⟩
 ·obtain⟨a,e1,u,e2,e3⟩:=S.sl k _ e
  exact⟨o,o',a,u,ef,bZ e1,e2,e3,by unfold bA;rw[e],fun u' hd=>Nx.turn S (.inr ⟨rfl,rfl⟩) e (bZ e1) e2 e3.vp hd⟩
def Ma{o o':Ob}(h:yt f o=some o'):∃xs ys,o=.lst xs/\f xs=some ys/\o'=.lst ys:=by
 cases o with
 |lst xs=>
  simp only[yt]at h
  cases e:f xs with
  |none=>rw[e]at h;cases h
  |some ys=>rw[e]at h;cases h;exact⟨xs,ys,rfl,e,rfl⟩
 |dct ks vs=>cases h
 |sdt ks vs=>cases h
def yD{env env':Ev}{H:Hp}{f:List D->Option (List D)}(S:Sat K env σ H)(h:eX k (yt f) env=some env'):
  ∃xs ys a vs,f xs=some ys/\σ[k]? =some (some (.ref a))/\H a=some (.lst vs)/\ak K H xs vs/\bA k env=some (.lst xs)/\∀ws,ak K H ys ws->Nx K env σ H env' (upd H a (.lst ws)):=by
 obtain⟨o,o',a,u,ef,es,ha,hd,lk,N⟩:=Eo S h
 obtain⟨xs,ys,rfl,e,rfl⟩:=Ma ef
 obtain⟨vs,rfl,l⟩:=hd
 exact⟨xs,ys,a,vs,e,es,ha,l,lk,fun ws hw=>N _ ⟨ws,rfl,hw⟩⟩
theorem cU.lst{K:QQq}{H:Hp}{xs:List D}{v:V}(h:cU K H (.lst xs) v):∃a vs,v=.ref a/\km K H a vs/\ak K H xs vs:=by
 rcases h with h|⟨o,a,q,rfl,u,ha,hq⟩
 ·obtain⟨a,vs,rfl,hq,l⟩:=dg h
  exact⟨a,vs,rfl,hq.sq,l⟩
 ·cases o<;>cases q
  obtain⟨vs,rfl,l⟩:=hq
  exact⟨a,vs,rfl,.inl (.inl ha),l⟩
structure Eg(X:Cx)(o:Expr)(name:Str)(apos:Pos)(e:Expr)(cpos:Pos):Prop where
 base:attributeBase o name X.env (eval o X.env)=eval o X.env
 line:(apos.endLine==cpos.line)=true
 star:starEach [e] X.env=[(false,eval e X.env)]
section
def Eg.few(h:Eg X o name apos e cpos):((backTo cpos (starEach [e] X.env)).all (fun x=> !x.1)&&(backToKw cpos (keywordEach [] X.env)).all (fun x=>x.1.isSome)
   &&decide ([e].length+([]:List Keyword).length+(if ([]:List Keyword).isEmpty then 0 else 1)<30))=true:=by
 rw[h.star];rfl
def Vj{id:String}{to:TE}(M:Eg X o name apos e cpos)(slot:Slot "list" name id)(hty:typeOf (.builtin id)=pure (.type "method_descriptor"))(hm:MtR X id r)(ho:PE X o to)(he:PE X e te):
  PE X (.Call (.Attribute o name apos) [e] [] cpos) (tBM X.K "list" r to (Km te abk)):=
 ab4 PySem.F.plainAttrs_list slot hty hm ho (cG he eZ M.star) M.base M.few M.line M.star rfl
def countV{K:QQq}{H:Hp}{p:D}{x:V}(Dp:bM K H p x)(fp:flat p=true):∀{ds:List D}{vs:List V}{us:List Value},ak K H ds vs->Vals vs us->ds.all flat=true->vs.all jx=true/\us.countP (V2 x)=fH p ds:=by
 intro ds
 induction ds with
 |nil=>intro vs us l r _;rw[ak.bF.mp l]at r⊢;cases r;exact⟨rfl,rfl⟩
 |cons d ds ih=>
  intro vs us l r f
  obtain⟨v,vs',rfl,hd,l'⟩:=ak.aN.mp l
  rw[List.all_cons,QUq]at f
  cases r with
  |cons r1 r2=>
   obtain⟨i1,i2⟩:=ih l' r2 f.2
   obtain⟨j1,j2⟩:=xJ Dp fp (ak.cR hd ak.fj) (by simp[f.1])
   simp only[List.all_cons,List.all_nil,Bool.and_true]at j1
   have j3:Om v x=cD d p:=by simpa[inV,aJ]using j2
   refine⟨by rw[List.all_cons,j1,i1];rfl,?_⟩
   rw[List.countP_cons,i2,Do r1 j1,j3,fH]
   split<;>omega
def Rp(K:QQq):V->List V->Hp->VK->Prop:=fun x ys H Q=>∃a vs ds d y,x=.ref a/\ys=[y]/\(km K H a vs\/iV K H a vs)/\ak K H ds vs/\bM K H d y/\flat d=true/\ds.all flat=true/\Q (.int (fH d ds)) H
def Oe{H:Hp}{v:V}(h:bM K H d v)(f:flat d=true):jx v=true:=by
 cases d with
 |non=>cases h;rfl
 |bl b=>cases h;rfl
 |int i=>cases h;rfl
 |str x=>cases h;rfl
 |_=>cases f
def Io:MtR X "list.count" (fun x ys H Q=>(∃a vs,x=.ref a/\km X.K H a vs)/\Rp X.K x ys H Q):=by
 intro δ s σ H x ys v us Q I rx ry h
 obtain⟨⟨a,vs,rfl,hq⟩,a',vs',ds,d,y,e1,rfl,hq',l,hd,f1,f2,q⟩:=h
 cases e1
 cases rx
 obtain⟨u,rfl,ru⟩:=Vals.one ry
 have hv:vs'=vs:=by
  rcases hq' with z|z
  ·exact I.zH z hq
  ·obtain⟨_,_,⟨o,e,c,_⟩,_⟩:=I.tuple z
   obtain⟨_,_,⟨o',_,e',c',_⟩,_⟩:=I.list hq
   rw[e]at e';cases e';rw[c]at c';injection c' with z;exact absurd z (by decide)
 subst hv
 obtain⟨its,r,pl,hz⟩:=I.list hq
 obtain⟨⟨cls,dd,data,sl⟩,n,ho,hc,hdd,hdt⟩:=id pl
 subst hc hdt
 obtain⟨g1,g2⟩:=countV hd f1 l r f2
 refine call_meets PySem.F.slot_list_count ⟨_,ho,rfl⟩ PySem.F.entry_list_count (PySem.F.args_list_count_2 _ _) (SeqAt.list_countAt a its.toArray n dd sl u _) ⟨ho,fun w hw=>gC ru (Oe hd f1) r g1 w (by simpa using hw),?_⟩
 refine⟨.int _,H,I.tok _,⟨s.toks,?_⟩,q⟩
 rw[show its.toArray.toList=its from rfl,g2]
def Im:MtR X "tuple.count" (fun x ys H Q=>(∃a vs,x=.ref a/\iV X.K H a vs)/\Rp X.K x ys H Q):=by
 intro δ s σ H x ys v us Q I rx ry h
 obtain⟨⟨a,vs,rfl,hq⟩,a',vs',ds,d,y,e1,rfl,hq',l,hd,f1,f2,q⟩:=h
 cases e1
 cases rx
 obtain⟨u,rfl,ru⟩:=Vals.one ry
 have hv:vs'=vs:=by
  rcases hq' with z|z
  ·obtain⟨_,_,⟨o,e,c,_⟩,_⟩:=I.tuple hq
   obtain⟨_,_,⟨o',_,e',c',_⟩,_⟩:=I.list z
   rw[e]at e';cases e';rw[c]at c';injection c' with z;exact absurd z (by decide)
  ·exact I.uO z hq
 subst hv
 obtain⟨its,r,pl,hz⟩:=I.tuple hq
 obtain⟨⟨cls,dd,data,sl⟩,ho,hc,n,hdt⟩:=id pl
 subst hc hdt
 obtain⟨g1,g2⟩:=countV hd f1 l r f2
 refine call_meets PySem.F.slot_tuple_count ⟨_,ho,rfl⟩ PySem.F.entry_tuple_count (PySem.F.args_tuple_count_2 _ _) (SeqAt.tuple_countAt a its.toArray n dd sl u _) ⟨ho,fun w hw=>gC ru (Oe hd f1) r g1 w (by simpa using hw),?_⟩
 refine⟨.int _,H,I.tok _,⟨s.toks,?_⟩,q⟩
 rw[show its.toArray.toList=its from rfl,g2]
def aeT(K:QQq)(to te:TE):TE:=fun σ H Q=>to σ H fun x H1=>∃a vs,x=.ref a/\((km K H1 a vs/\te σ H1 fun y H2=>(∃a vs,x=.ref a/\km K H2 a vs)/\Rp K x [y] H2 Q)\/(iV K H1 a vs/\te σ H1 fun y H2=>(∃a vs,x=.ref a/\iV K H2 a vs)/\Rp K x [y] H2 Q))
def XH(M:Eg X o "count" apos e cpos)(ho:PE X o to)(he:PE X e te):PE X (.Call (.Attribute o "count" apos) [e] [] cpos) (aeT X.K to te):=by
 intro δ s σ H Q I h
 refine wpAny_Call_method_late M.base M.few M.line rfl (b8 (ho δ s σ H _ I h) fun v s1⟨x,H1,I1,r1,a,vs,ex,q1⟩=>?_)
 subst ex
 cases r1
 have arg:∀{id:String}{r:V->List V->Hp->VK->Prop},MtR X id r->(te σ H1 fun y H2=>r _ [y] H2 Q)->wpAny _ X.A (callWith cpos _ [.ref a] (backTo cpos (starEach [e] X.env)) _) _ X.xe s1:=fun{id r}hm z=>by
  have hA:=cG he eZ M.star cpos δ s1 σ H1 (fun vs H2=>r (.ref a) vs H2 Q) I1 z
  rw[M.star]at hA⊢
  exact Calls.callWith_builtin rfl (Calls.evalArgs_plain (b8 hA fun us s2⟨vs,H2,I2,r2,q2⟩=>hm δ s2 σ H2 (.ref a) vs _ us Q I2 rfl r2 q2))
 rcases q1 with ⟨hq,z⟩|⟨hq,z⟩
 ·obtain⟨its,r,pl,hz⟩:=I1.list hq
  refine⟨"list","list.count",PySem.F.plainAttrs_list,PySem.F.slot_list_count,PySem.F.type_list_count,pl.isList.typeIs,fun b eb=>?_,arg Io z⟩
  cases eb
  obtain⟨o,n,e,c,hd,_⟩:=pl
  exact⟨o,e,hd⟩
 ·obtain⟨its,r,⟨o,eo,ec,hd,n,dt⟩,hz⟩:=I1.Bm hq
  refine⟨"tuple","tuple.count",PySem.F.plainAttrs_tuple,PySem.F.slot_tuple_count,PySem.F.type_tuple_count,⟨o,eo,ec⟩,fun b eb=>?_,arg Im z⟩
  cases eb
  exact⟨o,eo,hd⟩
def N8(M:Eg X o "count" apos e cpos)(ho:GE X W c m1 o)(he:GE X W c m2 e):GE X W c (.count m1 m2) (.Call (.Attribute o "count" apos) [e] [] cpos):=by
 intro env
 refine PE.imp (XH M ho.d he.d) fun σ H Q q=>?_
 refine⟨env,aW q fun d γ v H1 N1 D1 q1=>?_⟩
 cases d with
 |tup xs=>
  obtain⟨a,vs,rfl,hq,l⟩:=cI D1
  refine⟨a,vs,rfl,.inr ⟨hq,γ,aW q1 fun d2 ε y H2 N2 D2 q2=>?_⟩⟩
  obtain⟨z,ez,S,q3⟩:=cF q2
  simp only[Ag]at ez
  split at ez
  ·rename_i hf
   cases ez
   rw[QUq]at hf
   exact⟨⟨a,vs,rfl,N2.pers.Hu hq⟩,a,vs,xs,d2,y,rfl,rfl,.inr (N2.pers.Hu hq),l.mono N2.pers,D2,hf.1,hf.2,q3 _ H2 (Nx.refl S) rfl⟩
  ·cases ez
 |lst xs=>
  obtain⟨a,vs,rfl,hq,l⟩:=dg D1
  refine⟨a,vs,rfl,.inl ⟨hq.sq,γ,aW q1 fun d2 ε y H2 N2 D2 q2=>?_⟩⟩
  obtain⟨z,ez,S,q3⟩:=cF q2
  simp only[Ag]at ez
  split at ez
  ·rename_i hf
   cases ez
   rw[QUq]at hf
   exact⟨⟨a,vs,rfl,(N2.pers.Gu hq).sq⟩,a,vs,xs,d2,y,rfl,rfl,.inl (N2.pers.Gu hq).sq,l.mono N2.pers,D2,hf.1,hf.2,q3 _ H2 (Nx.refl S) rfl⟩
  ·cases ez
 |_=>exact q1.2.elim
def M8{i:Int}(h:ix? n i=some j)(hn:n<=sizeLine): -(2 ^63)<=i/\i<2 ^63/\seqIndex? i n=some j/\j<n:=by
 have hl:=sizeLine_eq
 unfold ix? at h
 by_cases h0:i<0
 ·simp only[h0,if_true]at h
  by_cases hj:0<=i+n/\i+n<n
  ·rw[if_pos hj]at h
   have e:=QEq h
   exact⟨by omega,by omega,by rw[seqIndex_neg (by omega) (by omega),e],by omega⟩
  ·rw[if_neg hj]at h;cases h
 ·simp only[h0,if_false]at h
  by_cases hj:0<=i/\i<n
  ·rw[if_pos hj]at h
   have e:=QEq h
   exact⟨by omega,by omega,by rw[seqIndex_of (by omega) (by omega),e],by omega⟩
  ·rw[if_neg hj]at h;cases h
def sO(h:dU d=true):∃xs,d=some (.lst xs):=by
 cases d with
 |none=>cases h
 |some d=>cases d with
  |lst xs=>exact⟨xs,rfl⟩
  |_=>cases h
def Ys k k':cD (dN k') (dN k)=decide (k'=k):=by
 cases k'<;>cases k<;>simp[dN,cD,Bool.beq_eq_decide_eq]
def N7{x:Str}(M:Eg X (.Name x p) "pop" apos e cpos)(nm:gj X k x)(he:GE X W c m e):GE X W c (.popAt k m) (.Call (.Attribute (.Name x p) "pop" apos) [e] [] cpos):=by
 intro env δ s σ H Q I q
 refine PE.imp (Vj M PySem.F.slot_list_pop PySem.F.type_list_pop Mu nm.pe he.d) (t':=fun ζ H' Q'=>ζ=σ/\H'=H/\Q'=Q) (fun ζ H' Q'⟨e1,e2,e3⟩=>?_) δ s σ H Q I ⟨rfl,rfl,rfl⟩
 subst e1 e2 e3
 simp only[aeD]at q
 cases hl:dU _ with
 |false=>rw[hl]at q;exact q.2.elim
 |true=>
  rw[hl]at q
  obtain⟨xs0,e0⟩:=sO hl
  obtain⟨u,eu,Du⟩:=eE q.1 e0
  obtain⟨a0,vs0,rfl,hq0,l0⟩:=Du.lst
  refine⟨.ref a0,eu,.inl ⟨rfl,vs0,hq0⟩,env,aW q fun d γ y H1 N1 D1 q1=>?_⟩
  unfold rK at q1
  cases d with
  |int i=>
   cases e1:bA k γ with
   |none=>rw[e1]at q1;exact q1.2.elim
   |some d1=>
    rw[e1]at q1
    cases d1 with
    |lst xs=>
     simp only at q1
     cases hz:fits xs.length with
     |false=>rw[hz]at q1;exact q1.2.elim
     |true=>
     rw[hz]at q1
     cases e2:ix? xs.length i with
     |none=>rw[e2]at q1;exact q1.2.elim
     |some j=>
      rw[e2]at q1
      simp only at q1
      cases e3:xs[j]? with
      |none=>rw[e3]at q1;exact q1.2.elim
      |some dd=>
       cases e4:eX k _ γ with
       |none=>rw[e3,e4]at q1;exact q1.2.elim
       |some ε=>
        rw[e3,e4]at q1
        obtain⟨zs,ys,a,vs,ef,es,ha,l,lk,N⟩:=yD q1.1 e4
        rw[e1]at lk
        cases lk
        cases ef
        rw[eu]at es
        cases es
        subst D1
        obtain⟨w,ew,dw⟩:=l.get e3
        obtain⟨b1,b2,b3,b4⟩:=M8 e2 (eO hz)
        exact⟨a0,vs,i,j,w,rfl,rfl,ha,b1,b2,by rw[<-l.length];exact b3,ew,q1.2 w _ (N _ (l.eraseIdx j)) (dw.mono (N _ (l.eraseIdx j)).pers)⟩
    |_=>exact q1.2.elim
  |_=>exact q1.2.elim
def Jl{x:Str}(M:Eg X (.Name x p) "append" apos e cpos)(nm:gj X k x)(he:GE X W c m e):GS X W c (.append k m) (.Expr (.Call (.Attribute (.Name x p) "append" apos) [e] [] cpos) pos):=by
 intro env
 refine PS.imp (wZ (Vj M PySem.F.slot_list_append PySem.F.type_list_append vB nm.pe he.d) rfl) fun D σ H q=>?_
 simp only[x_9]at q
 cases hl:dU _ with
 |false=>rw[hl]at q;exact q.2.elim
 |true=>
  rw[hl]at q
  obtain⟨xs0,e0⟩:=sO hl
  obtain⟨u,eu,Du⟩:=eE q.1 e0
  obtain⟨a0,vs0,rfl,hq0,l0⟩:=Du.lst
  refine⟨.ref a0,eu,.inl ⟨rfl,vs0,hq0⟩,env,qP q fun d γ y H1 N1 D1 q1=>?_⟩
  cases e4:eX k _ γ with
  |none=>rw[e4]at q1;exact q1.2.elim
  |some ε=>
   rw[e4]at q1
   obtain⟨zs,ys,a,vs,ef,es,ha,l,lk,N⟩:=yD q1.1 e4
   rw[eu]at es
   cases es
   split at ef
   ·rename_i hf
    cases ef
    have:=eO hf
    refine⟨a0,vs,y,rfl,rfl,ha,by rw[<-l.length];omega,q1.2 _ _ (N _ (l.append (ak.cR D1 ak.fj))).z⟩
   ·cases ef
def Vd:V->V->V->Hp->(Hp->Prop)->Prop:=fun o i v H Q=>∃a H',o=.ref a/\Qo H a i v H'/\Q H'
def QW(hu:X.A.units+1<cLine):Qk X Vd:=by
 intro δ s σ H o i v ov iv u Q I ro ri rv h
 obtain⟨a,H',rfl,g,q⟩:=h
 cases ro
 exact Jt hu I g ri rv fun s4 I4=>⟨H',I4,q⟩
def Vb(K:QQq):V->V->V->Hp->(Hp->Prop)->Prop:=fun o i v H Q=>∃d a k xs,o=.ref d/\i=.ref a/\H d=some (.dS xs)/\(∀x∈xs,cA K H x.1 x.2.1)/\cA K H k a/\xs.length<sizeLine/\Q (upd H d (.dS (uF k a v xs)))
def W9(hu:X.A.units+2<cLine):Qk X (Vb X.K):=by
 intro δ s σ H o i v ov iv u Q I ro ri rv h
 obtain⟨d,a,k,xs,rfl,rfl,hd,hk,ka,hl,q⟩:=h
 cases ro
 cases ri
 exact HB hu I hd hk ka hl rv fun s4 I4=>⟨_,I4,q⟩
def abR(K:QQq):V->V->V->Hp->(Hp->Prop)->Prop:=fun o i v H Q=>Vc o i v H Q\/Vd o i v H Q\/Vb K o i v H Q
def QX(hu:X.A.units+2<cLine):Qk X (abR X.K):=by
 intro δ s σ H o i v ov iv u Q I ro ri rv h
 rcases h with h|h|h
 ·exact set_list δ s σ H o i v ov iv u Q I ro ri rv h
 ·exact QW (by omega) δ s σ H o i v ov iv u Q I ro ri rv h
 ·exact W9 hu δ s σ H o i v ov iv u Q I ro ri rv h
def Yw{i:Int}(h:ix? n i=some j):SN n i=some j:=by
 unfold ix? at h
 unfold SN
 by_cases h0:i<0
 ·simp only[h0,if_true]at h
  rw[if_neg (by omega)]
  by_cases hj:0<=i+n/\i+n<n
  ·rw[if_pos hj]at h;rw[if_pos (by omega)];exact h
  ·rw[if_neg hj]at h;cases h
 ·simp only[h0,if_false]at h
  rw[if_pos (by omega)]
  by_cases hj:0<=i/\i<n
  ·rw[if_pos hj]at h;rw[if_pos hj.2];exact h
  ·rw[if_neg hj]at h;cases h
theorem yV{H:Hp}{d:D}(hv:bM K H d v):∀{kvs:List (Key×V)}{ds:List D},ak K H ds (kvs.map (·.2))->
  ak K H (jw (dN k) d (kvs.map fun p=>dN p.1) ds) ((kvs.map fun kv=>if kv.1=k then(kv.1,v)else kv).map (·.2))
 |[],ds,l=>by
  have:ds=[]:=by have:=l.length;cases ds<;>simp_all
  exact ak.fj
 |(k',u)::r,ds,l=>by
  cases ds with
  |nil=>have:=l.length;simp at this
  |cons x ds=>
   obtain⟨w,ws,e,h1,h2⟩:=ak.aN.mp l
   cases e
   have ih:=yV (k:=k) hv h2
   simp only[Qyz,jw,Ys]
   by_cases q:k'=k
   ·simp only[q,decide_true,if_true]
    exact ak.cR hv ih
   ·simp only[q,decide_false,Qxq,if_false]
    exact ak.cR h1 ih
theorem u5{v:V}:∀(kvs:List (Key×V)),(kvs.map fun kv=>if kv.1=k then(kv.1,v)else kv).map (fun p=>dN p.1)=kvs.map fun p=>dN p.1
 |[]=>rfl
 |(k',u)::r=>by
  simp only[Qyz,u5 r]
  split<;>rfl
def Fe{H:Hp}{d:D}(hv:bM K H d v){ds:List D}(l:ak K H ds (kvs.map (·.2))):
  (putD (dN k) d (kvs.map fun p=>dN p.1) ds).1=(putK kvs k v).map (fun p=>dN p.1)/\ak K H (putD (dN k) d (kvs.map fun p=>dN p.1) ds).2 ((putK kvs k v).map (·.2)):=by
 unfold putD putK
 rw[<-kI,<-qI]
 split
 ·rename_i h
  exact⟨(u5 kvs).symm,yV hv l⟩
 ·refine⟨by simp,?_⟩
  rw[List.map_append]
  exact l.append (ak.cR hv ak.fj)
theorem U8{H:Hp}{d:D}(hv:bM K H d v):∀{xs:List SV}{ds:List D},ak K H ds (xs.map (·.2.2))->
  ak K H (jw (fQ k) d (xs.map fun x=>fQ x.1) ds) ((xs.map fun x=>if x.1=k then(x.1,x.2.1,v)else x).map (·.2.2))
 |[],ds,l=>by
  have:ds=[]:=by have:=l.length;cases ds<;>simp_all
  exact ak.fj
 |x::r,ds,l=>by
  cases ds with
  |nil=>have:=l.length;simp at this
  |cons z ds=>
   obtain⟨w,ws,e,h1,h2⟩:=ak.aN.mp l
   cases e
   have ih:=U8 (k:=k) hv h2
   simp only[Qyz,jw,Dn]
   by_cases q:x.1=k
   ·simp only[q,decide_true,if_true]
    exact ak.cR hv ih
   ·simp only[q,decide_false,Qxq,if_false]
    exact ak.cR h1 ih
theorem rE{v:V}:∀xs:List SV,(xs.map fun x=>if x.1=k then(x.1,x.2.1,v)else x).map (fun x=>fQ x.1)=xs.map fun x=>fQ x.1
 |[]=>rfl
 |x::r=>by
  simp only[Qyz,rE r]
  split<;>rfl
def Xq{H:Hp}{a:Addr}{v:V}(hv:bM K H d v)(ka:cA K H k a){ds:List D}(hk:∀x∈xs,cA K H x.1 x.2.1)(l:ak K H ds (xs.map (·.2.2))):
  (putD (fQ k) d (xs.map fun x=>fQ x.1) ds).1=(uF k a v xs).map (fun x=>fQ x.1)/\(∀x∈uF k a v xs,cA K H x.1 x.2.1)/\ak K H (putD (fQ k) d (xs.map fun x=>fQ x.1) ds).2 ((uF k a v xs).map (·.2.2)):=by
 unfold putD uF
 rw[pG]
 split
 ·refine⟨(rE xs).symm,fun x hx=>?_,U8 hv l⟩
  obtain⟨y,hy,rfl⟩:=QDq.mp hx
  split
  ·exact hk y hy
  ·exact hk y hy
 ·refine⟨by simp,fun x hx=>?_,?_⟩
  ·rcases QXz.mp hx with z|z
   ·exact hk x z
   ·rw[QDz.mp z];exact ka
  ·rw[List.map_append]
   exact l.append (ak.cR hv ak.fj)
theorem NK{x:Str}{ixe:Expr}(nm:gj X k x)(he:GE X W c m e)(hi:GE X W c ix ixe)
  (ha:∀v,assign (.Subscript (.Name x p) ixe tp) X.env v=(do
   let ov<-holding [v] (eval (.Name x p) X.env)
   let iv<-holding [v,ov] (eval ixe X.env)
   standAt tp
   holding [v,ov,iv] (setItem ov iv v)
   release [v,ov,iv] []))
  (hs:swapsWithSole [.Subscript (.Name x p) ixe tp] e pos.line X.env=pure false)(hw:swappedStores [.Subscript (.Name x p) ixe tp] e X.env=pure none)(hu:X.A.units+2<cLine)
  (h1:(assignEach [.Subscript (.Name x p) ixe tp] X.env).map (·.2)=[assign (.Subscript (.Name x p) ixe tp) X.env]):
  GS X W c (.setIx k ix m) (.Assign [.Subscript (.Name x p) ixe tp] e pos):=by
 intro env
 refine PS.imp (Lg he.d (Xy nm.pe hi.d (QX hu) ha) hs hw h1) fun D σ H q=>?_
 refine⟨env,qP q fun d γ v H1 N1 D1 q1=>?_⟩
 cases e0:bA k γ with
 |none=>rw[e0]at q1;exact q1.2.elim
 |some d0=>
  rw[e0]at q1
  obtain⟨u,eu,Du⟩:=eE q1.1 e0
  refine⟨u,eu,γ,qP q1 fun d2 ε y H2 N2 D2 q2=>?_⟩
  cases e4:eX k _ ε with
  |none=>rw[e4]at q2;exact q2.2.elim
  |some env3=>
   rw[e4]at q2
   obtain⟨o,o',a,w,ef,es,hA,hd,lk,N⟩:=Eo q2.1 e4
   rw[eu]at es
   cases es
   cases o with
   |lst xs=>
    obtain⟨vs,rfl,l⟩:=hd
    cases d2 with
    |int i=>
     simp only[wY]at ef
     cases e5:ix? xs.length i with
     |none=>rw[e5]at ef;cases ef
     |some j=>
      rw[e5]at ef
      cases ef
      subst D2
      exact .inl ⟨a,vs,i,j,rfl,rfl,hA,by rw[<-l.length];exact Yw e5,q2.2 _ _ (N _ ⟨_,rfl,l.set (D1.mono N2.pers) j⟩).z⟩
    |_=>cases ef
   |dct ks ds=>
    obtain⟨kvs,rfl,rfl,l⟩:=hd
    simp only[wY]at ef
    split at ef
    ·rename_i hk
     rw[QUq]at hk
     cases ef
     obtain⟨kk,rfl⟩:=gm hk.1
     have ek:=lH D2
     subst ek
     obtain⟨g1,g2⟩:=Fe (D1.mono N2.pers) l
     have hf:=eO hk.2
     rw[QAq]at hf
     exact .inr (.inl ⟨a,_,rfl,Qo.k hA (by omega),q2.2 _ _ (N _ ⟨_,rfl,g1,g2⟩).z⟩)
    ·cases ef
   |sdt ks ds=>
    obtain⟨xs,rfl,rfl,hks,l⟩:=hd
    simp only[wY]at ef
    split at ef
    ·rename_i hk
     rw[QUq]at hk
     cases ef
     obtain⟨kk,rfl⟩:=jZ hk.1
     obtain⟨b,rfl,kb⟩:=qU D2
     obtain⟨g1,g2,g3⟩:=Xq (D1.mono N2.pers) kb hks l
     have hf:=eO hk.2
     rw[QAq]at hf
     exact .inr (.inr ⟨a,b,kk,xs,rfl,rfl,hA,hks,kb,by omega,q2.2 _ _ (N _ ⟨_,rfl,g1,g2,g3⟩).z⟩)
    ·cases ef
end
section
def YM(he:GE X W c m e)(hv:∀k,m.au=some k->∃x p,e=.Name x p/\gj X k x):GS X W c (.ret m) (.Return (some e) pos):=by
 intro env
 have plain:∀D σ H,tS X.K W env ((ev c m env).fl wR) D σ H->abh (aM X W c m) D σ H:=fun D σ H q=>by
  refine⟨env,UT q fun x γ v H1 N z q1=>?_⟩
  cases x with
  |val d=>exact q1.2 v σ H1 N.z z
  |new o=>
   obtain⟨a,e1,e2,e3⟩:=z
   exact q1.2 v σ H1 N.z ⟨a,e1,e2,.inl e3⟩
  |ref i=>exact q1.2.elim
  |tmp o=>exact q1.2.elim
 cases q0:m.au with
 |none=>exact PS.imp (mq he.am) fun D σ H q=>plain D σ H (by simpa only[Bj,q0]using q)
 |some k=>
  cases e0:env[k]? with
  |none=>exact PS.imp (mq he.am) fun D σ H q=>plain D σ H (by simpa only[Bj,q0,e0]using q)
  |some sl=>
   cases sl with
   |un=>exact PS.imp (mq he.am) fun D σ H q=>plain D σ H (by simpa only[Bj,q0,e0]using q)
   |val d=>exact PS.imp (mq he.am) fun D σ H q=>plain D σ H (by simpa only[Bj,q0,e0]using q)
   |bor o=>exact PS.imp (mq he.am) fun D σ H q=>plain D σ H (by simpa only[Bj,q0,e0]using q)
   |own o=>
    obtain⟨x,p,rfl,nm⟩:=hv k q0
    refine PS.imp (mq nm.pe) fun D σ H q=>?_
    simp only[Bj,q0,e0]at q
    obtain⟨a,e1,e2⟩:=q.1.sl k _ e0
    have es:=bZ e1
    have hi:=(QCz.mp e0).1
    have sub:∀j b,aQ (env.set k .un) σ j b->aQ env σ j b:=fun j b z=>by
     obtain⟨⟨s,ys,z1,z2⟩,z3⟩:=z
     by_cases hj:k=j
     ·subst hj;rw[Qwq hi]at z1;cases z1;cases z2
     ·rw[Qxz hj]at z1;exact⟨⟨s,ys,z1,z2⟩,z3⟩
    refine⟨.ref a,es,q.2 _ σ H ⟨⟨by simpa using q.1.len,fun j s ej=>?_,fun j l b z w=>q.1.ne j l b (sub j b z) (sub l b w)⟩,fun j b z=>.inl (sub j b z),bV.refl H,fun _ _ z _=>z,fun _ z=>z,fun j ys ej=>?_⟩ ⟨a,rfl,e2,.inr ⟨k,o,e0,es⟩⟩⟩
    ·by_cases hj:k=j
     ·subst hj;rw[Qwq hi]at ej;cases ej;trivial
     ·rw[Qxz hj]at ej;exact q.1.sl j s ej
    ·exact⟨⟨ys,by rw[Qxz (fun z=>by subst z;rw[e0]at ej;cases ej)];exact ej⟩,rfl⟩
def S8:GS X W c (.ret AAs) (.Return none pos):=fun env=>PS.imp Ry fun D σ H q=>by
 exact q.2 .non σ H (Nz.refl q.1) rfl
theorem iZ lo:∀(n i:Nat)(d:D),(bw lo n)[i]? =some d->d=.int (lo+i)/\i<n
 |0,i=>fun d h=>by simp[bw]at h
 |n+1,0=>fun d h=>by simp[bw]at h;exact⟨by rw[<-h];simp,by omega⟩
 |n+1,i+1=>fun d h=>by
  obtain⟨e,l⟩:=iZ _ n i d h
  refine⟨by rw[e];congr 1;push_cast;omega,by omega⟩
theorem gA lo:∀n,(bw lo n).length=n
 |0=>rfl
 |n+1=>by rw[bw,QBq,gA]
theorem z7{H:Hp}{n:Nat}(hz:n<=sizeLine):Gives K (Itr lo n) (bw lo n) H where
 go:=fun H1 p i d e=>(iZ lo n i d e).2
 yld:=fun H1 p i d e x H2 y=>by
  obtain⟨rfl,rfl⟩:=y
  rw[(iZ lo n i d e).1]
  exact⟨rfl,.inl rfl⟩
 stop:=fun H1 p i hi=>by rw[gA]at hi;exact hi
 len:=by rw[gA];exact hz
def Mx(h:Be i=true): -(2 ^62)<=i/\i<2 ^62:=by
 simp only[Be,QUz]at h
 omega
def Jp(ha:GE X W c m a)(hg:Gl X "range")(hm:X.mg "range"=none)(hs:starEach [a] X.env=[(false,eval a X.env)]):GI X W c (.range1 m) tg (.Call (.Name "range" p) [a] [] pos):=by
 intro env δ s σ H R I q
 refine H9 hg hm (cG ha.d eZ hs) hs δ s σ H R I ⟨env,q.1,?_⟩
 have q2:=q.2
 simp only[aeF]at q2
 have go:∀d γ v H',Nx X.K env σ H γ H'->bM X.K H' d v->(match (lift γ (match d with|.int n=>if fits n.toNat&&Be n then some (Rv.val (.lst (bw 0 n.toNat)))else none|_=>none))with
   |.ok x env'=>∃d xs,x.jF=some d/\items d=some xs/\∀J H',Nx X.K env σ H env' H'->Gives X.K J xs H'->R J H'
   |.exc c env'=>∀H',Nx X.K env σ H env' H'->W c env' σ H'
   |.bad=>False)->∃j:Int,[v]=[.int j]/\ -(2 ^62)<=j/\j<2 ^62/\R (Itr 0 j.toNat) H':=fun d γ v H' N Dv z=>by
  cases d with
  |int n=>
   simp only at z
   by_cases hf:(fits n.toNat&&Be n)=true
   ·rw[if_pos hf]at z
    rw[QUq]at hf
    obtain⟨d',xs,e1,e2,z⟩:=z
    cases e1
    cases e2
    subst Dv
    exact⟨n,rfl,(Mx hf.2).1,(Mx hf.2).2,z _ H' N (z7 (eO hf.1))⟩
   ·rw[if_neg hf]at z;exact z.elim
  |_=>exact z.elim
 cases r:ev c m env with
 |bad=>rw[r]at q2;exact q2
 |exc k γ=>rw[r]at q2;exact q2
 |ok x γ=>
  rw[r]at q2
  cases x with
  |val d=>exact fun v H' N Dv=>go d γ v H' N Dv q2
  |new o=>exact fun v H' N Dv=>go o.d γ v H' N Dv q2
  |ref i=>exact q2
  |tmp o=>exact q2
theorem jC.z{tg:Tg}{σ ζ:St}(st:jC K tg env σ env' ζ H):Nz K env σ H env' ζ H:=
 ⟨st.dX,fun i a z=>.inl (st.sub z),bV.refl _,fun _ _ z _=>z,fun _ z=>z,fun i xs e=>⟨⟨xs,(st.same i (st.bors i xs e)).1.trans e⟩,(st.same i (st.bors i xs e)).2⟩⟩
theorem Ep{env:Ev}{H:Hp}{f:Fl}{D:Ends}(q:tS K W env (f.turn g) D σ H)
  (k:∀ε ρ H2,Nz K env σ H ε ρ H2->tS K W ε (g ε) D ρ H2->N ρ H2):tS K W env f {D with nx:=N,ct:=N,bk:=D.nx} σ H:=by
 refine⟨q.1,?_⟩
 cases f with
 |next ε=>exact fun ρ H2 N2=>k ε ρ H2 N2 (qO q N2)
 |cont ε=>exact fun ρ H2 N2=>k ε ρ H2 N2 (qO q N2)
 |brk ε=>exact q.2
 |ret r ε=>exact q.2
 |exc j ε=>exact q.2
 |bad=>exact q.2
theorem YQ{tg:Tg}{it:E}{b:S}(hp:PassesOwn (model X.prog X.w) X.A X.env X.xe)(hc:X.calm=true)(hi:GI X W c it tgE ο)(hg:GG X tg tgE)(hb:Qm X W c b body)
  (hs:∀x,foldedSetIterable ο X.env x=pure x):GS X W c (.for_ tg it b) (.For tgE ο body [] pos):=by
 intro env δ s σ H D I q
 refine(Xw (pos:=pos) hp hc (wi:=fun ζ H' R=>ζ=σ/\H'=H/\tI X.K W env (ev c it env) σ H R) (fun δ s ζ H' R I'⟨e1,e2,z⟩=>by subst e1 e2;exact hi env δ s _ _ R I' z) hg (tb:=fun D σ H=>∃env,tS X.K W env _ D σ H) (fun δ s σ H D I⟨env,z⟩=>hb env δ s σ H D I z) hs) δ s σ H D I ⟨rfl,rfl,?_⟩
 simp only[aaT]at q
 have tur:∀γ xs J H1,Nx X.K env σ H γ H1->Gives X.K J xs H1->tS X.K W γ _ D σ H1->∃W':Nat->Nat->St->Hp->Prop,(∃m,W' 0 m σ H1)/\∀i m σ H,W' i m σ H->
   (J.stop i H/\D.nx σ H)\/(J.go i H/\∃N:St->Hp->Prop,(∀ζ H',N ζ H'->∃m',m'<m/\W' (i+1) m' ζ H')/\∀x H',J.yld i H x H'->tG X.K tg x σ H' fun ρ H2=>∃env,tS X.K W env (ex c b env) {D with nx:=N,ct:=N,bk:=D.nx} ρ H2):=fun γ xs J H1 N1 G z=>by
  refine⟨fun i m ζ H'=>i<=xs.length/\m=xs.length-i/\bV H1 H'/\∃env',tS X.K W env' (aL tg (ex c b) (xs.drop i) env') D ζ H',⟨xs.length,QIq _,by simp,bV.refl _,γ,z⟩,?_⟩
  rintro i m ζ H' ⟨hi,rfl,pe,env',z⟩
  by_cases hl:i<xs.length
  ·obtain⟨d,hd⟩:∃d,xs[i]? =some d:=⟨xs[i],by simp[hl]⟩
   rw[vZ hd,aL]at z
   cases e:aX tg d env' with
   |none=>rw[e]at z;exact z.2.elim
   |some ε=>
    rw[e]at z
    refine .inr ⟨G.go H' pe i d hd,fun ρ H2=>bV H1 H2/\∃env3,tS X.K W env3 _ D ρ H2,fun ρ H2⟨p2,w⟩=>⟨xs.length- (i+1),by omega,hl,rfl,p2,w⟩,fun x H2 y=>?_⟩
    obtain⟨Dx,lay⟩:=G.yld H' pe i d hd x H2 y
    have N2:=z.1.lay lay
    refine⟨env',d,ε,N2.dX,Dx,e,fun ρ st=>⟨ε,Ep (qO z (N2.z.trans st.z)) fun env3 σ3 H3 N3 w=>⟨(pe.trans N2.pers).trans N3.pers,env3,w⟩⟩⟩
  ·have e:i=xs.length:=by omega
   subst e
   rw[List.drop_length,aL]at z
   exact .inl ⟨G.stop H' pe _ (QVz _),z.2 ζ H' (Nz.refl z.1)⟩
 refine⟨q.1,?_⟩
 have go:∀(x:Rv)γ d,x.jF=some d->(match (match items d with|some xs=>aL tg (ex c b) xs γ|none=>Fl.bad)with
   |.next env'=>∀ζ H',Nz X.K env σ H env' ζ H'->D.nx ζ H'
   |.ret r env'=>∀v ζ H',Nz X.K env σ H env' ζ H'->Qi X.K env σ H H' r v->D.rt v H'
   |.brk env'=>∀ζ H',Nz X.K env σ H env' ζ H'->D.bk ζ H'
   |.cont env'=>∀ζ H',Nz X.K env σ H env' ζ H'->D.ct ζ H'
   |.exc c env'=>∀ζ H',Nz X.K env σ H env' ζ H'->W c env' ζ H'
   |.bad=>False)->∃d xs,x.jF=some d/\items d=some xs/\∀J H',Nx X.K env σ H γ H'->Gives X.K J xs H'->∃W':Nat->Nat->St->Hp->Prop,(∃m,W' 0 m σ H')/\∀i m σ H,W' i m σ H->
   (J.stop i H/\D.nx σ H)\/(J.go i H/\∃N:St->Hp->Prop,(∀ζ H',N ζ H'->∃m',m'<m/\W' (i+1) m' ζ H')/\∀x H',J.yld i H x H'->tG X.K tg x σ H' fun ρ H2=>∃env,tS X.K W env (ex c b env) {D with nx:=N,ct:=N,bk:=D.nx} ρ H2):=fun x γ d ed z=>by
  cases e1:items d with
  |none=>rw[e1]at z;exact z.elim
  |some xs=>
   rw[e1]at z
   exact⟨d,xs,ed,e1,fun J H1 N G=>tur γ xs J H1 N G (qO ⟨q.1,z⟩ N.z)⟩
 have q2:=q.2
 cases r:ev c it env with
 |bad=>rw[r]at q2;exact q2
 |exc k γ=>rw[r]at q2;exact fun H' N=>q2 σ H' N.z
 |ok x γ=>
  rw[r]at q2
  cases x with
  |val d=>exact go _ γ d rfl q2
  |new o=>exact go _ γ o.d rfl q2
  |ref i=>exact q2.elim
  |tmp o=>exact q2.elim
def NB{t:E}{b:S}(hp:PassesOwn (model X.prog X.w) X.A X.env X.xe)(ht:GT X W c t te)(hb:Qm X W c b body):GS X W c (.while_ t b) (.While te body [] pos):=by
 intro env
 refine PS.imp (Lf hp ht (tb:=fun D σ H=>∃env,tS X.K W env _ D σ H) (fun δ s σ H D I⟨env,z⟩=>hb env δ s σ H D I z)) fun D σ H q=>?_
 refine⟨fun n ζ H'=>∃env',tS X.K W env' (cY _ _ n env') D ζ H',⟨c.turns,env,q⟩,?_⟩
 rintro n ξ H1 ⟨γ,q1⟩
 cases n with
 |zero=>exact q1.2.elim
 |succ n=>
  refine⟨γ,Kl q1 fun k ε H2 N2 q2=>?_⟩
  cases k with
  |true=>
   refine⟨fun ζ H'=>∃env',tS X.K W env' _ D ζ H',fun ζ H' w=>⟨n,Nat.lt_succ_self n,w⟩,ε,Ep q2 fun env3 σ3 H3 N3 w=>⟨env3,w⟩⟩
  |false=>
   exact q2.2 ξ H2 (Nz.refl q2.1)
end
structure Cz(K:QQq)(ps:List Sl)(vs:List V)(H:Hp)(qs:List Sl)(H':Hp):Prop where
 bor:∀(i:Nat)o,ps[i]? =some (.bor o)->∃o' a,qs[i]? =some (.bor o')/\vs[i]? =some (.ref a)/\jG K H' o' a
 pers:bV H H'
 keep:∀b u,H b=some u->(∀i,¬aQ ps (vs.map some) i b)->H' b=some u
 dom:∀b,H' b=none->H b=none
def ado(K:QQq)(H H':Hp):Rv->V->Prop
 |.val d,v=>bM K H' d v
 |.new q,v=>∃a,v=.ref a/\jG K H' q a/\H a=none
 |_,_=>False
def noOwn(ps:List Sl):Prop:=∀(i:Nat)o,ps[i]? ≠some (.own o)
def oA(K:QQq)(n:Nat)(f:List Sl->Res):Sp:=fun vs H Q _=>∃ps,vs.length=n/\Sat K ps (vs.map some) H/\noOwn ps/\match f ps with
 |.ok r qs=>∀v H',Cz K ps vs H qs H'->ado K H H' r v->Q v H'
 |.exc _ qs=>∀H',Cz K ps vs H qs H'->False
 |.bad=>False
def w5{ps:List Sl}{vs:List V}{b:Addr}(hl:ps.length=vs.length):aQ (ps++List.replicate k .un) (vs.map some++List.replicate k none) i b↔aQ ps (vs.map some) i b:=by
 constructor
 ·rintro ⟨⟨s,o,e1,e2⟩,e3⟩
  by_cases hi:i<ps.length
  ·rw[Qwz hi]at e1
   rw[Qwz (by simpa[<-hl]using hi)]at e3
   exact⟨⟨s,o,e1,e2⟩,e3⟩
  ·rw[QIz (by omega),List.getElem?_replicate]at e1
   split at e1
   ·cases e1;cases e2
   ·cases e1
 ·rintro ⟨⟨s,o,e1,e2⟩,e3⟩
  have hi:=(QCz.mp e1).1
  exact⟨⟨s,o,by rw[Qwz hi];exact e1,e2⟩,by rw[Qwz (by simpa[<-hl]using hi)];exact e3⟩
def Sat.pad{ps:List Sl}{vs:List V}(S:Sat K ps (vs.map some) H)k:Sat K (ps++List.replicate k .un) (vs.map some++List.replicate k none) H:=by
 have hl:ps.length=vs.length:=by simpa using S.len
 refine⟨by simp[hl],fun i s e=>?_,fun i j a h1 h2=>S.ne i j a ((w5 hl).mp h1) ((w5 hl).mp h2)⟩
 by_cases hi:i<ps.length
 ·rw[Qwz hi]at e
  rw[Qwz (by simpa[<-hl]using hi)]
  exact S.sl i s e
 ·rw[QIz (by omega),List.getElem?_replicate]at e
  split at e
  ·cases e;trivial
  ·cases e
def Nz.cz{ps:List Sl}{H H':Hp}{k n:Nat}{ζ:St}(S:Sat K ps (vs.map some) H)(hn:vs.length=n)(N:Nz K (ps++List.replicate k .un) (vs.map some++List.replicate k none) H env' ζ H'):Cz K ps vs H (env'.take n) H':=by
 have hl:ps.length=vs.length:=by simpa using S.len
 refine⟨fun i o e=>?_,N.pers,fun b u hb no=>N.keep b u hb fun i z=>no i ((w5 hl).mp z),N.dom⟩
 have hi:=(QCz.mp e).1
 obtain⟨⟨o',e1⟩,e2⟩:=N.bors i o (by rw[Qwz hi];exact e)
 obtain⟨a,z1,z2⟩:=N.dX.sl i _ e1
 rw[e2,Qwz (by simpa[<-hl]using hi),QFz]at z1
 refine⟨o',a,by rw[List.getElem?_take_of_lt (by omega)];exact e1,?_,z2⟩
 cases q:vs[i]? with
 |none=>rw[q]at z1;cases z1
 |some v=>rw[q]at z1;simp at z1;rw[z1]
section
theorem Gv{st:Stmt}{fd:FuncData}{k:Nat}{g:Fn}(F:Uj K x qual st f fd)(S:fP N ps (aF st))(hp:g.pars=ps.length)(hn:g.names=N.length)
  (hb:∀(cdv:Value)(A:Around)(outer:List Env)(s:Shared)(H:Hp)(E:XK),iG k (A.deeper (PyProof.Rows.envOfC qual (aF st) s.heap.objs.size f cdv))->Qm (eU Bg P w K mg base N qual (aF st) f cdv A outer s H E).Vm W0 c g.body (cN st)):
  fK P w K mg base Bg (k+1) f fd ps (oA K ps.length (fU c g)):=by
 refine F.ok S (fun vs H Q E h=>?_) (fun cdv A outer s H vs Q E hr h=>?_)
 ·obtain⟨_,h,_⟩:=h
  exact h
 ·obtain⟨sl,hl,S0,no,q⟩:=h
  refine⟨_,hb cdv A outer s H E hr (sl++List.replicate (g.names-g.pars) .un),?_⟩
  have hlen:sl.length=vs.length:=by simpa using S0.len
  have hst:L2.start N vs=vs.map some++List.replicate (g.names-g.pars) none:=by
   unfold L2.start
   rw[hn,hp,hl]
  have e0:fU c g sl=match ex c g.body (sl++List.replicate (g.names-g.pars) .un)with
    |.next σ=>.ok (.val .non) (σ.take g.pars)
    |.ret r σ=>.ok r (σ.take g.pars)
    |.exc k σ=>.exc k (σ.take g.pars)
    |_=>.bad:=by
   unfold fU
   rw[if_pos (by rw[hp,<-hl,hlen])]<;>cases ex c g.body _<;>rfl
  rw[e0]at q
  rw[hst]
  refine⟨S0.pad _,?_⟩
  have hg:vs.length=g.pars:=by rw[hl,hp]
  cases r:ex c g.body _ with
  |next env'=>rw[r]at q;exact fun ζ H' N=>q .non H' (N.cz S0 hg) rfl
  |ret rv env'=>
   rw[r]at q
   refine fun v ζ H' N z=>q v H' (N.cz S0 hg) ?_
   cases rv with
   |val d=>exact z
   |new o=>
    obtain⟨a,e1,e2,e3⟩:=z
    refine⟨a,e1,e2,?_⟩
    rcases e3 with e3|⟨i,ys,e3,_⟩
    ·exact e3
    ·by_cases hi:i<sl.length
     ·rw[Qwz hi]at e3
      exact absurd e3 (no i ys)
     ·rw[QIz (by omega),List.getElem?_replicate]at e3
      split at e3<;>cases e3
   |ref i=>exact z.elim
   |tmp o=>exact z.elim
  |brk env'=>rw[r]at q;exact q.elim
  |cont env'=>rw[r]at q;exact q.elim
  |exc j env'=>rw[r]at q;exact fun ζ H' N=>q H' (N.cz S0 hg)
  |bad=>rw[r]at q;exact q.elim
end
inductive En(K:QQq)(env:Ev)(σ:St)(H0 H:Hp):List Rv->List Sl->List V->Prop
 |nil:En K env σ H0 H [] [] []
 |val {d:D} {v:V} {rs:List Rv} {ps:List Sl} {vs:List V}:bM K H d v->En K env σ H0 H rs ps vs->En K env σ H0 H (.val d::rs) (.val d::ps) (v::vs)
 |tmp {o:Ob} {a:Addr} {rs:List Rv} {ps:List Sl} {vs:List V}:jG K H o a->H0 a=none->(∀q,Rv.tmp q∉rs)->En K env σ H0 H rs ps vs->En K env σ H0 H (.tmp o::rs) (.bor o::ps) (.ref a::vs)
 |ref {o:Ob} {j:Nat} {a:Addr} {s:Sl} {rs:List Rv} {ps:List Sl} {vs:List V}:env[j]? =some s->isOwn s=some o->σ[j]? =some (some (.ref a))->jG K H o a->Rv.ref j∉rs->En K env σ H0 H rs ps vs->En K env σ H0 H (.ref j::rs) (.bor o::ps) (.ref a::vs)
section
theorem gG(S:Sat K env σ H):∀{rs:List Rv}{ps:List Sl}{vs:List V},enter rs env=some ps->ie K σ H0 H rs vs->En K env σ H0 H rs ps vs
 |[],ps,vs,h,r=>by
  cases h
  have:=r
  subst this
  exact .nil
 |x::rs,ps,vs,h,r=>by
  obtain⟨v,vr,rfl,h1,h2⟩:=r
  cases x with
  |val d=>
   simp only[enter]at h
   cases e:enter rs env with
   |none=>rw[e]at h;cases h
   |some ps'=>rw[e]at h;cases h;exact .val h1 (gG S e h2)
  |new o=>cases h
  |tmp o=>
   simp only[enter]at h
   split at h
   ·cases h
   ·rename_i hn
    cases e:enter rs env with
    |none=>rw[e]at h;cases h
    |some ps'=>
     rw[e]at h
     cases h
     obtain⟨a,rfl,oa,ha⟩:=h1
     exact .tmp oa ha (fun q hq=>hn (List.any_eq_true.mpr ⟨_,hq,rfl⟩)) (gG S e h2)
  |ref j=>
   simp only[enter]at h
   split at h
   ·cases h
   ·rename_i hn
    have nr:Rv.ref j∉rs:=fun hq=>hn (List.any_eq_true.mpr ⟨_,hq,by simp[ji]⟩)
    cases e1:env[j]? with
    |none=>rw[e1]at h;cases h
    |some s=>
     rw[e1]at h
     have h1':=h1
     cases s with
     |un=>cases h
     |val d=>cases h
     |own o=>
      cases e:enter rs env with
      |none=>simp only[e]at h;cases h
      |some ps'=>
       simp only[e]at h
       cases h
       obtain⟨a,z1,z2⟩:=S.sl j _ e1
       rw[h1']at z1
       cases z1
       exact .ref e1 rfl h1' z2 nr (gG S e h2)
     |bor o=>
      cases e:enter rs env with
      |none=>simp only[e]at h;cases h
      |some ps'=>
       simp only[e]at h
       cases h
       obtain⟨a,z1,z2⟩:=S.sl j _ e1
       rw[h1']at z1
       cases z1
       exact .ref e1 rfl h1' z2 nr (gG S e h2)
def En.len{ps:List Sl}(h:En K env σ H0 H rs ps vs):ps.length=vs.length/\rs.length=vs.length:=by
 induction h with
 |nil=>exact⟨rfl,rfl⟩
 |val _ _ ih=>simp[ih.1,ih.2]
 |tmp _ _ _ _ ih=>simp[ih.1,ih.2]
 |ref _ _ _ _ _ _ ih=>simp[ih.1,ih.2]
theorem En.noOwn{ps:List Sl}(h:En K env σ H0 H rs ps vs):noOwn ps:=by
 induction h with
 |nil=>intro i o e;simp at e
 |val _ _ ih=>intro i o e;cases i with
  |zero=>simp at e
  |succ i=>exact ih i o (by simpa using e)
 |tmp _ _ _ _ ih=>intro i o e;cases i with
  |zero=>simp at e
  |succ i=>exact ih i o (by simpa using e)
 |ref _ _ _ _ _ _ ih=>intro i o e;cases i with
  |zero=>simp at e
  |succ i=>exact ih i o (by simpa using e)
def En.lent{ps:List Sl}(h:En K env σ H0 H rs ps vs):∀{i:Nat}{a:Addr},aQ ps (vs.map some) i a->(∃o,rs[i]? =some (.tmp o)/\H0 a=none)\/∃j,rs[i]? =some (.ref j)/\aQ env σ j a:=by
 induction h with
 |nil=>rintro i a ⟨⟨s,o,e,_⟩,_⟩;simp at e
 |val _ _ ih=>
  rintro i a ⟨⟨s,o,e1,e2⟩,e3⟩
  cases i with
  |zero=>simp at e1;subst e1;cases e2
  |succ i=>simpa using ih ⟨⟨s,o,by simpa using e1,e2⟩,by simpa using e3⟩
 | @tmp o b rs ps vs oa h0 _ _ ih=>
  rintro i a ⟨⟨s,o',e1,e2⟩,e3⟩
  cases i with
  |zero=>
   simp at e3
   subst e3
   exact .inl ⟨o,rfl,h0⟩
  |succ i=>simpa using ih ⟨⟨s,o',by simpa using e1,e2⟩,by simpa using e3⟩
 | @ref o j b s rs ps vs e1 e2 e3 oa nr _ ih=>
  rintro i a ⟨⟨s',o',z1,z2⟩,z3⟩
  cases i with
  |zero=>
   simp at z3
   subst z3
   exact .inr ⟨j,rfl,⟨⟨s,o,e1,e2⟩,e3⟩⟩
  |succ i=>simpa using ih ⟨⟨s',o',by simpa using z1,z2⟩,by simpa using z3⟩
def En.dX(S0:Sat K env0 σ H0)(S:Sat K env σ H)(sub:∀(i:Nat)a,aQ env σ i a->aQ env0 σ i a){ps:List Sl}(h:En K env σ H0 H rs ps vs):Sat K ps (vs.map some) H:=by
 refine⟨by simpa using h.len.1,?_,?_⟩
 ·clear S0 sub
  induction h with
  |nil=>intro i s e;simp at e
  |val hd _ ih=>
   intro i s e
   cases i with
   |zero=>simp at e;subst e;exact⟨_,rfl,hd⟩
   |succ i=>simpa using ih i s (by simpa using e)
  |tmp oa _ _ _ ih=>
   intro i s e
   cases i with
   |zero=>simp at e;subst e;exact⟨_,rfl,oa⟩
   |succ i=>simpa using ih i s (by simpa using e)
  |ref _ _ _ oa _ _ ih=>
   intro i s e
   cases i with
   |zero=>simp at e;subst e;exact⟨_,rfl,oa⟩
   |succ i=>simpa using ih i s (by simpa using e)
 ·--no two slots have one address
  have fresh:=fun a ha j z=>S0.my ha j (sub j a z)
  induction h with
  |nil=>rintro i j a ⟨⟨s,o,e,_⟩,_⟩;simp at e
  |val hd t ih=>
   rintro i j a ⟨⟨s,o,e1,e2⟩,e3⟩ ⟨⟨s',o',e1',e2'⟩,e3'⟩
   cases i with
   |zero=>simp at e1;subst e1;cases e2
   |succ i=>cases j with
    |zero=>simp at e1';subst e1';cases e2'
    |succ j=>rw[ih i j a ⟨⟨s,o,by simpa using e1,e2⟩,by simpa using e3⟩ ⟨⟨s',o',by simpa using e1',e2'⟩,by simpa using e3'⟩]
  | @tmp o b rs ps vs oa h0 nt t ih=>
   have clash:∀i,¬aQ ps _ i b:=fun i z=>by
    rcases t.lent z with ⟨q,e,_⟩|⟨q,_,ow⟩
    ·exact nt q (QBz e)
    ·exact fresh b h0 q ow
   rintro i j a ⟨⟨s,o,e1,e2⟩,e3⟩ ⟨⟨s',o',e1',e2'⟩,e3'⟩
   cases i with
   |zero=>
    simp at e3
    subst e3
    cases j with
    |zero=>rfl
    |succ j=>exact absurd ⟨⟨s',o',by simpa using e1',e2'⟩,by simpa using e3'⟩ (clash j)
   |succ i=>cases j with
    |zero=>
     simp at e3'
     subst e3'
     exact absurd ⟨⟨s,o,by simpa using e1,e2⟩,by simpa using e3⟩ (clash i)
    |succ j=>rw[ih i j a ⟨⟨s,o,by simpa using e1,e2⟩,by simpa using e3⟩ ⟨⟨s',o',by simpa using e1',e2'⟩,by simpa using e3'⟩]
  | @ref o k b s0 rs ps vs z1 z2 z3 oa nr t ih=>
   have ok:aQ env σ k b:=⟨⟨s0,o,z1,z2⟩,z3⟩
   have clash:∀i,¬aQ ps _ i b:=fun i z=>by
    rcases t.lent z with ⟨q,e,h0⟩|⟨q,e,ow⟩
    ·exact fresh b h0 k ok
    ·have:=S.ne k q b ok ow
     subst this
     exact nr (QBz e)
   rintro i j a ⟨⟨s,o,e1,e2⟩,e3⟩ ⟨⟨s',o',e1',e2'⟩,e3'⟩
   cases i with
   |zero=>
    simp at e3
    subst e3
    cases j with
    |zero=>rfl
    |succ j=>exact absurd ⟨⟨s',o',by simpa using e1',e2'⟩,by simpa using e3'⟩ (clash j)
   |succ i=>cases j with
    |zero=>
     simp at e3'
     subst e3'
     exact absurd ⟨⟨s,o,by simpa using e1,e2⟩,by simpa using e3⟩ (clash i)
    |succ j=>rw[ih i j a ⟨⟨s,o,by simpa using e1,e2⟩,by simpa using e3⟩ ⟨⟨s',o',by simpa using e1',e2'⟩,by simpa using e3'⟩]
end
def Sl.FZ(o':Ob):Sl->Option Sl
 |.own _=>some (.own o')
 |.bor _=>some (.bor o')
 |_=>none
def J2{o':Ob}(h:eX j (fun _=>some o') env=some env'):∃s s',env[j]? =some s/\s.FZ o'=some s'/\env'=env.set j s':=by
 obtain⟨o,q,e,hh⟩:=qM h
 cases e
 rcases hh with ⟨e,rfl⟩|⟨e,rfl⟩
 ·exact⟨_,_,e,rfl,rfl⟩
 ·exact⟨_,_,e,rfl,rfl⟩
theorem o6:∀{rs:List Rv}{qs:List Sl}{env ε:Ev},giveBack rs qs env=some ε->ε.length=env.length/\∀j:Nat,
  ((∀i:Nat,rs[i]? ≠some (Rv.ref j))/\ε[j]? =env[j]?)\/∃(i:Nat)(o':Ob)(s s':Sl),rs[i]? =some (.ref j)/\qs[i]? =some (.bor o')/\env[j]? =some s/\s.FZ o'=some s'/\ε[j]? =some s'
 |[],[],env,ε,h=>by
  cases h
  exact⟨rfl,fun j=>.inl ⟨fun i=>by simp,rfl⟩⟩
 |[],_::_,env,ε,h=>by cases h
 |x::rs,[],env,ε,h=>by cases x<;>cases h
 |x::rs,q::qs,env,ε,h=>by
  have skip:giveBack rs qs env=some ε->(∀j,x≠ .ref j)->ε.length=env.length/\∀j:Nat,
    ((∀i:Nat,(x::rs)[i]? ≠some _)/\ε[j]? =env[j]?)\/∃(i:Nat)(o':Ob)(s s':Sl),(x::rs)[i]? =some _/\(q::qs)[i]? =some (.bor o')/\env[j]? =some s/\s.FZ o'=some s'/\ε[j]? =some s':=fun h nx=>by
   obtain⟨l,g⟩:=o6 h
   refine⟨l,fun j=>?_⟩
   rcases g j with ⟨g1,g2⟩|⟨i,o',s,s',g1,g2,g3⟩
   ·refine .inl ⟨fun i e=>?_,g2⟩
    cases i with
    |zero=>simp at e;exact nx j e
    |succ i=>exact g1 i (by simpa using e)
   ·exact .inr ⟨i+1,o',s,s',by simpa using g1,by simpa using g2,g3⟩
  cases x with
  |val d=>exact skip h fun j z=>by cases z
  |new o=>exact skip h fun j z=>by cases z
  |tmp o=>exact skip h fun j z=>by cases z
  |ref k=>
   cases q with
   |bor o=>
    change Option.bind _ _=some ε at h
    cases e:eX k _ env with
    |none=>rw[e]at h;cases h
    |some γ=>
     rw[e]at h
     obtain⟨s0,s1,z1,z2,rfl⟩:=J2 e
     have hk:=(QCz.mp z1).1
     obtain⟨l,g⟩:=o6 h
     refine⟨by simpa using l,fun j=>?_⟩
     rcases g j with ⟨g1,g2⟩|⟨i,o',s,s',g1,g2,g3,g4,g5⟩
     ·by_cases hj:k=j
      ·subst hj
       rw[Qwq hk]at g2
       exact .inr ⟨0,o,s0,s1,rfl,rfl,z1,z2,g2⟩
      ·rw[Qxz hj]at g2
       refine .inl ⟨fun i e=>?_,g2⟩
       cases i with
       |zero=>simp at e;exact hj e
       |succ i=>exact g1 i (by simpa using e)
     ·by_cases hj:k=j
      ·subst hj
       rw[Qwq hk]at g3
       cases g3
       refine .inr ⟨i+1,o',s0,s',by simpa using g1,by simpa using g2,z1,?_,g5⟩
       cases s0 with
       |own q=>cases z2;exact g4
       |bor q=>cases z2;exact g4
       |un=>cases z2
       |val d=>cases z2
      ·rw[Qxz hj]at g3
       exact .inr ⟨i+1,o',s,s',by simpa using g1,by simpa using g2,g3,g4,g5⟩
   |un=>cases h
   |val d=>cases h
   |own o=>cases h
def MF{o':Ob}(h:s.FZ o'=some s'):(∃o,isOwn s=some o)/\isOwn s'=some o':=by
 cases s with
 |own q=>cases h;exact⟨⟨q,rfl⟩,rfl⟩
 |bor q=>cases h;exact⟨⟨q,rfl⟩,rfl⟩
 |un=>cases h
 |val d=>cases h
section
def En.Xg(h:En K env σ H0 H rs ps vs):∀{i j:Nat},rs[i]? =some (.ref j)->∃o a,ps[i]? =some (.bor o)/\vs[i]? =some (.ref a)/\σ[j]? =some (some (.ref a)):=by
 induction h with
 |nil=>intro i j e;simp at e
 |val _ _ ih=>intro i j e;cases i with
  |zero=>simp at e
  |succ i=>simpa using ih (by simpa using e)
 |tmp _ _ _ _ ih=>intro i j e;cases i with
  |zero=>simp at e
  |succ i=>simpa using ih (by simpa using e)
 | @ref o k a s rs ps vs e1 e2 e3 oa nr t ih=>
  intro i j e
  cases i with
  |zero=>simp at e;subst e;exact⟨o,a,rfl,rfl,e3⟩
  |succ i=>simpa using ih (by simpa using e)
def nO(S0:Sat K env0 σ H0)(N:Nx K env0 σ H0 env H)(E:En K env σ H0 H rs ps vs)(C:Cz K ps vs H qs H2)(g:giveBack rs qs env=some ε):Nx K env0 σ H0 ε H2:=by
 have S:=N.dX
 have sub:=N.sub
 obtain⟨gl,gs⟩:=o6 g
 have own2:∀j b,aQ ε σ j b->aQ env σ j b:=fun j b z=>by
  obtain⟨⟨s,o,e1,e2⟩,e3⟩:=z
  rcases gs j with ⟨_,g2⟩|⟨i,o',s0,s1,_,_,g3,g4,g5⟩
  ·rw[g2]at e1;exact⟨⟨s,o,e1,e2⟩,e3⟩
  ·obtain⟨⟨q,hq⟩,_⟩:=MF g4
   exact⟨⟨s0,q,g3,hq⟩,e3⟩
 have notLent:∀j b,aQ env σ j b->(∀i:Nat,rs[i]? ≠some _)->∀i,¬aQ ps _ i b:=fun j b ow nr i z=>by
  rcases E.lent z with ⟨q,_,h0⟩|⟨k,e,ow'⟩
  ·exact(fun a ha j z=>S0.my ha j (sub j a z)) b h0 j ow
  ·have:=S.ne j k b ow ow'
   subst this
   exact nr i e
 refine⟨⟨by rw[gl];exact S.len,fun j s e=>?_,fun j k b z w=>S.ne j k b (own2 j b z) (own2 k b w)⟩,fun j b z=>sub j b (own2 j b z),N.pers.trans C.pers,fun b u hb no=>C.keep b u (N.keep b u hb no) fun i z=>?_,fun b z=>N.dom b (C.dom b z),fun j xs e=>?_⟩
 ·rcases gs j with ⟨g1,g2⟩|⟨i,o',s0,s1,g1,g2,g3,g4,g5⟩
  ·rw[g2]at e
   exact(S.sl j s e).keep C.pers fun b u ho ev hb=>C.keep b u hb (notLent j b (w6 e ho ev) g1)
  ·rw[g5]at e
   cases e
   obtain⟨o,a,p1,p2,p3⟩:=E.Xg g1
   obtain⟨o'',a',c1,c2,c3⟩:=C.bor i o p1
   rw[g2]at c1
   cases c1
   rw[p2]at c2
   cases c2
   cases s0 with
   |own q=>cases g4;exact⟨a,by rw[p3];rfl,c3⟩
   |bor q=>cases g4;exact⟨a,by rw[p3];rfl,c3⟩
   |un=>cases g4
   |val d=>cases g4
 ·rcases E.lent z with ⟨q,_,h0⟩|⟨k,e,ow⟩
  ·rw[h0]at hb;cases hb
  ·exact no k (sub k b ow)
 ·obtain⟨xs,e⟩:=N.bors j xs e
  rcases gs j with ⟨g1,g2⟩|⟨i,o',s0,s1,g1,g2,g3,g4,g5⟩
  ·exact⟨xs,by rw[g2];exact e⟩
  ·rw[e]at g3
   cases g3
   cases g4
   exact⟨o',g5⟩
end
section
theorem Tp(F:fK X.prog X.w X.K X.mg X.base Bg k f fd ps (oA X.K ps.length (c.fn g)))(hr:iG k X.A)(hg:Gl X x)(hm:X.mg x=some (.ref f))(hk:PySem.W.keepIn X.K (.ref f)=true)(hb:Binds X.K fd ps [])
  (hd:(x==("__debug__":Str))=false)(ha:GA X W c m (e::es))(he:starEach (e::es) X.env=(false,eval e X.env)::starEach es X.env)(hpl:(backTo pos (starEach es X.env)).any (·.1)=false)(hn:∀sl,c.fn g sl=.bad\/sl.length=ps.length):
  GE X W c (.call g m) (.Call (.Name x p) (e::es) [] pos):=by
 intro env δ s σ H Q I q
 refine Fg F hr hg hm hk hb .nil ab8 (t:=fun ζ H' R=>ζ=σ/\H'=H/\QM X.K W env (evs c m env) σ H R) (fun p δ s ζ H' R I'⟨e1,e2,z⟩=>by subst e1 e2;exact ha env p δ s _ _ R I' z) hd he hpl δ s σ H Q I ⟨rfl,rfl,?_⟩
 simp only[aeH]at q
 obtain⟨S,q⟩:=q
 refine⟨S,?_⟩
 cases r:evs c m env with
 |bad=>rw[r]at q;exact q
 |exc j γ=>rw[r]at q;exact q
 |ok rs γ=>
  rw[r]at q
  simp only[Out.bind,tY]at q
  intro vs H1 N rv
  rw[List.append_nil]
  cases e1:enter rs γ with
  |none=>rw[e1]at q;exact q.elim
  |some sl=>
   rw[e1]at q
   simp only at q
   have E:=gG N.dX e1 rv
   refine⟨sl,?_,E.dX S N.dX N.sub,E.noOwn,?_⟩
   ·rcases hn sl with z|z
    ·rw[z]at q;exact q.elim
    ·rw[<-E.len.1,z]
   ·cases e2:c.fn g sl with
    |bad=>rw[e2]at q;exact q.elim
    |ok rv qs=>
     rw[e2]at q
     simp only at q
     intro v H2 C z
     cases e3:giveBack rs qs γ with
     |none=>rw[e3]at q;exact q.elim
     |some ε=>
      rw[e3]at q
      refine q v H2 (nO S N E C e3) ?_
      cases rv with
      |val d=>exact z
      |new o=>obtain⟨a,z1,z2,z3⟩:=z;exact⟨a,z1,z2,N.dom a z3⟩
      |ref i=>exact z.elim
      |tmp o=>exact z.elim
    |exc j qs=>rw[e2]at q;exact q.elim
end
def uX c g sl:fU c g sl=.bad\/sl.length=g.pars:=by
 unfold fU
 split
 ·exact .inr (by assumption)
 ·exact .inl rfl
end Mini
end
section
namespace Mini
open PySem L2 PyProof.Rows
structure Ax(z TI TO i1 i2:Addr)(b1 b2:Bool)(l1 l2:Addr)(k:Nat)(h:Heap):Prop where
 zr:∃f0 f1,jr h z TI TO f0 f1/\F0 f0
 ti:IsPair h TI (.ref i1) (.ref i2)
 to:∃a b,IsPair h TO a b
 it1:uy b1 h i1 l1 k
 it2:uy b2 h i2 l2 k
section
variable{E:QZq}
def v8{b1 b2:Bool}{xs ys:Array Value}(hl1:yu b1 s.heap l1 xs)(hl2:yu b2 s.heap l2 ys)
  (h:∀h',Ax (s.heap.objs.size+4) (s.heap.objs.size+2) (s.heap.objs.size+3) s.heap.objs.size (s.heap.objs.size+1) b1 b2 l1 l2 0 h'->h'.objs.size=s.heap.objs.size+5->
   (∀c o,s.heap.get? c=some o->h'.get? c=some o)->Q (.ref (s.heap.objs.size+4)) {s with heap:=h'}):
  wpAny (model prog w) A (call (.type "zip") [.ref l1,.ref l2]) Q E s:=by
 refine callType_new PySem.F.called_zip (by decide) (PySem.F.typeCall_zip_2 _ _) (PySem.F.newCall_zip_2 _ _) (fun obj=>PySem.F.args_object_init_3 obj _ _) PySem.F.entry_zip_new
  (JS b1 b2 l1 l2 xs ys) ⟨hl1,hl2,?_⟩
 have z1:(zH1 b1 s.heap l1).objs.size=s.heap.objs.size+1:=Heap.size_push ..
 have z2:(zH2 b1 b2 s.heap l1 l2).objs.size=s.heap.objs.size+2:=by rw[Heap.size_push,z1]
 have z3:(zH3 b1 b2 s.heap l1 l2).objs.size=s.heap.objs.size+3:=by rw[Heap.size_push,z2]
 have z4:(zH4 b1 b2 s.heap l1 l2).objs.size=s.heap.objs.size+4:=by rw[Heap.size_push,z3]
 have g5:(ZX b1 b2 s.heap l1 l2).get? (zH4 b1 b2 s.heap l1 l2).objs.size=some _:=Qzq _ rfl
 have g4:(ZX b1 b2 s.heap l1 l2).get? (zH3 b1 b2 s.heap l1 l2).objs.size=some _:=QWq _ (Qzq _ rfl)
 have g3:(ZX b1 b2 s.heap l1 l2).get? (zH2 b1 b2 s.heap l1 l2).objs.size=some _:=QWq _ (QWq _ (Qzq _ rfl))
 have g2:(ZX b1 b2 s.heap l1 l2).get? (zH1 b1 s.heap l1).objs.size=some _:=QWq _ (QWq _ (QWq _ (Qzq _ rfl)))
 rw[z2,z3,z4]at g5
 rw[z1,z2]at g3
 rw[z3]at g4
 rw[z1]at g2
 rw[z4]
 have i1:uy b1 (ZX b1 b2 s.heap l1 l2) s.heap.objs.size l1 0:=by cases b1<;>exact⟨_,(QWq _ (QWq _ (QWq _ (QWq _ (Qzq _ rfl))))),rfl,rfl⟩
 exact⟨⟨_,g5,rfl⟩,h _ ⟨⟨_,_,g5,.inl rfl⟩,g3,⟨_,_,g4⟩,i1,(by cases b2<;>exact⟨_,g2,rfl,rfl⟩)⟩ (by rw[Heap.size_push,z4]) fun c o x=>
  QWq _ (QWq _ (QWq _ (QWq _ (QWq _ x))))⟩
end
def uL(h1:l1<n)(h2:l2<n):ZipApart (n+4) (n+2) (n+3) n (n+1) l1 l2:=zipApart_new h1 h2
def Inv.Em{X:Cx}{σ:L2.St}{H:Hp}{h':Heap}{ch:List Addr}(I:Inv X δ σ H s)(k:∀b o,b∉ch->s.heap.get? b=some o->h'.get? b=some o)(hf:∀b∈ch,gQ X δ H b):
  Inv X δ σ H {s with heap:=h',toks:=t'}:=by
 have nit:∀b u,H b=some u->b∉ch:=fun b u e z=>by rw[(hf b z).1]at e;cases e
 refine I.step (fun b hb=>⟨(hf b hb).2.2.2.1,(hf b hb).2.1,(hf b hb).2.2.2.2.1,(hf b hb).2.2.2.2.2⟩) (fun b o _ _ hc e _=>k b o hc e) (fun b o _ _ hc e _=>⟨o.slots,k b o hc e⟩) (fun _ _ _ _ n=>n)
  (fun b o hc e=>⟨o,k b o hc e⟩) (fun _ _ e=>e) (fun _ _ _ e=>e) (fun b ps e=>⟨#[],by rw[e];simp⟩) (fun m hm=>?_) (fun b u e=>?_) I.bare
 ·obtain⟨o,es,ep,ho,r⟩:=hm
  exact⟨o,es,ep,k _ o (fun z=>(hf _ z).2.1 rfl) ho,r⟩
 ·refine(I.hok b u e).stay (fun c v hc q=>k c v ?_ q) (fun _ q=>q) fun _ _ q=>q
  rcases hc with z|z
  ·rw[z];exact nit b u e
  ·exact nit c _ z
def Inv.uN{X:Cx}{σ:L2.St}{H:Hp}{h':Heap}{ch:List Addr}{a:Addr}(I:Inv X δ σ H s)(k:∀b o,b∉ch->s.heap.get? b=some o->h'.get? b=some o)(hf:∀b∈ch,gQ X δ H b)
  (ha:s.heap.objs.size<=a)(new:cg X.prog X.w (upd H a u) h' a u):Inv X δ σ (upd H a u) {s with heap:=h',toks:=t'}:=by
 have nit:∀b u,H b=some u->b∉ch:=fun b u e z=>by rw[(hf b z).1]at e;cases e
 have ne:∀b w,H b=some w->b≠a:=fun b w e z=>by subst z;rw[I.hok.fresh ha]at e;cases e
 refine I.step (fun b hb=>⟨(hf b hb).2.2.2.1,(hf b hb).2.1,(hf b hb).2.2.2.2.1,(hf b hb).2.2.2.2.2⟩) (fun b o _ _ hc e _=>k b o hc e) (fun b o _ _ hc e _=>⟨o.slots,k b o hc e⟩)
  (fun b o _ e n=>by rw[aC (Qvz (Qvq (Qqz e) ha))];exact n)
  (fun b o hc e=>⟨o,k b o hc e⟩) (fun b xs e=>by rw[aC (ne b _ e)];exact e) (fun b o w e=>by rw[aC (ne b _ e)];exact e) (fun b ps e=>⟨#[],by rw[aC (ne b _ e),e];simp⟩) (fun m hm=>?_) (fun b w e=>?_) I.bare
 ·obtain⟨o,es,ep,ho,r⟩:=hm
  exact⟨o,es,ep,k _ o (fun z=>(hf _ z).2.1 rfl) ho,r⟩
 ·by_cases hb:b=a
  ·subst hb
   rw[aU]at e
   cases e
   exact new
  ·rw[aC hb]at e
   refine(I.hok b w e).stay (fun c v hc q=>k c v ?_ q) (fun c q=>by rw[aC (ne c _ q)];exact q) fun c xs q=>by rw[aC (ne c _ q)];exact q
   rcases hc with z|z
   ·rw[z];exact nit b w e
   ·exact nit c _ z
def Qg(K:QQq)(b:Bool)(H:Hp)(l:Addr)(vs:List V):Prop:=match b with|true=>Hg K H l vs|false=>iV K H l vs
def bV.wM{K:QQq}{b:Bool}{l:Addr}(p:bV H H')(h:Qg K b H l vs):Qg K b H' l vs:=by
 cases b with
 |true=>exact p.Gu h
 |false=>exact p.Hu h
def Inv.wM{X:Cx}{σ:L2.St}{H:Hp}{b:Bool}{l:Addr}(I:Inv X δ σ H s)(h:Qg X.K b H l vs):∃its:List Value,Vals vs its/\yu b s.heap l its.toArray/\vs.length<=sizeLine/\l<s.heap.objs.size:=by
 cases b with
 |true=>
  obtain⟨its,r,p,z⟩:=I.list (Hg.sq h)
  obtain⟨o,e,_⟩:=p.isList
  exact⟨its,r,p.isList,z,Qqz e⟩
 |false=>
  obtain⟨its,r,p,z⟩:=I.tuple h
  obtain⟨o,e,_⟩:=id p
  exact⟨its,r,p,z,Qqz e⟩
def Itz(K:QQq)(b1 b2:Bool)(l1 l2:Addr)(vs ws:List V):It:=
 ⟨fun i H=>Qg K b1 H l1 vs/\Qg K b2 H l2 ws/\∃v u,vs[i]? =some v/\ws[i]? =some u,
  fun i H x H'=>∃p v u,H p=none/\x=.ref p/\vs[i]? =some v/\ws[i]? =some u/\H'=upd H p (.tup [v,u]),
  fun i H=>Qg K b1 H l1 vs/\Qg K b2 H l2 ws/\(vs.length<=i\/ws.length<=i)⟩
theorem jO{w:World}{K:QQq}{z TI TO i1 i2 l1 l2:Addr}{b1 b2:Bool}(D:ZipApart z TI TO i1 i2 l1 l2):
  Turn P w K tg (Itz K b1 b2 l1 l2 vs ws) [z,TI,TO,i1,i2] z (fun i h=>Ax z TI TO i1 i2 b1 b2 l1 l2 i h) where
 mem:=by simp
 obj:=fun i h st b hb=>by
  obtain⟨f0,f1,zr,_⟩:=st.zr
  obtain⟨x,y,to⟩:=st.to
  simp only[QCq,QAz,or_false]at hb
  rcases hb with rfl|rfl|rfl|rfl|rfl
  ·exact⟨_,zr,fun v z=>by cases z⟩
  ·exact⟨_,st.ti,fun v z=>by cases z⟩
  ·exact⟨_,to,fun v z=>by cases z⟩
  ·exact st.it1.obj
  ·exact st.it2.obj
 keep:=fun i h h' st k=>by
  obtain⟨f0,f1,zr,hf⟩:=st.zr
  obtain⟨x,y,to⟩:=st.to
  exact⟨⟨f0,f1,k z (by simp) _ zr,hf⟩,k TI (by simp) _ st.ti,⟨x,y,k TO (by simp) _ to⟩,st.it1.at fun o e=>k i1 (by simp) o e,st.it2.at fun o e=>k i2 (by simp) o e⟩
 item:=by
  intro X hP hw hK hc i δ s σ H E I hf st hg
  subst hP hw hK
  obtain⟨hq1,hq2,v,u,ev,eu⟩:=hg
  obtain⟨its,r1,p1,_,_⟩:=Inv.wM I hq1
  obtain⟨its2,r2,p2,_,_⟩:=Inv.wM I hq2
  obtain⟨x,ex,rx⟩:=r1.get ev
  obtain⟨y,ey,ry⟩:=r2.get eu
  obtain⟨f0,f1,zr,h0⟩:=st.zr
  obtain⟨a,b,to⟩:=st.to
  refine qb D zr h0 st.ti to st.it1 st.it2 p1 p2 (by simpa using ex) (by simpa using ey) fun h' T=>?_
  obtain⟨g0,g1,zr',h0'⟩:=T.zr
  refine⟨_,rfl,Iw zr' h0' fun h'' q0 zr'' hq0 sb=>?_⟩
  have f1':∀b∈[z,TO,i1,i2],gQ X δ H b:=fun b hb=>hf b (by
   simp only[QCq,QAz,or_false]at hb⊢
   rcases hb with h|h|h|h<;>simp[h])
  have kk:∀b o,b∉[z,TO,i1,i2]->s.heap.get? b=some o->h''.get? b=some o:=fun b o hb e=>by
   simp only[QCq,QAz,or_false,not_or]at hb
   exact sb.extBut _ _ hb.1 (T.keep b o hb.1 hb.2.1 hb.2.2.1 hb.2.2.2 e)
  have new'':=sb.extBut _ _ (by
   obtain⟨q,e,_⟩:∃q,s.heap.get? z=some q/\True:=⟨_,zr,trivial⟩
   exact Nat.ne_of_gt (Qqz e)) T.new
  have I1:Inv X δ σ (upd H s.heap.objs.size (.tup [v,u])) {s with heap:=h''}:=by
   refine Inv.uN I kk f1' (QVz _) ⟨by show 2<=sizeLine;rw[sizeLine_eq];decide,[x,y],.cons rx (.cons ry .nil),_,new'',rfl,rfl,_,rfl⟩
  refine⟨.ref s.heap.objs.size,upd H s.heap.objs.size _,I1,rfl,⟨_,v,u,I.hok.fresh (QVz _),rfl,ev,eu,rfl⟩,?_,fun b hb=>?_⟩
  ·have up:∀c o,c≠z->h'.get? c=some o->h''.get? c=some o:=fun c o hcz e=>sb.extBut _ _ hcz e
   obtain⟨a',b',to'⟩:=T.to
   exact⟨⟨q0,g1,zr'',hq0⟩,up _ _ D.TIz T.ti,⟨a',b',up _ _ D.TOz to'⟩,T.it1.at fun o e=>up _ o D.i1z e,T.it2.at fun o e=>up _ o D.i2z e⟩
  ·have lt:b<s.heap.objs.size:=by
    simp only[QCq,QAz,or_false]at hb
    rcases hb with rfl|rfl|rfl|rfl|rfl
    ·exact Qqz zr
    ·exact Qqz st.ti
    ·exact Qqz to
    ·exact st.it1.lt
    ·exact st.it2.lt
   rw[aC (Qvz lt)]
   exact(hf b hb).1
 done:=by
  intro X hP hw hK hc i δ s σ H E I hf st hg
  subst hP hw hK
  obtain⟨hq1,hq2,hend⟩:=hg
  obtain⟨its,r1,p1,_,_⟩:=Inv.wM I hq1
  obtain⟨its2,r2,p2,_,_⟩:=Inv.wM I hq2
  have l1:=r1.length
  have l2:=r2.length
  obtain⟨f0,f1,zr,h0⟩:=st.zr
  obtain⟨a,b,to⟩:=st.to
  refine rJ (I.ok.hd hc) D zr h0 st.ti to st.it1 st.it2 p1 p2 ?_ fun h' kk=>⟨rfl,?_⟩
  ·rcases hend with h|h
   ·exact .inl (by simp;omega)
   ·exact .inr (by simp;omega)
  ·refine Inv.Em (ch:=[z,TO,i1,i2]) I (fun b o hb e=>?_) fun b hb=>hf b (by
    simp only[QCq,QAz,or_false]at hb⊢
    rcases hb with h|h|h|h<;>simp[h])
   simp only[QCq,QAz,or_false,not_or]at hb
   exact kk b o hb.1 hb.2.1 hb.2.2.1 hb.2.2.2 e
 self:=fun A i s Q E st h=>by
  obtain⟨f0,f1,zr,h0⟩:=st.zr
  exact jc zr h
end Mini
end
section
namespace Mini
open PySem L2
theorem jL:∀{xs ys:List D}{i:Nat}{d:D},(aR xs ys)[i]? =some d->∃x y,xs[i]? =some x/\ys[i]? =some y/\d=.tup [x,y]
 |[],_,i,d,h=>by simp[aR]at h
 |_::_,[],i,d,h=>by simp[aR]at h
 |x::xs,y::ys,0,d,h=>by simp[aR]at h;exact⟨x,y,rfl,rfl,h.symm⟩
 |x::xs,y::ys,i+1,d,h=>by
  rw[aR,List.getElem?_cons_succ]at h
  simpa using jL h
theorem jK:∀(xs ys:List D),(aR xs ys).length=min xs.length ys.length
 |[],ys=>by simp[aR]
 |_::_,[]=>by simp[aR]
 |x::xs,y::ys=>by rw[aR,QBq,jK xs ys,QBq,QBq];omega
theorem vW{H:Hp}{b1 b2:Bool}{vs ws:List V}(h1:Qg K b1 H l1 vs)(h2:Qg K b2 H l2 ws)(d1:ak K H xs vs)(d2:ak K H ys ws)(hz:vs.length<=sizeLine):
  Gives K (Itz K b1 b2 l1 l2 vs ws) (aR xs ys) H where
 go:=fun H1 p i d e=>by
  obtain⟨x,y,ex,ey,_⟩:=jL e
  obtain⟨v,ev,_⟩:=d1.get ex
  obtain⟨u,eu,_⟩:=d2.get ey
  exact⟨p.wM h1,p.wM h2,v,u,ev,eu⟩
 yld:=fun H1 p i d e x H2 y=>by
  obtain⟨a,v,u,hn,rfl,ev,eu,rfl⟩:=y
  obtain⟨dx,dy,ex,ey,rfl⟩:=jL e
  obtain⟨v',ev',dv⟩:=d1.get ex
  obtain⟨u',eu',du⟩:=d2.get ey
  rw[ev]at ev'
  rw[eu]at eu'
  cases ev'
  cases eu'
  have pp:bV H1 (upd H1 a (.tup [v,u])):=by
   refine⟨fun b xs q=>?_,fun b o w q=>?_⟩
   ·rw[aC (fun z=>by subst z;rw[hn]at q;cases q)];exact q
   ·rw[aC (fun z=>by subst z;rw[hn]at q;cases q)];exact q
  exact⟨dD (.inl (.inl aU)) (ak.cR ((dv.mono p).mono pp) (ak.cR ((du.mono p).mono pp) ak.fj)),.inr ⟨a,_,hn,rfl⟩⟩
 stop:=fun H1 p i hi=>by
  rw[jK]at hi
  have:=d1.length
  have:=d2.length
  exact⟨p.wM h1,p.wM h2,by omega⟩
 len:=by rw[jK];have:=d1.length;omega
def bM.wM{H:Hp}{xs:List D}(h:bM K H d v)(e:bG d=some xs):∃b l vs,v=.ref l/\Qg K b H l vs/\ak K H xs vs:=by
 cases d with
 |tup ys=>cases e;obtain⟨a,vs,rfl,hq,l⟩:=cI h;exact⟨false,a,vs,rfl,hq,l⟩
 |lst ys=>cases e;obtain⟨a,vs,rfl,hq,l⟩:=dg h;exact⟨true,a,vs,rfl,hq,l⟩
 |_=>cases e
section
def abm{H1:Hp}(h:tI K W env r σ H R)(N:Nx K env σ H γ H1):tI K W γ r σ H1 R:=by
 obtain⟨_,h⟩:=h
 refine⟨N.dX,?_⟩
 cases r with
 |bad=>exact h
 |exc c ε=>exact fun H' N'=>h H' (N.trans N')
 |ok x ε=>
  obtain⟨d,xs,e1,e2,z⟩:=h
  exact⟨d,xs,e1,e2,fun J H' N' G=>z J H' (N.trans N') G⟩
theorem qQ{f:D->Ev->Out Rv}(h:tI K W env (r.ao f) σ H R)
  (k:∀d γ v H1,Nx K env σ H γ H1->bM K H1 d v->tI K W γ (f d γ) σ H1 R->R' v H1):tD K W env r σ H R':=by
 have step:∀d γ,r.ao f=f d γ->∀v H1,Nx K env σ H γ H1->bM K H1 d v->R' v H1:=fun d γ e v H1 N D=>by
  rw[e]at h
  exact k d γ v H1 N D (abm h N)
 obtain⟨S,h⟩:=h
 refine⟨S,?_⟩
 cases r with
 |bad=>exact h
 |exc c γ=>exact h
 |ok x γ=>
  cases x with
  |val d=>exact fun v H1 N D=>step d γ rfl v H1 N D
  |new xs=>exact fun v H1 N D=>step xs.d γ rfl v H1 N D
  |ref i=>exact h
  |tmp xs=>exact h
end
section
theorem YW(ha:GE X W c m1 a)(hb:GE X W c m2 b)(hg:Gl X "zip")(hm:X.mg "zip"=none)(hs:starEach [a,b] X.env=[(false,eval a X.env),(false,eval b X.env)])(hs2:starEach [b] X.env=[(false,eval b X.env)]):
  GI X W c (.zip m1 m2) tg (.Call (.Name "zip" p) [a,b] [] pos):=by
 intro env δ s σ H R I q
 let RR:List V->Hp->Prop:=fun vs H'=>∃ε d1 d2 xs ys v1 v2,vs=[v1,v2]/\bM X.K H' d1 v1/\bM X.K H' d2 v2/\bG d1=some xs/\bG d2=some ys/\Sat X.K ε σ H'/\∀J H2,Nx X.K ε σ H' ε H2->Gives X.K J (aR xs ys) H2->R J H2
 have go:aD X W c m1 σ H fun v1 H1=>aD X W c m2 σ H1 fun v2 H2=>RR [v1,v2] H2:=by
  refine⟨env,qQ q fun d1 γ v1 H1 N1 D1 q1=>⟨γ,qQ q1 fun d2 ε v2 H2 N2 D2 q2=>?_⟩⟩
  cases e1:bG d1 with
  |none=>rw[e1]at q2;exact q2.2.elim
  |some xs=>
   cases e2:bG d2 with
   |none=>rw[e1,e2]at q2;exact q2.2.elim
   |some ys=>
    rw[e1,e2]at q2
    obtain⟨S,d,zs,z1,z2,z3⟩:=q2
    cases z1
    cases z2
    exact⟨ε,d1,d2,xs,ys,v1,v2,rfl,D1.mono N2.pers,D2,e1,e2,S,z3⟩
 refine wpAny_Call_Name_kw (jf I hg hm PyProof.Rows.boot_zip ?_ (by decide) (by decide))
 refine PyProof.Rows.callWith_type1 (b8 (cG ha.d (cG hb.d eZ hs2) (by rw[hs,hs2]) pos δ s σ H RR I go) fun us s1⟨vs,H1,I1,r1,q1⟩=>?_) (by rw[hs,hs2]) (by rw[hs2];rfl)
 obtain⟨ε,d1,d2,xs,ys,v1,v2,rfl,D1,D2,e1,e2,S2,q3⟩:=q1
 obtain⟨b1,l1,vs,rfl,h1,dl1⟩:=D1.wM e1
 obtain⟨b2,l2,ws,rfl,h2,dl2⟩:=D2.wM e2
 obtain⟨u1,u2,rfl,ru1,ru2⟩:=Vals.two r1
 cases ru1
 cases ru2
 obtain⟨its,rr1,p1,z1,lt1⟩:=Inv.wM I1 h1
 obtain⟨its2,rr2,p2,z2,lt2⟩:=Inv.wM I1 h2
 refine v8 p1 p2 fun h' st sz kk=>?_
 obtain⟨f0,f1,zr,h0⟩:=st.zr
 refine jc zr ?_
 refine⟨s1.heap.objs.size+4,[s1.heap.objs.size+4,s1.heap.objs.size+2,s1.heap.objs.size+3,s1.heap.objs.size,s1.heap.objs.size+1],_,_,H1,rfl,I1.kept kk,jO (uL lt1 lt2),st,fun b hb=>?_,q3 _ H1 (Nx.refl S2) (vW h1 h2 dl1 dl2 z1)⟩
 have hb':s1.heap.objs.size<=b:=by
  simp only[QCq,QAz,or_false]at hb
  rcases hb with rfl|rfl|rfl|rfl|rfl<;>omega
 exact I1.z9 hb' (I1.hok.fresh hb')
end
def Nx.chg{env:Ev}{H0 H:Hp}{u u':HO}(N:Nx K env σ H0 env H)(S:Sat K env σ H0)(h0:H0 d=none)(h:H d=some u)(hu:Qx u):Nx K env σ H0 env (upd H d u'):=by
 have p:=iK (u':=u') h hu
 refine⟨N.dX.keep p fun i b w ow hb=>?_,N.sub,N.pers.trans p,fun b w q n=>?_,fun b q=>?_,N.bors⟩
 ·rw[aC (fun z=>by subst z;exact S.my h0 i (N.sub i b ow))];exact hb
 ·rw[aC (fun z=>by subst z;rw[h0]at q;cases q)];exact N.keep b w q n
 ·refine N.dom b ?_
  by_cases hb:b=d
  ·subst hb;rw[aU]at q;cases q
  ·rw[aC hb]at q;exact q
def O7:Qx (.dK kvs):=by
 constructor
 all_goals (intros;intro z;cases z)
def Ha:Qx (.lst vs):=by
 constructor
 all_goals (intros;intro z;cases z)
def Cx.under(X:Cx)(A:Around):Cx:={X with A:=A}
theorem Inv.under{A:Around}{σ:St}{H:Hp}(I:Inv X δ σ H s)(h1:A.handled=X.A.handled)(h2:A.frames=X.A.frames):Inv (Cx.under X A) δ σ H s:=
 ⟨⟨I.ok.mod,I.ok.kind,I.ok.glob,I.ok.blt,I.ok.above,I.ok.inj,I.ok.has,I.ok.cab,fun hc=>h1.trans (I.ok.hd hc),h2.trans I.ok.frames,I.ok.stk,I.ok.exf,I.ok.bs,I.ok.bsz,I.ok.noex,I.ok.exfs,I.ok.mz,I.ok.frf⟩,
  I.os,I.bare,I.base,I.loc,I.cell,I.free,I.freeC,I.pin,I.hok,I.len⟩
def Inv.back{A:Around}{σ:St}{H:Hp}(I:Inv (Cx.under X A) δ σ H s)(h1:X.A.handled=A.handled)(h2:X.A.frames=A.frames):Inv X δ σ H s:=
 Inv.under (X:=Cx.under X A) I h1 h2
def Gr{M:Model}{β:Type}{p:Pos}{m:Sem β}{Q:β->Shared->Prop}{E:QZq}
  (h:wpAny M A (letOwnedTupleGo (.Name x p) it u) (fun _ s=>wpAny M A m Q E s) E s):wpAny M A m Q E s:=by
 have:=QKq h
 exact this
def jy:entryFor table "dict.update.loop"=some Builtin.«dict.update.loop»:=entryFor_of_tree (by kernel_rfl)
def dH:plainId "dict.update.loop"=true:=by decide+kernel
def Af{d:D}(h:dictOf ks vs (d::r)=some p):∃k v,d=.tup [k,v]/\keyOk k=true/\dictOf (putD k v ks vs).1 (putD k v ks vs).2 r=some p:=by
 unfold dictOf at h
 split at h
 ·rename_i e;cases e
 ·rename_i k v r' e
  cases e
  split at h
  ·rename_i hk
   exact⟨k,v,rfl,hk,h⟩
  ·cases h
 ·cases h
def GK{xs:List D}(h:i<xs.length):∃d,xs[i]? =some d/\xs.drop i=d::xs.drop (i+1):=⟨xs[i],QXq h,List.drop_eq_getElem_cons h⟩
section
theorem Jr(hA:X.A=A.in1)(hc:X.calm=true)(T:Turn X.prog X.w X.K (.Name x p) J fp it tn)(G:Gives X.K J xs H1)(S:Sat X.K env τ H0)(h0:H0 d=none)
  (fin:∀s H,Inv X δ σ H s->Nx X.K env τ H0 env H->jG X.K H (.dct ks' vs') d->R (.ok (.ret .none)) s):
  ∀(n i:Nat)(s:Shared)(H:Hp)(kvs:List (Key×V))(vs:List D),xs.length-i=n->Inv X δ σ H s->(∀b∈fp,gQ X δ H b)->tn i s.heap->bV H1 H->Nx X.K env τ H0 env H->H d=some (.dK kvs)->
   ak X.K H vs (kvs.map (·.2))->dictOf (kvs.map fun q=>dN q.1) vs (xs.drop i)=some (ks',vs')->kvs.length<=i->i<=xs.length->
   codeAny (model X.prog X.w) A (.builtin "dict.update.loop" ⟨[.ref d,.ref it,rawInt ((i:Nat):Int),.none],[]⟩) R s:=by
 intro n
 induction n with
 |zero=>
  intro i s H kvs vs hn I hf st P N hd dl ho hk hi
  refine codeAny_builtin jy ?_
  rw[Around.under_plainId dH _,<-hA]
  refine QKq (QGq (T.done X rfl rfl rfl hc i δ s σ H _ I hf st (G.stop H P i (by omega))) (fun r s1 h=>?_) fun _ _ h=>h)
  obtain⟨rfl,I1⟩:=h
  rw[List.drop_eq_nil_of_le (by omega)]at ho
  cases ho
  exact QKq (QKz (QKz (fin s1 H I1 N ⟨_,hd,kvs,rfl,rfl,dl⟩)))
 |succ n ih=>
  intro i s H kvs vs hn I hf st P N hd dl ho hk hi
  have hlt:i<xs.length:=by omega
  obtain⟨dd,ed,edr⟩:=GK hlt
  rw[edr]at ho
  obtain⟨k,v,rfl,hkk,ho'⟩:=Af ho
  refine codeAny_builtin jy ?_
  rw[Around.under_plainId dH _,<-hA]
  refine QKq (QGq (T.item X rfl rfl rfl hc i δ s σ H _ I hf st (G.go H P i _ ed)) (fun r s1 h=>?_) fun _ _ h=>h)
  obtain⟨u,rfl,h⟩:=h
  refine Gr (QGq h (fun _ s2 h2=>?_) fun _ _ h=>h)
  obtain⟨y,H',I',ry,yl,st',nf⟩:=h2
  obtain⟨Dy,hH⟩:=G.yld H P i _ ed y H' yl
  obtain⟨a,ws,rfl,hq,l⟩:=cI Dy
  cases ry
  obtain⟨vk,r1,rfl,Dk,l⟩:=ak.aN.mp l
  obtain⟨vv,r2,rfl,Dv,l⟩:=ak.aN.mp l
  have:=ak.bF.mp l
  subst this
  obtain⟨kk,rfl⟩:=gm hkk
  have ek:=lH Dk
  subst ek
  obtain⟨its,rr,pt,_⟩:=I'.tuple hq
  obtain⟨uk,uv,rfl,rk,rv⟩:=Vals.two rr
  obtain⟨o,eo,ec,nn,edt⟩:=pt
  have N':Nx X.K env τ H0 env H'/\bV H H'/\H' d=some (.dK kvs):=by
   rcases hH with rfl|⟨q,ws,hq0,rfl⟩
   ·exact⟨N,bV.refl _,hd⟩
   ·have NL:=Nx.laid (o:=.tup ws) N.dX hq0
    exact⟨N.trans NL,NL.pers,by rw[aC (fun z=>by subst z;rw[hq0]at hd;cases hd)];exact hd⟩
  obtain⟨N',PP,hd'⟩:=N'
  refine QKq (Qqq ?_)
  refine QKq (wpAny_tryCatch ?_)
  refine QKq (wpAny_typeOf ⟨o,eo,ec⟩ ?_)
  refine QKq (wpAny_seqItems eo edt (QKz ?_))
  refine Qqq ?_
  obtain⟨z,hds,vvs,rel,dd⟩:=Ot I'.hok hd'
  have hz:vvs.length<=sizeLine:=by rw[<-rel.length];exact z
  have hG:=G.len
  have hl:(putK kvs kk vv).length<=i+1:=by have:=jX kvs kk vv;omega
  refine wpAny_dictSet_pairs (sJ rk) dd fun h' dd' hs=>?_
  have he:∃q,h'.get? d=some q:=let ⟨q,_,_,hq,_⟩:=dd';⟨q,hq⟩
  have p2:=iK (u':=.dK (putK kvs kk vv)) hd' O7
  obtain⟨g1,g2⟩:=Fe Dv (dl.mono PP)
  refine QKz ⟨plainId_quiet dH _,?_⟩
  refine ih (i+1) _ _ _ _ (by omega) (nJ I' (by rw[hd'];exact True.intro) hs he (Ou (by omega) hds (rel.put kk rv) dd')) (fun b hb=>?_) (T.keep _ _ _ st' fun b hb o e=>?_) ((P.trans PP).trans p2) (Nx.chg (u':=.dK (putK kvs kk vv)) N' S h0 hd' O7) aU (g2.mono p2) ?_ hl (by omega)
  ·exact⟨by rw[aC (fun e=>by subst e;rw[nf b hb]at hd';cases hd')];exact nf b hb,(hf b hb).2⟩
  ·exact(hs.2 b (fun e=>by subst e;rw[nf b hb]at hd';cases hd')).trans e
  ·rw[<-g1];exact ho'
end
section
variable{E:QZq}
def tX(hc:X.calm=true)(I:Inv X δ σ H s)(S:Sat X.K env τ H)(ho:s.heap.get? o=some ob)(hcl:ob.cls=.type T)(hT:(T !="dict")=true)(hd:dictOf [] [] xs=some pr)
  (hkey:∀(s1:Shared)(E:QZq)(Q:Option Value->Shared->Prop),s1.heap.get? o=some ob->(∀h' tk,(∀b u,s1.heap.get? b=some u->h'.get? b=some u)->Q none {s1 with heap:=h',toks:=tk})->
   wpAny (model X.prog X.w) X.A.in1.in1 (getAttr? (.ref o) "keys") Q E s1)
  (hit:∀(s1:Shared)(u:HO)(E:QZq)(Q:QZq),Inv (Cx.under X X.A.in1.in1) δ σ (upd H s.heap.objs.size u) s1->Nx X.K env τ H env (upd H s.heap.objs.size u)->(∀b u,s.heap.get? b=some u->s1.heap.get? b=some u)->
   (∀s2 it fp tn J,Inv (Cx.under X X.A.in1.in1) δ σ (upd H s.heap.objs.size u) s2->Turn X.prog X.w X.K (.Name x p) J fp it tn->tn 0 s2.heap->(∀b∈fp,gQ X δ (upd H s.heap.objs.size u) b)->Gives X.K J xs (upd H s.heap.objs.size u)->Q (.ref it) s2)->
   wpAny (model X.prog X.w) X.A.in1.in1 (pyIter (.ref o)) Q E s1)
  (h:∀a s' H',Inv X δ σ H' s'->Nx X.K env τ H env H'->jG X.K H' (.dct pr.1 pr.2) a->H a=none->Q (.ref a) s'):
  wpAny (model X.prog X.w) X.A (call (.type "dict") [.ref o]) Q E s:=by
 refine callType_codes (Q₁:=fun obj ι=>obj=.ref s.heap.objs.size/\ι={s with heap:=s.heap.push {cls:=.type "dict",data:=.dict #[]}}) PySem.F.kt_called_dict (PySem.F.kt_typeCall_dict_1 _) PySem.F.entry_dict_init (kt_code_dict_new _ ⟨rfl,rfl⟩) ?_
 rintro obj ι ⟨rfl,rfl⟩
 have hnew:(s.heap.push {cls:=.type "dict",data:=.dict #[]}).DictOf (cM X.prog X.w) s.heap.objs.size []:=Heap.DictOf.new s.heap
 have k1:∀b u,s.heap.get? b=some u->(s.heap.push {cls:=.type "dict",data:=.dict #[]}).get? b=some u:=fun _ _ q=>QWq _ q
 have hfr:=I.hok.fresh (QVz _)
 have N1:=Nx.laid (o:=.dK []) S hfr
 refine⟨hnew.typeIs,PySem.F.args_dict_init_2 _ _,?_⟩
 refine QKq ?_
 refine QKq (wpAny_notOrdered_dict hnew.typeIs ?_)
 refine QKz ?_
 show wpAny _ _ _ _ _ _
 refine QKq (wpAny_typeOf ⟨ob,k1 o ob ho,hcl⟩ ?_)
 have ht:((Value.type T) !=(Value.type "dict"))=true:=by
  have:T≠"dict":=by simpa using hT
  simpa using this
 rw[if_pos ht]
 refine QKq (hkey _ _ _ (k1 o ob ho) fun h2 tk k2=>?_)
 refine QKq (wpAny_rule ?_)
 refine QKq (hit _ _ _ _ (Inv.under ((I.laid (t':=s.toks) k1 (QVz _) (tQ s.heap I.big)).kept (t':=tk) k2) rfl rfl) N1 (fun b u q=>k2 b u (k1 b u q)) fun s3 it fp tn J I3 Tn st hf G=>?_)
 exact QKq (QKz (QKz ⟨plainId_quiet dH _,Jr (X:=Cx.under X X.A.in1.in1) rfl hc Tn G S hfr (fun s4 H4 I4 N4 O4=>⟨rfl,h _ s4 H4 (Inv.back I4 rfl rfl) N4 O4 hfr⟩) xs.length 0 s3 _ [] [] rfl I3 hf st (bV.refl _) N1 aU ak.fj hd (QVz _) (QIq _)⟩))
end
def Bh:typeLookup (.type "zip") "__len__"=pure none:=by rw[typeLookup_type,builtinLookup_eq_fast];kernel_rfl
def yw:typeLookup (.type "zip") "__length_hint__"=pure none:=by rw[typeLookup_type,builtinLookup_eq_fast];kernel_rfl
section
def Inv.abZ{s:Shared}{y:V}{u:Value}{E:QZq}(I:Inv X δ σ H s)(hd:H d=some (.lst vs))(ry:RelV y u)(hz:vs.length<sizeLine)
  (h:∀h',(∀b o,b≠d->s.heap.get? b=some o->h'.get? b=some o)->Inv X δ σ (upd H d (.lst (vs++[y]))) {s with heap:=h'}->Q () {s with heap:=h'}):
  wpAny (model X.prog X.w) A (updateSeq d (·.push u)) Q E s:=by
 obtain⟨z,its,n,r,e⟩:=(I.hok d _ hd)
 have hl:=r.length
 refine wpAny_updateSeq e rfl ?_ (by show its.toArray.size<=_;rw[Qyq];omega) (by show(its.toArray.push u).size<=_;rw[Array.size_push,Qyq];omega)
 have es:=Heap.get?_update_self (Obj.mapSeq (·.push u)) e rfl
 have oth:∀b o,b≠d->s.heap.get? b=some o->(s.heap.update d (Obj.mapSeq (·.push u))).get? b=some o:=fun b o hb q=>(Heap.get?_update_other _ _ (Ne.symm hb)).trans q
 refine h _ oth (I.write (by rw[hd];exact True.intro) (.inl rfl) (fun b q hb z=>oth b q hb z) ⟨_,es⟩ ?_)
 have ea:(its++[u]).toArray=its.toArray.push u:=by simp
 exact⟨by simp;omega,its++[u],_,Vals.append r (.cons ry .nil),by rw[ea];exact es⟩
theorem Iv(hA:X.A=A.in1)(hc:X.calm=true)(T:Turn X.prog X.w X.K (.Name x p) J fp it tn)(G:Gives X.K J xs H1)(S:Sat X.K env τ H0)(h0:H0 d=none)
  (fin:∀s H,Inv X δ σ H s->Nx X.K env τ H0 env H->jG X.K H (.lst xs) d->R (.ok (.ret .none)) s):
  ∀(n i:Nat)(s:Shared)(H:Hp)(vs:List V),xs.length-i=n->Inv X δ σ H s->(∀b∈fp,gQ X δ H b)->tn i s.heap->bV H1 H->Nx X.K env τ H0 env H->H d=some (.lst vs)->
   ak X.K H (xs.take i) vs->i<=xs.length->
   codeAny (model X.prog X.w) A (.builtin "list.extend.loop" ⟨[.ref d,.ref it,.none],[]⟩) R s:=by
 intro n
 induction n with
 |zero=>
  intro i s H vs hn I hf st P N hd dl hi
  refine codeAny_builtin PySem.F.entry_extend_loop ?_
  rw[Around.under_plainId PySem.F.plain_extend_loop _,<-hA]
  refine QKq (QGq (T.done X rfl rfl rfl hc i δ s σ H _ I hf st (G.stop H P i (by omega))) (fun r s1 h=>?_) fun _ _ h=>h)
  obtain⟨rfl,I1⟩:=h
  rw[List.take_of_length_le (by omega)]at dl
  exact QKz (fin s1 H I1 N ⟨_,hd,vs,rfl,dl⟩)
 |succ n ih=>
  intro i s H vs hn I hf st P N hd dl hi
  have hlt:i<xs.length:=by omega
  obtain⟨dd,ed,edr⟩:=GK hlt
  refine codeAny_builtin PySem.F.entry_extend_loop ?_
  rw[Around.under_plainId PySem.F.plain_extend_loop _,<-hA]
  refine QKq (QGq (T.item X rfl rfl rfl hc i δ s σ H _ I hf st (G.go H P i _ ed)) (fun r s1 h=>?_) fun _ _ h=>h)
  obtain⟨u,rfl,h⟩:=h
  refine Gr (QGq h (fun _ s2 h2=>?_) fun _ _ h=>h)
  obtain⟨y,H',I',ry,yl,st',nf⟩:=h2
  obtain⟨Dy,hH⟩:=G.yld H P i _ ed y H' yl
  have N':Nx X.K env τ H0 env H'/\bV H H'/\H' d=some (.lst vs):=by
   rcases hH with rfl|⟨q,ws,hq0,rfl⟩
   ·exact⟨N,bV.refl _,hd⟩
   ·have NL:=Nx.laid (o:=.tup ws) N.dX hq0
    exact⟨N.trans NL,NL.pers,by rw[aC (fun z=>by subst z;rw[hq0]at hd;cases hd)];exact hd⟩
  obtain⟨N',PP,hd'⟩:=N'
  have hG:=G.len
  have lv:=dl.length
  rw[List.length_take]at lv
  refine QKq (Inv.abZ I' hd' ry (by omega) fun h' oth I2=>?_)
  have p2:=iK (u':=.lst (vs++[y])) hd' Ha
  refine QKz ⟨plainId_quiet PySem.F.plain_extend_loop _,?_⟩
  refine ih _ _ _ _ (by omega) I2 (fun b hb=>?_) (T.keep _ _ _ st' fun b hb o e=>?_) ((P.trans PP).trans p2) (Nx.chg (u':=.lst (vs++[y])) N' S h0 hd' Ha) aU ?_ (by omega)
  ·exact⟨by rw[aC (fun e=>by subst e;rw[nf b hb]at hd';cases hd')];exact nf b hb,(hf b hb).2⟩
  ·exact oth b o (fun e=>by subst e;rw[nf b hb]at hd';cases hd') e
  ·have:xs.take (i+1)=xs.take i++[dd]:=by rw[List.take_add_one,ed];rfl
   rw[this]
   exact((dl.mono PP).append (ak.cR Dy ak.fj)).mono p2
end
section
variable{E:QZq}
def DX(hc:X.calm=true)(I:Inv X δ σ H s)(S:Sat X.K env τ H)(ho:s.heap.get? o=some ob)(hcl:ob.cls=.type "zip")
  (hself:∀(s1:Shared)(E:QZq)(Q:QZq),(∀b u,s.heap.get? b=some u->s1.heap.get? b=some u)->Q (.ref o) s1->wpAny (model X.prog X.w) X.A.in1.in1 (pyIter (.ref o)) Q E s1)
  (hit:∀(s1:Shared)(u:HO),Nx X.K env τ H env (upd H s.heap.objs.size u)->(∀b u,s.heap.get? b=some u->s1.heap.get? b=some u)->
   ∃fp tn J,Turn X.prog X.w X.K (.Name x p) J fp o tn/\tn 0 s1.heap/\(∀b∈fp,gQ X δ (upd H s.heap.objs.size u) b)/\Gives X.K J xs (upd H s.heap.objs.size u))
  (h:∀a s' H',Inv X δ σ H' s'->Nx X.K env τ H env H'->jG X.K H' (.lst xs) a->H a=none->Q (.ref a) s'):
  wpAny (model X.prog X.w) X.A (call (.type "list") [.ref o]) Q E s:=by
 refine callType_codes (Q₁:=fun obj ι=>obj=.ref s.heap.objs.size/\ι={s with heap:=s.heap.push {cls:=.type "list",data:=.seq #[]}}) PySem.F.called_list (PySem.F.typeCall_list_1 _) PySem.F.entry_list_init
  (code_list_new _ ⟨rfl,rfl⟩) fun obj ι Θ=>?_
 obtain⟨rfl,rfl⟩:=Θ
 have hS:(s.heap.push {cls:=.type "list",data:=.seq #[]}).get? s.heap.objs.size=some {cls:=.type "list",data:=.seq #[]}:=Qzq _ rfl
 have hfr:=I.hok.fresh (QVz _)
 have hne:s.heap.objs.size≠o:=fun e=>absurd (Qqz ho) (by rw[e];exact Nat.lt_irrefl _)
 have oth:∀f(h':Heap)b u,b≠s.heap.objs.size->h'.get? b=some u->(h'.update s.heap.objs.size (Obj.mapSeq f)).get? b=some u:=
  fun f h' b u hb e=>(Heap.get?_update_other _ _ (Ne.symm hb)).trans e
 have old:∀b u,s.heap.get? b=some u->b≠s.heap.objs.size:=fun b u e=>Qvz (Qqz e)
 refine⟨⟨_,hS,rfl⟩,PySem.F.args_list_init_2 _ _,?_⟩
 refine QKq ?_
 refine QKq (wpAny_seqItems hS rfl (QKz ?_))
 refine QKq (wpAny_updateSeq hS rfl ?_)
 have hS₂:=Heap.get?_update_self (Obj.mapSeq (fun _=>(#[]))) hS rfl
 have k2:∀b u,s.heap.get? b=some u->((s.heap.push {cls:=.type "list",data:=.seq #[]}).update s.heap.objs.size (Obj.mapSeq (fun _=>(#[])))).get? b=some u:=fun b u e=>oth _ _ b u (old b u e) ((fun _ _ q=>QWq _ q) b u e)
 refine QKq (wpAny_letGo ?_)
 have hty:(⟨(s.heap.push {cls:=.type "list",data:=.seq #[]}).update s.heap.objs.size (Obj.mapSeq (fun _=>(#[]))),s.gens,s.drawn,s.toks,s.os⟩:Shared).TypeIs (.ref o) "zip":=⟨ob,k2 o ob ho,hcl⟩
 refine QKq (wpAny_typeOf hty ?_)
 have h1:Builtin.List.listSameRef (.ref s.heap.objs.size) (.ref o)=false:=by simp[Builtin.List.listSameRef,hne]
 have h2:(Value.type "zip"==Value.type "list")=false:=by decide
 have h3:(Value.type "zip"==Value.type "tuple")=false:=by decide
 simp only[h1,h2,h3,Bool.or_false,Qxq,if_false]
 refine QKq (hself _ _ _ k2 ?_)
 refine QKq (Qqq ?_)
 refine QKq (wpAny_specialOf hty Bh ?_)
 refine QKq (wpAny_specialOf hty yw ?_)
 refine QKz ?_
 refine QKq (wpAny_rule ?_)
 refine QKq ?_
 refine QKq (wpAny_updateSeq hS₂ rfl ?_)
 have hS₃:=Heap.get?_update_self (Obj.mapSeq (·.push Value.none)) hS₂ rfl
 refine wpAny_updateSeq hS₃ rfl ?_
 have k4:∀b u,s.heap.get? b=some u->((((s.heap.push {cls:=.type "list",data:=.seq #[]}).update s.heap.objs.size (Obj.mapSeq (fun _=>(#[])))).update s.heap.objs.size (Obj.mapSeq (·.push Value.none))).update s.heap.objs.size (Obj.mapSeq (·.pop))).get? b=some u:=
  fun b u e=>oth _ _ b u (old b u e) (oth _ _ b u (old b u e) (k2 b u e))
 have N1:=Nx.laid (o:=.lst []) S hfr
 obtain⟨fp,tn,J,Tn,st,hf,G⟩:=hit {s with heap:=_} _ N1 k4
 refine QKz ⟨plainId_quiet PySem.F.plain_extend_loop _,?_⟩
 exact Iv (X:=Cx.under X X.A.in1.in1) rfl hc Tn G S hfr (fun s4 H4 I4 N4 O4=>⟨rfl,h _ s4 H4 (Inv.back I4 rfl rfl) N4 O4 hfr⟩) xs.length 0 _ _ [] rfl (Inv.under (I.laid (o:=.lst []) (t':=s.toks) k4 (QVz _) ⟨QIq _,[],_,.nil,Heap.get?_update_self (Obj.mapSeq (·.pop)) hS₃ rfl⟩) rfl rfl) hf st (bV.refl _) N1 aU ak.fj (QIq _)
end
def Gives.mono{J:It}{H H':Hp}(g:Gives K J xs H)(p:bV H H'):Gives K J xs H':=
 ⟨fun H1 q=>g.go H1 (p.trans q),fun H1 q=>g.yld H1 (p.trans q),fun H1 q=>g.stop H1 (p.trans q),g.len⟩
def Inv.Ul{E:QZq}{σ:St}{H:Hp}(I:Inv X δ σ H s):Inv {X with xe:=E} δ σ H s:=
 ⟨⟨I.ok.mod,I.ok.kind,I.ok.glob,I.ok.blt,I.ok.above,I.ok.inj,I.ok.has,I.ok.cab,I.ok.hd,I.ok.frames,I.ok.stk,I.ok.exf,I.ok.bs,I.ok.bsz,I.ok.noex,I.ok.exfs,I.ok.mz,I.ok.frf⟩,
  I.os,I.bare,I.base,I.loc,I.cell,I.free,I.freeC,I.pin,I.hok,I.len⟩
def Inv.unE{E:QZq}{σ:St}{H:Hp}(I:Inv {X with xe:=E} δ σ H s):Inv X δ σ H s:=Inv.Ul (X:={X with xe:=E}) I
theorem Inv.seqObj{X:Cx}{σ:St}{H:Hp}{b:Bool}{l:Addr}(I:Inv X δ σ H s)(h:Qg X.K b H l vs):
  ∃(its:Array Value)(k:Nat)(sl:Array (Option Value)),s.heap.get? l=some {cls:=.type (if b then "list" else "tuple"),dict:=none,data:=.seq its k,slots:=sl}:=by
 cases b with
 |true=>
  obtain⟨its,r,⟨o,n,e,c,d,dt⟩,z⟩:=I.list (Hg.sq h)
  obtain⟨oc,od,odt,os⟩:=o
  subst c d dt
  exact⟨_,_,_,e⟩
 |false=>
  obtain⟨its,r,⟨o,e,c,d,n,dt⟩,z⟩:=I.Bm h
  obtain⟨oc,od,odt,os⟩:=o
  subst c d dt
  exact⟨_,_,_,e⟩
def xF{xs:List D}(h:bG d=some xs):items d=some xs:=by
 cases d<;>simp[bG]at h<;>simp[items,h]
def Vf(K:QQq):List V->Hp->VK->Prop:=fun us H Q=>∃env τ v d xs pr,us=[v]/\Sat K env τ H/\bM K H d v/\bG d=some xs/\dictOf [] [] xs=some pr/\
 ∀a H',Nx K env τ H env H'->jG K H' (.dct pr.1 pr.2) a->H a=none->Q (.ref a) H'
section
def DY(hc:X.calm=true):fZ X (.type "dict") (Vf X.K):=by
 intro δ s σ H us ws Q I r h
 obtain⟨env,τ,v,d,xs,pr,rfl,S,Dv,es,hd,q⟩:=h
 obtain⟨u,rfl,ru⟩:=vals1 r
 obtain⟨bb,l,vs,rfl,hq,dl⟩:=Dv.wM es
 cases ru
 obtain⟨its,k,sl,eo⟩:=Inv.seqObj I hq
 refine tX (x:=("_")) (p:=default) hc I S eo rfl (by cases bb<;>decide) hd (fun s1 E Q e1 k1=>?_) (fun s1 u E Q I1 N1 k1 hQ=>?_) fun a s' H' I' N' O' h'=>⟨.ref a,H',I',rfl,q a H' N' O' h'⟩
 ·cases bb with
  |true=>exact sG e1 (I.ok.hd hc) k1
  |false=>exact qd e1 (I.ok.hd hc) k1
 ·refine QGq (Nb (tg:=.Name ("_") default) (R:=fun J H'=>Gives X.K J xs H'/\H'=upd H s.heap.objs.size u) (Inv.Ul I1) (show RelV (.ref l) _ from rfl) (Dv.mono N1.pers) (xF es) fun J g=>⟨g,rfl⟩) (fun v2 s2 h2=>?_) fun _ _ h=>h
  obtain⟨it,fp,tn,J,H',rfl,I2,T,st,hf,g,rfl⟩:=h2
  exact hQ s2 it fp tn J (Inv.unE I2) T st hf g
def Ow{σ:St}{Q:VK}(hv:m.au=none)(q:tM X.K W env (ev c (.bi .dict m) env) σ H Q):aD X W c m σ H fun v H1=>Vf X.K [v] H1 Q:=by
 simp only[uC,hv]at q
 refine⟨env,aW q fun d γ v H1 N1 D1 q1=>?_⟩
 obtain⟨z,ez,S,q3⟩:=cF q1
 simp only[b1]at ez
 cases es:bG d with
 |none=>rw[es]at ez;cases ez
 |some xs=>
  rw[es]at ez
  simp only[QHq,Qu]at ez
  cases ed:dictOf [] [] xs with
  |none=>rw[ed]at ez;cases ez
  |some pr=>
   rw[ed]at ez
   cases ez
   exact⟨γ,σ,v,d,xs,pr,rfl,S,D1,es,ed,fun a H' N O h0=>q3 _ H' N ⟨a,rfl,O,h0⟩⟩
def Ti(hc:X.calm=true)(ha:GE X W c m a)(hv:m.au=none)(hg:Gl X "dict")(hm:X.mg "dict"=none)(hs:starEach [a] X.env=[(false,eval a X.env)]):
  GE X W c (.bi .dict m) (.Call (.Name "dict" p) [a] [] pos):=fun env=>
 PE.imp (oM (DY hc) hg hm PyProof.Rows.boot_dict (cG ha.d eZ hs) (by decide) (by decide) hs rfl) fun σ H Q h=>Ow hv h
structure ag6(X:Cx)(W:Wi)(δ:QQz)(σ:St)(Q:VK)(f:D->Ev->Out Rv)(v:Value)(s:Shared):Prop where
 go:∃z TI TO i1 i2 b1 b2 l1 l2 vs ws xs ys env H,v=.ref z/\Inv X δ σ H s/\Ax z TI TO i1 i2 b1 b2 l1 l2 0 s.heap/\ZipApart z TI TO i1 i2 l1 l2/\(∀b∈[z,TI,TO,i1,i2],gQ X δ H b)/\
  Gives X.K (Itz X.K b1 b2 l1 l2 vs ws) (aR xs ys) H/\tM X.K W env (f (.lst (aR xs ys)) env) σ H Q
theorem yx{env:Ev}{s:Shared}{σ:St}{Q:VK}(ha:GE X W c m1 a)(hb:GE X W c m2 b)(hg:Gl X "zip")(hm:X.mg "zip"=none)
  (hs:starEach [a,b] X.env=[(false,eval a X.env),(false,eval b X.env)])(hs2:starEach [b] X.env=[(false,eval b X.env)])(I:Inv X δ σ H s)(q:tM X.K W env ((ev c (.zip m1 m2) env).ao f) σ H Q):
  wpAny (model X.prog X.w) X.A (eval (.Call (.Name "zip" p) [a,b] [] pos) X.env) (ag6 X W δ σ Q f) X.xe s:=by
 simp only[aeE]at q
 let RR:List V->Hp->Prop:=fun vs H'=>∃ε d1 d2 xs ys v1 v2,vs=[v1,v2]/\bM X.K H' d1 v1/\bM X.K H' d2 v2/\bG d1=some xs/\bG d2=some ys/\tM X.K W ε (f (.lst (aR xs ys)) ε) σ H' Q
 have asc:∀(o:Out Rv)g,(o.ao g).ao f=o.ao fun d e=>(g d e).ao f:=fun o g=>by
  cases o with
  |ok x e=>cases x<;>rfl
  |exc c e=>rfl
  |bad=>rfl
 rw[asc]at q
 have go:aD X W c m1 σ H fun v1 H1=>aD X W c m2 σ H1 fun v2 H2=>RR [v1,v2] H2:=by
  refine⟨env,aW q fun d1 γ v1 H1 N1 D1 q1=>⟨γ,?_⟩⟩
  rw[asc]at q1
  refine aW q1 fun d2 ε v2 H2 N2 D2 q2=>?_
  cases e1:bG d1 with
  |none=>rw[e1]at q2;exact q2.2.elim
  |some xs=>
   cases e2:bG d2 with
   |none=>rw[e1,e2]at q2;exact q2.2.elim
   |some ys=>
    rw[e1,e2]at q2
    exact⟨ε,d1,d2,xs,ys,v1,v2,rfl,D1.mono N2.pers,D2,e1,e2,q2⟩
 refine wpAny_Call_Name_kw (jf I hg hm PyProof.Rows.boot_zip ?_ (by decide) (by decide))
 refine PyProof.Rows.callWith_type1 (b8 (cG ha.d (cG hb.d eZ hs2) (by rw[hs,hs2]) pos δ s σ H RR I go) fun us s1⟨vs,H1,I1,r1,q1⟩=>?_) (by rw[hs,hs2]) (by rw[hs2];rfl)
 obtain⟨ε,d1,d2,xs,ys,v1,v2,rfl,D1,D2,e1,e2,q3⟩:=q1
 obtain⟨b1,l1,vs,rfl,h1,dl1⟩:=D1.wM e1
 obtain⟨b2,l2,ws,rfl,h2,dl2⟩:=D2.wM e2
 obtain⟨u1,u2,rfl,ru1,ru2⟩:=Vals.two r1
 cases ru1
 cases ru2
 obtain⟨its,rr1,p1,z1,lt1⟩:=Inv.wM I1 h1
 obtain⟨its2,rr2,p2,z2,lt2⟩:=Inv.wM I1 h2
 refine v8 p1 p2 fun h' st sz kk=>?_
 refine⟨s1.heap.objs.size+4,s1.heap.objs.size+2,s1.heap.objs.size+3,s1.heap.objs.size,s1.heap.objs.size+1,b1,b2,l1,l2,vs,ws,xs,ys,ε,H1,rfl,I1.kept kk,st,uL lt1 lt2,fun b hb=>?_,vW h1 h2 dl1 dl2 z1,q3⟩
 have hb':s1.heap.objs.size<=b:=by
  simp only[QCq,QAz,or_false]at hb
  rcases hb with rfl|rfl|rfl|rfl|rfl<;>omega
 exact I1.z9 hb' (I1.hok.fresh hb')
theorem Ax.lt{z TI TO i1 i2:Addr}{b1 b2:Bool}{k:Nat}(st:Ax z TI TO i1 i2 b1 b2 l1 l2 k h):∀b∈[z,TI,TO,i1,i2],b<h.objs.size:=by
 intro b hb
 obtain⟨f0,f1,zr,_⟩:=st.zr
 obtain⟨x,y,to⟩:=st.to
 simp only[QCq,QAz,or_false]at hb
 rcases hb with rfl|rfl|rfl|rfl|rfl
 ·exact Qqz zr
 ·exact Qqz st.ti
 ·exact Qqz to
 ·exact st.it1.lt
 ·exact st.it2.lt
theorem Dg(hc:X.calm=true)(ha:GE X W c m1 a)(hb:GE X W c m2 b)(hg:Gl X "zip")(hm:X.mg "zip"=none)
  (hs:starEach [a,b] X.env=[(false,eval a X.env),(false,eval b X.env)])(hs2:starEach [b] X.env=[(false,eval b X.env)])(hg':Gl X "dict")(hm':X.mg "dict"=none)
  (hs':starEach [.Call (.Name "zip" q1) [a,b] [] q2] X.env=[(false,eval (.Call (.Name "zip" q1) [a,b] [] q2) X.env)]):
  GE X W c (.bi .dict (.zip m1 m2)) (.Call (.Name "dict" p) [.Call (.Name "zip" q1) [a,b] [] q2] [] pos):=by
 intro env δ s σ H Q I q
 simp only[uC,E.au]at q
 refine wpAny_Call_Name_kw (jf I hg' hm' PyProof.Rows.boot_dict ?_ (by decide) (by decide))
 refine PyProof.Rows.callWith_type1 ?_ hs' rfl
 refine Calls.spliced_cons (b8 (yx ha hb hg hm hs hs2 I (by simpa only[uC]using q)) fun u s1 h1=>Calls.spliced_nil ?_)
 obtain⟨z,TI,TO,i1,i2,b1,b2,l1,l2,vs,ws,xs,ys,γ,H1,rfl,I1,st,ap,hf,G,q1⟩:=h1.go
 obtain⟨r,er,S,q3⟩:=cF q1
 simp only[Mini.b1,bG,QHq,Qu]at er
 cases ed:dictOf [] [] _ with
 |none=>rw[ed]at er;cases er
 |some pr=>
  rw[ed]at er
  cases er
  obtain⟨f0,f1,zr,h0⟩:=st.zr
  refine tX (x:=("_")) (p:=default) hc I1 S zr rfl (by decide) ed (fun s2 E Q e1 k1=>uI e1 (I1.ok.hd hc) k1) (fun s2 u E Q I2 N2 k2 hQ=>?_)
   fun a s' H' I' N' O' h'=>⟨.ref a,H',I',rfl,q3 _ H' N' ⟨a,rfl,O',h'⟩⟩
  refine jc (k2 _ _ zr) (hQ s2 z [z,TI,TO,i1,i2] _ _ I2 (jO ap) ((jO (P:=X.prog) (w:=X.w) (K:=X.K) (tg:=.Name ("_") default) (vs:=vs) (ws:=ws) ap).keep 0 _ _ st fun b _ o e=>k2 b o e) (fun b hb=>⟨?_,(hf b hb).2⟩) (G.mono N2.pers))
  rw[aC (Qvz (st.lt b hb))]
  exact(hf b hb).1
def De(hc:X.calm=true)(ha:GE X W c m1 a)(hb:GE X W c m2 b)(hg:Gl X "zip")(hm:X.mg "zip"=none)
  (hs:starEach [a,b] X.env=[(false,eval a X.env),(false,eval b X.env)])(hs2:starEach [b] X.env=[(false,eval b X.env)])(hg':Gl X "list")(hm':X.mg "list"=none)
  (hs':starEach [.Call (.Name "zip" q1) [a,b] [] q2] X.env=[(false,eval (.Call (.Name "zip" q1) [a,b] [] q2) X.env)]):
  GE X W c (.bi .list (.zip m1 m2)) (.Call (.Name "list" p) [.Call (.Name "zip" q1) [a,b] [] q2] [] pos):=by
 intro env δ s σ H Q I q
 simp only[uC,E.au]at q
 refine wpAny_Call_Name_kw (jf I hg' hm' PyProof.Rows.boot_list ?_ (by decide) (by decide))
 refine PyProof.Rows.callWith_type1 ?_ hs' rfl
 refine Calls.spliced_cons (b8 (yx ha hb hg hm hs hs2 I (by simpa only[uC]using q)) fun u s1 h1=>Calls.spliced_nil ?_)
 obtain⟨z,TI,TO,i1,i2,b1,b2,l1,l2,vs,ws,xs,ys,γ,H1,rfl,I1,st,ap,hf,G,q1⟩:=h1.go
 obtain⟨r,er,S,q3⟩:=cF q1
 cases er
 obtain⟨f0,f1,zr,h0⟩:=st.zr
 refine DX (x:=("_")) (p:=default) hc I1 S zr rfl (fun s2 E Q k2 hQ=>jc (k2 _ _ zr) hQ) (fun s2 u N2 k2=>?_)
  fun a s' H' I' N' O' h'=>⟨.ref a,H',I',rfl,q3 _ H' N' ⟨a,rfl,O',h'⟩⟩
 refine⟨[z,TI,TO,i1,i2],_,_,jO ap,(jO (P:=X.prog) (w:=X.w) (K:=X.K) (tg:=.Name ("_") default) (vs:=vs) (ws:=ws) ap).keep 0 _ _ st fun b _ o e=>k2 b o e,fun b hb=>⟨?_,(hf b hb).2⟩,G.mono N2.pers⟩
 rw[aC (Qvz (st.lt b hb))]
 exact(hf b hb).1
end
section
variable{E:QZq}
def yj{Q:QZq}(h:Q (.bool (!a&&b)) s):wpAny (model prog w) A (call (.builtin "int.__lt__") [.bool a,.bool b]) Q E s:=by
 refine Qzz PySem.F.slot_bool_lt (PyProof.Rows.typeIs_bool' s a) PySem.F.entry_int_lt ?_ (PySem.F.args_int_lt_2 _ _)
 have e:(decide ((if a=true then 1 else 0)< (if b=true then(1:Int)else 0)))=(!a&&b):=by cases a<;>cases b<;>rfl
 show wpAny _ _ (ret (.bool (decide ((if a=true then 1 else 0)< (if b=true then 1 else 0))))) _ _ s
 rw[e]
 exact QKz ⟨_,rfl,h⟩
def zx{Q:Bool->Shared->Prop}(h:Q (!a&&b) s):wpAny (model prog w) A (PyProof.Rows.oneLt' true (.bool a) (.bool b)) Q E s:=by
 rw[PyProof.Rows.oneLt'_eq]
 refine QKq (wpAny_cRoomFor_byValue rfl ?_)
 refine QKq (wpAny_callSpecialIfBound?_slot (PyProof.Rows.typeIs_bool' s a) PySem.F.slot_bool_lt (yj ?_))
 exact wpAny_truthy_bool h
def Cu{Q:Bool->Shared->Prop}(h:Q (!a&&b) s):wpAny (model prog w) A (PyProof.Rows.oneLt' c (.bool a) (.bool b)) Q E s:=by
 cases c with
 |true=>exact zx h
 |false=>exact PySem.W.kat_one _ _ (u6 A s a b prog w _ _ h)
theorem vP{b fin:Bool}{Q:Bool->Shared->Prop}{nx ny:Nat}:∀{vs ws:List Value}{ns ms:List Bool}(i:Nat),BoolsAre vs ns->BoolsAre ws ms->ns.length+ny=ms.length+nx->fin=decide (nx<ny)->Q (lL ns ms) s->
  PySem.W.KatLex prog w A b fin Q (vs.zip ws) i s
 |_,_,_,_,i,.nil,hw=>fun hl hf h=>by
  refine PySem.W.kat_nil ?_
  cases hw with
  |nil=>rw[Ga]at h;rw[hf];simp at hl;rw[QEz (by omega)];exact h
  |cons c hw=>rw[Gb]at h;rw[hf];simp at hl;rw[QFq (by omega)];exact h
 |_,_,_,_,i,.cons a hv,.nil=>fun hl hf h=>by
  refine PySem.W.kat_nil ?_
  rw[hf]
  simp at hl
  rw[QEz (by omega)]
  exact h
 |_,_,_,_,i,.cons a hv,.cons c hw=>fun hl hf h=>by
  rw[vJ]at h
  simp only[QBq]at hl
  refine PySem.W.kat_cons (SeqAt.EqAt.bool_bool a c prog w _ _ ?_)
  by_cases hac:a=c
  ·subst hac
   rw[if_pos rfl]at h
   rw[beq_self_eq_true]
   exact PySem.W.kat_yes (vP _ hv hw (by omega) hf h)
  ·rw[if_neg hac]at h
   rw[beq_eq_false_iff_ne.mpr hac]
   exact PySem.W.kat_no (Cu h)
def zP{x y:Addr}{ns ms:List Bool}(hx:∃o n,s.heap.get? x=some o/\o.data=.seq xs n)(hy:∃o n,s.heap.get? y=some o/\o.data=.seq ys n)(bx:BoolsAre xs.toList ns)(by':BoolsAre ys.toList ms)
  (h:Q (lL ns ms) s):wpAny (model prog w) A (PyProof.Rows.keyLt' (PyProof.Rows.tuples' b) (.ref x) (.ref y)) Q E s:=by
 obtain⟨ox,nx,ex,dx⟩:=hx
 obtain⟨oy,ny,ey,dy⟩:=hy
 have l1:=bx.length
 have l2:=by'.length
 simp at l1 l2
 exact PySem.W.kat_lt ex dx ey dy (vP 0 bx by' (by omega) rfl h)
end
end Mini
end
section
namespace Mini
open PySem L2 PyProof.Rows
section
variable{E:QZq}
def xn{vs out:List Value}{P:PySem.Fin->Shared->Prop}(ho:s.heap.get? a=some (seqObj "list" vs.toArray n))(h64:vs.length<64)(hl:out.length=vs.length)
  (h1:vs.length<2->out=vs)
  (h2:2<=vs.length->∀h':Heap,(∀b o,b≠a->s.heap.get? b=some o->h'.get? b=some o)->wpAny (model prog w) A (keyKind' vs.toArray) (fun κ s'=>s'={s with heap:=h'}/\
   (PySem.W.kas_sort vs.length).kasWp (PySem.W.kas_ask prog w A κ vs) (fun p s''=>s''={s with heap:=h'}/\(p.toList.map fun i=>vs.getD i Value.none)=out) s') (fun _ _=>False) {s with heap:=h'})
  (h:P (.done (.ret .none)) {s with heap:=sortedHeap s.heap a vs out.toArray}):
  wpAny (model prog w) A (Builtin.«list.sort» ⟨[.ref a],[]⟩) P E s:=by
 rw[list_sort_plain]
 have ha:=Qqz ho
 have hz:vs.length<=sizeLine:=by rw[sizeLine_eq];omega
 refine QKq (listItems_at ho rfl ?_)
 refine QKq (listUpdate_at ho rfl ?_ (by rw[Qyq];exact hz) (QIq _))
 obtain⟨e1,ho1⟩:∃e1,(s.heap.update a _).get? a=some (seqObj "list" #[] e1):=⟨_,get?_update_seq ho (fun _=> #[])⟩
 refine QKq (seqEpoch_at ho1 rfl ?_)
 refine QKq (wpAny_newTuple ?_ (by show vs.length<=_;exact hz))
 refine QKq (wpAny_newList ?_ (QIq _))
 refine Qqq ?_
 have ho6:(((s.heap.update a (Obj.mapSeq fun _=> #[])).push (seqObj "tuple" vs.toArray 0)).push (seqObj "list" #[] 0)).get? a=some (seqObj "list" #[] e1):=by
  rw[Heap.get?_push_ne _ _ _ (by rw[size_push',Heap.size_update];exact Qvz (Nat.lt_succ_of_lt ha)),Heap.get?_push_ne _ _ _ (by rw[Heap.size_update];exact Qvz ha)]
  exact ho1
 have kp:∀b o,b≠a->s.heap.get? b=some o->(((s.heap.update a (Obj.mapSeq fun _=> #[])).push (seqObj "tuple" vs.toArray 0)).push (seqObj "list" #[] 0)).get? b=some o:=fun b o hb e=>
  QWq _ (QWq _ ((Heap.get?_update_other _ _ (Ne.symm hb)).trans e))
 by_cases hn:vs.toArray.size<2
 ·rw[if_pos hn,if_pos hn]
  refine QKq (QKz ?_)
  refine QKq (QKz ?_)
  have em:(arrOf (SortSt.mk' general' (vs.toArray.zip vs.toArray) #[] 7 none)).map (·.2)=out.toArray:=by
   rw[h1 (by simpa using hn)]
   apply Array.toList_inj.mp
   simp[List.map_snd_zip]
  refine QKq (seqEpoch_at ho6 rfl ?_)
  rw[em]
  refine QKq (listUpdate_at ho6 rfl ?_ (QIq _) (by show out.toArray.size<=_;rw[Qyq];omega))
  simp only[bne_self_eq_false,Qxq,if_false]
  exact QKz h
 ·rw[if_neg hn,if_neg hn]
  have hn2:2<=vs.length:=by simpa using hn
  refine QKq (QGq (h2 hn2 _ kp) (fun κ s0 hk=>?_) fun _ _ x=>x.elim)
  obtain⟨rfl,hk⟩:=hk
  refine QKq (QGq (PySem.W.kat_run (Q:=fun st' s'=>∃p:Array Nat,arrOf st'=p.map _/\failedOf st'=none/\s'={s with heap:=((s.heap.update a _).push _).push _}/\(p.toList.map fun i=>vs.getD i Value.none)=out)
   rfl hn2 h64 (fun p' st' s' a1 a2 a3 a4=>⟨p',a2,a3,a4.1,a4.2⟩) hk) ?_ fun _ _ e=>e)
  rintro ⟨⟨⟩,st'⟩ s' ⟨p,har,hf,rfl,hp⟩
  have em:(arrOf st').map (·.2)=out.toArray:=by rw[PySem.W.kat_snds rfl har,hp]
  refine QKq (seqEpoch_at ho6 rfl ?_)
  rw[em]
  refine QKq (listUpdate_at ho6 rfl ?_ (QIq _) (by show out.toArray.size<=_;rw[Qyq];omega))
  rw[hf]
  simp only[bne_self_eq_false,Qxq,if_false]
  exact QKz h
def uT{vs out:List Value}(hls:s.heap.IsList l vs.toArray)(h64:vs.length<64)(hl:out.length=vs.length)(h1:vs.length<2->out=vs)
  (h2:2<=vs.length->∀h':Heap,(∀b o,s.heap.get? b=some o->h'.get? b=some o)->wpAny (model prog w) A.in1.in1 (keyKind' vs.toArray) (fun κ s'=>s'={s with heap:=h'}/\
   (PySem.W.kas_sort vs.length).kasWp (PySem.W.kas_ask prog w A.in1.in1 κ vs) (fun p s''=>s''={s with heap:=h'}/\(p.toList.map fun i=>vs.getD i Value.none)=out) s') (fun _ _=>False) {s with heap:=h'})
  (h:Q (.ref (s.heap.objs.size+1)) {s with heap:=sortedAll s.heap vs out.toArray}):
  wpAny (model prog w) A (call (.builtin "sorted") [.ref l]) Q E s:=by
 refine Calls.call_function_entry kind_sorted plain_sorted entry_sorted (args_sorted1 _) ?_
 have hz:vs.length<=sizeLine:=by rw[sizeLine_eq];omega
 refine QKq (QKz ?_)
 refine QKq (collect_list hls ?_ hz)
 refine QKq (wpAny_newList ?_ hz)
 have hsz:((s.heap.push (seqObj "list" #[] 0)).update s.heap.objs.size (Obj.mapSeq (· ++vs.toArray))).objs.size=s.heap.objs.size+1:=by
  rw[Heap.size_update,size_push']
 have hoL:(((s.heap.push (seqObj "list" #[] 0)).update s.heap.objs.size (Obj.mapSeq (· ++vs.toArray))).push (seqObj "list" vs.toArray 0)).get? (s.heap.objs.size+1)=some (seqObj "list" vs.toArray 0):=by
  rw[<-hsz];exact Qzq _ rfl
 have keep:∀b o,s.heap.get? b=some o->(((s.heap.push _).update s.heap.objs.size _).push (seqObj "list" vs.toArray 0)).get? b=some o:=fun b o q=>by
  have hlt:=Qqz q
  rw[Heap.get?_push_ne _ _ _ (by rw[hsz];exact Qvz (Nat.lt_succ_of_lt hlt)),Heap.get?_update_ne _ _ _ _ (Qvz hlt),Heap.get?_push_ne _ _ _ (Qvz hlt)]
  exact q
 rw[hsz]
 refine QKq (Qqq (Qzz slot_list_sort ⟨_,hoL,rfl⟩ entry_list_sort (xn hoL h64 hl h1 (fun hn h' kp=>?_) ⟨_,rfl,?_⟩) (args_list_sort _)))
 ·exact h2 hn h' fun b o e=>kp b o (Qvz (Nat.lt_succ_of_lt (Qqz e))) (keep b o e)
 ·exact QKz ⟨_,rfl,h⟩
theorem sH{α:Type}{cmp:Nat->Nat->(Bool->Shared->Prop)->Shared->Prop}{f:Nat->Nat->Option Bool}{Q:α->Shared->Prop}{a:α}(hc:∀i j b(C:Bool->Shared->Prop),f i j=some b->C b s->cmp i j C s):
  ∀(t:PySem.W.KasT α),KQ f t=some a->Q a s->t.kasWp cmp Q s
 |.ret x,e,q=>by cases e;exact q
 |.ask i j k,e,q=>by
  simp only[KQ]at e
  cases z:f i j with
  |none=>rw[z]at e;cases e
  |some b=>rw[z]at e;exact hc i j b _ z (sH hc (k b) e q)
end
end Mini
end
section
namespace Mini
open PySem L2
inductive fW(h:Heap):List Value->List (List Bool)->Prop
 |nil:fW h [] []
 |cons {a:Addr} {o:Obj} {arr:Array Value} {n:Nat} {b:Bool} {bs:List Bool} {vs:List Value} {rs:List (List Bool)}:h.get? a=some o->o.cls=.type "tuple"->o.data=.seq arr n->BoolsAre arr.toList (b::bs)->fW h vs rs->fW h (.ref a::vs) ((b::bs)::rs)
theorem fW.mono(k:∀b o,h.get? b=some o->h'.get? b=some o):∀{vs:List Value}{rs:List (List Bool)},fW h vs rs->fW h' vs rs
 |_,_,.nil=>.nil
 |_,_,.cons e c d b r=>.cons (k _ _ e) c d b (fW.mono k r)
theorem fW.tups:∀{vs:List Value}{rs:List (List Bool)},fW h vs rs->∃fs,PySem.W.KatTups h vs fs/\fs.length=vs.length/\∀v∈fs,∃b,v=.bool b
 |_,_,.nil=>⟨[],PySem.W.KatTups.nil,rfl,fun v z=>nomatch z⟩
 |_,_,.cons (b:=b) e c d bb r=>by
  obtain⟨fs,t,l,f⟩:=r.tups
  have h0:∃x,(‹Array Value›)[0]? =some x/\x=.bool b:=by
   rename_i arr _ _ _ _
   cases q:arr.toList with
   |nil=>rw[q]at bb;cases bb
   |cons x xs=>
    rw[q]at bb
    cases bb
    refine⟨.bool b,?_,rfl⟩
    have:arr=(Value.bool b::xs).toArray:=by rw[<-q]
    rw[this]
    rfl
  obtain⟨x,hx,rfl⟩:=h0
  refine⟨.bool b::fs,PySem.W.KatTups.cons e c d hx t,by simp[l],fun v z=>?_⟩
  rcases QCq.mp z with rfl|z
  ·exact⟨b,rfl⟩
  ·exact f v z
theorem fW.at{h:Heap}:∀{vs:List Value}{rs:List (List Bool)},fW h vs rs->∀{i:Nat}{r:List Bool},rs[i]? =some r->∃a o arr n,vs.getD i Value.none=.ref a/\h.get? a=some o/\o.data=.seq arr n/\BoolsAre arr.toList r
 |_,_,.cons e c d b t,0,r,q=>by cases q;exact⟨_,_,_,_,rfl,e,d,b⟩
 |_,_,.cons e c d b t,i+1,r,q=>by
  obtain⟨a,o,arr,n,z⟩:=t.at (by simpa using q)
  exact⟨a,o,arr,n,by simpa using z⟩
theorem tZ{K:QQq}{H:Hp}:∀{ys:List D}{bs:List Bool}{vs:List V}{us:List Value},bools ys=some bs->ak K H ys vs->Vals vs us->BoolsAre us bs
 |[],bs,vs,us,e,d,v=>by
  cases e
  rw[ak.bF.mp d]at v
  cases v
  exact .nil
 |y::ys,bs,vs,us,e,d,v=>by
  obtain⟨w,ws,rfl,h1,h2⟩:=ak.aN.mp d
  cases v with
  |cons r t=>
   cases y with
   |bl b=>
    simp only[bools]at e
    cases q:bools ys with
    |none=>rw[q]at e;cases e
    |some bs'=>
     rw[q]at e
     cases e
     cases h1
     cases r
     exact .cons b (tZ q h2 t)
   |_=>simp[bools]at e
theorem Ey{X:Cx}{δ:QQz}{σ:St}{H:Hp}{s:Shared}(I:Inv X δ σ H s):∀{xs:List D}{rs:List (List Bool)}{vs:List V}{us:List Value},ju xs=some rs->ak X.K H xs vs->Vals vs us->fW s.heap us rs
 |[],rs,vs,us,e,d,v=>by
  cases e
  rw[ak.bF.mp d]at v
  cases v
  exact .nil
 |y::ys,rs,vs,us,e,d,v=>by
  obtain⟨w,ws,rfl,h1,h2⟩:=ak.aN.mp d
  cases v with
  |cons r t=>
   cases y with
   |tup zs=>
    simp only[ju]at e
    cases q:bools zs with
    |none=>rw[q]at e;cases e
    |some bs=>
     cases bs with
     |nil=>rw[q]at e;cases e
     |cons b bs=>
      rw[q]at e
      cases q2:ju ys with
      |none=>rw[q2]at e;cases e
      |some rs'=>
       rw[q2]at e
       cases e
       obtain⟨a,us',rfl,hq,l⟩:=cI h1
       cases r
       obtain⟨its,rr,⟨o,eo,c,n,dt⟩,_⟩:=I.tuple hq
       exact .cons eo c dt (by simpa using tZ q l rr) (Ey I q2 h2 t)
   |_=>simp[ju]at e
theorem pH{H:Hp}{vs:List V}(d:ak K H xs vs)(v:Vals vs us):∀{is:List Nat}{ys:List D},sW xs is=some ys->∃ws,ak K H ys ws/\Vals ws (is.map fun i=>us.getD i Value.none)
 |[],ys,e=>by cases e;exact⟨[],ak.fj,.nil⟩
 |i::is,ys,e=>by
  simp only[sW]at e
  cases q:xs[i]? with
  |none=>rw[q]at e;cases e
  |some x=>
   rw[q]at e
   cases q2:sW xs is with
   |none=>rw[q2]at e;cases e
   |some ys'=>
    rw[q2]at e
    cases e
    obtain⟨ws,h1,h2⟩:=pH d v q2
    obtain⟨w,ew,dw⟩:=d.get q
    obtain⟨u,eu,ru⟩:=v.get ew
    refine⟨w::ws,ak.cR dw h1,?_⟩
    rw[Qyz]
    have:us.getD i Value.none=u:=by simp[List.getD,eu]
    rw[this]
    exact .cons ru h2
def cU.afZ{H:Hp}{v:V}(h:cU K H (.lst xs) v):∃a vs,v=.ref a/\km K H a vs/\ak K H xs vs:=by
 rcases h with h|⟨o,a,q,rfl,u,ha,hq⟩
 ·obtain⟨a,vs,rfl,hq,l⟩:=dg h
  exact⟨a,vs,rfl,hq.sq,l⟩
 ·cases o<;>cases q
  obtain⟨vs,rfl,l⟩:=hq
  exact⟨a,vs,rfl,.inl (.inl ha),l⟩
def U9(K:QQq):List V->Hp->VK->Prop:=fun us H Q=>∃l vs xs ys,us=[.ref l]/\km K H l vs/\ak K H xs vs/\pD xs=some ys/\∀ws,ak K H ys ws->∀a,H a=none->Q (.ref a) (upd H a (.lst ws))
section
def yg:fZ X (.builtin "sorted") (U9 X.K):=by
 intro δ s σ H us ws Q I r h
 obtain⟨l,vs,xs,ys,rfl,hq,dl,es,q⟩:=h
 obtain⟨u,rfl,ru⟩:=vals1 r
 cases ru
 obtain⟨its,rr,pl,hz⟩:=I.list hq
 have lx:=dl.length
 have lv:=rr.length
 have fin:∀zs out,ak X.K H ys zs->Vals zs out->out.length<=sizeLine->EP X δ σ Q _ {s with heap:=PyProof.Rows.sortedAll s.heap its out.toArray}:=fun zs out d v lz=>by
  obtain⟨e,ea⟩:=PyProof.Rows.sortedAll_at s.heap its out.toArray
  exact⟨.ref _,_,I.laid (fun b o x=>PyProof.Rows.sortedAll_old x) (Nat.le_succ _) (show cg X.prog X.w _ _ _ (.lst zs)from⟨by rw[v.length];exact lz,out,e,v,ea⟩),rfl,q zs d _ (I.hok.fresh (Nat.le_succ _))⟩
 unfold pD at es
 by_cases h1:xs.length<2
 ·rw[if_pos h1]at es
  cases es
  exact uT pl.isList (by omega) rfl (fun _=>rfl) (fun z=>absurd z (by omega)) (fin vs its dl rr (by omega))
 ·rw[if_neg h1]at es
  by_cases h64:xs.length<64
  ·rw[if_pos h64]at es
   unfold ada at es
   cases e1:ju xs with
   |none=>
    rw[e1]at es
    cases es
   |some rs=>
    rw[e1]at es
    simp only[QHq]at es
    cases e2:KQ _ _ with
    |none=>rw[e2]at es;cases es
    |some p=>
     rw[e2]at es
     simp only[QHq]at es
     by_cases e3:p.size=xs.length
     ·rw[if_pos e3]at es
      obtain⟨zs,d,v⟩:=pH dl rr es
      have lo:(p.toList.map fun i=>its.getD i Value.none).length=its.length:=by rw[QAq,Array.length_toList];omega
      refine uT pl.isList (by omega) lo (fun z=>absurd z (by omega)) (fun _ h' kp=>?_) (fin zs _ d v (by omega))
      have RA':=(Ey I e1 dl rr).mono kp
      obtain⟨fs,t,lf,fb⟩:=RA'.tups
      refine PySem.W.kat_kind (T:=.type "bool") t (by omega) (fun v hv=>?_) (by decide) ⟨rfl,?_⟩
      ·obtain⟨b,rfl⟩:=fb v hv
       exact PySem.W.Looks.of_pure rfl
      ·have el:its.length=xs.length:=by omega
       rw[el]
       refine sH (fun i j b C e c=>?_) _ e2 ⟨rfl,rfl⟩
       unfold adb at e
       cases ei:rs[i]? with
       |none=>rw[ei]at e;cases e
       |some ri=>
        cases ej:rs[j]? with
        |none=>rw[ei,ej]at e;cases e
        |some rj=>
         rw[ei,ej]at e
         cases e
         obtain⟨ai,oi,arri,ni,x1,x2,x3,x4⟩:=RA'.at ei
         obtain⟨aj,oj,arrj,nj,y1,y2,y3,y4⟩:=RA'.at ej
         show wpAny _ _ _ _ _ _
         rw[x1,y1]
         exact zP ⟨oi,ni,x2,x3⟩ ⟨oj,nj,y2,y3⟩ x4 y4 c
     ·rw[if_neg e3]at es;cases es
  ·rw[if_neg h64]at es;cases es
def Bv:ql X (U9 X.K) (b1 .sorted):=by
 intro env σ H x z v Q S Dx e q
 simp only[b1]at e
 cases x with
 |lst xs=>
  simp only[pF,QHq,Qu]at e
  cases es:pD xs with
  |none=>rw[es]at e;cases e
  |some ys=>
   rw[es]at e
   cases e
   obtain⟨a,vs,rfl,hq,l⟩:=Dx.afZ
   exact⟨a,vs,xs,ys,rfl,hq,l,es,fun ws d p hp=>q _ _ (Nx.laid S hp) (lq S d hp)⟩
 |_=>simp[pF]at e
end
section
def Y5{x:Str}(nm:gj X k x):GE X W c (.ref k) (.Name x pos):=by
 intro env
 refine PE.imp nm.pe fun σ H Q q=>?_
 simp only[aa0]at q
 have go:∀o,(env[k]? =some (.own o)\/env[k]? =some (.bor o))->tM X.K W env (.ok (.ref k) env) σ H Q->Kd k σ H Q:=fun o e q=>by
  have:∃a,(σ[k]?).join=some (.ref a):=by
   rcases e with e|e
   ·obtain⟨a,z,_⟩:=q.1.sl k _ e;exact⟨a,z⟩
   ·obtain⟨a,z,_⟩:=q.1.sl k _ e;exact⟨a,z⟩
  obtain⟨a,z⟩:=this
  exact⟨.ref a,bZ z,q.2 _ H (Nx.refl q.1) (bZ z)⟩
 cases e:env[k]? with
 |none=>rw[e]at q;exact q.2.elim
 |some s=>
  rw[e]at q
  cases s with
  |un=>exact q.2.elim
  |val d=>exact q.2.elim
  |own o=>exact go o (.inl e) q
  |bor o=>exact go o (.inr e) q
def Y0(h:GE X W c m e):GE X W c (.tmp m) e:=by
 intro env
 refine PE.imp (h env) fun σ H Q q=>?_
 simp only[aeG]at q
 refine⟨q.1,?_⟩
 have q2:=q.2
 cases r:ev c m env with
 |bad=>rw[r]at q2;exact q2
 |exc k γ=>rw[r]at q2;exact q2
 |ok x γ=>
  rw[r]at q2
  cases x with
  |val d=>exact False.elim q2
  |ref i=>exact False.elim q2
  |tmp o=>exact False.elim q2
  |new o=>exact q2
theorem Kg{env:Ev}{H:Hp}{f:Bool->Ev->Out Rv}(h:tT K W env (r.cC iU f) σ H Q)
  (k:∀b γ H1,Nx K env σ H γ H1->tT K W γ (f b γ) σ H1 Q->R b H1):tT K W env r σ H R:=by
 have step:∀d γ x,x.jF=some d->r=.ok x γ->∃b,iU d=some b/\∀H1,Nx K env σ H γ H1->R b H1:=fun d γ x ex er=>by
  subst er
  cases q:iU d with
  |none=>
   cases x with
   |val d'=>cases ex;simp only[Out.cC,Out.ao,q]at h;exact h.2.elim
   |new xs=>cases ex;simp only[Out.cC,Out.ao,q]at h;exact h.2.elim
   |ref i=>cases ex
   |tmp xs=>cases ex
  |some b=>
   refine⟨b,rfl,fun H1 N=>k b γ H1 N (UL ?_ N)⟩
   cases x with
   |val d'=>cases ex;simp only[Out.cC,Out.ao,q]at h;exact h
   |new xs=>cases ex;simp only[Out.cC,Out.ao,q]at h;exact h
   |ref i=>cases ex
   |tmp xs=>cases ex
 refine⟨h.1,?_⟩
 cases r with
 |bad=>exact h.2
 |exc c γ=>exact h.2
 |ok x γ=>
  cases x with
  |val d=>obtain⟨b,e,q⟩:=step d γ _ rfl rfl;exact⟨d,b,rfl,e,q⟩
  |new xs=>obtain⟨b,e,q⟩:=step xs.d γ _ rfl rfl;exact⟨xs.d,b,rfl,e,q⟩
  |ref i=>exact h.2.elim
  |tmp xs=>exact h.2.elim
def YJ(ht:GT X W c m1 t)(ha:GT X W c m2 a)(hb:GT X W c m3 b):GT X W c (.ite m1 m2 m3) (.IfExp t a b pos):=by
 intro δ s σ H Q I ⟨env,q⟩
 have e:∀w,isTrue (.IfExp t a b pos) X.env w=(isTrue t X.env _>>=fun q=>if q=true then isTrue a X.env _ else isTrue b X.env _):=fun w=>by first|rfl|rw[PySem.isTrue]|simp only[PySem.isTrue]
 refine QKq (b8 (ht δ s σ H (fun k H1=>∃γ,tT X.K W γ _ σ H1 Q) I ⟨env,Kg q fun k γ H1 N q1=>⟨γ,q1⟩⟩) fun k s1⟨H1,I1,γ,q1⟩=>?_)
 cases k with
 |true=>rw[if_pos rfl]at q1⊢;exact ha δ s1 σ H1 Q I1 ⟨γ,q1⟩
 |false=>rw[if_neg Qjz]at q1⊢;exact hb δ s1 σ H1 Q I1 ⟨γ,q1⟩
end
section
def NZ{H:Hp}{v y w:V}{Q:VK}(D1:cU K H d v)(D2:bM K H k y)(D3:bM K H x w)(e:pI d k x=some z)(q:∀u,bM K H z u->Q u H):∃a,v=.ref a/\∃o,Az H a y o/\Q (o.getD w) H:=by
 cases d with
 |cH ks ds=>
  simp only[pI]at e
  split at e
  ·rename_i hk
   cases e
   obtain⟨kk,rfl⟩:=gm hk
   have ek:=lH D2
   subst ek
   obtain⟨a,kvs,rfl,ha,rfl,l⟩:=nH D1
   refine⟨a,rfl,jD kvs kk,.inl ⟨kvs,kk,ha,rfl,rfl⟩,q _ ?_⟩
   cases e1:bI _ _ ds with
   |some d=>
    obtain⟨w,e2,e3⟩:=oU kk e1 l
    rw[e2]
    exact e3
   |none=>
    have n:=kI (kvs:=kvs) kk
    have e4:∀{ks vs:List D},vs.length=ks.length->bI (dN kk) ks vs=none->aJ (dN kk) ks=false:=by
     intro ks
     induction ks with
     |nil=>intro vs _ _;rfl
     |cons k' ks ih=>
      intro vs hl h
      cases vs with
      |nil=>simp at hl
      |cons v vs=>
       simp only[bI]at h
       split at h
       ·cases h
       ·rename_i ne
        simp[aJ,ne,ih (by simpa using hl) h]
    rw[e4 (by have:=l.length;simpa using this) e1]at n
    have e5:jD kvs kk=none:=by
     cases e6:jD kvs kk with
     |none=>rfl
     |some w=>rw[e6]at n;cases n
    rw[e5]
    exact D3
  ·cases e
 |_=>cases e
def Ng{H:Hp}{v:V}(D1:cU K H d v)(e:lV (some d)=true):∃a,v=.ref a/\IsD H a:=by
 cases d with
 |cH ks ds=>
  obtain⟨a,kvs,rfl,ha,_⟩:=nH D1
  exact⟨a,rfl,.inl ⟨kvs,ha⟩⟩
 |_=>cases e
def Th(hu:X.A.units+1<cLine)(M:M2 X o "get" apos e f cpos)(hv:∀k,m1.au=some k->∃x p,o=.Name x p/\gj X k x)(hd:GE X W c m1 o)(hk:GE X W c m2 e)(hx:GE X W c m3 f):GE X W c (.get2 m1 m2 m3) (.Call (.Attribute o "get" apos) [e,f] [] cpos):=by
 intro env
 cases qv:m1.au with
 |some i=>
  obtain⟨x,p,rfl,nm⟩:=hv i qv
  refine PE.imp (Ly hu nm.pe hk.d hx.d M) fun σ H Q q=>?_
  simp only[Ww,qv]at q
  cases e0:lV _ with
  |false=>rw[e0]at q;exact q.2.elim
  |true=>
   rw[e0]at q
   cases e1:bA i env with
   |none=>rw[e1]at e0;cases e0
   |some d0=>
    rw[e1]at e0
    obtain⟨u,eu,D0⟩:=eE q.1 e1
    obtain⟨a,rfl,ia⟩:=Ng D0 e0
    refine⟨.ref a,eu,a,rfl,ia,env,aW q fun k ε y H2 N2 D2 q2=>⟨ε,aW q2 fun x env3 z H3 N3 D3 q3=>?_⟩⟩
    obtain⟨r,er,S,q4⟩:=cF q3
    cases e2:bA i env3 with
    |none=>rw[e2]at er;cases er
    |some d3=>
     rw[e2]at er
     simp only[Option.bind]at er
     obtain⟨u',eu',D4⟩:=eE S e2
     rw[eu]at eu'
     cases eu'
     cases e3:pI d3 k x with
     |none=>rw[e3]at er;cases er
     |some w=>
      rw[e3]at er
      cases er
      obtain⟨a',ea,o,g,q5⟩:=NZ D4 (D2.mono N3.pers) D3 e3 fun u hu=>q4 u H3 (Nx.refl S) hu
      cases ea
      exact⟨o,g,q5⟩
 |none=>
  intro δ s σ H Q I q
  simp only[Ww,qv]at q
  exact q.2.elim
def aA(X:Cx)(W:Wi)(c:Cf)(m:E):TE:=fun σ H Q=>∃env,tA X.K W env (ev c m env) σ H Q
inductive Kv(X:Cx)(W:Wi)(c:Cf):E->List (Option Expr)->List Expr->List (TE×TE)->Prop
 |nil:Kv X W c .nil [] [] []
 |cons {k v r:E} {ke ve:Expr} {ks:List (Option Expr)} {vs:List Expr} {nZ:List (TE×TE)}:GE X W c k ke->GE X W c v ve->Kv X W c r ks vs nZ->Kv X W c (.cons k (.cons v r)) (some ke::ks) (ve::vs) ((aA X W c k,aA X W c v)::nZ)
def yJ{env:Ev}{H:Hp}{Q:VK}(q:QM K W env (evs c (.cons m1 m2) env) σ H R)(k:∀v H1 γ,QM K W γ (evs c m2 γ) σ H1 (fun vs H2=>R (v::vs) H2)->Q v H1):tA K W env (ev c m1 env) σ H Q:=by
 obtain⟨S,q⟩:=q
 refine⟨S,?_⟩
 simp only[evs]at q
 cases r:ev c m1 env with
 |bad=>rw[r]at q;exact q.elim
 |exc k γ=>rw[r]at q;exact q
 |ok x γ=>
  rw[r]at q
  intro v H1 N1 k1
  refine k v H1 γ ⟨N1.dX,?_⟩
  simp only[Out.bind]at q
  cases r2:evs c m2 γ with
  |bad=>rw[r2]at q;exact q.elim
  |exc k ε=>rw[r2]at q;exact fun H2 N2=>q H2 (N1.trans N2)
  |ok xs ε=>
   rw[r2]at q
   intro vs H2 N2 k2
   exact q _ H2 (N1.trans N2) ⟨v,vs,rfl,k1.on S N1 N2,k2.weaken N1.dom⟩
def n6:List (V×V)->List V
 |[]=>[]
 |p::r=>p.1::p.2::n6 r
theorem qK:∀{a b:List (V×V)},n6 a=n6 b->a=b
 |[],[]=>fun _=>rfl
 |[],_::_=>fun h=>by cases h
 |_::_,[]=>fun h=>by cases h
 |(x,y)::a,_::b=>fun h=>by
  simp only[n6,List.cons.injEq]at h
  obtain⟨rfl,rfl,h⟩:=h
  rw[qK h]
def Kv.pps{ks:List (Option Expr)}{nZ:List (TE×TE)}(h:Kv X W c es ks vs nZ):PPs X pos ks vs nZ:=by
 induction h with
 |nil=>exact Rz
 |cons hk hv _ ih=>exact Li (fun δ s σ H Q I⟨env,q⟩=>hk.ag env δ s σ H Q I q) (fun δ s σ H Q I⟨env,q⟩=>hv.ag env δ s σ H Q I q) ih
def Kv.go{ks:List (Option Expr)}{nZ:List (TE×TE)}(h:Kv X W c es ks vs nZ):∀{env:Ev}{σ:St}{H:Hp}{R:List V->Hp->Prop},QM X.K W env (evs c es env) σ H R->wK nZ σ H fun ps H2=>R (n6 ps) H2:=by
 induction h with
 |nil=>
  intro env σ H R q
  obtain⟨S,q⟩:=q
  exact q [] H (Nx.refl S) rfl
 |cons hk hv _ ih=>
  intro env σ H R q
  exact⟨env,yJ q fun x H1 γ q1=>⟨γ,yJ q1 fun y H2 ε q2=>ih q2⟩⟩
def Nx.relaid{env γ:Ev}{σ:St}{p:Addr}(S:Sat K env σ H)(hp:H p=none)(hu:Qx u)(N:Nx K env σ (upd H p u) γ H2):H2 p=some u/\Nx K env σ H γ (upd H2 p u'):=by
 have no:=S.my hp
 have e:=N.keep p u aU no
 have N0:=(Nx.laid S hp).trans N
 have P:=iK (u':=u') e hu
 refine⟨e,⟨N.dX.keep P fun i b w o q=>?_,N0.sub,N0.pers.trans P,fun b w q n=>?_,fun b q=>?_,N0.bors⟩⟩
 ·rw[aC (fun z=>by subst z;exact no i (N.sub i _ o))];exact q
 ·rw[aC ((fun b w q z=>by subst z;rw[hp]at q;cases q) b w q)];exact N0.keep b w q n
 ·by_cases hb:b=p
  ·subst hb;exact hp
  ·rw[aC hb]at q;exact N0.dom b q
def Oo{r:Rv}(h:Oq ds=some r):∃(k:SK)(v:D),ds=[fQ k,v]/\r=.new (.sdt [fQ k] [v]):=by
 unfold Oq at h
 split at h
 ·split at h
  ·rename_i hk
   obtain⟨k,rfl⟩:=jZ hk
   cases h
   exact⟨k,_,rfl,rfl⟩
  ·cases h
 ·cases h
def Ze(hu:X.A.units+2<cLine){ks:List (Option Expr)}{nZ:List (TE×TE)}(h:Kv X W c es ks vs nZ)(hall:ks.all (·.isSome)=true)(hl:ks.length=vs.length)(h0:ks≠[])(h15:ks.length<=15):GE X W c (.dsp es) (.Dict ks vs pos):=by
 intro env
 refine PE.imp (RL hu h.pps hall hl h0 h15) fun σ H Q q p hp=>?_
 simp only[aeC]at q
 obtain⟨S,q⟩:=q
 have go:QM X.K W env (evs c es env) σ (upd H p (.dK [])) (fun us H2=>H2 p=some (.dK [])/\∃k a v,us=n6 [(.ref a,v)]/\cA X.K H2 k a/\Q (.ref p) (upd H2 p (sD [(k,a,v)]))):=by
  refine⟨(Nx.laid (o:=.dK []) S hp).dX,?_⟩
  cases r:evs c es env with
  |bad=>rw[r]at q;exact q.elim
  |exc k γ=>rw[r]at q;exact fun H2 N=>q H2 ((Nx.laid S hp).trans N)
  |ok rs γ=>
   rw[r]at q
   simp only[Out.bind]at q
   cases e1:aP rs with
   |none=>rw[e1]at q;exact q.elim
   |some ds=>
    rw[e1]at q
    simp only[QHq]at q
    unfold Jq at q
    by_cases hd:(decide (ds.length<=30)&& !ds.isEmpty)=true
    ·rw[if_pos hd]at q
     cases e0:Oq ds with
     |some rv0=>
      rw[e0]at q
      intro us H2 N rv
      obtain⟨k,v,rfl,rfl⟩:=Oo e0
      obtain⟨x,w1,rfl,h1,l1⟩:=ak.aN.mp (ie.ds (by rw[Ab es env r];exact rv) e1)
      obtain⟨y,w2,rfl,h2,l2⟩:=ak.aN.mp l1
      cases ak.bF.mp l2
      obtain⟨a,rfl,ka⟩:=qU h1
      obtain⟨b1,b2⟩:=Nx.relaid S hp (by constructor<;>(intros;intro z;cases z)) N
      have P:=iK (u':=sD [(k,a,y)]) b1 (by constructor<;>(intros;intro z;cases z))
      refine⟨b1,⟨k,a,y,rfl,ka,q _ _ b2 ⟨p,rfl,⟨_,aU,[(k,a,y)],rfl,rfl,fun x hx=>?_,?_⟩,hp⟩⟩⟩
      ·cases QDz.mp hx
       obtain⟨b,q1,q2⟩:=ka
       exact⟨b,P.Hu q1,P.Hu q2⟩
      ·exact ak.aN.mpr ⟨y,[],rfl,h2.mono P,ak.fj⟩
     |none=>rw[e0]at q;exact q.elim
    ·rw[if_neg hd]at q;exact q.elim
 have:=h.go go
 refine cast ?_ this
 congr 1
 funext ps H2
 refine propext ⟨fun⟨z,f⟩=>⟨z,?_⟩,fun⟨z,f⟩=>⟨z,?_⟩⟩
 ·obtain⟨k,a,v,e,h⟩:=f
  exact⟨k,a,v,qK e,h⟩
 ·obtain⟨k,a,v,e,h⟩:=f
  exact⟨k,a,v,by rw[e],h⟩
def Zd:GE X W c .emp (.Dict [] [] pos):=by
 intro env
 refine PE.imp Lx fun σ H Q q p hp=>?_
 obtain⟨S,q⟩:=q
 exact q _ _ (Nx.laid S hp) ⟨p,rfl,⟨_,aU,[],rfl,rfl,ak.fj⟩,hp⟩
end
def Ite(K:QQq)(l:Addr)(vs:List V):It:=
 ⟨fun i H=>Hg K H l vs/\i<vs.length,
  fun i H x H'=>∃p v,H p=none/\x=.ref p/\vs[i]? =some v/\H'=upd H p (.tup [.int i,v]),
  fun i H=>Hg K H l vs/\vs.length<=i⟩
theorem Hn{w:World}{elts:List Expr}{pos:Pos}{vs:List V}(ne:e≠it):
  Turn P w K (.Tuple elts x1 pos) (Ite K l vs) [e,it] e (fun i h=>(∃old,IsEnum h e it i old)/\h.IsListIter it l i) where
 mem:=by simp
 obj:=fun i h st b hb=>by
  obtain⟨⟨old,he⟩,o,ho,_,hd⟩:=st
  simp only[QCq,QAz,or_false]at hb
  rcases hb with rfl|rfl
  ·exact⟨_,he,fun v z=>by cases z⟩
  ·exact⟨o,ho,fun v z=>by rw[hd]at z;cases z⟩
 keep:=fun i h h' st k=>by
  obtain⟨⟨old,he⟩,hit⟩:=st
  exact⟨⟨old,k e (by simp) _ he⟩,hit.at fun o q=>k it (by simp) o q⟩
 item:=by
  intro X hP hw hK hc i δ s σ H E I hf st hg
  subst hP hw hK
  obtain⟨hq,hi⟩:=hg
  obtain⟨its,r,p,_⟩:=I.list hq.sq
  have ev:=QXq hi
  obtain⟨x,ex,rx⟩:=r.get ev
  obtain⟨⟨old,he⟩,hit⟩:=st
  have lt:∀b∈[e,it],b<s.heap.objs.size:=fun b hb=>by
   obtain⟨o,ho,_⟩:=id hit
   simp only[QCq,QAz,or_false]at hb
   rcases hb with rfl|rfl
   ·exact Qqz he
   ·exact Qqz ho
  refine wpAny_pyNext_enum_item he hit p.isList (by simpa using ex) ne fun h' ho hit' hT hsz hk=>?_
  refine⟨_,rfl,wpAny_letOwnedTupleGo_enum ho fun h'' he'' sb=>?_⟩
  have kk:∀b o,b∉[e,it]->s.heap.get? b=some o->h''.get? b=some o:=fun b o hb q=>by
   simp only[QCq,QAz,or_false,not_or]at hb
   exact sb.extBut _ _ hb.1 (hk b o hb.1 hb.2 q)
  have I1:Inv X δ σ (upd H s.heap.objs.size (.tup [.int i,vs[i]])) {s with heap:=h'',toks:=s.toks+1}:=
   Inv.uN I kk hf (QVz _) ⟨by show 2<=sizeLine;rw[sizeLine_eq];decide,[.int i s.toks,x],.cons ⟨s.toks,rfl⟩ (.cons rx .nil),_,sb.extBut _ _ (Nat.ne_of_gt (lt e (by simp))) hT,rfl,rfl,_,rfl⟩
  refine⟨.ref s.heap.objs.size,_,I1,rfl,⟨_,_,I.hok.fresh (QVz _),rfl,ev,rfl⟩,⟨⟨x,by simpa using he''⟩,hit'.at fun o q=>sb.extBut _ _ (Ne.symm ne) q⟩,fun b hb=>?_⟩
  rw[aC (Qvz (lt b hb))]
  exact(hf b hb).1
 done:=by
  intro X hP hw hK hc i δ s σ H E I hf st hg
  subst hP hw hK
  obtain⟨hq,hi⟩:=hg
  obtain⟨its,r,p,_⟩:=I.list hq.sq
  obtain⟨⟨old,he⟩,hit⟩:=st
  have l1:=r.length
  exact wpAny_pyNext_enum_end (I.ok.hd hc) he hit p.isList (by simp;omega) fun h' kk=>⟨rfl,Inv.Em I (fun b o hb q=>kk b o (fun z=>hb (by simp[z])) q) hf⟩
 self:=fun A i s Q E st h=>by
  obtain⟨⟨old,he⟩,_⟩:=st
  exact wpAny_pyIter_enum he h
def GJ(xs:List D):List D:=aR (bw 0 xs.length) xs
theorem Dc{H:Hp}{vs:List V}(h1:Hg K H l vs)(d1:ak K H xs vs)(hz:vs.length<=sizeLine):Gives K (Ite K l vs) (GJ xs) H where
 go:=fun H1 p i d e=>by
  obtain⟨x,y,ex,ey,_⟩:=jL e
  obtain⟨v,ev,_⟩:=d1.get ey
  exact⟨p.Gu h1,(QCz.mp ev).1⟩
 yld:=fun H1 p i d e x H2 y=>by
  obtain⟨a,v,hn,rfl,ev,rfl⟩:=y
  obtain⟨dx,dy,ex,ey,rfl⟩:=jL e
  obtain⟨v',ev',dv⟩:=d1.get ey
  rw[ev]at ev'
  cases ev'
  rw[(iZ 0 xs.length i dx ex).1]
  have pp:bV H1 (upd H1 a (.tup [.int i,v])):=by
   refine⟨fun b xs q=>?_,fun b o w q=>?_⟩
   ·rw[aC (fun z=>by subst z;rw[hn]at q;cases q)];exact q
   ·rw[aC (fun z=>by subst z;rw[hn]at q;cases q)];exact q
  exact⟨dD (.inl (.inl aU)) (ak.cR (by simp[bM]) (ak.cR ((dv.mono p).mono pp) ak.fj)),.inr ⟨a,_,hn,rfl⟩⟩
 stop:=fun H1 p i hi=>by
  rw[GJ,jK,gA]at hi
  have:=d1.length
  exact⟨p.Gu h1,by omega⟩
 len:=by rw[GJ,jK,gA];have:=d1.length;omega
section
theorem Te{x1:_}(ha:GE X W c m1 a)(hg:Gl X "enumerate")(hm:X.mg "enumerate"=none)(hs:starEach [a] X.env=[(false,eval a X.env)]):
  GI X W c (.enum m1) (.Tuple elts x1 tp) (.Call (.Name "enumerate" p) [a] [] pos):=by
 intro env δ s σ H R I q
 let RR:List V->Hp->Prop:=fun vs H'=>∃ε xs v1,vs=[v1]/\bM X.K H' (.lst xs) v1/\Sat X.K ε σ H'/\∀J H2,Nx X.K ε σ H' ε H2->Gives X.K J (GJ xs) H2->R J H2
 have go:aD X W c m1 σ H fun v1 H1=>RR [v1] H1:=by
  refine⟨env,qQ q fun d1 γ v1 H1 N1 D1 q1=>?_⟩
  cases d1 with
  |lst xs=>
   obtain⟨S,d,zs,z1,z2,z3⟩:=q1
   cases z1
   cases z2
   exact⟨γ,xs,v1,rfl,D1,S,z3⟩
  |_=>exact q1.2.elim
 refine wpAny_Call_Name_kw (jf I hg hm PyProof.Rows.boot_enumerate ?_ (by decide) (by decide))
 refine PyProof.Rows.callWith_type1 (b8 (cG ha.d eZ hs pos δ s σ H RR I go) fun us s1⟨vs,H1,I1,r1,q1⟩=>?_) hs rfl
 obtain⟨ε,xs,v1,rfl,D1,S2,q3⟩:=q1
 obtain⟨l,vs,rfl,hq,dl⟩:=dg D1
 obtain⟨u1,rfl,ru1⟩:=Vals.one r1
 cases ru1
 obtain⟨its,rr1,p1,z1⟩:=I1.list hq.sq
 refine call_enumerate_list p1.isList fun h' he hit sz kk=>?_
 refine wpAny_pyIter_enum he ?_
 refine⟨s1.heap.objs.size+1,[s1.heap.objs.size+1,s1.heap.objs.size],_,_,H1,rfl,I1.kept kk,Hn (Nat.succ_ne_self _),⟨⟨.none,he⟩,hit⟩,fun b hb=>?_,q3 _ H1 (Nx.refl S2) (Dc hq dl z1)⟩
 have hb':s1.heap.objs.size<=b:=by
  simp only[QCq,QAz,or_false]at hb
  rcases hb with rfl|rfl<;>omega
 exact I1.z9 hb' (I1.hok.fresh hb')
end
end Mini
end
section
namespace Mini
open PySem
structure Ct where
 N:List Str
 sc:Scope
 fns:List (Str×List Bool)
 lD:List Str
 exs:List Str:=[]
 rz:List Str:=[]
def oY:List Str->Str->Option Nat
 |[],_=>none
 |y::r,x=>if x=y then some 0 else(oY r x).map (· +1)
def O1:Const->Option D
 |.none=>some .non
 |.bool b=>some (.bl b)
 |.int i=>some (.int i)
 |.str x=>some (.str x)
 |_=>none
def Wv(sc:Scope)(x:Str):Bool:=match sc.names.lookup x with
 |some .local=>true
 |some .cell=>true
 |some .free=>true
 |_=>false
def xM(sc:Scope)(x:Str):Bool:=sc.names.lookup x==some .globalImplicit
def Il(x:Str):Bool:= !(x==("__debug__":Str))&& !(x==("__classdict__":Str))
def jP(C:Ct)(x:Str):Option E:=
 if Il x then
  match oY C.N x with
  |some k=>if Wv C.sc x then some (.var k)else none
  |none=>if xM C.sc x then(oY C.lD x).map .glob else none
 else none
def opB:Operator->Option ZQ
 |.Add=>some .add
 |.Sub=>some .sub
 |.Mult=>some .mul
 |.Mod=>some .mod
 |.FloorDiv=>some .fdiv
 |.Pow=>some .pow
 |_=>none
def cmB:CmpOp->Option Cm
 |.Eq=>some .eq
 |.NotEq=>some .ne
 |.Lt=>some .lt
 |.LtE=>some .le
 |.Gt=>some .gt
 |.GtE=>some .ge
 |.In=>some .isin
 |.NotIn=>some .notin
 |.Is=>some .jJ
 |.IsNot=>some .notN
def tyB(x:Str):Option Ty:=
 if x="tuple" then some .tup else if x="list" then some .lst else if x="str" then some .str else if x="bool" then some .bool else if x="int" then some .int else if x="dict" then some .cH else none
def biB(x:Str):Option Bi:=
 if x="len" then some .len else if x="int" then some .int else if x="tuple" then some .tuple else if x="list" then some .list else if x="all" then some .all else if x="any" then some .any
 else if x="sorted" then some .sorted else if x="dict" then some .dict else none
def plain:Expr->Bool
 |.BoolOp .. |.BinOp .. |.UnaryOp .. |.IfExp .. |.ListComp .. |.Compare .. |.Call .. |.Constant .. |.Subscript .. |.Name .. |.List .. |.Tuple .. |.Dict .. =>true
 |_=>false
def E.Ni:E->Bool
 |.nil=>true
 |_=>false
def fnAt(C:Ct)(x:Str):Option (Nat×List Bool):=(oY (C.fns.map (·.1)) x).bind fun g=>(C.fns[g]?).map fun p=>(g,p.2)
def rF(scope outer:Scope):Scope:=
 {scope with names:=scope.names.map fun(n,k)=>if (k== .free&&outer.kind== .function&&outer.names.lookup n==some .cell)then(n,.cell)else(n,k)}
def rB(η N:List Str):List Str:=η++N.map fun x=>if η.contains x then(".":Str)++x else x
def uH:Expr->Option Str
 |.Name x _=>some x
 |_=>none
def WK:Expr->Option (List Str×Tg)
 |.Name x _=>some ([x],.name 0)
 |.Tuple es _ _=>(es.mapM uH).map fun xs=>(xs,.tup (List.range xs.length))
 |_=>none
noncomputable def Xc(outer inner:Scope)(η N:List Str):Bool:=
 decide (inner.kind=.function)&&decide ((rB η N).Nodup)
 &&(inner.names.all fun p=>(p.2 != .local)||((η.contains p.1||p.1==(".0":Str))&&inner.names.lookup p.1==some .local))
 &&(η.all fun x=>inner.names.lookup x==some .local)
 &&(inner.names.all fun p=>p.2 != .cell)
 &&(inner.names.all fun p=>(p.2 != .free)||outer.names.lookup p.1==some .cell||outer.names.lookup p.1==some .free)
 &&(N.all fun x=> !η.contains x||(inner.names.lookup ((".":Str)++x)).isNone)
 && !N.contains (".0":Str)
def isCall:Expr->Bool
 |.Call .. =>true
 |_=>false
def Mg(ap cp:Pos):Bool:=ap.endLine==cp.line
mutual
noncomputable def dB:Nat->Ct->Expr->Option E
 |0,_,_=>none
 |n+1,C,e=>match e with
  |.Constant k _ _=>(O1 k).map .con
  |.Name x _=>jP C x
  |.Tuple es _ _=>(wJ n C es).map .tup
  |.List es _=>(wJ n C es).map .lis
  |.BinOp a o b _=>(opB o).bind fun o=>(dB n C a).bind fun a=>(dB n C b).map fun b=>.op o a b
  |.UnaryOp o a _=>match o with
   |.USub=>(dB n C a).map .neg
   |.Not=>(dB n C a).map .not
   |_=>none
  |.BoolOp o es _=>(wJ n C es).bind fun m=>if m.Ni then none else match o with
   |.And=>some (.and m)
   |.Or=>some (.or m)
  |.Compare a ops cs _=>match ops,cs with
   |[o],[b]=>(cmB o).bind fun o=>(dB n C a).bind fun a=>(dB n C b).map fun b=>.cmp o a b
   |[o,o2],[b,d]=>(cmB o).bind fun o=>(cmB o2).bind fun o2=>(dB n C a).bind fun a=>(dB n C b).bind fun b=>(dB n C d).map fun d=>.chain o o2 a b d
   |_,_=>none
  |.IfExp t a b _=>(dB n C t).bind fun t=>(dB n C a).bind fun a=>(dB n C b).map fun b=>.ite t a b
  |.Subscript a i _=>match i with
   |.Slice lo hi st _=>match st with
    |none=>(dB n C a).bind fun a=>(trO n C lo).bind fun lo=>(trO n C hi).map fun hi=>.slc a lo hi
    |some _=>none
   |i=>(dB n C a).bind fun a=>(dB n C i).map fun i=>.idx a i
  |.Call f args kw cp=>match kw with
   |[]=>match f with
    |.Name x _=>if Il x&&xM C.sc x then(match fnAt C x with
      |some (g,fl)=>(Hq n C fl args).bind fun m=>if m.Ni then none else some (.call g m)
      |none=>trB n C x args)else none
    |.Attribute o name ap=>if Mg ap cp then(match args with
      |[e]=>if name="count" then(dB n C o).bind fun m1=>(if plain o&& !isCall o then some ()else none).bind fun _=>(dB n C e).map fun m2=>.count m1 m2
       else if name="pop" then(match o with
        |.Name x _=>(jP C x).bind fun m=>match m with
         |.var k=>(dB n C e).map fun m2=>.popAt k m2
         |_=>none
        |_=>none)
       else none
      |[e,f]=>if name="get" then(dB n C o).bind fun m1=>(if plain o&& !isCall o then some ()else none).bind fun _=>(dB n C e).bind fun m2=>(dB n C f).map fun m3=>.get2 m1 m2 m3 else none
      |_=>none)else none
    |_=>none
   |_=>none
  |.Dict ks vs _=>if ks.isEmpty&&vs.isEmpty then some .emp else if ks.length=vs.length&&decide (ks.length<=15)&& !ks.isEmpty then(Ho n C ks vs).map .dsp else none
  |.ListComp elt gens sc _=>match gens with
   |[g]=>trC n C elt g sc
   |_=>none
  |_=>none
noncomputable def Ho:Nat->Ct->List (Option Expr)->List Expr->Option E
 |0,_,_,_=>none
 |n+1,C,ks,vs=>match ks,vs with
  |[],[]=>some .nil
  |some k::ks,v::vs=>(dB n C k).bind fun k=>(dB n C v).bind fun v=>(Ho n C ks vs).map fun r=>.cons k (.cons v r)
  |_,_=>none
noncomputable def trC:Nat->Ct->Expr->Comprehension->Scope->Option E
 |0,_,_,_,_=>none
 |n+1,C,elt,g,sc=>if g.is_async=0 then(WK g.target).bind fun(η,tg)=>
   if Xc C.sc sc η C.N then
    let C2:Ct:={C with N:=rB η C.N,sc:=rF sc C.sc}
    (trI n C g.iter).bind fun it=>(match g.ifs with
     |[]=>some (E.con (.bl true))
     |[c]=>dB n C2 c
     |_=>none).bind fun cond=>(dB n C2 elt).map fun m=>.comp η.length tg it cond m
   else none else none
noncomputable def trI:Nat->Ct->Expr->Option E
 |0,_,_=>none
 |n+1,C,e=>match e with
  |.Call f args kw cp=>match f,args,kw with
   |.Name x _,[a],[]=>if x="range"&&xM C.sc x&&(fnAt C x).isNone then(dB n C a).map .range1 else dB n C e
   |.Name x _,[a,b],[]=>if x="zip"&&xM C.sc x&&(fnAt C x).isNone then(dB n C a).bind fun a=>(dB n C b).map fun b=>.zip a b else dB n C e
   |_,_,_=>dB n C e
  |_=>dB n C e
noncomputable def trB:Nat->Ct->Str->List Expr->Option E
 |0,_,_,_=>none
 |n+1,C,x,args=>match args with
  |[a,t]=>if x="isinstance" then(match t with
    |.Name y _=>if xM C.sc y then(tyB y).bind fun t=>(dB n C a).map fun a=>.isi a t else none
    |_=>none)else none
  |[a]=>match a with
   |.Call f zs kw _=>(match f,zs,kw with
    |.Name z _,[p,q],[]=>if z="zip"&&xM C.sc z&&(fnAt C z).isNone then
      (if x="dict" then(dB n C p).bind fun p=>(dB n C q).map fun q=>.bi .dict (.zip p q)
       else if x="list" then(dB n C p).bind fun p=>(dB n C q).map fun q=>.bi .list (.zip p q)else none)
     else(biB x).bind fun b=>(dB n C a).bind fun m=>if b=.dict&&m.au.isSome then some (.bi b (.rd m))else some (.bi b m)
    |_,_,_=>(biB x).bind fun b=>(dB n C a).bind fun m=>if b=.dict&&m.au.isSome then some (.bi b (.rd m))else some (.bi b m))
   |a=>(biB x).bind fun b=>(dB n C a).bind fun m=>if b=.dict&&m.au.isSome then some (.bi b (.rd m))else some (.bi b m)
  |_=>none
noncomputable def Hq:Nat->Ct->List Bool->List Expr->Option E
 |0,_,_,_=>none
 |n+1,C,fl,es=>match fl,es with
  |[],[]=>some .nil
  |false::fl,e::es=>(dB n C e).bind fun m=>(Hq n C fl es).map fun ms=>.cons m ms
  |true::fl,e::es=>(match e with
    |.Name x _=>(jP C x).bind fun m=>match m with
     |.var k=>some (E.ref k)
     |_=>none
    |e=>(dB n C e).map E.tmp).bind fun m=>(Hq n C fl es).map fun ms=>.cons m ms
  |_,_=>none
noncomputable def trO:Nat->Ct->Option Expr->Option E
 |0,_,_=>none
 |n+1,C,o=>match o with
  |none=>some .noneE
  |some e=>dB n C e
noncomputable def wJ:Nat->Ct->List Expr->Option E
 |0,_,_=>none
 |n+1,C,es=>match es with
  |[]=>some .nil
  |e::es=>(dB n C e).bind fun m=>(wJ n C es).map fun ms=>.cons m ms
end
def BK(C:Ct)(e f:Option Expr):Nat:=match e,f with
 |some (.Call (.Name x _) [.Constant (.str _) _ _] [] _),none=>if xM C.sc x&&Il x then(match oY C.exs x with|some k=>k+1|none=>0)else 0
 |_,_=>0
def Ir(sc:Scope)(x:Str):Bool:=sc.names.lookup x==some .local||sc.names.lookup x==some .cell
def slotsOf(C:Ct):List Expr->Option (List Nat)
 |[]=>some []
 |.Name x _::es=>if Ir C.sc x then(oY C.N x).bind fun i=>(slotsOf C es).map (i:: ·)else none
 |_=>none
def J8(C:Ct):Expr->Option Tg
 |.Name x _=>if Ir C.sc x then(oY C.N x).map .name else none
 |.Tuple es _ _=>(slotsOf C es).map .tup
 |_=>none
def isTup:Expr->Bool
 |.Tuple .. =>true
 |_=>false
def o5:Expr->Bool
 |.ListComp .. =>true
 |_=>false
def isSlice:Expr->Bool
 |.Slice .. =>true
 |_=>false
def trN(n:Nat)(C:Ct)(tg it:Expr):Option E:=if isTup tg then(match it with
  |.Call f as kw _=>(match f,as,kw with
   |.Name x _,[a],[]=>if x="enumerate"&&xM C.sc x&&(fnAt C x).isNone then(dB n C a).map .enum else none
   |_,_,_=>none)
  |_=>none)else none
def trF(n:Nat)(C:Ct)(tg it:Expr):Option E:=match trN n C tg it with
 |some m=>some m
 |none=>trI n C it
def rzB(C:Ct):Expr->Bool
 |.Name x _=>C.rz.contains x
 |_=>false
def trX(n:Nat)(C:Ct)(f:Expr)(args:List Expr)(kw:List Keyword):Option S:=
 match f,kw with
 |.Name x _,[]=>if Il x&&xM C.sc x then(match fnAt C x with
   |some (g,fl)=>(Hq n C fl args).bind fun m=>if m.Ni then none else some (.callx g m)
   |none=>none)else none
 |_,_=>none
mutual
noncomputable def UG:Nat->Ct->Stmt->Option S
 |0,_,_=>none
 |n+1,C,st=>match st with
  |.Return v _=>match v with
   |none=>some (.ret AAs)
   |some e=>(dB n C e).map .ret
  |.Assign ts e _=>match ts with
   |[t]=>match t with
    |.Name x _=>if Ir C.sc x then(oY C.N x).bind fun i=>(dB n C e).map fun m=>.set i m else none
    |.Tuple es _ _=>if isTup e||o5 e then none else(slotsOf C es).bind fun is=>(dB n C e).map fun m=>.setT is m
    |.Subscript o ix _=>match o with
     |.Name x _=>if o5 e||isSlice ix then none else(jP C x).bind fun v=>match v with
      |.var k=>(dB n C ix).bind fun i=>(dB n C e).map fun m=>.setIx k i m
      |_=>none
     |_=>none
    |_=>none
   |_=>none
  |.Expr e _=>match e with
   |.Call f args kw cp=>match f,args,kw with
    |.Attribute o name ap,[a],[]=>match o with
     |.Name x _=>if Mg ap cp&&name="append" then(jP C x).bind fun v=>(match v with
       |.var k=>(dB n C a).map fun m=>.append k m
       |_=>none)
      else(dB n C e).map .expr
     |_=>none
    |f,args,kw=>if rzB C f then trX n C f args kw else(dB n C e).map .expr
   |_=>none
  |.If t a b _=>(dB n C t).bind fun t=>(pX n C a).bind fun a=>(pX n C b).map fun b=>.ite t a b
  |.For tg it b el _=>match el with
   |[]=>(J8 C tg).bind fun tg'=>(trF n C tg it).bind fun it=>(pX n C b).map fun b=>.for_ tg' it b
   |_=>none
  |.While t b el _=>match el with
   |[]=>(dB n C t).bind fun t=>(pX n C b).map fun b=>.while_ t b
   |_=>none
  |.Raise e f _=>some (.raise (BK C e f))
  |_=>none
noncomputable def pX:Nat->Ct->List Stmt->Option S
 |0,_,_=>none
 |n+1,C,ss=>match ss with
  |[]=>some .nil
  |s::ss=>(UG n C s).bind fun m=>(pX n C ss).map fun ms=>.cons m ms
end
end Mini
end
section
namespace Mini
open PySem L2
def qH:List Str:=["isinstance","tuple","list","str","bool","int","dict","len","all","any","sorted","zip","range","enumerate"]
def ZW(X:Cx)(c:Cf)(g:Nat)(x:Str):Prop:=∃k f fd ps,fK X.prog X.w X.K X.mg X.base Bg k f fd ps (oA X.K ps.length (c.fn g))/\iG k X.A/\X.mg x=some (.ref f)/\PySem.W.keepIn X.K (.ref f)=true/\Binds X.K fd ps []/\∀sl,c.fn g sl=.bad\/sl.length=ps.length
structure iH(C:Ct)(X:Cx)(c:Cf):Prop where
 N:X.N=C.N
 sc:X.env.scope=C.sc
 nd:C.N.Nodup
 calm:X.calm=true
 hu:X.A.units+60<cLine
 bi:∀x∈qH,X.mg x=none
 gl:∀k x,C.lD[k]? =some x->∃d,c.gl k=some d/\adw X x d
 fn:∀g x fl,C.fns[g]? =some (x,fl)->ZW X c g x
structure Sd(X:Cx)(c:Cf)(m:E)(e:Expr):Prop where
 ge:GE X W0 c m e
 gt:GT X W0 c m e
 pl:plain e=true
 va:∀k,m.au=some k->∃x p,e=.Name x p/\gj X k x
 nn:m.jJ=false
theorem gW:∀{N:List Str}{x:Str}{k:Nat},oY N x=some k->N[k]? =some x
 |[],_,_,h=>by cases h
 |y::r,x,k,h=>by
  unfold oY at h
  split at h
  ·rename_i e;cases h;subst e;rfl
  ·cases q:oY r x with
   |none=>rw[q]at h;cases h
   |some j=>rw[q]at h;cases h;simpa using gW q
def Wu{x:Str}(h:Wv sc x=true):Vis sc x:=by
 unfold Wv at h
 unfold Vis
 cases q:sc.names.lookup x with
 |none=>rw[q]at h;cases h
 |some k=>rw[q]at h;cases k<;>simp at h<;>simp
def qw(h:Il x=true):(x==("__debug__":Str))=false/\(x==("__classdict__":Str))=false:=by
 unfold Il at h
 rw[QUq]at h
 exact⟨by simpa using h.1,by simpa using h.2⟩
section
def j4(O:iH C X c)(h:xM C.sc x=true):Gl X x:=by
 unfold xM at h
 show X.env.scope.names.lookup x=_
 rw[O.sc]
 simpa using h
def bC(h:plain e=true)es env:starEach (e::es) env=(false,eval e env)::starEach es env:=by
 cases e<;>first|rfl|exact absurd (h) Qjz
def rT(h:plain e=true)o:behindInMarks o e=false:=by
 cases e<;>first|rfl|exact absurd (h) Qjz
def xQ(h:plain e=true)env x:foldedSetIterable e env x=pure x:=by
 cases e<;>first|rfl|exact absurd (h) Qjz
def Cp(h:plain e=true):yq e:=by
 intro o i
 cases e<;>first|rfl|exact absurd (h) Qjz
def tame:Expr->Bool
 |.UnaryOp .Not .. |.BoolOp .. |.IfExp .. |.Compare .. =>false
 |_=>true
def Nv(h:GE X W0 c m e)(hp:plain e=true)(ht:tame e=true):GT X W0 c m e:=by
 refine h.t fun whole=>?_
 cases e with
 |UnaryOp o a q=>cases o<;>first|rfl|exact absurd (ht) Qjz
 |_=>first|rfl|exact absurd (hp) Qjz|exact absurd (ht) Qjz
def Ex(O:iH C X c)(h:jP C x=some m):Sd X c m (.Name x p):=by
 unfold jP at h
 split at h
 ·rename_i nb
  obtain⟨n1,n2⟩:=qw nb
  cases q:oY C.N x with
  |some k=>
   rw[q]at h
   simp only at h
   split at h
   ·rename_i hv
    cases h
    have nm:gj X k x:=⟨by rw[O.N];exact gW q,by rw[O.sc];exact Wu hv,n1,n2⟩
    exact⟨nm.ge,Nv nm.ge rfl rfl,rfl,fun k' e=>by cases e;exact⟨x,p,rfl,nm⟩,rfl⟩
   ·cases h
  |none=>
   rw[q]at h
   simp only at h
   split at h
   ·rename_i hg
    cases q2:oY C.lD x with
    |none=>rw[q2]at h;cases h
    |some k=>
     rw[q2]at h
     cases h
     obtain⟨d,hk,ok⟩:=O.gl k x (gW q2)
     have ge:GE X W0 c _ (.Name x p):=Tf hk ok (j4 O hg) n1
     exact⟨ge,Nv ge rfl rfl,rfl,fun k' e=>(by cases e),rfl⟩
   ·cases h
 ·cases h
def Fq(O:iH C X c)(h:jP C x=some (.var k)):gj X k x:=by
 obtain⟨y,q,e,nm⟩:=(Ex (p:=default) O h).va k rfl
 cases e
 exact nm
inductive Al(X:Cx)(c:Cf):E->List Expr->Prop
 |nil:Al X c .nil []
 |cons {m ms:E} {e:Expr} {es:List Expr}:Sd X c m e->Al X c ms es->Al X c (.cons m ms) (e::es)
theorem Al.ga:∀{ms:E}{es:List Expr},Al X c ms es->GA X W0 c ms es
 |_,_,.nil=>Di
 |_,_,.cons h t=>lE h.ge t.ga (bC h.pl _ _)
theorem Al.and{es:List Expr}:∀{m ms:E}{e:Expr},Al X c (.cons m ms) (e::es)->GE X W0 c (.and (.cons m ms)) (.BoolOp .And (e::es) pos)/\GW X W0 c (.and (.cons m ms)) (.BoolOp .And (e::es) pos):=by
 induction es with
 |nil=>intro m ms e h;cases h with|cons h t=>cases t;exact⟨Tq h.ge,S5 h.gt⟩
 |cons e2 es ih=>intro m ms e h;cases h with|cons h t=>cases t with|cons h2 t=>exact⟨Zh h.ge (ih (.cons h2 t)).1,YL h.gt (ih (.cons h2 t)).2⟩
theorem Al.or{es:List Expr}:∀{m ms:E}{e:Expr},Al X c (.cons m ms) (e::es)->GE X W0 c (.or (.cons m ms)) (.BoolOp .Or (e::es) pos)/\GW X W0 c (.or (.cons m ms)) (.BoolOp .Or (e::es) pos):=by
 induction es with
 |nil=>intro m ms e h;cases h with|cons h t=>cases t;exact⟨Y6 h.ge,YG h.gt⟩
 |cons e2 es ih=>intro m ms e h;cases h with|cons h t=>cases t with|cons h2 t=>exact⟨acR h.ge (ih (.cons h2 t)).1,acM h.gt (ih (.cons h2 t)).2⟩
def Yb{q:ZQ}(h:opB o=some q):o=acg q:=by
 cases o<;>first|(cases (h);rfl)|cases (h)
def DG{q:Cm}(h:cmB o=some q):o=eV q:=by
 cases o<;>first|(cases (h);rfl)|cases (h)
def OJ{d:D}(h:O1 k=some d):Fo d k=true:=by
 cases k<;>simp[O1]at h<;>subst h<;>simp[Fo]
def WF(h:tyB x=some t):x=Str.ofString (tyN t)/\x∈qH:=by
 unfold tyB at h
 split at h
 ·rename_i e;cases h;subst e;exact⟨rfl,by decide⟩
 split at h
 ·rename_i e;cases h;subst e;exact⟨rfl,by decide⟩
 split at h
 ·rename_i e;cases h;subst e;exact⟨rfl,by decide⟩
 split at h
 ·rename_i e;cases h;subst e;exact⟨rfl,by decide⟩
 split at h
 ·rename_i e;cases h;subst e;exact⟨rfl,by decide⟩
 split at h
 ·rename_i e;cases h;subst e;exact⟨rfl,by decide⟩
 cases h
def VH(O:iH C X c)(h:biB x=some bb)(hg:xM C.sc x=true)(ha:Sd X c m a)(hd:bb=.dict->m.au=none):GE X W0 c (.bi bb m) (.Call (.Name x p) [a] [] pos):=by
 have hs:=bC ha.pl [] X.env
 have hG:=j4 O hg
 unfold biB at h
 split at h
 ·rename_i e;cases h;subst e;exact xP Jw Rc ha.ge ha.va hG (O.bi _ (by decide)) PySem.boot_len (by decide) (by decide) hs
 split at h
 ·rename_i e;cases h;subst e;exact Dh Jx Rf ha.ge ha.va hG (O.bi _ (by decide)) PyProof.Rows.boot_int (by decide) (by decide) hs
 split at h
 ·rename_i e;cases h;subst e;exact Dh uK HF ha.ge ha.va hG (O.bi _ (by decide)) PyProof.Rows.boot_tuple (by decide) (by decide) hs
 split at h
 ·rename_i e;cases h;subst e;exact Dh (DW O.calm) KR ha.ge ha.va hG (O.bi _ (by decide)) PyProof.Rows.boot_list (by decide) (by decide) hs
 split at h
 ·rename_i e;cases h;subst e;exact xP (Jz O.calm) Rh ha.ge ha.va hG (O.bi _ (by decide)) PyProof.Rows.boot_all (by decide) (by decide) hs
 split at h
 ·rename_i e;cases h;subst e;exact xP (Jy O.calm) Rg ha.ge ha.va hG (O.bi _ (by decide)) PyProof.Rows.boot_any (by decide) (by decide) hs
 split at h
 ·rename_i e;cases h;subst e;exact xP yg Bv ha.ge ha.va hG (O.bi _ (by decide)) PyProof.Rows.boot_sorted (by decide) (by decide) hs
 split at h
 ·rename_i e;cases h;subst e;exact Ti O.calm ha.ge (hd rfl) hG (O.bi _ (by decide)) hs
 cases h
end
def By{env:Env}(h:env.scope=outer):relabel sc env=rF sc outer:=by
 subst h
 rfl
def KH{η N:List Str}(h:Xc outer inner η N=true):(rB η N).Nodup:=by
 unfold Xc at h
 simp only[QUq,QUz]at h
 exact h.1.1.1.1.1.1.2
def KD{η N:List Str}(h:Xc outer inner η N=true):JG outer inner η N:=by
 unfold Xc at h
 simp only[QUq,QUz,List.all_eq_true,Bool.or_eq_true,bne_iff_ne,beq_iff_eq,Bool.not_eq_true',ne_eq]at h
 obtain⟨⟨⟨⟨⟨⟨⟨h1,h2⟩,h3⟩,h4⟩,h5⟩,h6⟩,h7⟩,h8⟩:=h
 refine⟨h1,h2,fun x hx=>?_,fun p hp hl=>?_,h4,h5,fun p hp hf=>?_,fun x hx ht=>?_,fun hx=>?_⟩
 ·rcases h3 _ (PySem.mem_of_lookup hx)with z|z
  ·exact absurd rfl z
  ·rcases z.1 with z|z
   ·exact .inl (by simpa using z)
   ·exact .inr z
 ·rcases h3 p hp with z|z
  ·exact absurd hl z
  ·exact z.2
 ·rcases h6 p hp with (z|z)|z
  ·exact absurd hf z
  ·exact .inl z
  ·exact .inr z
 ·rcases h7 x hx with z|z
  ·rw[ht]at z;cases z
  ·simpa using z
 ·have:N.contains (".0")=true:=by simpa using hx
  rw[this]at h8;cases h8
section
variable{sc:Scope}
theorem iH.blk(O:iH C X c)(hs:Xc C.sc sc η C.N=true){fp:List Addr}{H₀:Hp}:iH {C with N:=rB η C.N,sc:=rF sc C.sc} (Mini.blk X sc cl (bW η X.N) fp s₀ H₀) c:=
 ⟨by show bW η X.N=rB η C.N;rw[O.N];rfl,By O.sc,KH hs,O.calm,O.hu,O.bi,O.gl,O.fn⟩
theorem rP{sc:Scope}{N:List Str}:∀{es:List Expr}{xs:List Str}(k:Nat),es.mapM uH=some xs->(∀j x,xs[j]? =some x->N[k+j]? =some x)->(∀x∈xs,sc.names.lookup x=some .local)->gU sc N (List.range' k xs.length) es=true
 |[],xs,k,h,_,_=>by
  simp at h;subst h;rfl
 |e::es,xs,k,h,hN,hl=>by
  rw[List.mapM_cons]at h
  cases q:uH e with
  |none=>rw[q]at h;cases h
  |some x=>
   rw[q]at h
   cases q2:es.mapM uH with
   |none=>rw[q2]at h;cases h
   |some ys=>
    rw[q2]at h
    cases h
    cases e<;>simp[uH]at q
    subst q
    rw[QBq,List.range'_succ]
    unfold gU
    rw[rP _ q2 (fun j y e=>by have:=hN (j+1) y (by simpa using e);rw[<-this];congr 1;omega) (fun y hy=>hl y (QYq _ hy))]
    have:=hN 0 _ rfl
    simp at this
    simp[this,hl _ QYz]
theorem rQ:∀{es:List Expr}{xs:List Str},es.mapM uH=some xs->(assignEach es env).length=xs.length/\(assignEach es env).findIdx? (·.1)=none
 |[],xs,h=>by simp at h;subst h;exact⟨rfl,rfl⟩
 |e::es,xs,h=>by
  rw[List.mapM_cons]at h
  cases q:uH e with
  |none=>rw[q]at h;cases h
  |some x=>
   rw[q]at h
   cases q2:es.mapM uH with
   |none=>rw[q2]at h;cases h
   |some ys=>
    rw[q2]at h
    cases h
    obtain⟨i1,i2⟩:=rQ (env:=env) q2
    cases e<;>simp[uH]at q
    constructor
    ·show(_::assignEach es env).length=_
     simp[i1]
    ·show(List.findIdx? (·.1) ((false,_)::assignEach es env))=none
     rw[List.findIdx?_cons]
     simp[i2]
def abd(O:iH C X c){tgE:Expr}(ht:WK tgE=some (η,tg))(hs:Xc C.sc sc η C.N=true):(∀i∈slots tg,i<η.length)/\∀(cl:List (Str×Addr))(fp:List Addr)(s₀:Shared)(H₀:Hp),GG (Mini.blk X sc cl (bW η X.N) fp s₀ H₀) tg tgE:=by
 have lc:∀x∈η,∀cl fp s₀ H₀,(Mini.blk X sc cl (bW η X.N) fp s₀ H₀).env.scope.names.lookup x=some .local:=fun x hx cl fp s₀ H₀=>lookup_relabel_local ((KD hs).tg x hx)
 have nd:∀cl fp s₀ H₀,(Mini.blk X sc cl (bW η X.N) fp s₀ H₀).N.Nodup:=fun cl fp s₀ H₀=>by
  rw[O.N]
  exact KH hs
 cases tgE<;>simp only[WK]at ht<;>try (cases ht;done)
 ·rename_i x q
  cases ht
  refine⟨fun i hi=>?_,fun cl fp s₀ H₀=>xN (nd cl fp s₀ H₀) rfl (.inl (lc x (by simp) cl fp s₀ H₀)) (.inr (lc x (by simp) cl fp s₀ H₀))⟩
  simp[slots]at hi
  subst hi
  simp
 ·rename_i es k q
  cases qm:es.mapM uH with
  |none=>rw[qm]at ht;cases ht
  |some xs=>
   rw[qm]at ht
   cases ht
   refine⟨fun i hi=>by simpa[slots]using hi,fun cl fp s₀ H₀=>?_⟩
   obtain⟨l1,l2⟩:=rQ qm
   refine Dd (nd cl fp s₀ H₀) O.calm (Ml ?_) (by simp[l1]) l2
   have:=rP (N:=(Mini.blk X sc cl (bW η X.N) fp s₀ H₀).N) 0 qm (fun j x e=>?_) (fun x hx=>lc x hx cl fp s₀ H₀)
   ·rwa[List.range_eq_range']
   ·show(bW η X.N)[0+j]? =some x
    unfold bW
    rw[Nat.zero_add,Qwz (QCz.mp e).1]
    exact e
end
inductive Ar(X:Cx)(c:Cf):E->List Expr->Prop
 |nil:Ar X c .nil []
 |cons {m ms:E} {e:Expr} {es:List Expr}:GE X W0 c m e->plain e=true->Ar X c ms es->Ar X c (.cons m ms) (e::es)
theorem Ar.ga{c:Cf}:∀{ms:E}{es:List Expr},Ar X c ms es->GA X W0 c ms es
 |_,_,.nil=>Di
 |_,_,.cons h p t=>lE h t.ga (bC p _ _)
theorem Ar.plain{c:Cf}:∀{ms:E}{es:List Expr},Ar X c ms es->(backTo pos (starEach es X.env)).any (·.1)=false
 |_,_,.nil=>rfl
 |_,_,.cons h p t=>by
  rw[bC p]
  have:=t.plain (pos:=pos)
  simpa[backTo]using this
def Ei(X:Cx)(c:Cf)(m:E)(elt:Expr)(g:Comprehension)(sc:Scope):Prop:=
 ∃η tg it cond m',m=.comp η.length tg it cond m'/\Ba X c sc η tg cond m' g.target elt g.ifs/\GI X W0 c it g.target g.iter/\plain g.iter=true/\g.is_async=0
structure Ih(c:Cf)(n:Nat):Prop where
 e:∀C X e m,iH C X c->dB n C e=some m->Sd X c m e
 es:∀C X es m,iH C X c->wJ n C es=some m->Al X c m es
 a:∀C X fl es m,iH C X c->Hq n C fl es=some m->Ar X c m es
 o:∀C X o m,iH C X c->trO n C o=some m->GO X W0 c m o
 b:∀C X x args m p pos,iH C X c->xM C.sc x=true->trB n C x args=some m->GE X W0 c m (.Call (.Name x p) args [] pos)/\m.au=none/\m.jJ=false
 i:∀C X tg e m,iH C X c->trI n C e=some m->GI X W0 c m tg e/\plain e=true
 k:∀C X elt g sc m,iH C X c->trC n C elt g sc=some m->Ei X c m elt g sc
 d:∀C X ks vs m,iH C X c->Ho n C ks vs=some m->∃nZ,Kv X W0 c m ks vs nZ/\ks.all (·.isSome)=true
def ih0 c:Ih c 0:=by
 constructor
 all_goals (intros;rename_i h;first|(rw[dB]at h;cases h)|(rw[wJ]at h;cases h)|(rw[Hq]at h;cases h)|(rw[trO]at h;cases h)|(rw[trB]at h;cases h)|(rw[trI]at h;cases h)|(rw[trC]at h;cases h)|(rw[Ho]at h;cases h))
section
def QR(I:Ih c n)(O:iH C X c)(h:wJ (n+1) C es=some m):Al X c m es:=by
 cases es with
 |nil=>rw[wJ]at h;cases h;exact .nil
 |cons e es=>
  rw[wJ]at h
  simp only[QJq,QJz]at h
  obtain⟨m1,h1,m2,h2,rfl⟩:=h
  exact .cons (I.e C X e m1 O h1) (I.es C X es m2 O h2)
def W3(I:Ih c n)(O:iH C X c){vs:List Expr}(h:Ho (n+1) C ks vs=some m):∃nZ,Kv X W0 c m ks vs nZ/\ks.all (·.isSome)=true:=by
 unfold Ho at h
 split at h
 ·cases h;exact⟨[],.nil,rfl⟩
 ·simp only[QJq,QJz]at h
  obtain⟨k1,h1,v1,h2,r,h3,rfl⟩:=h
  obtain⟨nZ,K,a⟩:=I.d C X _ _ r O h3
  exact⟨_,.cons (I.e C X _ k1 O h1).ge (I.e C X _ v1 O h2).ge K,by simpa using a⟩
 ·cases h
def WT(I:Ih c n)(O:iH C X c)(h:trO (n+1) C o=some m):GO X W0 c m o:=by
 cases o with
 |none=>rw[trO]at h;cases h;exact .inl ⟨rfl,rfl⟩
 |some e=>
  have s:=I.e C X e m O h
  exact .inr ⟨e,rfl,s.nn,s.ge⟩
def W5(I:Ih c n)(O:iH C X c){es:List Expr}(h:Hq (n+1) C fl es=some m):Ar X c m es:=by
 cases fl with
 |nil=>
  cases es with
  |nil=>rw[Hq]at h;cases h;exact .nil
  |cons e es=>rw[Hq]at h<;>first|cases h|(intros;simp_all)
 |cons f fl=>
  cases es with
  |nil=>rw[Hq]at h<;>first|cases h|(intros;simp_all)
  |cons e es=>
   cases f with
   |false=>
    rw[Hq]at h
    simp only[QJq,QJz]at h
    obtain⟨m1,h1,m2,h2,rfl⟩:=h
    have s:=I.e C X e m1 O h1
    exact .cons s.ge s.pl (I.a C X fl es m2 O h2)
   |true=>
    by_cases hN:∃x p,e=.Name x p
    ·obtain⟨x,p,rfl⟩:=hN
     rw[Hq]at h
     simp only[QJq,QJz]at h
     obtain⟨m1,⟨m3,h3,h4⟩,m2,h2,rfl⟩:=h
     split at h4
     ·cases h4
      exact .cons (Y5 (Fq O h3)) rfl (I.a C X fl es m2 O h2)
     ·cases h4
    ·rw[Hq]at h
     ·simp only[QJq,QJz]at h
      obtain⟨m1,⟨m3,h3,rfl⟩,m2,h2,rfl⟩:=h
      have s:=I.e C X e m3 O h3
      exact .cons (Y0 s.ge) s.pl (I.a C X fl es m2 O h2)
     ·exact fun x p z=>hN ⟨x,p,z⟩
def Xi{x:Str}(O:iH C X c)(h:(decide (x="range")&&xM C.sc x&&(fnAt C x).isNone)=true):x="range"/\Gl X "range":=by
 simp only[QUq,QUz]at h
 obtain⟨⟨rfl,h2⟩,_⟩:=h
 exact⟨rfl,j4 O h2⟩
def aaS{x:Str}(O:iH C X c)(h:(decide (x="zip")&&xM C.sc x&&(fnAt C x).isNone)=true):x="zip"/\Gl X "zip":=by
 simp only[QUq,QUz]at h
 obtain⟨⟨rfl,h2⟩,_⟩:=h
 exact⟨rfl,j4 O h2⟩
def WX(I:Ih c n)(O:iH C X c)(h:trI (n+1) C e=some m):GI X W0 c m tg e/\plain e=true:=by
 have dflt:dB n C e=some m->GI X W0 c m tg e/\plain e=true:=fun h=>let s:=I.e C X e m O h;⟨acQ s.ge,s.pl⟩
 unfold trI at h
 split at h
 ·split at h
  ·split at h
   ·rename_i hr
    obtain⟨rfl,hg⟩:=Xi O hr
    simp only[QJz]at h
    obtain⟨m1,h1,rfl⟩:=h
    have s:=I.e C X _ m1 O h1
    exact⟨Jp s.ge hg (O.bi _ (by decide)) (bC s.pl _ _),rfl⟩
   ·exact dflt h
  ·split at h
   ·rename_i hr
    obtain⟨rfl,hg⟩:=aaS O hr
    simp only[QJq,QJz]at h
    obtain⟨m1,h1,m2,h2,rfl⟩:=h
    have s1:=I.e C X _ m1 O h1
    have s2:=I.e C X _ m2 O h2
    exact⟨YW s1.ge s2.ge hg (O.bi _ (by decide)) (by rw[bC s1.pl,bC s2.pl];rfl) (bC s2.pl _ _),rfl⟩
   ·exact dflt h
  ·exact dflt h
 ·exact dflt h
def WW(I:Ih c n)(O:iH C X c){g:Comprehension}(h:trC (n+1) C elt g sc=some m):Ei X c m elt g sc:=by
 rw[trC]at h
 split at h
 ·rename_i ha
  simp only[QJq]at h
  obtain⟨⟨η,tg⟩,ht,h⟩:=h
  split at h
  ·rename_i hs
   simp only[QJq,QJz]at h
   obtain⟨it,h1,cond,h2,m',h3,rfl⟩:=h
   obtain⟨sm,gg⟩:=abd O ht hs
   obtain⟨gi,gp⟩:=I.i C X g.target g.iter it O h1
   refine⟨η,tg,it,cond,m',rfl,⟨by rw[O.sc,O.N];exact KD hs,sm,fun cl fp s₀ H₀ _=>gg cl fp s₀ H₀,?_,fun cl fp s₀ H₀ _=>(I.e _ _ elt m' (O.blk hs) h3).ge⟩,gi,gp,ha⟩
   split at h2
   ·rename_i hi
    cases h2
    exact .inl ⟨hi,rfl⟩
   ·rename_i ce hi
    exact .inr ⟨ce,hi,fun cl fp s₀ H₀ _=>(I.e _ _ ce cond (O.blk hs) h2).gt⟩
   ·cases h2
  ·cases h
 ·cases h
end
section
theorem LR(I:Ih c n)(O:iH C X c){a:Expr}(hg:xM C.sc x=true)(h:((biB x).bind fun b=>(dB n C a).bind fun m=>if (decide (b=.dict)&&m.au.isSome)=true then some (E.bi b (.rd m))else some (E.bi b m))=some m):
  GE X W0 c m (.Call (.Name x p) [a] [] pos)/\m.au=none/\m.jJ=false:=by
 simp only[QJq]at h
 obtain⟨bb,h1,m1,h2,h3⟩:=h
 split at h3
 ·cases h3
  have s:=I.e C X a m1 O h2
  exact⟨VH O h1 hg ⟨(fun env=>PE.imp (s.ge env) fun σ H Q q=>by simpa only[aaZ]using q),fun δ sh σ H Q I⟨env,q⟩=>s.gt δ sh σ H Q I ⟨env,by simpa only[aaZ]using q⟩,s.pl,fun k z=>(by cases z),rfl⟩ fun _=>rfl,rfl,rfl⟩
 ·rename_i hn
  cases h3
  refine⟨VH O h1 hg (I.e C X a m1 O h2) (fun z=>?_),rfl,rfl⟩
  subst z
  cases q:m1.au with
  |none=>rfl
  |some k=>rw[q]at hn;exact absurd rfl hn
def W4(I:Ih c n)(O:iH C X c){args:List Expr}(hg:xM C.sc x=true)(h:trB (n+1) C x args=some m):GE X W0 c m (.Call (.Name x p) args [] pos)/\m.au=none/\m.jJ=false:=by
 unfold trB at h
 split at h
 ·--isinstance
  split at h
  ·rename_i hx
   subst hx
   split at h
   ·split at h
    ·rename_i hy
     simp only[QJq,QJz]at h
     obtain⟨t,h1,m1,h2,rfl⟩:=h
     have s:=I.e C X _ m1 O h2
     obtain⟨e1,e2⟩:=WF h1
     exact⟨Zb s.ge e1 (j4 O hy) (O.bi _ e2) (j4 O hg) (O.bi _ (by decide)) (bC s.pl _ _),rfl,rfl⟩
    ·cases h
   ·cases h
  ·cases h
 ·split at h
  ·split at h
   ·split at h
    ·rename_i hz
     obtain⟨rfl,hgz⟩:=aaS O hz
     split at h
     ·rename_i hx
      subst hx
      simp only[QJq,QJz]at h
      obtain⟨m1,h1,m2,h2,rfl⟩:=h
      have s1:=I.e C X _ m1 O h1
      have s2:=I.e C X _ m2 O h2
      exact⟨Dg O.calm s1.ge s2.ge hgz (O.bi _ (by decide)) (by rw[bC s1.pl,bC s2.pl];rfl) (bC s2.pl _ _) (j4 O hg) (O.bi _ (by decide)) rfl,rfl,rfl⟩
     ·split at h
      ·rename_i hx
       subst hx
       simp only[QJq,QJz]at h
       obtain⟨m1,h1,m2,h2,rfl⟩:=h
       have s1:=I.e C X _ m1 O h1
       have s2:=I.e C X _ m2 O h2
       exact⟨De O.calm s1.ge s2.ge hgz (O.bi _ (by decide)) (by rw[bC s1.pl,bC s2.pl];rfl) (bC s2.pl _ _) (j4 O hg) (O.bi _ (by decide)) rfl,rfl,rfl⟩
      ·cases h
    ·exact LR I O hg h
   ·exact LR I O hg h
  ·exact LR I O hg h
 ·cases h
def gr(ge:GE X W0 c m e)(hp:plain e=true)(hv:m.au=none)(hi:m.jJ=false)(ht:tame e=true):Sd X c m e:=
 ⟨ge,Nv ge hp ht,hp,fun k z=>(by rw[hv]at z;cases z),hi⟩
def hu1(O:iH C X c):X.A.units+1<cLine:=by have:=O.hu;omega
def Gw{g:Nat}(h:fnAt C x=some (g,fl)):C.fns[g]? =some (x,fl):=by
 unfold fnAt at h
 simp only[QJq,QJz]at h
 obtain⟨g',h1,⟨y,fl'⟩,h2,h3⟩:=h
 cases h3
 have:=gW h1
 rw[QFz,h2]at this
 simp at this
 rw[h2,this]
def nQ{name:Str}(h:isCall o=false):attributeBase o name env (eval o env)=eval o env:=by
 cases o<;>first|rfl|simp[isCall]at h
def W2(I:Ih c n)(O:iH C X c)(h:dB (n+1) C e=some m):Sd X c m e:=by
 have no:∀{P:Prop},none=some m->P:=fun z=>nomatch z
 unfold dB at h
 split at h
 ·simp only[QJz]at h
  obtain⟨d,h1,rfl⟩:=h
  exact gr (Zf (OJ h1)) rfl rfl rfl rfl
 ·exact Ex O h
 ·simp only[QJz]at h
  obtain⟨m1,h1,rfl⟩:=h
  exact gr (YZ (I.es C X _ m1 O h1).ga) rfl rfl rfl rfl
 ·simp only[QJz]at h
  obtain⟨m1,h1,rfl⟩:=h
  exact gr (Y9 (I.es C X _ m1 O h1).ga) rfl rfl rfl rfl
 ·simp only[QJq,QJz]at h
  obtain⟨o,h0,m1,h1,m2,h2,rfl⟩:=h
  rw[Yb h0]
  exact gr (acS (I.e C X _ m1 O h1).ge (I.e C X _ m2 O h2).ge) rfl rfl rfl rfl
 ·split at h
  ·simp only[QJz]at h
   obtain⟨m1,h1,rfl⟩:=h
   exact gr (Y8 (I.e C X _ m1 O h1).ge) rfl rfl rfl rfl
  ·simp only[QJz]at h
   obtain⟨m1,h1,rfl⟩:=h
   have s:=I.e C X _ m1 O h1
   exact⟨Y7 s.ge,YH s.gt,rfl,fun k z=>(by cases z),rfl⟩
  ·exact no h
 ·simp only[QJq]at h
  obtain⟨m1,h1,h2⟩:=h
  split at h2
  ·exact no h2
  ·rename_i hn
   cases (I.es C X _ m1 O h1)with
   |nil=>exact absurd rfl hn
   |cons s t=>
    split at h2
    ·cases h2
     exact⟨(Al.cons s t).and.1,(Al.cons s t).and.2.t,rfl,fun k z=>(by cases z),rfl⟩
    ·cases h2
     exact⟨(Al.cons s t).or.1,(Al.cons s t).or.2.t,rfl,fun k z=>(by cases z),rfl⟩
 ·split at h
  ·simp only[QJq,QJz]at h
   obtain⟨o,h0,m1,h1,m2,h2,rfl⟩:=h
   rw[DG h0]
   have s1:=I.e C X _ m1 O h1
   have s2:=I.e C X _ m2 O h2
   exact⟨Zg (oJ O.hu o) s1.ge s2.ge s2.va (rT s2.pl _),YK (oJ O.hu o) s1.ge s2.ge s2.va (rT s2.pl _),rfl,fun k z=>(by cases z),rfl⟩
  ·simp only[QJq,QJz]at h
   obtain⟨o,h0,o2,h02,m1,h1,m2,h2,m3,h3,rfl⟩:=h
   rw[DG h0,DG h02]
   have s1:=I.e C X _ m1 O h1
   have s2:=I.e C X _ m2 O h2
   have s3:=I.e C X _ m3 O h3
   have hm:∀b,lastMarks [eV o,eV o2] [b,_]=false:=fun b=>rT s3.pl _
   exact⟨Oa (oJ O.hu o) (oJ O.hu o2) s1.ge s2.ge s3.ge (hm _),Ny (oJ O.hu o) (oJ O.hu o2) s1.ge s2.ge s3.ge (hm _),rfl,fun k z=>(by cases z),rfl⟩
  ·exact no h
 ·simp only[QJq,QJz]at h
  obtain⟨m1,h1,m2,h2,m3,h3,rfl⟩:=h
  have s1:=I.e C X _ m1 O h1
  have s2:=I.e C X _ m2 O h2
  have s3:=I.e C X _ m3 O h3
  exact⟨Za s1.gt s2.ge s3.ge,YJ s1.gt s2.gt s3.gt,rfl,fun k z=>(by cases z),rfl⟩
 ·split at h
  ·split at h
   ·simp only[QJq,QJz]at h
    obtain⟨m1,h1,m2,h2,m3,h3,rfl⟩:=h
    exact gr (Y4 (I.e C X _ m1 O h1).ge (I.o C X _ m2 O h2) (I.o C X _ m3 O h3)) rfl rfl rfl rfl
   ·exact no h
  ·simp only[QJq,QJz]at h
   obtain⟨m1,h1,m2,h2,rfl⟩:=h
   have s1:=I.e C X _ m1 O h1
   have s2:=I.e C X _ m2 O h2
   exact gr (Zc (by have:=O.hu;omega) s1.ge s2.ge s1.va (Cp s2.pl)) rfl rfl rfl rfl
 ·split at h
  ·split at h
   ·split at h
    ·rename_i hx
     rw[QUq]at hx
     split at h
     ·rename_i g fl hf
      simp only[QJq]at h
      obtain⟨m1,h1,h2⟩:=h
      split at h2
      ·exact no h2
      ·rename_i hn
       cases h2
       obtain⟨k,f,fd,ps,F,hr,hm,hk,hb,hl⟩:=O.fn g _ fl (Gw hf)
       cases (I.a C X _ _ m1 O h1)with
       |nil=>exact absurd rfl hn
       |cons ge pl t=>
        exact gr (Tp F hr (j4 O hx.2) hm hk hb (qw hx.1).1 (Ar.cons ge pl t).ga (bC pl _ _) t.plain hl) rfl rfl rfl rfl
     ·obtain⟨ge,h1,h2⟩:=I.b C X _ _ m _ _ O hx.2 h
      exact gr ge rfl h1 h2 rfl
    ·exact no h
   ·split at h
    ·rename_i hl
     split at h
     ·split at h
      ·rename_i hx
       subst hx
       simp only[QJq,QJz]at h
       obtain⟨m1,h1,u,h0,m2,h2,rfl⟩:=h
       split at h0
       ·rename_i hp
        rw[QUq]at hp
        have s2:=I.e C X _ m2 O h2
        exact gr (N8 ⟨nQ (by simpa using hp.2),hl,bC s2.pl _ _⟩ (I.e C X _ m1 O h1).ge s2.ge) rfl rfl rfl rfl
       ·cases h0
      ·split at h
       ·rename_i hx
        subst hx
        split at h
        ·simp only[QJq]at h
         obtain⟨v,h1,h2⟩:=h
         split at h2
         ·simp only[QJz]at h2
          obtain⟨m2,h3,rfl⟩:=h2
          have s2:=I.e C X _ m2 O h3
          exact gr (N7 ⟨rfl,hl,bC s2.pl _ _⟩ (Fq O h1) s2.ge) rfl rfl rfl rfl
         ·exact no h2
        ·exact no h
       ·exact no h
     ·split at h
      ·rename_i hx
       subst hx
       simp only[QJq,QJz]at h
       obtain⟨m1,h1,u,h0,m2,h2,m3,h3,rfl⟩:=h
       split at h0
       ·rename_i hp
        rw[QUq]at hp
        have s1:=I.e C X _ m1 O h1
        have s2:=I.e C X _ m2 O h2
        have s3:=I.e C X _ m3 O h3
        exact gr (Th (hu1 O) ⟨nQ (by simpa using hp.2),by rw[bC s2.pl,bC s3.pl];rfl,hl,by rw[bC s2.pl,bC s3.pl];rfl⟩ s1.va s1.ge s2.ge s3.ge) rfl rfl rfl rfl
       ·cases h0
      ·exact no h
     ·exact no h
    ·exact no h
   ·exact no h
  ·exact no h
 ·split at h
  ·rename_i hx
   simp only[QUq,List.isEmpty_iff]at hx
   obtain⟨rfl,rfl⟩:=hx
   cases h
   exact gr Zd rfl rfl rfl rfl
  ·split at h
   ·rename_i hx
    simp only[QUq,QUz]at hx
    simp only[QJz]at h
    obtain⟨m1,h1,rfl⟩:=h
    obtain⟨nZ,K,a⟩:=I.d C X _ _ m1 O h1
    exact gr (Ze (by have:=O.hu;omega) K a hx.1.1 (fun z=>by rw[z]at hx;simp at hx) hx.1.2) rfl rfl rfl rfl
   ·exact no h
 ·split at h
  ·rename_i elt sc pos g
   obtain⟨η,tg,it,cond,m',rfl,B,gi,gp,ha⟩:=I.k C X _ _ _ m O h
   obtain⟨ta,ti,tf,tn⟩:=g
   subst ha
   exact gr (Tj B gi O.calm (fun x=>xQ gp _ _)) rfl rfl rfl rfl
  ·exact no h
 ·exact no h
end
theorem ih c:∀n,Ih c n
 |0=>ih0 c
 |n+1=>let I:=ih c n
  ⟨fun C X e m O h=>W2 I O h,fun C X es m O h=>QR I O h,fun C X fl es m O h=>W5 I O h,fun C X o m O h=>WT I O h,fun C X x args m p pos O hg h=>W4 I O hg h,fun C X tg e m O h=>WX I O h,fun C X elt g sc m O h=>WW I O h,fun C X ks vs m O h=>W3 I O h⟩
def NE{α:Type}(r:Out α):Prop:=∀k σ,r≠ .exc k σ
section
theorem NE.ok(a:α)σ:NE (.ok a σ):=fun _ _ z=>nomatch z
theorem NE.bad:NE (.bad:Out α):=fun _ _ z=>nomatch z
theorem NE.lift σ(o:Option α):NE (lift σ o):=by cases o<;>(intro _ _ z;cases z)
theorem NE.bind{f:α->Ev->Out β}(h:NE r)(g:∀a σ,NE (f a σ)):NE (r.bind f):=by
 cases r with
 |ok a σ=>exact g a σ
 |exc k σ=>exact absurd rfl (h k σ)
 |bad=>exact NE.bad
theorem NE.ao{f:D->Ev->Out β}(h:NE r)(g:∀a σ,NE (f a σ)):NE (r.ao f):=by
 cases r with
 |ok a σ=>cases a<;>first|exact g _ _|exact NE.bad
 |exc k σ=>exact absurd rfl (h k σ)
 |bad=>exact NE.bad
theorem NE.cC{r:Out Rv}{f:Bool->Ev->Out β}(h:NE r)(g:∀a σ,NE (f a σ)):NE (r.cC tr f):=
 NE.ao h fun d σ=>by
  cases tr d with
  |none=>exact NE.bad
  |some b=>exact g b σ
def NE.ite{p:Prop}[Decidable p]{a b:Out α}(h:NE a)(g:NE b):NE (if p then a else b):=by split<;>assumption
end
def Sg c f as σ:NE (tY c f as σ):=by
 unfold tY
 split
 ·exact NE.bad
 ·split
  ·split
   ·exact NE.ok _ _
   ·exact NE.bad
  ·exact NE.bad
def Mr c f hs as σ:NE (jQ c f hs as σ):=by
 unfold jQ
 split
 ·exact NE.bad
 ·split
  ·split
   ·exact NE.ok _ _
   ·exact NE.bad
  ·split
   ·exact NE.ok _ _
   ·exact NE.bad
  ·exact NE.bad
def Ye k y σ:NE (rK k y σ):=by
 unfold rK
 split
 ·refine NE.ite NE.bad ?_
  split
  ·split
   ·exact NE.ok _ _
   ·exact NE.bad
  ·exact NE.bad
 ·exact NE.bad
def R9 k σ:NE (rG k σ):=by
 unfold rG
 split<;>first|exact NE.ok _ _|exact NE.bad
def xm c:∀(m:E)(σ:Ev),NE (ev c m σ)/\NE (evs c m σ)/\NE (gZ c m σ)/\NE (nF c m σ):=by
 have k3:∀{m:E},(∀σ,NE _)->(∀σ,evs c m σ=.bad)->(∀σ,gZ c m σ=.bad)->(∀σ,nF c m σ=.bad)->∀σ,NE (ev c m σ)/\NE (evs c m σ)/\NE (gZ c m σ)/\NE (nF c m σ):=fun h a b d σ=>by
  rw[a,b,d]
  exact⟨h σ,NE.bad,NE.bad,NE.bad⟩
 intro m
 induction m with
 |var i=>exact k3 (fun σ=>R9 i σ) (fun _=>rfl) (fun _=>rfl) fun _=>rfl
 |con d=>exact k3 (fun σ=>NE.ok _ _) (fun _=>rfl) (fun _=>rfl) fun _=>rfl
 |glob k=>exact k3 (fun σ=>by rw[v_2];split<;>first|exact NE.ok _ _|exact NE.bad) (fun _=>rfl) (fun _=>rfl) fun _=>rfl
 |nil=>exact fun σ=>⟨NE.bad,NE.ok _ _,NE.bad,NE.bad⟩
 |cons h t ih jh=>
  intro σ
  refine⟨NE.bad,NE.bind (ih σ).1 fun x σ=>NE.bind (jh σ).2.1 fun _ _=>NE.ok _ _,?_,?_⟩
  ·cases t with
   |nil=>exact(ih σ).1
   |_=>exact NE.ao (ih σ).1 fun x σ=>(by split<;>first|exact(jh σ).2.2.1|exact NE.ok _ _|exact NE.bad)
  ·cases t with
   |nil=>exact(ih σ).1
   |_=>exact NE.ao (ih σ).1 fun x σ=>(by split<;>first|exact(jh σ).2.2.2|exact NE.ok _ _|exact NE.bad)
 |tup es ih=>exact k3 (fun σ=>NE.bind (ih σ).2.1 fun _ _=>NE.lift _ _) (fun _=>rfl) (fun _=>rfl) fun _=>rfl
 |lis es ih=>exact k3 (fun σ=>NE.bind (ih σ).2.1 fun _ _=>NE.lift _ _) (fun _=>rfl) (fun _=>rfl) fun _=>rfl
 |op o a b ih jh=>exact k3 (fun σ=>NE.ao (ih σ).1 fun _ σ=>NE.ao (jh σ).1 fun _ _=>NE.lift _ _) (fun _=>rfl) (fun _=>rfl) fun _=>rfl
 |neg a ih=>exact k3 (fun σ=>NE.ao (ih σ).1 fun _ σ=>NE.lift _ _) (fun _=>rfl) (fun _=>rfl) fun _=>rfl
 |cmp o a b ih jh=>exact k3 (fun σ=>NE.ao (ih σ).1 fun _ σ=>by split<;>first|exact NE.lift _ _|exact NE.ao (jh σ).1 fun _ _=>NE.lift _ _) (fun _=>rfl) (fun _=>rfl) fun _=>rfl
 |chain o p a b d ih jh kh=>exact k3 (fun σ=>NE.ao (ih σ).1 fun _ σ=>NE.ao (jh σ).1 fun _ σ=>NE.bind (NE.lift _ _) fun _ σ=>NE.ite (NE.ao (kh σ).1 fun _ _=>NE.lift _ _) (NE.ok _ _)) (fun _=>rfl) (fun _=>rfl) fun _=>rfl
 |and es ih=>exact k3 (fun σ=>(ih σ).2.2.1) (fun _=>rfl) (fun _=>rfl) fun _=>rfl
 |or es ih=>exact k3 (fun σ=>(ih σ).2.2.2) (fun _=>rfl) (fun _=>rfl) fun _=>rfl
 |not a ih=>exact k3 (fun σ=>NE.cC (ih σ).1 fun _ _=>NE.ok _ _) (fun _=>rfl) (fun _=>rfl) fun _=>rfl
 |ite t a b ih jh kh=>exact k3 (fun σ=>NE.cC (ih σ).1 fun _ σ=>NE.ite (jh σ).1 (kh σ).1) (fun _=>rfl) (fun _=>rfl) fun _=>rfl
 |idx a i ih jh=>exact k3 (fun σ=>by rw[Wx];split<;>first|exact NE.ite NE.bad (NE.ao (jh σ).1 fun _ _=>NE.lift _ _)|exact NE.ao (ih σ).1 fun _ σ=>NE.ao (jh σ).1 fun _ _=>NE.lift _ _) (fun _=>rfl) (fun _=>rfl) fun _=>rfl
 |slc a lo hi ih jh kh=>exact k3 (fun σ=>NE.ao (ih σ).1 fun _ σ=>NE.ao (jh σ).1 fun _ σ=>by split<;>first|exact NE.bad|exact NE.ao (kh σ).1 fun _ _=>NE.lift _ _) (fun _=>rfl) (fun _=>rfl) fun _=>rfl
 |noneE=>exact k3 (fun σ=>NE.ok _ _) (fun _=>rfl) (fun _=>rfl) fun _=>rfl
 |call f as ih=>exact k3 (fun σ=>NE.bind (ih σ).2.1 fun _ _=>Sg _ _ _ _) (fun _=>rfl) (fun _=>rfl) fun _=>rfl
 |ref i=>exact k3 (fun σ=>by rw[aa0];split<;>first|exact NE.ok _ _|exact NE.bad) (fun _=>rfl) (fun _=>rfl) fun _=>rfl
 |tmp e ih=>exact k3 (fun σ=>NE.bind (ih σ).1 fun _ _=>NE.lift _ _) (fun _=>rfl) (fun _=>rfl) fun _=>rfl
 |rd e ih=>exact k3 (fun σ=>(ih σ).1) (fun _=>rfl) (fun _=>rfl) fun _=>rfl
 |isi a t ih=>exact k3 (fun σ=>NE.ao (ih σ).1 fun _ _=>NE.ok _ _) (fun _=>rfl) (fun _=>rfl) fun _=>rfl
 |bi b a ih=>exact k3 (fun σ=>by rw[uC];split<;>first|exact NE.lift _ _|exact NE.ao (ih σ).1 fun _ _=>NE.lift _ _) (fun _=>rfl) (fun _=>rfl) fun _=>rfl
 |range1 a ih=>exact k3 (fun σ=>NE.ao (ih σ).1 fun _ _=>NE.lift _ _) (fun _=>rfl) (fun _=>rfl) fun _=>rfl
 |zip a b ih jh=>exact k3 (fun σ=>NE.ao (ih σ).1 fun _ σ=>NE.ao (jh σ).1 fun _ _=>NE.lift _ _) (fun _=>rfl) (fun _=>rfl) fun _=>rfl
 |count a b ih jh=>exact k3 (fun σ=>NE.ao (ih σ).1 fun _ σ=>NE.ite NE.bad (NE.ao (jh σ).1 fun _ _=>NE.lift _ _)) (fun _=>rfl) (fun _=>rfl) fun _=>rfl
 |popAt i a ih=>exact k3 (fun σ=>NE.ite NE.bad (NE.ao (ih σ).1 fun _ _=>Ye _ _ _)) (fun _=>rfl) (fun _=>rfl) fun _=>rfl
 |get2 a b d ih jh kh=>
  refine k3 (fun σ=>?_) (fun _=>rfl) (fun _=>rfl) fun _=>rfl
  rw[Ww]
  split
  ·exact NE.ite NE.bad (NE.ao (jh σ).1 fun _ σ=>NE.ao (kh σ).1 fun _ _=>NE.lift _ _)
  ·exact NE.bad
 |dsp es ih=>exact k3 (fun σ=>NE.bind (ih σ).2.1 fun _ _=>NE.lift _ _) (fun _=>rfl) (fun _=>rfl) fun _=>rfl
 |tcall f as hs ih=>exact k3 (fun σ=>NE.bind (ih σ).2.1 fun _ _=>Mr _ _ _ _ _) (fun _=>rfl) (fun _=>rfl) fun _=>rfl
 |emp=>exact k3 (fun σ=>NE.ok _ _) (fun _=>rfl) (fun _=>rfl) fun _=>rfl
 |enum a ih=>exact k3 (fun σ=>NE.ao (ih σ).1 fun _ _=>NE.lift _ _) (fun _=>rfl) (fun _=>rfl) fun _=>rfl
 |comp nl tg it cond elt ih _ _=>
  refine k3 (fun σ=>?_) (fun _=>rfl) (fun _=>rfl) fun _=>rfl
  refine NE.ao (ih σ).1 fun _ σ=>?_
  split
  ·split
   ·exact NE.ok _ _
   ·exact NE.bad
  ·exact NE.bad
section
def GE.w(h:GE X W0 c m e):GE X W c m e:=fun env=>PE.imp (h env) fun σ H Q⟨S,q⟩=>by
 refine⟨S,?_⟩
 cases r:ev c m env with
 |exc k ζ=>exact absurd r ((xm c m env).1 k ζ)
 |_=>rw[r]at q;exact q
def GA.w(h:GA X W0 c m es):GA X W c m es:=fun env p δ s σ H R I q=>h env p δ s σ H R I (by
 obtain⟨S,q⟩:=q
 refine⟨S,?_⟩
 cases r:evs c m env with
 |exc k ζ=>exact absurd r ((xm c m env).2.1 k ζ)
 |_=>rw[r]at q;exact q)
def GT.w(h:GT X W0 c m e):GT X W c m e:=PT.imp h fun σ H Q⟨env,S,q⟩=>by
 refine⟨env,S,?_⟩
 cases r:ev c m env with
 |exc k ζ=>exact absurd r ((xm c m env).1 k ζ)
 |_=>rw[r]at q;exact q
def GI.w(h:GI X W0 c m tg e):GI X W c m tg e:=fun env δ s σ H R I q=>h env δ s σ H R I (by
 obtain⟨S,q⟩:=q
 refine⟨S,?_⟩
 cases r:ev c m env with
 |exc k ζ=>exact absurd r ((xm c m env).1 k ζ)
 |_=>rw[r]at q;exact q)
end
structure Top(C:Ct)(X:Cx)(W:Wi)(c:Cf):Prop where
 fn:∀x,X.fn x=true
 po:PassesOwn (model X.prog X.w) X.A X.env X.xe
 ra:∀e f p n m,UG (n+1) C (.Raise e f p)=some m->GS X W c m (.Raise e f p)
 cx:∀f args kw cp p n m,Ih c n->rzB C f=true->trX n C f args kw=some m->GS X W c m (.Expr (.Call f args kw cp) p)
section
theorem TV(O:iH C X c):∀{n:Nat}{elt:Expr}{gens:List Comprehension}{sc:Scope}{pos:Pos},dB n C (.ListComp elt gens sc pos)=some m->∃g,gens=[g]/\Ei X c m elt g sc
 |0,_,_,_,_,h=>by rw[dB]at h;cases h
 |n+1,elt,gens,sc,pos,h=>by
  unfold dB at h
  simp only at h
  split at h
  ·exact⟨_,rfl,(ih c n).k C X _ _ _ m O h⟩
  ·cases h
def rW(O:iH C X c)(h:Ir C.sc x=true):Loc X.env.scope x:=by
 unfold Ir at h
 rw[O.sc]
 rw[Bool.or_eq_true]at h
 rcases h with h|h
 ·exact .inl (by simpa using h)
 ·exact .inr (by simpa using h)
def mL{t:Option Expr}{env:Env}(hp:plain e=true)(hc:o5 e=false):swapsWith e t l env=pure false:=by
 cases e<;>first|rfl|exact absurd (hp) Qjz|exact absurd (hc) (fun h=>Qjz h.symm)
def Bp{es:List Expr}{q:Pos}(h:isTup e=false):swappedStores [.Tuple es k q] e env=pure none:=by
 cases e<;>first|rfl|exact absurd (h) (fun h=>Qjz h.symm)
def yM{q:Pos}:swappedStores [.Subscript o i q] e env=pure none:=by
 cases e<;>rfl
def Et{l:Nat}:swapsWithSole [t] e l env=swapsWith e (some t) l env:=rfl
def Ub{tp:Pos}{v:Value}(h:isSlice i=false):assign (.Subscript o i tp) env v=(do
   let ov<-holding [v] (eval o env)
   let iv<-holding [v,ov] (eval i env)
   standAt tp
   holding [v,ov,iv] (setItem ov iv v)
   release [v,ov,iv] []):=by
 cases i<;>first|rfl|(simp[isSlice]at h;done)
theorem rm(O:iH C X c)(T:Top C X W c):∀{es:List Expr}{is:List Nat},slotsOf C es=some is->ux X is es/\(assignEach es X.env).length=is.length/\(assignEach es X.env).findIdx? (·.1)=none
 |[],is,h=>by cases h;exact⟨.nil,rfl,rfl⟩
 |e::es,is,h=>by
  cases e<;>simp only[slotsOf]at h<;>try (cases h;done)
  rename_i x q
  split at h
  ·rename_i hl
   simp only[QJq,QJz]at h
   obtain⟨i,h1,js,h2,rfl⟩:=h
   obtain⟨a1,a2,a3⟩:=rm O T h2
   refine⟨.cons (by rw[O.N];exact gW h1) (rW O hl) (.inl (T.fn x)) a1,?_,?_⟩
   ·show(_::assignEach es X.env).length=_
    simp[a2]
   ·show(List.findIdx? (·.1) ((false,_)::assignEach es X.env))=none
    rw[List.findIdx?_cons]
    simp[a3]
  ·cases h
def vA(O:iH C X c):X.N.Nodup:=by rw[O.N];exact O.nd
def J7(O:iH C X c)(T:Top C X W c){e:Expr}(h:J8 C e=some tg):GG X tg e:=by
 cases e<;>simp only[J8]at h<;>try (cases h;done)
 ·rename_i x q
  split at h
  ·rename_i hl
   simp only[QJz]at h
   obtain⟨i,h1,rfl⟩:=h
   exact xN (vA O) (by rw[O.N];exact gW h1) (rW O hl) (.inl (T.fn x))
  ·cases h
 ·simp only[QJz]at h
  obtain⟨is,h1,rfl⟩:=h
  obtain⟨a1,a2,a3⟩:=rm O T h1
  exact Dd (vA O) O.calm a1 a2 a3
def acX{x:Str}(O:iH C X c)(h:(decide (x="enumerate")&&xM C.sc x&&(fnAt C x).isNone)=true):x="enumerate"/\Gl X "enumerate":=by
 simp only[QUq,QUz]at h
 obtain⟨⟨rfl,h2⟩,_⟩:=h
 exact⟨rfl,j4 O h2⟩
def WY(J:Ih c n)(O:iH C X c)(h:trF n C tg e=some m):GI X W0 c m tg e/\plain e=true:=by
 unfold trF at h
 split at h
 ·rename_i m' e1
  cases h
  unfold trN at e1
  split at e1
  ·rename_i ht
   split at e1
   ·split at e1
    ·split at e1
     ·rename_i hx
      obtain⟨rfl,hg⟩:=acX O hx
      simp only[QJz]at e1
      obtain⟨m1,h1,rfl⟩:=e1
      have s1:=J.e C X _ m1 O h1
      cases tg with
      |Tuple elts x1 tp=>exact⟨Te s1.ge hg (O.bi _ (by decide)) (bC s1.pl _ _),rfl⟩
      |_=>cases ht
     ·cases e1
    ·cases e1
   ·cases e1
  ·cases e1
 ·exact J.i C X _ _ m O h
theorem Jj(O:iH C X c)(T:Top C X W c){scope:Scope}{tg:Tg}{it cond elt:E}{ifs:List Expr}{i:Nat}(B:Ba X c scope η tg cond elt tgE Ξ ifs)(hi:GI X W c it tgE ο)(gp:plain ο=true)
  (ge:GE X W c (.comp η.length tg it cond elt) (.ListComp Ξ [⟨tgE,ο,ifs,0⟩] scope cp))(hN:X.N[i]? =some x)(hl:Ir C.sc x=true):
  GS X W c (.set i (.comp η.length tg it cond elt)) (.Assign [.Name x np] (.ListComp Ξ [⟨tgE,ο,ifs,0⟩] scope cp) sp):=by
 have key:∃b:Bool,swapsWith (.ListComp Ξ [⟨tgE,ο,ifs,0⟩] scope cp) (some (.Name x np)) sp.line X.env=pure b:=⟨_,rfl⟩
 obtain⟨b,hb⟩:=key
 cases b with
 |false=>exact NP ge (vA O) hN (rW O hl) (.inl (T.fn x)) hb
 |true=>exact CZ B hi O.calm (fun x=>xQ gp _ _) (vA O) hN (rW O hl) (.inl (T.fn x)) hb
structure IhS(c:Cf)(n:Nat):Prop where
 s:∀C X W st m,iH C X c->Top C X W c->UG n C st=some m->GS X W c m st
 ss:∀C X W st m,iH C X c->Top C X W c->pX n C st=some m->Qm X W c m st
def agx c:IhS c 0:=by
 constructor
 all_goals (intros;rename_i h;first|(rw[UG]at h;cases h)|(rw[pX]at h;cases h))
def QQ(I:IhS c n)(O:iH C X c)(T:Top C X W c){m:S}(h:pX (n+1) C st=some m):Qm X W c m st:=by
 cases st with
 |nil=>rw[pX]at h;cases h;exact Gp
 |cons s st=>
  rw[pX]at h
  simp only[QJq,QJz]at h
  obtain⟨m1,h1,m2,h2,rfl⟩:=h
  exact zY (I.s C X W s m1 O T h1) (I.ss C X W st m2 O T h2)
def WR(I:IhS c n)(O:iH C X c)(T:Top C X W c){m:S}(h0:UG (n+1) C st=some m):GS X W c m st:=by
 have J:=ih c n
 have no:∀{P:Prop},none=some m->P:=fun z=>nomatch z
 have h:=h0
 unfold UG at h
 split at h
 ·split at h
  ·cases h;exact S8
  ·simp only[QJz]at h
   obtain⟨m1,h1,rfl⟩:=h
   have s:=J.e C X _ m1 O h1
   exact YM s.ge.w s.va
 ·split at h
  ·split at h
   ·rename_i e _ _ _ x _
    split at h
    ·rename_i hl
     simp only[QJq,QJz]at h
     obtain⟨i,h1,m1,h2,rfl⟩:=h
     have s:=J.e C X _ m1 O h2
     have hN:X.N[i]? =some x:=by rw[O.N];exact gW h1
     cases hc:o5 e with
     |false=>exact NP s.ge.w (vA O) hN (rW O hl) (.inl (T.fn x)) (mL s.pl hc)
     |true=>
      cases e<;>simp[o5]at hc
      obtain⟨g,rfl,η,tg,it,cond,m',rfl,B,gi,gp,ha⟩:=TV O h2
      obtain⟨ta,ti,tf,tn⟩:=g
      subst ha
      exact Jj O T B gi.w gp s.ge.w hN hl
    ·exact no h
   ·split at h
    ·exact no h
    ·rename_i hx
     rw[Bool.not_eq_true,Bool.or_eq_false_iff]at hx
     simp only[QJq,QJz]at h
     obtain⟨is,h1,m1,h2,rfl⟩:=h
     have s:=J.e C X _ m1 O h2
     obtain⟨a1,a2,a3⟩:=rm O T h1
     exact S7 s.ge.w (Dd (vA O) O.calm a1 a2 a3) (by rw[Et];exact mL s.pl hx.2) (Bp hx.1) rfl
   ·split at h
    ·split at h
     ·exact no h
     ·rename_i hx
      rw[Bool.not_eq_true,Bool.or_eq_false_iff]at hx
      simp only[QJq]at h
      obtain⟨v,h1,h⟩:=h
      split at h
      ·simp only[QJq,QJz]at h
       obtain⟨i,h2,m1,h3,rfl⟩:=h
       have s:=J.e C X _ m1 O h3
       exact NK (Fq O h1) s.ge.w (J.e C X _ i O h2).ge.w (fun v=>Ub hx.2) (by rw[Et];exact mL s.pl hx.1) yM (by have:=O.hu;omega) rfl
      ·exact no h
    ·exact no h
   ·exact no h
  ·exact no h
 ·--an expression alone
  split at h
  ·have dflt:∀e q,o5 e=false->(dB n C e).map S.expr=some m->GS X W c m (.Expr e q):=fun e q hc z=>by
    simp only[QJz]at z
    obtain⟨m1,h1,rfl⟩:=z
    have s:=J.e C X _ m1 O h1
    exact S9 s.ge.w (mL s.pl hc)
   split at h
   ·split at h
    ·split at h
     ·rename_i hx
      simp only[QUq,QUz]at hx
      obtain⟨hl,rfl⟩:=hx
      simp only[QJq]at h
      obtain⟨v,h1,h⟩:=h
      split at h
      ·simp only[QJz]at h
       obtain⟨m1,h2,rfl⟩:=h
       have s:=J.e C X _ m1 O h2
       exact Jl ⟨rfl,hl,bC s.pl _ _⟩ (Fq O h1) s.ge.w
      ·exact no h
     ·exact dflt _ _ rfl h
    ·exact no h
   ·split at h
    ·rename_i hz
     exact T.cx _ _ _ _ _ _ _ J hz h
    ·exact dflt _ _ rfl h
  ·exact no h
 ·simp only[QJq,QJz]at h
  obtain⟨t,h1,a,h2,b,h3,rfl⟩:=h
  exact acN (J.e C X _ t O h1).gt.w (I.ss C X W _ a O T h2) (I.ss C X W _ b O T h3)
 ·split at h
  ·simp only[QJq,QJz]at h
   obtain⟨tg,h1,it,h2,b,h3,rfl⟩:=h
   obtain⟨gi,gp⟩:=WY J O h2
   exact YQ T.po O.calm gi.w (J7 O T h1) (I.ss C X W _ b O T h3) (fun x=>xQ gp _ _)
  ·exact no h
 ·split at h
  ·simp only[QJq,QJz]at h
   obtain⟨t,h1,b,h3,rfl⟩:=h
   exact NB T.po (J.e C X _ t O h1).gt.w (I.ss C X W _ b O T h3)
  ·exact no h
 ·exact T.ra _ _ _ _ _ h0
 ·exact no h
end
def Fd{e f:Option Expr}{n:Nat}(h:UG (n+1) C (.Raise e f p)=some m):m=.raise (BK C e f):=by
 unfold UG at h
 cases h
 rfl
theorem ihS c:∀n,IhS c n
 |0=>agx c
 |n+1=>let I:=ihS c n
  ⟨fun C X W st m O T h=>WR I O T h,fun C X W st m O T h=>QQ I O T h⟩
structure Df where
 x:Str
 st:Stmt
 N:List Str
 ps:List Str
 fl:List Bool
 exs:List Str:=[]
 rz:List Str:=[]
def aeY(ds:List Df):List (Str×List Bool):=ds.map fun d=>(d.x,d.fl)
def ac1(ds:List Df)(lD:List Str)(d:Df):Ct:={N:=d.N,sc:=aF d.st,fns:=aeY ds,lD:=lD,exs:=d.exs}
def fnOf(ds:List Df)(lD:List Str)(d:Df):Option Fn:=(pX 60 (ac1 ds lD d) (cN d.st)).map fun b=>{pars:=d.ps.length,names:=d.N.length,body:=b}
structure lY(K:QQq)(mg:QZz)(d:Df)(f:Addr)(fd:FuncData):Prop where
 fu:Uj K d.x d.x d.st f fd
 bi:Binds K fd d.ps []
 at_:mg d.x=some (.ref f)
section
variable{P:Program}{w:World}{base:Heap}{p:Pg}{fa:Nat->Addr}{fd:Nat->FuncData}
end
theorem W6{K:QQq}{H:Hp}{ns:List Int}(hO:Only H)(hS:km K H a (ns.map V.int))(hf:∃qs,f [.val (.lst (ns.map D.int))]=.ok (.val (.bl true)) qs)E:
  oA K 1 f [.ref a] H (fun v _=>v=.bl true) E:=by
 have den:bM K H (.lst (ns.map D.int)) (.ref a):=by
  have fr:Hg K H a (ns.map V.int):=by
   rcases hS with (h|⟨o,h⟩)|h
   ·rcases hO a with z|⟨o,xs,z⟩
    ·rw[z]at h;cases h
    ·rw[z]at h;cases h
   ·exact .inl ⟨o,h⟩
   ·exact .inr h
  have l:∀(ns:List Int),ak K H (ns.map D.int) (ns.map V.int):=fun ns=>by
   induction ns with
   |nil=>exact ak.fj
   |cons i r ih=>exact ak.cR rfl ih
  exact⟨a,_,rfl,fr,l ns⟩
 obtain⟨qs,hf⟩:=hf
 refine⟨[.val (.lst (ns.map D.int))],rfl,⟨rfl,fun i s e=>?_,fun i j b h1=>?_⟩,fun i o e=>?_,?_⟩
 ·cases i with
  |zero=>simp at e;subst e;exact⟨.ref a,rfl,den⟩
  |succ i=>simp at e
 ·obtain⟨⟨s,o,e1,e2⟩,_⟩:=h1
  cases i with
  |zero=>simp at e1;subst e1;cases e2
  |succ i=>simp at e1
 ·cases i with
  |zero=>simp at e
  |succ i=>simp at e
 ·rw[hf]
  exact fun v H' _ z=>z
def XM(a:Arguments):List Str:=a.args.map (·.arg)
def namesOf(st:Stmt):List Str:=XM (eQ st)++(((aF st).names.filter fun p=>(p.2== .local||p.2== .cell)&& !(XM (eQ st)).contains p.1).map (·.1))
def bJ(x:Str)(st:Stmt)(fl:List Bool):Df:={x:=x,st:=st,N:=namesOf st,ps:=XM (eQ st),fl:=fl}
def Q4(d:Df):Bool:=
 decide ((aF d.st).kind=.function)&& !(aF d.st).isCoroutine&& !(aF d.st).isGenerator&&decide d.N.Nodup&&decide (d.N.take d.ps.length=d.ps)
 &&(d.ps.all fun x=>(aF d.st).names.lookup x==some .local||(aF d.st).names.lookup x==some .cell)&&((aF d.st).names.all fun y=>y.2 != .free)
def Q3(h:Q4 d=true):fP d.N d.ps (aF d.st):=by
 unfold Q4 at h
 simp only[QUq,QUz,Bool.not_eq_true',List.all_eq_true,Bool.or_eq_true,beq_iff_eq,bne_iff_ne,ne_eq]at h
 obtain⟨⟨⟨⟨⟨⟨h1,h2⟩,h3⟩,h4⟩,h5⟩,h6⟩,h7⟩:=h
 exact⟨h1,h2,h3,h4,h5,h6,h7⟩
def vIs:Value->D->Bool
 |.none,.non=>true
 |.bool a,.bl b=>a==b
 |.int i _,.int j=>i==j
 |.str x _,.str y=>decide (x=y)
 |_,_=>false
def Hl:List Value->List D->Bool
 |[],[]=>true
 |u::us,d::ds=>vIs u d&&Hl us ds
 |_,_=>false
def J4(o:Obj)(ds:List D):Bool:=o.cls== .type "tuple"&&o.dict.isNone&&match o.data with
 |.seq its _=>Hl its.toList ds&&decide (its.size<=1000)
 |_=>false
def Ui(K:QQq)(mg:QZz)(x:Str)(d:D):Prop:=∃v u,mg x=some u/\RelV v u/\∀H,bM K H d v
def J1{u:Value}(h:vIs u d=true):∃v,RelV v u/\∀H,bM K H d v:=by
 cases u<;>cases d<;>simp[vIs]at h
 ·exact⟨.non,rfl,fun H=>rfl⟩
 ·subst h;exact⟨.bl _,rfl,fun H=>rfl⟩
 ·subst h;exact⟨.int _,⟨_,rfl⟩,fun H=>rfl⟩
 ·subst h;exact⟨.str _,⟨_,rfl⟩,fun H=>rfl⟩
theorem El:∀{us:List Value}{ds:List D},Hl us ds=true->∃vs,Vals vs us/\∀H,ak K H ds vs
 |[],[]=>fun _=>⟨[],.nil,fun H=>ak.fj⟩
 |u::us,d::ds=>fun h=>by
  unfold Hl at h
  rw[QUq]at h
  obtain⟨v,r,e⟩:=J1 h.1
  obtain⟨vs,rs,es⟩:=El h.2
  exact⟨v::vs,.cons r rs,fun H=>ak.cR (e H) (es H)⟩
 |[],_::_=>fun h=>by simp[Hl]at h
 |_::_,[]=>fun h=>by simp[Hl]at h
section
def YS(X:K.In h)(G:h.Ns mainGlobals mg)(e:PySem.W.nsIn K mainGlobals x=some (some u))(hv:vIs u d=true):Ui K mg x d:=by
 obtain⟨v,r,q⟩:=J1 hv
 exact⟨v,u,PySem.W.mg_of X G e,r,q⟩
def YT(X:K.In h)(G:h.Ns mainGlobals mg)(e:PySem.W.nsIn K mainGlobals x=some (some (.ref a)))(l:K.lookup a=some o)(hv:J4 o ds=true):Ui K mg x (.tup ds):=by
 unfold J4 at hv
 simp only[QUq,beq_iff_eq,Option.isNone_iff_eq_none]at hv
 obtain⟨⟨hc,hd⟩,hv⟩:=hv
 split at hv
 ·rename_i its n hs
  rw[QUq,QUz]at hv
  obtain⟨vs,r,q⟩:=El hv.1
  exact⟨.ref a,_,PySem.W.mg_of X G e,rfl,fun H=>dD (.inr ⟨o,its,n,l,hc,hd,hs,Nat.le_of_lt (Hy hv.2),r⟩) (q H)⟩
 ·cases hv
end
def Hj(K:QQq)(mg:QZz):List Df->List (Addr×FuncData)->Prop
 |[],[]=>True
 |d::ds,(f,fd)::r=>lY K mg d f fd/\Hj K mg ds r
 |_,_=>False
theorem Hj.at{K:QQq}{mg:QZz}:∀{ds:List Df}{fs:List (Addr×FuncData)},Hj K mg ds fs->∀(i:Nat)d,ds[i]? =some d->∃q,fs[i]? =some q/\lY K mg d q.1 q.2
 |[],_,_,i=>fun d e=>by simp at e
 |_::_,[],h,_=>fun _ _=>h.elim
 |d::ds,(f,fd)::r,h,0=>fun d' e=>by cases e;exact⟨(f,fd),rfl,h.1⟩
 |d::ds,_::r,h,i+1=>fun d' e=>h.2.at i d' e
def Hh(K:QQq)(mg:QZz):List Str->List D->Prop
 |[],[]=>True
 |x::xs,d::ds=>Ui K mg x d/\Hh K mg xs ds
 |_,_=>False
theorem Hh.at{K:QQq}{mg:QZz}:∀{xs:List Str}{ds:List D},Hh K mg xs ds->∀(k:Nat)x,xs[k]? =some x->∃d,ds[k]? =some d/\Ui K mg x d
 |[],_,_,k=>fun x e=>by simp at e
 |_::_,[],h,_=>fun _ _=>h.elim
 |x::xs,d::ds,h,0=>fun x' e=>by cases e;exact⟨d,rfl,h.1⟩
 |x::xs,d::ds,h,k+1=>fun x' e=>h.2.at k x' e
def Qn(K:QQq)(x:Str)(st:Stmt):Prop:=∃(f:Addr)(od an:Option Addr)(sl:Array (Option Value))(oc kV dc pm cd ct:Value),
 PySem.W.nsIn K mainGlobals x=some (some (.ref f))/\K.lookup f=some ⟨oc,od,.func (PySem.W.fnOf x x (eQ st) (cN st) (aF st) .none kV dc pm an cd ct),sl⟩/\PySem.W.codeIn K cd x=true/\PySem.W.keepIn K (.ref f)=true
def dIn{x:Str}{f:Addr}{od an:Option Addr}{oc kV dc pm cd ct:Value}(a:PySem.W.nsIn K mainGlobals x=some (some (.ref f)))
  (l:K.lookup f=some ⟨oc,od,.func (PySem.W.fnOf x x (eQ st) (cN st) (aF st) .none kV dc pm an cd ct),sl⟩)(c:PySem.W.codeIn K cd x=true)(p:PySem.W.keepIn K (.ref f)=true):Qn K x st:=⟨f,od,an,sl,oc,kV,dc,pm,cd,ct,a,l,c,p⟩
def AllIn(K:QQq):List (Str×Stmt)->Prop
 |[]=>True
 |(x,s)::r=>Qn K x s/\AllIn K r
def Bd(d:Df):Prop:=∀(kV dc pm:Value)(an:Option Addr)(cd ct:Value)(us:List Value),us.length=d.ps.length->bindArgs (PySem.W.fnOf d.x d.x (eQ d.st) (cN d.st) (aF d.st) .none kV dc pm an cd ct) ⟨us,[]⟩=pure (d.ps.zip us)
def sr{us:List Value}(h:us.length=1):∃a,us=[a]:=List.length_eq_one_iff.mp h
def SJ{us:List Value}(h:us.length=n+1):∃a r,us=a::r/\r.length=n:=by
 cases us with
 |nil=>simp at h
 |cons a r=>exact⟨a,r,rfl,by simpa using h⟩
def jY{us:List Value}(h:us.length=2):∃a b,us=[a,b]:=by
 obtain⟨a,r,rfl,h2⟩:=SJ h;obtain⟨b,rfl⟩:=sr h2;exact⟨a,b,rfl⟩
def je{us:List Value}(h:us.length=3):∃a b c,us=[a,b,c]:=by
 obtain⟨a,r,rfl,h2⟩:=SJ h;obtain⟨b,c,rfl⟩:=jY h2;exact⟨a,b,c,rfl⟩
def rZ{us:List Value}(h:us.length=4):∃a b c d,us=[a,b,c,d]:=by
 obtain⟨a,r,rfl,h2⟩:=SJ h;obtain⟨b,c,d,rfl⟩:=je h2;exact⟨a,b,c,d,rfl⟩
def Yl{us:List Value}(h:us.length=5):∃a b c d e,us=[a,b,c,d,e]:=by
 obtain⟨a,r,rfl,h2⟩:=SJ h;obtain⟨b,c,d,e,rfl⟩:=rZ h2;exact⟨a,b,c,d,e,rfl⟩
def Hi:List Df->Prop
 |[]=>True
 |d::r=>Bd d/\Hi r
inductive ZS(K:QQq)(x:Str):D->Prop
 |v {u:Value} {d:D}:PySem.W.nsIn K mainGlobals x=some (some u)->vIs u d=true->ZS K x d
 |t {a:Addr} {o:Obj} {ds:List D}:PySem.W.nsIn K mainGlobals x=some (some (.ref a))->K.lookup a=some o->J4 o ds=true->ZS K x (.tup ds)
def yr(K:QQq):List Str->List D->Prop
 |[],[]=>True
 |x::xs,d::ds=>ZS K x d/\yr K xs ds
 |_,_=>False
def Qq(K:QQq):List Str->Prop
 |[]=>True
 |x::r=>PySem.W.nsIn K mainGlobals x=some none/\Qq K r
section
theorem PN(X:K.In h)(G:h.Ns mainGlobals mg):∀(ds:List Df),Hi ds->AllIn K (ds.map fun d=>(d.x,d.st))->
  ∃fs,Hj K mg ds fs/\∀(i:Nat)d,ds[i]? =some d->∃q,fs[i]? =some q/\lY K mg d q.1 q.2/\∀(s:Shared)(us:List Value),us.length=d.ps.length->BindsTo s q.2 ⟨us,[]⟩ (d.ps.zip us)
 |[],_,_=>⟨[],trivial,fun i d e=>by simp at e⟩
 |d::ds,⟨b,bs⟩,⟨⟨f,od,an,sl,oc,kV,dc,pm,cd,ct,a,l,c,p⟩,is⟩=>by
  obtain⟨fs,A,B⟩:=PN X G ds bs is
  have F:=Zi l c p
  have D:lY K mg d f _:=⟨F,F.binds b,PySem.W.mg_of X G a⟩
  refine⟨(f,_)::fs,⟨D,A⟩,fun i e he=>?_⟩
  cases i with
  |zero=>cases he;exact⟨_,rfl,D,fun s us hl=>.of_eq (b kV dc pm an cd ct us hl)⟩
  |succ i=>exact B i e he
theorem PL(X:K.In h)(G:h.Ns mainGlobals mg):∀(xs:List Str)(ds:List D),yr K xs ds->Hh K mg xs ds
 |[],[],_=>trivial
 |_::xs,_::ds,⟨g,r⟩=>⟨by cases g with
  |v e hv=>exact YS X G e hv
  |t e l hv=>exact YT X G e l hv,PL X G xs ds r⟩
 |[],_::_,h=>h.elim
 |_::_,[],h=>h.elim
theorem PK(X:K.In h)(G:h.Ns mainGlobals mg):∀(xs:List Str),Qq K xs->∀x∈xs,mg x=none
 |[],_=>fun x hx=>by cases hx
 |_::r,⟨e,es⟩=>fun x hx=>by
  rcases QCq.mp hx with rfl|hx
  ·exact PySem.W.mg_none_of X G e
  ·exact PK X G r es x hx
end
def JX{l:PySem.W.OpenLaw}{loose:List Str}{YP:World->Heap->Prop}{K:Params->QQq}{p:Pg}{L:Nat}(hn:l.most=some 63)(hdf:d.params.defaults=[])
  (hY:∀(w:World)(h:Heap),YP w h->(K w.params).In h)(math:∀ns:List Int,ns.length<=63->∃qs,p.fn 60 L [.val (.lst (ns.map D.int))]=.ok (.val (.bl true)) qs)
  (F:∀(w:World)(mg:QZz)(fa:Addr)(h:Heap),(K w.params).In h->h.Ns mainGlobals mg->mg d.name=some (.ref fa)->
   ∃fd:FuncData,(∀(s:Shared)(u:Value),BindsTo s fd ⟨[u],[]⟩ [(y,u)])/\∀base:Heap,(K w.params).In base->base.Ns mainGlobals mg->fK l.prog w (K w.params) mg base Bg 60 fa fd [y] (oA (K w.params) 1 (p.fn 60 L))):
  PySem.W.WalkO q loose XP YP l.row.toRowW d [] (fun f vs=>PySem.call f vs):=
 L2.Qy hn (by decide) hdf ⟨rfl,by decide,by decide⟩ hY F (fun _ _ a ns hl hO hS=>W6 hO hS (math ns hl) _) fun _ _ _ _ _ z=>z
section
@[simp]theorem aeg{f:α->Ev->Out β}:(Out.ok a σ).bind f=f a σ:=rfl
@[simp]theorem ac7{f:α->Ev->Out β}:(Out.exc k σ).bind f=.exc k σ:=rfl
@[simp]theorem ac8{f:α->Ev->Out β}:(Out.bad:Out α).bind f=.bad:=rfl
@[simp]theorem bU{f:D->Ev->Out β}:(Out.ok (.val d) σ).ao f=f d σ:=rfl
@[simp]theorem lJ{f:D->Ev->Out β}:(Out.ok (.new o) σ).ao f=f o.d σ:=rfl
@[simp]theorem aaz{f:D->Ev->Out β}:(Out.exc k σ).ao f=.exc k σ:=rfl
@[simp]theorem aaA{f:D->Ev->Out β}:(Out.bad).ao f=.bad:=rfl
@[simp]theorem dF{f:Bool->Ev->Out β}:(Out.ok (.val (.bl b)) σ).cC iU f=f b σ:=rfl
@[simp]theorem aaw{f:Bool->Ev->Out β}:(Out.ok (.val (.int i)) σ).cC iU f=f (i !=0) σ:=rfl
@[simp]theorem aau{f:Bool->Ev->Out β}:(Out.ok (.val (.tup xs)) σ).cC iU f=f (!xs.isEmpty) σ:=rfl
@[simp]theorem aav{f:Bool->Ev->Out β}:(Out.ok (.val (.lst xs)) σ).cC iU f=f (!xs.isEmpty) σ:=rfl
@[simp]theorem aax{f:Bool->Ev->Out β}:(Out.exc k σ).cC iU f=.exc k σ:=rfl
@[simp]theorem aay{f:Bool->Ev->Out β}:(Out.bad).cC iU f=.bad:=rfl
@[simp]theorem VR{a:α}:(Out.ok a σ).fl f=f a σ:=rfl
@[simp]theorem agH:(Out.exc k σ:Out α).fl f=.exc k σ:=rfl
@[simp]theorem agI:(Out.bad:Out α).fl f=.bad:=rfl
@[simp]theorem Tv:(Out.ok (.val d) σ).qi f=f d σ:=rfl
@[simp]theorem ad1:(Out.ok (.new o) σ).qi f=f o.d σ:=rfl
@[simp]theorem ad2:(Out.exc k σ).qi f=.exc k σ:=rfl
@[simp]theorem ad3:(Out.bad).qi f=.bad:=rfl
@[simp]theorem Zm:(Out.ok (.val (.bl b)) σ).Dj f=f b σ:=rfl
@[simp]theorem adZ:(Out.exc k σ).Dj f=.exc k σ:=rfl
@[simp]theorem ad0:(Out.bad).Dj f=.bad:=rfl
@[simp]theorem vI{a:α}:Mini.lift σ (some a)=.ok a σ:=rfl
@[simp]theorem aaj:Mini.lift σ (none:Option α)=.bad:=rfl
@[simp]theorem yR:(Fl.next σ).seq f=f σ:=rfl
@[simp]theorem adH{f:Ev->Fl}:(Fl.ret r σ).seq f=.ret r σ:=rfl
@[simp]theorem adI:(Fl.exc k σ).seq f=.exc k σ:=rfl
@[simp]theorem adJ:(Fl.brk σ).seq f=.brk σ:=rfl
@[simp]theorem abC:(Fl.cont σ).seq f=.cont σ:=rfl
@[simp]theorem adK:(Fl.bad).seq f=.bad:=rfl
@[simp]theorem iI:(Fl.next σ).turn f=f σ:=rfl
@[simp]theorem Z9:(Fl.cont σ).turn f=f σ:=rfl
@[simp]theorem aa4:(Fl.brk σ).turn f=.next σ:=rfl
@[simp]theorem J3{f:Ev->Fl}:(Fl.ret r σ).turn f=.ret r σ:=rfl
@[simp]theorem aa3:(Fl.exc k σ).turn f=.exc k σ:=rfl
@[simp]theorem aa5:(Fl.bad).turn f=.bad:=rfl
@[simp]theorem abD:wR (.val d) σ=.ret (.val d) σ:=rfl
@[simp]theorem abE:wR (.new o) σ=.ret (.new o) σ:=rfl
@[simp]theorem zy:Ij (some τ)=.next τ:=rfl
@[simp]theorem aci:Ij none=.bad:=rfl
@[simp]theorem adh:argv (.val d)=.val d:=rfl
@[simp]theorem adl:argv (.new o)=.val o.d:=rfl
@[simp]theorem adk:argv (.ref k)=.ref k:=rfl
@[simp]theorem adi:argv (.tmp o)=.tmp o:=rfl
@[simp]theorem abx:Rv.Bu (.val d)=some (.val d):=rfl
@[simp]theorem yQ:Rv.Bu (.new o)=some (.own o):=rfl
@[simp]theorem aed:Rv.jF (.val d)=some d:=rfl
@[simp]theorem aee:Rv.jF (.new o)=some o.d:=rfl
@[simp]theorem V4:Ob.d (.lst xs)=.lst xs:=rfl
@[simp]theorem ahX:Ob.d (.dct xs ys)=.cH xs ys:=rfl
@[simp]theorem adQ:Iz (.tup xs)=some xs.length:=rfl
@[simp]theorem adR:Iz (.lst xs)=some xs.length:=rfl
@[simp]theorem aej:b1 .len (.tup xs)=some (.val (.int xs.length)):=rfl
@[simp]theorem aek:b1 .len (.lst xs)=some (.val (.int xs.length)):=rfl
@[simp]theorem ael:b1 .int (.int i)=some (.val (.int i)):=rfl
@[simp]theorem aem:b1 .int (.bl b)=some (.val (.int (b2i b))):=rfl
@[simp]theorem ac9:b1 .tuple d=(bG d).bind fun xs=>some (.val (.tup xs)):=rfl
@[simp]theorem aei:b1 .list d=(Kz d).bind fun xs=>some (.new (.lst xs)):=rfl
@[simp]theorem aeZ xs:Kz (.tup xs)=some xs:=rfl
@[simp]theorem ae1 xs:Kz (.lst xs)=some xs:=rfl
@[simp]theorem ae0 ks vs:Kz (.jH ks vs)=some ks:=rfl
@[simp]theorem Px:b1 .all d=(bG d).bind fun xs=>(bools xs).map fun bs=>.val (.bl (bs.all id)):=rfl
@[simp]theorem ag3:b1 .any d=(bG d).bind fun xs=>(bools xs).map fun bs=>.val (.bl (bs.any id)):=rfl
@[simp]theorem aen:b1 .dict d=(bG d).bind fun xs=>(dictOf [] [] xs).map fun p=>.new (.dct p.1 p.2):=rfl
@[simp]theorem aaD:b1 .sorted d=(pF d).bind fun xs=>(pD xs).map fun ys=>.new (.lst ys):=rfl
@[simp]theorem aad:bG (.tup xs)=some xs:=rfl
@[simp]theorem uV:bG (.lst xs)=some xs:=rfl
@[simp]theorem aag:pF (.lst xs)=some xs:=rfl
@[simp]theorem adX:getD (.tup xs) (.int i)=at? xs i:=rfl
@[simp]theorem adY:getD (.lst xs) (.int i)=at? xs i:=rfl
@[simp]theorem add_int:binop .add (.int i) (.int j)=some (.val (.int (i+j))):=rfl
@[simp]theorem sub_int:binop .sub (.int i) (.int j)=some (.val (.int (i-j))):=rfl
@[simp]theorem mul_int:binop .mul (.int i) (.int j)=if small i||small j then some (.val (.int (i*j)))else none:=rfl
@[simp]theorem mod_int:binop .mod (.int i) (.int j)=if 0<j then some (.val (.int (i%j)))else none:=rfl
@[simp]theorem lt_int:aG .lt (.int i) (.int j)=some (decide (i<j)):=rfl
@[simp]theorem gt_int:aG .gt (.int i) (.int j)=some (decide (j<i)):=rfl
@[simp]theorem le_int:aG .le (.int i) (.int j)=some (decide (i<=j)):=rfl
@[simp]theorem ge_int:aG .ge (.int i) (.int j)=some (decide (j<=i)):=rfl
@[simp]theorem ahr:aG .jJ d .non=some (bO d):=rfl
@[simp]theorem afV:aG .notN d .non=some (!bO d):=rfl
@[simp]theorem aal:bO (.tup xs)=false:=rfl
@[simp]theorem aam:bO .non=true:=rfl
@[simp]theorem eq_int:aG .eq (.int i) (.int j)=some (i==j):=rfl
@[simp]theorem ne_int:aG .ne (.int i) (.int j)=some (!(i==j)):=rfl
@[simp]theorem ahW:aG .eq (.bl b) (.bl c)=some (b==c):=rfl
@[simp]theorem aho:aG .ne (.bl b) (.bl c)=some (!(b==c)):=rfl
@[simp]theorem eq_str:aG .eq (.str x) (.str y)=some (decide (x=y)):=rfl
@[simp]theorem ne_str:aG .ne (.str x) (.str y)=some (!decide (x=y)):=rfl
@[simp]theorem aaF:E.au (.var k)=some k:=rfl
@[simp]theorem aaO d:E.au (.con d)=none:=rfl
@[simp]theorem ZL k:E.au (.glob k)=none:=rfl
@[simp]theorem aaG a:E.au (.tup a)=none:=rfl
@[simp]theorem aaK a:E.au (.lis a)=none:=rfl
@[simp]theorem adf o a b:E.au (.op o a b)=none:=rfl
@[simp]theorem aaJ a:E.au (.neg a)=none:=rfl
@[simp]theorem aaP o a b:E.au (.cmp o a b)=none:=rfl
@[simp]theorem Wa o p a b c:E.au (.chain o p a b c)=none:=rfl
@[simp]theorem aaQ a:E.au (.and a)=none:=rfl
@[simp]theorem ade a:E.au (.or a)=none:=rfl
@[simp]theorem aaI a:E.au (.not a)=none:=rfl
@[simp]theorem aaL a b c:E.au (.ite a b c)=none:=rfl
@[simp]theorem aaN a b:E.au (.idx a b)=none:=rfl
@[simp]theorem aaH a b c:E.au (.slc a b c)=none:=rfl
@[simp]theorem ZM f a:E.au (.call f a)=none:=rfl
@[simp]theorem adg b a:E.au (.bi b a)=none:=rfl
@[simp]theorem aaM a t:E.au (.isi a t)=none:=rfl
@[simp]theorem aaE a b:E.au (.zip a b)=none:=rfl
@[simp]theorem Uc a:E.au (.range1 a)=none:=rfl
@[simp]theorem V9 a b:E.au (.count a b)=none:=rfl
@[simp]theorem V8 i a:E.au (.popAt i a)=none:=rfl
@[simp]theorem ur n tg a b c:E.au (.comp n tg a b c)=none:=rfl
@[simp]theorem adc a:E.au (.rd a)=none:=rfl
def gM xs(j:Nat)(h:j<xs.length):at? xs (j:Int)=xs[j]? :=by
 unfold at? ix?
 rw[if_neg (by omega:¬(j:Int)<0),if_pos ⟨by omega,by omega⟩]
 simp
@[simp]theorem at0:at? (a::xs) 0=some a:=(gM _ 0 (by simp)).trans rfl
@[simp]theorem at1{a b:D}:at? (a::b::xs) 1=some b:=(gM _ 1 (by simp)).trans rfl
@[simp]theorem at2{a b c:D}:at? (a::b::c::xs) 2=some c:=(gM _ 2 (by simp)).trans rfl
@[simp]theorem at3{a b c e:D}:at? (a::b::c::e::xs) 3=some e:=(gM _ 3 (by simp)).trans rfl
end
def aK(bs:List Bool):D:=.tup (bs.map .bl)
def dO:Nat->List (List Bool)
 |0=>[[]]
 |k+1=>(dO k).map (· ++[false])++(dO k).map (· ++[true])
def masks:Nat->List (List Bool)
 |0=>[[]]
 |k+1=>(masks k).map (false:: ·)++(masks k).map (true:: ·)
theorem vC:∀(bs:List Bool),bs∈masks bs.length
 |[]=>by simp[masks]
 |b::bs=>by
  have:=vC bs
  cases b<;>simp[masks,this]
def m7{α:Type}:List Bool->List α->List α
 |b::bs,x::xs=>if b then x::m7 bs xs else m7 bs xs
 |_,_=>[]
def zV:List (List Bool)->Bool
 |a::b::r=>lL a b&&zV (b::r)
 |_=>true
def qW(k:Nat)(bs:List Bool):Bool:=match pD (m7 bs ((dO k).map aK))with
 |some ws=>if ws.isEmpty then true else match ju ws with
  |some rs=>(rs.all fun r=>r.length==k)&&zV rs
  |none=>false
 |none=>false
def abw:(masks 2).all (qW 1)=true:=by decide+kernel
def abv:(masks 4).all (qW 2)=true:=by decide+kernel
def abu:(masks 8).all (qW 3)=true:=by decide+kernel
theorem wj:∀{ys:List D}{bs:List Bool},bools ys=some bs->ys=bs.map .bl
 |[],bs,e=>by cases e;rfl
 |y::ys,bs,e=>by
  cases y with
  |bl b=>
   simp only[bools]at e
   cases q:bools ys with
   |none=>rw[q]at e;cases e
   |some r=>rw[q]at e;cases e;rw[wj q];rfl
  |_=>cases e
theorem u0:∀{xs:List D}{rs:List (List Bool)},ju xs=some rs->xs=rs.map aK
 |[],rs,e=>by cases e;rfl
 |y::ys,rs,e=>by
  cases y with
  |tup zs=>
   simp only[ju]at e
   cases q:bools zs with
   |none=>rw[q]at e;cases e
   |some bs=>
    cases bs with
    |nil=>rw[q]at e;cases e
    |cons b bs=>
     rw[q]at e
     cases q2:ju ys with
     |none=>rw[q2]at e;cases e
     |some rs'=>
      rw[q2]at e
      cases e
      rw[u0 q2,wj q]
      rfl
  |_=>cases e
theorem oH:∀k,(dO k).length=2 ^k
 |0=>rfl
 |k+1=>by simp[dO,oH k];omega
def Hw k(h1:1<=k)(h3:k<=3)bs(hl:bs.length=2 ^k):∃rs,pD (m7 bs ((dO k).map aK))=some (rs.map aK)/\(∀r∈rs,r.length=k)/\zV rs=true:=by
 have ok:qW k bs=true:=by
  have hm:=vC bs
  rw[hl]at hm
  rcases (by omega:k=1\/k=2\/k=3)with rfl|rfl|rfl
  ·exact List.all_eq_true.mp abw bs hm
  ·exact List.all_eq_true.mp abv bs hm
  ·exact List.all_eq_true.mp abu bs hm
 unfold qW at ok
 cases q:pD _ with
 |none=>rw[q]at ok;cases ok
 |some ws=>
  rw[q]at ok
  simp only at ok
  split at ok
  ·rename_i he
   have:ws=[]:=by simpa using he
   subst this
   exact⟨[],rfl,fun r h=>(by cases h),rfl⟩
  ·cases q2:ju ws with
   |none=>rw[q2]at ok;cases ok
   |some rs=>
    rw[q2]at ok
    simp only[QUq,List.all_eq_true,beq_iff_eq]at ok
    exact⟨rs,by rw[u0 q2],ok.1,ok.2⟩
theorem filter_tt{α:Type}:∀(xs:List α),xs.filter (fun _=>true)=xs
 |[]=>rfl
 |x::xs=>by rw[List.filter_cons_of_pos rfl,filter_tt xs]
def bu(s:Sl):Prop:=s=.un\/∃d,s=.val d
def oF(h:bu s)d(r:Ev):aX (.name 0) d (s::r)=some (.val d::r):=by
 rcases h with rfl|⟨e,rfl⟩<;>rfl
def uU(h:bu s)(h':bu t)a b(r:Ev):aX (.tup [0,1]) (.tup [a,b]) (s::t::r)=some (.val a:: .val b::r):=by
 rcases h with rfl|⟨e,rfl⟩<;>rcases h' with rfl|⟨e',rfl⟩<;>rfl
def OD c d σ:ev c (.con d) σ=.ok (.val d) σ:=rfl
section
variable{cond elt:Ev->Out Rv}
theorem go1{f:D->D}{p:D->Bool}:∀(xs acc:List D)(s:Sl),bu s->(∀x∈xs,cond (.val x::τ)=.ok (.val (.bl (p x))) (.val x::τ))->(∀x∈xs,p x=true->elt (.val x::τ)=.ok (.val (f x)) (.val x::τ))->
  ∃s',bu s'/\aV (.name 0) cond elt xs acc (s::τ)=.ok (acc++(xs.filter p).map f) (s'::τ)
 |[]=>fun acc s hs _ _=>⟨s,hs,by simp[aV]⟩
 |x::xs=>fun acc s hs hc he=>by
  rw[aV,oF hs]
  simp only
  rw[hc x QYz,dF]
  cases q:p x with
  |true=>
   obtain⟨s',a1,a2⟩:=go1 xs _ _ (.inr ⟨x,rfl⟩) (fun y hy=>hc y (QYq _ hy)) (fun y hy=>he y (QYq _ hy))
   refine⟨s',a1,?_⟩
   rw[if_pos rfl,he x QYz q,bU,a2]
   simp[q]
  |false=>
   obtain⟨s',a1,a2⟩:=go1 xs acc _ (.inr ⟨x,rfl⟩) (fun y hy=>hc y (QYq _ hy)) (fun y hy=>he y (QYq _ hy))
   refine⟨s',a1,?_⟩
   rw[if_neg (by simp),a2]
   simp[q]
def pairD(p:D×D):D:=.tup [p.1,p.2]
theorem go2{f:D×D->D}{p:D×D->Bool}:∀(xs:List (D×D))(acc:List D)(s t:Sl),bu s->bu t->(∀x∈xs,cond (.val x.1:: .val x.2::τ)=.ok (.val (.bl (p x))) (.val x.1:: .val x.2::τ))->
  (∀x∈xs,p x=true->elt (.val x.1:: .val x.2::τ)=.ok (.val (f x)) (.val x.1:: .val x.2::τ))->
  ∃s' t',aV (.tup [0,1]) cond elt (xs.map pairD) acc (s::t::τ)=.ok (acc++(xs.filter p).map f) (s'::t'::τ)
 |[]=>fun acc s t hs ht _ _=>⟨s,t,by simp[aV]⟩
 |x::xs=>fun acc s t hs ht hc he=>by
  rw[Qyz,aV,show pairD x=.tup [x.1,x.2]from rfl,uU hs ht]
  simp only
  rw[hc x QYz,dF]
  cases q:p x with
  |true=>
   obtain⟨s',t',a2⟩:=go2 xs _ _ _ (.inr ⟨_,rfl⟩) (.inr ⟨_,rfl⟩) (fun y hy=>hc y (QYq _ hy)) (fun y hy=>he y (QYq _ hy))
   refine⟨s',t',?_⟩
   rw[if_pos rfl,he x QYz q,bU,a2]
   simp[q]
  |false=>
   obtain⟨s',t',a2⟩:=go2 xs acc _ _ (.inr ⟨_,rfl⟩) (.inr ⟨_,rfl⟩) (fun y hy=>hc y (QYq _ hy)) (fun y hy=>he y (QYq _ hy))
   refine⟨s',t',?_⟩
   rw[if_neg (by simp),a2]
   simp[q]
end
section
def yd f p(hi:ev c it σ=.ok r τ)(hr:r.jF=some d)(hd:items d=some xs)(hc:∀x∈xs,ev c co (.val x::τ)=.ok (.val (.bl (p x))) (.val x::τ))(he:∀x∈xs,p x=true->ev c el (.val x::τ)=.ok (.val (f x)) (.val x::τ)):
  ev c (.comp 1 (.name 0) it co el) σ=.ok (.new (.lst ((xs.filter p).map f))) τ:=by
 obtain⟨s',_,a⟩:=go1 xs [] .un (.inl rfl) hc he
 rw[qJ,hi]
 have b:∀{β:Type}(g:D->Ev->Out β),(Out.ok r τ).ao g=g d τ:=fun g=>by cases r<;>simp[Rv.jF]at hr<;>subst hr<;>rfl
 rw[b]
 simp only[hd]
 rw[show List.replicate 1 Sl.un++τ=.un::τ from rfl,a]
 simp
def tR f(hi:ev c it σ=.ok r τ)(hr:r.jF=some d)(hd:items d=some xs)(he:∀x∈xs,ev c el (.val x::τ)=.ok (.val (f x)) (.val x::τ)):
  ev c (.comp 1 (.name 0) it AAL el) σ=.ok (.new (.lst (xs.map f))) τ:=by
 have:=yd f (fun _=>true) hi hr hd (fun x _=>OD c _ _) (fun x hx _=>he x hx)
 rw[filter_tt]at this
 exact this
def O3{ps:List (D×D)}f p(hi:ev c it σ=.ok r τ)(hr:r.jF=some d)(hd:items d=some (ps.map pairD))(hc:∀x∈ps,ev c co (.val x.1:: .val x.2::τ)=.ok (.val (.bl (p x))) (.val x.1:: .val x.2::τ))
  (he:∀x∈ps,p x=true->ev c el (.val x.1:: .val x.2::τ)=.ok (.val (f x)) (.val x.1:: .val x.2::τ)):
  ev c (.comp 2 (.tup [0,1]) it co el) σ=.ok (.new (.lst ((ps.filter p).map f))) τ:=by
 obtain⟨s',t',a⟩:=go2 ps [] .un .un (.inl rfl) (.inl rfl) hc he
 rw[qJ,hi]
 have b:∀{β:Type}(g:D->Ev->Out β),(Out.ok r τ).ao g=g d τ:=fun g=>by cases r<;>simp[Rv.jF]at hr<;>subst hr<;>rfl
 rw[b]
 simp only[hd]
 rw[show List.replicate 2 Sl.un++τ=.un:: .un::τ from rfl,a]
 simp
def V6{ps:List (D×D)}f(hi:ev c it σ=.ok r τ)(hr:r.jF=some d)(hd:items d=some (ps.map pairD))(he:∀x∈ps,ev c el (.val x.1:: .val x.2::τ)=.ok (.val (f x)) (.val x.1:: .val x.2::τ)):
  ev c (.comp 2 (.tup [0,1]) it AAL el) σ=.ok (.new (.lst (ps.map f))) τ:=by
 have:=O3 f (fun _=>true) hi hr hd (fun x _=>OD c _ _) (fun x hx _=>he x hx)
 rw[filter_tt]at this
 exact this
end
section
theorem Zz{xs:List D}f p(hi:ev c it σ=.ok r τ0)(hr:r.jF=some d)(hd:items d=some (x0::xs))(hc0:ev c co (.val x0::τ0)=.ok (.val (.bl (p x0))) (.val x0::τ))(hc:∀x∈xs,ev c co (.val x::τ)=.ok (.val (.bl (p x))) (.val x::τ))
  (he:∀x∈x0::xs,p x=true->ev c el (.val x::τ)=.ok (.val (f x)) (.val x::τ)):ev c (.comp 1 (.name 0) it co el) σ=.ok (.new (.lst (((x0::xs).filter p).map f))) τ:=by
 rw[qJ,hi]
 have b:∀{β:Type}(g:D->Ev->Out β),(Out.ok r τ0).ao g=g d τ0:=fun g=>by cases r<;>simp[Rv.jF]at hr<;>subst hr<;>rfl
 rw[b]
 simp only[hd]
 rw[show List.replicate 1 Sl.un++τ0=.un::τ0 from rfl,aV,oF (.inl rfl)]
 simp only
 rw[hc0,dF]
 cases q:p x0 with
 |true=>
  obtain⟨s',_,a⟩:=go1 xs _ _ (.inr ⟨_,rfl⟩) hc (fun x hx=>he x (QYq _ hx))
  rw[if_pos rfl,he x0 QYz q,bU,a]
  simp[q]
 |false=>
  obtain⟨s',_,a⟩:=go1 xs [] _ (.inr ⟨_,rfl⟩) hc (fun x hx=>he x (QYq _ hx))
  rw[if_neg (by simp),a]
  simp[q]
theorem Zy{ps:List (D×D)}f p(hi:ev c it σ=.ok r τ0)(hr:r.jF=some d)(hd:items d=some ((x0::ps).map pairD))(hc0:ev c co (.val x0.1:: .val x0.2::τ0)=.ok (.val (.bl (p x0))) (.val x0.1:: .val x0.2::τ))
  (hc:∀x∈ps,ev c co (.val x.1:: .val x.2::τ)=.ok (.val (.bl (p x))) (.val x.1:: .val x.2::τ))
  (he:∀x∈x0::ps,p x=true->ev c el (.val x.1:: .val x.2::τ)=.ok (.val (f x)) (.val x.1:: .val x.2::τ)):ev c (.comp 2 (.tup [0,1]) it co el) σ=.ok (.new (.lst (((x0::ps).filter p).map f))) τ:=by
 rw[qJ,hi]
 have b:∀{β:Type}(g:D->Ev->Out β),(Out.ok r τ0).ao g=g d τ0:=fun g=>by cases r<;>simp[Rv.jF]at hr<;>subst hr<;>rfl
 rw[b]
 simp only[hd]
 rw[show List.replicate 2 Sl.un++τ0=.un:: .un::τ0 from rfl,Qyz,aV,show pairD x0=.tup [x0.1,x0.2]from rfl,uU (.inl rfl) (.inl rfl)]
 simp only
 rw[hc0,dF]
 cases q:p x0 with
 |true=>
  obtain⟨s',t',a⟩:=go2 ps _ _ _ (.inr ⟨_,rfl⟩) (.inr ⟨_,rfl⟩) hc (fun x hx=>he x (QYq _ hx))
  rw[if_pos rfl,he x0 QYz q,bU,a]
  simp[q]
 |false=>
  obtain⟨s',t',a⟩:=go2 ps [] _ _ (.inr ⟨_,rfl⟩) (.inr ⟨_,rfl⟩) hc (fun x hx=>he x (QYq _ hx))
  rw[if_neg (by simp),a]
  simp[q]
end
theorem j5:∀(bs:List Bool),bools (bs.map D.bl)=some bs
 |[]=>rfl
 |b::bs=>by simp[bools,j5 bs]
theorem uc:∀{α:Type}(xs:List α),bools (xs.map fun _=>D.bl true)=some (xs.map fun _=>true)
 |_,[]=>rfl
 |_,x::xs=>by simp[bools,uc xs]
theorem Ed:∀{α:Type}(xs:List α),(xs.map fun _=>true).all id=true
 |_,[]=>rfl
 |_,x::xs=>by simpa using Ed xs
section
def all1(hi:ev c it σ=.ok r τ)(hr:r.jF=some d)(hd:items d=some xs)(he:∀x∈xs,ev c el (.val x::τ)=.ok (.val (.bl true)) (.val x::τ)):
  ev c (.bi .all (.comp 1 (.name 0) it AAL el)) σ=.ok (.val (.bl true)) τ:=by
 rw[uC]
 simp only[ur]
 rw[tR _ hi hr hd he,lJ]
 simp only[V4,Px,uV,QHq]
 rw[uc]
 simp only[Option.map_some,vI,Ed]
def all2{ps:List (D×D)}(hi:ev c it σ=.ok r τ)(hr:r.jF=some d)(hd:items d=some (ps.map pairD))(he:∀x∈ps,ev c el (.val x.1:: .val x.2::τ)=.ok (.val (.bl true)) (.val x.1:: .val x.2::τ)):
  ev c (.bi .all (.comp 2 (.tup [0,1]) it AAL el)) σ=.ok (.val (.bl true)) τ:=by
 rw[uC]
 simp only[ur]
 rw[V6 _ hi hr hd he,lJ]
 simp only[V4,Px,uV,QHq]
 rw[uc]
 simp only[Option.map_some,vI,Ed]
end
theorem cQ:∀(xs ys:List D),aR xs ys=(xs.zip ys).map pairD
 |[],_=>by simp[aR]
 |_::_,[]=>by simp[aR]
 |x::xs,y::ys=>by simp[aR,cQ xs ys,pairD]
end Mini
end
section
namespace Mini
open PySem
@[simp]def fin(k:Nat):Fl->Res
 |.next σ=>.ok (.val .non) (σ.take k)
 |.ret r σ=>.ok r (σ.take k)
 |.exc c σ=>.exc c (σ.take k)
 |_=>.bad
def Q7 c f ps(h:ps.length=f.pars):fU c f ps=fin f.pars (ex c f.body (ps++List.replicate (f.names-f.pars) .un)):=by
 unfold fU
 rw[if_pos h]
 cases ex c f.body _<;>rfl
def Ak{α:Type}(b:Bool)(r:Out α):Out α:=if b then .bad else r
def ZG(b:Bool)(r:Fl):Fl:=if b then .bad else r
def xg{α:Type}(b:Bool)(r:Option α):Option α:=if b then none else r
@[simp]theorem aeh(r:Out α):Ak false r=r:=rfl
@[simp]theorem ag2 r:ZG false r=r:=rfl
@[simp]theorem ack(r:Option α):xg false r=r:=rfl
@[simp]theorem acj(r:Option α):xg true r=none:=rfl
@[simp]def abF(i:Nat)(σ:Ev):Option Sl->Out Rv
 |some (.val d)=>.ok (.val d) σ
 |some (.own o)=>.ok (.val o.d) (σ.set i (.val o.d))
 |_=>.bad
@[simp]theorem KZ i σ:rG i σ=abF i σ σ[i]? :=rfl
@[simp]def acs:Option Sl->Option D
 |some (.val d)=>some d
 |some (.own o)=>some o.d
 |some (.bor o)=>some o.d
 |_=>none
@[simp]theorem acr i σ:bA i σ=acs σ[i]? :=rfl
def wO(i:Nat)(σ:Ev)(s:Sl):Option Sl->Option Ev
 |some (.bor _)=>none
 |some _=>some (σ.set i s)
 |none=>none
@[simp]theorem aby i s σ:bL i s σ=wO i σ s σ[i]? :=rfl
@[simp]theorem abz(i σ s d):wO i σ s (some (.val d))=some (σ.set i s):=rfl
@[simp]theorem abA(i σ s o):wO i σ s (some (.own o))=some (σ.set i s):=rfl
@[simp]theorem adG(i σ s):wO i σ s (some .un)=some (σ.set i s):=rfl
@[simp]theorem abB(i σ s o):wO i σ s (some (.bor o))=none:=rfl
@[simp]def Ck(i:Nat)(σ:Ev)(q:Ob):Ev:=σ.set i (.own q)
@[simp]def Xr(i:Nat)(σ:Ev)(q:Ob):Ev:=σ.set i (.bor q)
@[simp]def aa7(i:Nat)(f:Ob->Option Ob)(σ:Ev):Option Sl->Option Ev
 |some (.own o)=>(f o).map (Ck i σ)
 |some (.bor o)=>(f o).map (Xr i σ)
 |_=>none
@[simp]theorem aa6 i f σ:eX i f σ=aa7 i f σ σ[i]? :=rfl
@[simp]def okB(r:Rv):Option Ev->Out Rv
 |some σ=>.ok r σ
 |none=>.bad
@[simp]def ac4(as:List Rv)(σ:Ev):Res->Out Rv
 |.ok r qs=>okB r (giveBack as qs σ)
 |_=>.bad
@[simp]def ac5(c:Cf)(f:Nat)(as:List Rv)(σ:Ev):Option (List Sl)->Out Rv
 |none=>.bad
 |some ps=>ac4 as σ (c.fn f ps)
@[simp]theorem ac6 c f as σ:tY c f as σ=ac5 c f as σ (enter as σ):=rfl
@[simp]theorem aea(σ):enter [] σ=some []:=rfl
@[simp]theorem ad9(d as σ):enter (.val d::as) σ=(enter as σ).map (.val d:: ·):=rfl
@[simp]theorem ad8(o as σ):enter (.tmp o::as) σ=xg (as.any zU) ((enter as σ).map (.bor o:: ·)):=rfl
@[simp]def agW(r:Option (List Sl)):Option Sl->Option (List Sl)
 |some (.own o)=>r.map (.bor o:: ·)
 |some (.bor o)=>r.map (.bor o:: ·)
 |_=>none
@[simp]theorem ad7(i as σ):enter (.ref i::as) σ=xg (as.any (ji i)) (agW (enter as σ) σ[i]?):=rfl
@[simp]theorem agT c(i σ):ev c (.var i) σ=rG i σ:=rfl
@[simp]theorem ajz c(d σ):ev c (.con d) σ=.ok (.val d) σ:=rfl
@[simp]theorem ajy c(k σ):ev c (.glob k) σ=match c.gl k with|some d=>.ok (.val d) σ|none=>.bad:=rfl
@[simp]def aeK(ds:List D):Option Rv:=if fits ds.length then some (.val (.tup ds))else none
@[simp]def af1(ds:List D):Option Rv:=if fits ds.length then some (.new (.lst ds))else none
@[simp]def af5(rs:List Rv)(σ:Ev):Out Rv:=lift σ ((aP rs).bind aeK)
@[simp]def agb(rs:List Rv)(σ:Ev):Out Rv:=lift σ ((aP rs).bind af1)
@[simp]theorem ajx c(es σ):ev c (.tup es) σ=(evs c es σ).bind af5:=rfl
@[simp]theorem ajw c(es σ):ev c (.lis es) σ=(evs c es σ).bind agb:=rfl
@[simp]def af9(o:ZQ)(x y:D)(σ:Ev):Out Rv:=lift σ (binop o x y)
@[simp]def kOp(c:Cf)(o:ZQ)(b:E)(x:D)(σ:Ev):Out Rv:=(ev c b σ).ao (af9 o x)
@[simp]theorem ajv c(o a b σ):ev c (.op o a b) σ=(ev c a σ).ao (kOp c o b):=rfl
@[simp]theorem aju c(a σ):ev c (.neg a) σ=(ev c a σ).ao fun x σ=>lift σ (match x with|.int i=>some (.val (.int (-i)))|_=>none):=rfl
@[simp]def qV(q:Bool):Rv:=.val (.bl q)
@[simp]def agZ(o:Cm)(x d:D):Option Rv:=(aG o x d).map qV
@[simp]def M6(o:Cm)(x y:D)(σ:Ev):Out Rv:=lift σ ((aG o x y).map qV)
@[simp]def agm(c:Cf)(o:Cm)(b:E)(x:D)(σ:Ev):Option Nat->Out Rv
 |some k=>lift σ ((bA k σ).bind (agZ o x))
 |none=>(ev c b σ).ao (M6 o x)
@[simp]def acI(c:Cf)(o:Cm)(b:E)(x:D)(σ:Ev):Out Rv:=agm c o b x σ b.au
@[simp]theorem ajt c(o a b σ):ev c (.cmp o a b) σ=(ev c a σ).ao (acI c o b):=rfl
def Yu(c:Cf)(o:Cm)(d:E)(y:D)(q:Bool)(σ:Ev):Out Rv:=if q then(ev c d σ).ao (M6 o y)else .ok (.val (.bl false)) σ
@[simp]theorem agn(c o d y σ):Yu c o d y true σ=(ev c d σ).ao (M6 o y):=rfl
@[simp]theorem ago(c o d y σ):Yu c o d y false σ=.ok (.val (.bl false)) σ:=rfl
@[simp]def agp(c:Cf)(o p:Cm)(d:E)(x y:D)(σ:Ev):Out Rv:=(lift σ (aG o x y)).bind (Yu c p d y)
@[simp]def kCh(c:Cf)(o p:Cm)(b d:E)(x:D)(σ:Ev):Out Rv:=(ev c b σ).ao (agp c o p d x)
@[simp]theorem ajs c(υ ψ a b d σ):ev c (.chain υ ψ a b d) σ=(ev c a σ).ao (kCh c υ ψ b d):=rfl
@[simp]theorem ajr c(es σ):ev c (.and es) σ=gZ c es σ:=rfl
@[simp]theorem ahV c(es σ):ev c (.or es) σ=nF c es σ:=rfl
@[simp]def aga(b:Bool)(σ:Ev):Out Rv:=.ok (.val (.bl (!b))) σ
@[simp]theorem ahU c(a σ):ev c (.not a) σ=(ev c a σ).cC iU aga:=rfl
def M4(c:Cf)(a b:E)(q:Bool)(σ:Ev):Out Rv:=if q then ev c a σ else ev c b σ
@[simp]theorem adS(c a b σ):M4 c a b true σ=ev c a σ:=rfl
@[simp]theorem adT(c a b σ):M4 c a b false σ=ev c b σ:=rfl
@[simp]theorem ahT c(t a b σ):ev c (.ite t a b) σ=(ev c t σ).cC iU (M4 c a b):=rfl
@[simp]def agD(y d:D):Option Rv:=(getD d y).map Rv.val
@[simp]def agg(k:Nat)(y:D)(σ:Ev):Out Rv:=lift σ ((bA k σ).bind (agD y))
@[simp]def acB(x y:D)(σ:Ev):Out Rv:=lift σ ((getD x y).map Rv.val)
@[simp]def acC(c:Cf)(i:E)(x:D)(σ:Ev):Out Rv:=(ev c i σ).ao (acB x)
@[simp]def agz(c:Cf)(a i:E)(σ:Ev):Option Nat->Out Rv
 |some k=>Ak (bA k σ).isNone ((ev c i σ).ao (agg k))
 |none=>(ev c a σ).ao (acC c i)
@[simp]theorem ahS c(a i σ):ev c (.idx a i) σ=agz c a i σ a.au:=rfl
@[simp]def af6(hi:E)(x:D)(l:Option Int)(h:D)(σ:Ev):Out Rv:=lift σ ((cV hi.jJ h).bind (ik x l))
@[simp]def slM(c:Cf)(hi:E)(x:D)(σ:Ev):Option (Option Int)->Out Rv
 |none=>.bad
 |some l=>(ev c hi σ).ao (af6 hi x l)
@[simp]def af7(c:Cf)(lo hi:E)(x l:D)(σ:Ev):Out Rv:=slM c hi x σ (cV lo.jJ l)
@[simp]def kSl(c:Cf)(lo hi:E)(x:D)(σ:Ev):Out Rv:=(ev c lo σ).ao (af7 c lo hi x)
@[simp]theorem ahR c(a lo hi σ):ev c (.slc a lo hi) σ=(ev c a σ).ao (kSl c lo hi):=rfl
@[simp]theorem ahQ c(σ):ev c .noneE σ=.ok (.val .non) σ:=rfl
@[simp]theorem ahP c(f as σ):ev c (.call f as) σ=(evs c as σ).bind (tY c f):=rfl
@[simp]def afQ(i:Nat)(σ:Ev):Option Sl->Out Rv
 |some (.own _)=>.ok (.ref i) σ
 |some (.bor _)=>.ok (.ref i) σ
 |_=>.bad
@[simp]theorem ahO c(i σ):ev c (.ref i) σ=afQ i σ σ[i]? :=rfl
@[simp]theorem ahN c(e σ):ev c (.rd e) σ=ev c e σ:=rfl
def acw(x:Rv)(σ:Ev):Out Rv:=lift σ (match x with|.new o=>some (.tmp o)|_=>none)
@[simp]theorem acv(o σ):acw (.new o) σ=.ok (.tmp o) σ:=rfl
@[simp]theorem ahM c(e σ):ev c (.tmp e) σ=(ev c e σ).bind acw:=rfl
@[simp]def agf(t:Ty)(x:D)(σ:Ev):Out Rv:=.ok (.val (.bl (oZ t x))) σ
@[simp]theorem ahL c(a t σ):ev c (.isi a t) σ=(ev c a σ).ao (agf t):=rfl
@[simp]def kBi(b:Bi)(x:D)(σ:Ev):Out Rv:=lift σ (b1 b x)
@[simp]def biM(c:Cf)(b:Bi)(a:E)(σ:Ev):Option Nat->Out Rv
 |some k=>lift σ ((bA k σ).bind (b1 b))
 |none=>(ev c a σ).ao (kBi b)
@[simp]theorem ahK c(b a σ):ev c (.bi b a) σ=biM c b a σ a.au:=rfl
def acz(x:D)(σ:Ev):Out Rv:=lift σ (match x with|.int n=>if fits n.toNat&&Be n then some (.val (.lst (bw 0 n.toNat)))else none|_=>none)
@[simp]theorem acy n(σ):acz (.int n) σ=lift σ (if fits n.toNat&&Be n then some (.val (.lst (bw 0 n.toNat)))else none):=rfl
@[simp]theorem ahJ c(a σ):ev c (.range1 a) σ=(ev c a σ).ao acz:=rfl
@[simp]def aeu(xs ys:List D):Rv:=.val (.lst (aR xs ys))
@[simp]def aev(y:D)(xs:List D):Option Rv:=(bG y).map (aeu xs)
@[simp]def acu(x y:D)(σ:Ev):Out Rv:=lift σ ((bG x).bind (aev y))
@[simp]def af4(c:Cf)(b:E)(x:D)(σ:Ev):Out Rv:=(ev c b σ).ao (acu x)
@[simp]theorem ahI c(a b σ):ev c (.zip a b) σ=(ev c a σ).ao (af4 c b):=rfl
@[simp]def acH(x y:D)(σ:Ev):Out Rv:=lift σ (Ag x y)
@[simp]def agl(c:Cf)(b:E)(x:D)(σ:Ev):Out Rv:=Ak (bG x).isNone ((ev c b σ).ao (acH x))
@[simp]theorem ahH c(a b σ):ev c (.count a b) σ=(ev c a σ).ao (agl c b):=rfl
@[simp]theorem adU(ks vs):lV (some (.cH ks vs))=true:=rfl
@[simp]theorem ahG c(k a σ):ev c (.popAt k a) σ=Ak (!dU (bA k σ)) ((ev c a σ).ao (rK k)):=rfl
@[simp]def acG(c:Cf)(nl:Nat)(tg:Tg)(cond elt:E)(x:D)(σ:Ev):Out Rv:=match items x with
  |some xs=>match aV tg (ev c cond) (ev c elt) xs [] (List.replicate nl .un++σ)with
   |.ok ys τ=>.ok (.new (.lst ys)) (τ.drop nl)
   |_=>.bad
  |none=>.bad
@[simp]theorem ahF c(nl tg it cond elt σ):ev c (.comp nl tg it cond elt) σ=(ev c it σ).ao (acG c nl tg cond elt):=rfl
@[simp]def acE(x:Rv)(xs:List Rv)(σ:Ev):Out (List Rv):=.ok (argv x::xs) σ
@[simp]def agj(c:Cf)(t:E)(x:Rv)(σ:Ev):Out (List Rv):=(evs c t σ).bind (acE x)
@[simp]theorem ahz c(σ):evs c .nil σ=.ok [] σ:=rfl
@[simp]theorem ahy c(h t σ):evs c (.cons h t) σ=(ev c h σ).bind (agj c t):=rfl
@[simp]theorem ajq c(σ):ex c .nil σ=.next σ:=rfl
@[simp]theorem ajp c(h t σ):ex c (.cons h t) σ=(ex c h σ).seq (ex c t):=rfl
@[simp]theorem ajo c(σ):ex c .pass σ=.next σ:=rfl
@[simp]theorem ajn c(σ):ex c .brk σ=.brk σ:=rfl
@[simp]theorem ajm c(σ):ex c .cont σ=.cont σ:=rfl
@[simp]def Xa(i:Nat)(σ:Ev)(s:Sl):Option Ev:=bL i s σ
@[simp]def af8(i:Nat)(x:Rv)(σ:Ev):Fl:=Ij (x.Bu.bind (Xa i σ))
@[simp]theorem ajl c(i e σ):ex c (.set i e) σ=(ev c e σ).fl (af8 i):=rfl
@[simp]def acx(is:List Nat)(x:D)(σ:Ev):Fl:=Ij (aX (.tup is) x σ)
@[simp]theorem ajk c(is e σ):ex c (.setT is e) σ=(ev c e σ).qi (acx is):=rfl
@[simp]def agc(k:Nat)(x y:D)(σ:Ev):Fl:=Ij (eX k (wY y x) σ)
@[simp]def kIx(c:Cf)(k:Nat)(ix:E)(x:D)(σ:Ev):Fl:=ZG (bA k σ).isNone ((ev c ix σ).qi (agc k x))
@[simp]theorem ajj c(k ix e σ):ex c (.setIx k ix e) σ=(ev c e σ).qi (kIx c k ix):=rfl
@[simp]def acA(_:D)(σ:Ev):Fl:=.next σ
@[simp]theorem aji c(e σ):ex c (.expr e) σ=(ev c e σ).qi acA:=rfl
@[simp]def ag4(x:D)(xs:List D):Option (List D):=if fits (xs.length+1)then some (xs++[x])else none
@[simp]def agq(k:Nat)(x:D)(σ:Ev):Fl:=Ij (eX k (yt (ag4 x)) σ)
@[simp]theorem ajh c(k e σ):ex c (.append k e) σ=ZG (!dU (bA k σ)) ((ev c e σ).qi (agq k)):=rfl
@[simp]def afO(c:Cf)(e:E)(i:Nat)(σ:Ev):Option Sl->Fl
 |some (.own o)=>.ret (.new o) (σ.set i .un)
 |_=>(ev c e σ).fl wR
@[simp]def afP(c:Cf)(e:E)(σ:Ev):Option Nat->Fl
 |some i=>afO c e i σ σ[i]?
 |none=>(ev c e σ).fl wR
@[simp]theorem ahx c(e σ):ex c (.ret e) σ=afP c e σ e.au:=rfl
def Yt(c:Cf)(a b:S)(q:Bool)(σ:Ev):Fl:=if q then ex c a σ else ex c b σ
@[simp]theorem agd(c a b σ):Yt c a b true σ=ex c a σ:=rfl
@[simp]theorem age(c a b σ):Yt c a b false σ=ex c b σ:=rfl
@[simp]theorem ahw c(t a b σ):ex c (.ite t a b) σ=(ev c t σ).Dj (Yt c a b):=rfl
@[simp]def kFor(c:Cf)(tg:Tg)(b:S)(σ:Ev):Option (List D)->Fl
 |some xs=>aL tg (ex c b) xs σ
 |none=>.bad
@[simp]def acD(c:Cf)(tg:Tg)(b:S)(x:D)(σ:Ev):Fl:=kFor c tg b σ (items x)
@[simp]theorem ahv c(tg it b σ):ex c (.for_ tg it b) σ=(ev c it σ).qi (acD c tg b):=rfl
@[simp]theorem ahu c(t b σ):ex c (.while_ t b) σ=cY (ev c t) (ex c b) c.turns σ:=rfl
@[simp]theorem aht c(k σ):ex c (.raise k) σ=.exc k σ:=rfl
@[simp]def agr(c:Cf)(e:E)(x:D)(σ:Ev):Out Rv:=match x with|.bl true=>gZ c e σ|.bl false=>.ok (.val (.bl false)) σ|_=>.bad
@[simp]def kOr(c:Cf)(e:E)(x:D)(σ:Ev):Out Rv:=match x with|.bl true=>.ok (.val (.bl true)) σ|.bl false=>nF c e σ|_=>.bad
@[simp]theorem ad6 c(h σ):gZ c (.cons h .nil) σ=ev c h σ:=rfl
@[simp]theorem ad5 c(h a b σ):gZ c (.cons h (.cons a b)) σ=(ev c h σ).ao (agr c (.cons a b)):=rfl
@[simp]theorem agV c(h σ):nF c (.cons h .nil) σ=ev c h σ:=rfl
@[simp]theorem agU c(h a b σ):nF c (.cons h (.cons a b)) σ=(ev c h σ).ao (kOr c (.cons a b)):=rfl
@[simp high]theorem akt x0:at? [x0] 0=some x0:=rfl
@[simp high]theorem aks x0 x1:at? [x0,x1] 0=some x0:=rfl
@[simp high]theorem akr x0 x1:at? [x0,x1] 1=some x1:=rfl
@[simp high]theorem akq x0 x1 x2:at? [x0,x1,x2] 0=some x0:=rfl
@[simp high]theorem akp x0 x1 x2:at? [x0,x1,x2] 1=some x1:=rfl
@[simp high]theorem ako x0 x1 x2:at? [x0,x1,x2] 2=some x2:=rfl
@[simp high]theorem akn x0 x1 x2 x3:at? [x0,x1,x2,x3] 0=some x0:=rfl
@[simp high]theorem akm x0 x1 x2 x3:at? [x0,x1,x2,x3] 1=some x1:=rfl
@[simp high]theorem akl x0 x1 x2 x3:at? [x0,x1,x2,x3] 2=some x2:=rfl
@[simp high]theorem akk x0 x1 x2 x3:at? [x0,x1,x2,x3] 3=some x3:=rfl
@[simp]theorem ajg(σ):giveBack [] [] σ=some σ:=rfl
@[simp]theorem ajf(i as o ps σ):giveBack (.ref i::as) (.bor o::ps) σ=(eX i (fun _=>some o) σ).bind (giveBack as ps):=rfl
@[simp]theorem aje(d as p ps σ):giveBack (.val d::as) (p::ps) σ=giveBack as ps σ:=rfl
@[simp]theorem ajd(o as p ps σ):giveBack (.tmp o::as) (p::ps) σ=giveBack as ps σ:=rfl
@[simp]theorem aiD(i j):ji i (.ref j)=(i==j):=rfl
@[simp]theorem aiC(i d):ji i (.val d)=false:=rfl
@[simp]theorem aiB(i o):ji i (.tmp o)=false:=rfl
@[simp]theorem aiA(i o):ji i (.new o)=false:=rfl
@[simp]theorem aiU(o):zU (.tmp o)=true:=rfl
@[simp]theorem aiT(d):zU (.val d)=false:=rfl
@[simp]theorem aiS(i):zU (.ref i)=false:=rfl
@[simp]theorem aii(xs):oZ .tup (.tup xs)=true:=rfl
@[simp]theorem aih(xs):oZ .lst (.lst xs)=true:=rfl
@[simp]theorem aig(x):oZ .str (.str x)=true:=rfl
@[simp]theorem aif(b):oZ .bool (.bl b)=true:=rfl
def aeJ(i):oZ .bool (.int i)=false:=rfl
@[simp]theorem aie(i):oZ .int (.int i)=true:=rfl
@[simp]theorem agR:fits 0=true:=rfl
@[simp]theorem agQ:fits 1=true:=rfl
@[simp]theorem agP:fits 2=true:=rfl
@[simp]theorem agO:fits 3=true:=rfl
@[simp]theorem agN:fits 4=true:=rfl
@[simp]theorem agM:fits 5=true:=rfl
@[simp]theorem agL:fits 6=true:=rfl
@[simp]theorem agK:fits 7=true:=rfl
@[simp]theorem agJ:fits 8=true:=rfl
@[simp]theorem acU i j:binop .fdiv (.int i) (.int j)=if 0<j/\j<1073741824 then some (.val (.int (i/j)))else none:=rfl
@[simp]theorem pow_int i j:binop .pow (.int i) (.int j)=if 0<=j/\j<=64/\small i=true then some (.val (.int (i ^j.toNat)))else none:=rfl
@[simp↓]theorem ite_tt{α:Type}(a b:α):(if true=true then a else b)=a:=rfl
@[simp↓]theorem ite_ff{α:Type}(a b:α):(if false=true then a else b)=b:=rfl
@[simp]theorem aep xs ys:binop .add (.tup xs) (.tup ys)=if fits (xs.length+ys.length)then some (.val (.tup (xs++ys)))else none:=rfl
@[simp]theorem aeq xs ys:binop .add (.lst xs) (.lst ys)=if fits (xs.length+ys.length)then some (.new (.lst (xs++ys)))else none:=rfl
@[simp]theorem aeo ks vs:b1 .copy (.cH ks vs)=some (.new (.dct ks vs)):=rfl
@[simp]def gtK(k x y:D):Option Rv:=(pI y k x).map Rv.val
@[simp]def agh(i:Nat)(k x:D)(σ:Ev):Out Rv:=lift σ ((bA i σ).bind (gtK k x))
@[simp]def agi(c:Cf)(i:Nat)(x:E)(k:D)(σ:Ev):Out Rv:=(ev c x σ).ao (agh i k)
@[simp]def agC(c:Cf)(d k x:E)(σ:Ev):Option Nat->Out Rv
 |some i=>Ak (!lV (bA i σ)) ((ev c k σ).ao (agi c i x))
 |none=>.bad
@[simp]theorem ahE c(d k x σ):ev c (.get2 d k x) σ=agC c d k x σ d.au:=rfl
@[simp]def agk(rs:List Rv)(σ:Ev):Out Rv:=lift σ ((aP rs).bind Jq)
@[simp]theorem ahD c(es σ):ev c (.dsp es) σ=(evs c es σ).bind agk:=rfl
@[simp]theorem ahC c(f as hs σ):ev c (.tcall f as hs) σ=(evs c as σ).bind (jQ c f hs):=rfl
@[simp]theorem ahA c(σ):ev c .emp σ=.ok (.new (.dct [] [])) σ:=rfl
@[simp]def acW(xs:List D):Rv:=.val (.lst (aR (bw 0 xs.length) xs))
@[simp]def acF(x:D)(σ:Ev):Out Rv:=lift σ ((pF x).map acW)
@[simp]theorem ahB c(a σ):ev c (.enum a) σ=(ev c a σ).ao acF:=rfl
@[simp high]theorem ajc a0(r:Ev):(a0::r)[0]? =some a0:=rfl
@[simp high]theorem aiy a0 v(r:Ev):List.set (a0::r) 0 v=v::r:=rfl
@[simp high]theorem ajb a0 a1(r:Ev):(a0::a1::r)[1]? =some a1:=rfl
@[simp high]theorem aix a0 a1 v(r:Ev):List.set (a0::a1::r) 1 v=a0::v::r:=rfl
@[simp high]theorem aja a0 a1 a2(r:Ev):(a0::a1::a2::r)[2]? =some a2:=rfl
@[simp high]theorem aiw a0 a1 a2 v(r:Ev):List.set (a0::a1::a2::r) 2 v=a0::a1::v::r:=rfl
@[simp high]theorem ai9 a0 a1 a2 a3(r:Ev):(a0::a1::a2::a3::r)[3]? =some a3:=rfl
@[simp high]theorem aiv a0 a1 a2 a3 v(r:Ev):List.set (a0::a1::a2::a3::r) 3 v=a0::a1::a2::v::r:=rfl
@[simp high]theorem ai8 a0 a1 a2 a3 a4(r:Ev):(a0::a1::a2::a3::a4::r)[4]? =some a4:=rfl
@[simp high]theorem aiu a0 a1 a2 a3 a4 v(r:Ev):List.set (a0::a1::a2::a3::a4::r) 4 v=a0::a1::a2::a3::v::r:=rfl
@[simp high]theorem ai7 a0 a1 a2 a3 a4 a5(r:Ev):(a0::a1::a2::a3::a4::a5::r)[5]? =some a5:=rfl
@[simp high]theorem ait a0 a1 a2 a3 a4 a5 v(r:Ev):List.set (a0::a1::a2::a3::a4::a5::r) 5 v=a0::a1::a2::a3::a4::v::r:=rfl
@[simp high]theorem ai6 a0 a1 a2 a3 a4 a5 a6(r:Ev):(a0::a1::a2::a3::a4::a5::a6::r)[6]? =some a6:=rfl
@[simp high]theorem ais a0 a1 a2 a3 a4 a5 a6 v(r:Ev):List.set (a0::a1::a2::a3::a4::a5::a6::r) 6 v=a0::a1::a2::a3::a4::a5::v::r:=rfl
@[simp high]theorem ai5 a0 a1 a2 a3 a4 a5 a6 a7(r:Ev):(a0::a1::a2::a3::a4::a5::a6::a7::r)[7]? =some a7:=rfl
@[simp high]theorem air a0 a1 a2 a3 a4 a5 a6 a7 v(r:Ev):List.set (a0::a1::a2::a3::a4::a5::a6::a7::r) 7 v=a0::a1::a2::a3::a4::a5::a6::v::r:=rfl
@[simp high]theorem ai4 a0 a1 a2 a3 a4 a5 a6 a7 a8(r:Ev):(a0::a1::a2::a3::a4::a5::a6::a7::a8::r)[8]? =some a8:=rfl
@[simp high]theorem aiq a0 a1 a2 a3 a4 a5 a6 a7 a8 v(r:Ev):List.set (a0::a1::a2::a3::a4::a5::a6::a7::a8::r) 8 v=a0::a1::a2::a3::a4::a5::a6::a7::v::r:=rfl
@[simp high]theorem ai3 a0 a1 a2 a3 a4 a5 a6 a7 a8 a9(r:Ev):(a0::a1::a2::a3::a4::a5::a6::a7::a8::a9::r)[9]? =some a9:=rfl
@[simp high]theorem aip a0 a1 a2 a3 a4 a5 a6 a7 a8 a9 v(r:Ev):List.set (a0::a1::a2::a3::a4::a5::a6::a7::a8::a9::r) 9 v=a0::a1::a2::a3::a4::a5::a6::a7::a8::v::r:=rfl
end Mini
end
section
namespace Mini
open PySem L2 PyProof.Rows
abbrev bmV:List Value:=[.type "ValueError",.type "Exception",.type "BaseException",.type "object"]
abbrev Ql(x:Str)(C:Addr)(mg:QZz)(h:Heap):Prop:=OwnClsQ x C bmV "ValueError.__new__" mg h
structure Eh(fs:List Addr)(H H':Hp)(h0 B h:Heap):Prop where
 stays:B.StaysIn h
 keep:∀b o,h0.get? b=some o->H b=none->b∉fs->B.get? b=some o
 slot:∀b o,h0.get? b=some o->H b=none->b∈fs->∃sl,h.get? b=some {o with slots:=sl}
 free:∀b o,h0.get? b=some o->H b=none->H' b=none
 there:∀b o,h0.get? b=some o->b∉fs->∃u,B.get? b=some u
 tups:∀b xs,H b=some (.tup xs)->H' b=some (.tup xs)
 frzs:∀b o u,H b=some (.frz o u)->H' b=some (.frz o u)
 tbls:∀b ps,H b=some (.tbl ps)->∃more,H' b=some (.tbl (ps++more))
def Eh.un{H H':Hp}(L:Eh fs H H' h0 B h)(fr:∀b∈fs,H b=none):Un fs [] H H' h0 h:=
 ⟨fun b o q n nf _=>L.stays b o (L.keep b o q n nf),fun b o q n nf _=>L.slot b o q n nf,fun b o q n _=>L.free b o q n,fun b o q _=>by
  by_cases z:b∈fs
  ·obtain⟨sl,e⟩:=L.slot b o q (fr b z) z
   exact⟨_,e⟩
  ·obtain⟨u,e⟩:=L.there b o q z
   exact⟨_,L.stays b u e⟩,L.tups,L.frzs,L.tbls⟩
def Eh.move{H H':Hp}(L:Eh fs H H' h0 B h)(st:B.StaysIn h1)(up:h.UpToSlots h1)(nf:∀b∈fs,∃o,h.get? b=some o/\∀vs,o.data≠ .fields vs):Eh fs H H' h0 B h1:=
 ⟨st,L.keep,fun b o q n z=>by
  obtain⟨sl,e⟩:=L.slot b o q n z
  obtain⟨o',e',d⟩:=nf b z
  obtain⟨sl2,e2⟩:=up b _ e' d
  rw[e]at e'
  cases e'
  exact⟨sl2,e2⟩,L.free,L.there,L.tups,L.frzs,L.tbls⟩
def CXE(C:Addr)(P:Program)(w:World)(base:Heap):JH:=fun outer H s E e s'=>∃a a0 B H',e=.ref a/\s'.os=s.os/\AllBare s'.gens/\Eh (frs outer) H H' s.heap B s'.heap/\kE P w H' B/\
 Heap.FlyingW B outer a (.ref C) a0 s'.heap/\s.heap.get? a=none/\H' a=none/\(∀b o,base.get? b=some o->B.get? b=some o)/\E (.ref C) none H'
section
def wp_raise{C:Addr}{np cp cpos pos:Pos}{E:QZq}(O:∀h,X.K.In h->Ql x C X.mg h)(hg:Gl X x)(hc:X.calm=true)(I:Inv X δ σ H s)
  (h:∀s2 h' e vs,Inv X δ σ H s2->Heap.MadeExcOf s2.heap h' e (.ref C) vs->E (.ref e) {s2 with heap:=h'})
  (hd:(x==("__debug__":Str))=false:=by decide):
  wpAny (model X.prog X.w) X.A (exec (.Raise (some (.Call (.Name x np) [.Constant (.str m) k cp] [] cpos)) none pos) X.env) Q E s:=by
 obtain⟨tl,N,nm,q,bs,hdct,sn,sub,ab,col,dd,k0,k1,k2,k3,k5,mN,hC,hN,hni,T⟩:=(O _ I.JM).own.obj
 refine wpAny_Raise_call_subT (nm:=nm) (q:=q) (N:=N) (bs:=bs) (hdct:=hdct) (sn:=sn) (sub:=sub) (ab:=ab) (col:=col) (dd:=dd) (k0:=k0) (k1:=k1) (k2:=k2) (k3:=k3) (k5:=k5)
  PySem.F.excBase_ValueError (T.hasType PySem.F.excBase_ValueError.hasBase) (I.ok.hd hc) rfl hni (m8 I hg (O _ I.JM).bound ⟨rfl,?_⟩ hd)
 have sp:∀R,(∀s2 v,Inv X δ σ H s2->(∀b o,s.heap.get? b=some o->s2.heap.get? b=some o)->R [v] s2)->wpAny (model X.prog X.w) X.A (spliced (backTo cpos (starEach [.Constant (.str m) k cp] X.env))) R E s:=fun R hR=>by
  exact spliced_more (Calls.Constant_str (spliced_none (hR _ _ (I.tok _) fun b o e=>e)))
 exact Calls.evalArgs_plain (sp _ fun s2 v I2 kp=>⟨rfl,by show 1<=sizeLine;decide,kp _ _ hC,hN.keeps kp,T.keeps kp,fun h' e hm=>h s2 h' e _ I2 hm⟩)
end
def kE.frames{w:World}{H:Hp}{l:List Addr}(ok:kE P w H h)(free:∀b∈l,H b=none)(k:∀b u,b∉l->h.get? b=some u->h'.get? b=some u):kE P w H h':=fun a o e=>
 (ok a o e).stay (fun b u hb q=>k b u (fun z=>by
  have n:=free b z
  rcases hb with rfl|hb
  ·rw[e]at n;cases n
  ·rw[hb]at n;cases n) q) (fun _ z=>z) fun _ _ z=>z
def cg.here{w:World}{h:Heap}{o:HO}(x:cg P w H h a o):∃u,h.get? a=some u:=by
 cases o with
 |lst xs=>obtain⟨_,_,_,_,e⟩:=x;exact⟨_,e⟩
 |tup xs=>obtain⟨_,_,_,p⟩:=x;obtain⟨_,e,_⟩:=p;exact⟨_,e⟩
 |dK kvs=>obtain⟨_,_,_,_,o,_,_,e,_⟩:=x;exact⟨_,e⟩
 |dT kvs=>obtain⟨_,_,_,_,o,_,_,e,_⟩:=x;exact⟨_,e⟩
 |dS xs=>obtain⟨_,_,_,_,o,_,_,_,e,_⟩:=x;exact⟨_,e⟩
 |set S n=>obtain⟨o,_,_,_,e,_⟩:=x;exact⟨_,e⟩
 |ins C dx fs=>obtain⟨_,_,_,e,_⟩:=x;exact⟨_,e⟩
 |own y=>exact x
 |xd fs=>obtain⟨_,⟨_,_,_,e,_⟩,_⟩:=x;exact⟨_,e⟩
 |rng lo hi=>obtain⟨_,_,_,e⟩:=x;exact⟨_,e⟩
 |frz ob u=>obtain⟨e,_⟩:=x;exact⟨_,e⟩
 |tbl ps=>exact⟨_,show h.get? a=some _ from x⟩
 |met f y=>exact⟨_,show h.get? a=some _ from x⟩
 |ext φ=>obtain⟨_,e,_⟩:=x;exact e
def CK{C:Addr}{w:World}{K:QQq}{base:Heap}{qual:Str}{f:Addr}{A:Around}{s s2:Shared}{E:XK}
{σ:L2.St} {e:Addr}
  (hcx:∀{outer H s E e s'},CXE C P w base outer H s E e s'->CX outer H s E e s') (I:L2.Inv (eU CX P w K mg base N qual scope f cd A outer s H E) δ σ H2 s2) (m:Heap.MadeExcOf s2.heap h' e (.ref C) vs) (hE:E (.ref C) none H2):
  (eU CX P w K mg base N qual scope f cd A outer s H E).xe (.ref e) {s2 with heap:=h'}:=by
 have hst:=I.stack
 have hfree:=I.qu
 have hb:=I.base
 have fl:frs (eU CX P w K mg base N qual scope f cd A outer s H E).stack=s.heap.objs.size::frs outer:=rfl
 have hin:∀env∈(eU CX P w K mg base N qual scope f cd A outer s H E).stack,∀b,env.frame=some b->b∈s.heap.objs.size::frs outer:=fun env he b hb=>by
  rw[<-fl];exact List.mem_filterMap.mpr ⟨env,he,hb⟩
 refine wpAny_leaves_madeW I.ok.frames rfl (fun b o q=>PySem.W.of_hideAll _ q) (PySem.W.funFrames_hide hst hin) m fun h2 t x1 x2 x3 x4=>?_
 have kp:=fun b u nb q=>x1.1 b u (PySem.W.hideAll_get _ q nb)
 have up:=fun b o q n=>x4 b o (m.keeps b o q) n
 have lt:∀b o,s.heap.get? b=some o->b≠s.heap.objs.size:=fun b o q z=>by
  have:=Qqz q
  rw[z]at this
  exact Nat.lt_irrefl _ this
 have noA:∀b:Addr,b∉(eU CX P w K mg base N qual scope f cd A outer s H E).ex:=fun b z=>absurd (show b∈([])from z) (by simp)
 refine hcx ⟨e,.ref t,_,H2,rfl,I.os,I.bare,⟨x1.1,fun b o q n nf=>?_,fun b o q n nf=>?_,fun b o q n=>hb.free b o q n (noA _),fun b o q nf=>?_,hb.tups,hb.frzs,hb.tbls⟩,?_,x1,?_,?_,fun b o q=>?_,hE⟩
 ·exact PySem.W.hideAll_get _ (hb.keep b o q n nf (noA _)) (fun z=>by rcases QCq.mp z with z|z;exact lt b o q z;exact nf z)
 ·obtain⟨sl,q2⟩:=hb.slot b o q n nf (noA _)
  have nd:∀vs,o.data≠ .fields vs:=fun vs z=>by
   obtain⟨_,o',q',n'⟩:=hst.mem (by show b∈frs (eU CX P w K mg base N qual scope f cd A outer s H E).stack;rw[fl];exact QYq _ nf)
   rw[q2]at q'
   cases q'
   exact n' vs z
  obtain⟨sl',e2⟩:=up b {o with slots:=sl} q2 nd
  exact⟨sl',e2⟩
 ·obtain⟨o2,q2⟩:=hb.there b o q (noA _)
  exact⟨o2,PySem.W.hideAll_get _ q2 (fun z=>by rcases QCq.mp z with z|z;exact lt b o q z;exact nf z)⟩
 ·exact kE.frames I.hok hfree fun b u nb q=>PySem.W.hideAll_get _ q nb
 ·cases q:s.heap.get? e with
  |none=>rfl
  |some o=>
   obtain⟨o2,q2⟩:=hb.there e o q (noA _)
   rw[m.new]at q2
   cases q2
 ·cases q:H2 e with
  |none=>rfl
  |some o=>
   obtain⟨u,z⟩:=cg.here (I.hok e o q)
   rw[m.new]at z
   cases z
 ·refine PySem.W.hideAll_get _ (I.bk b o q) fun z=>?_
  have:=(hst.mem (by rw[<-fl]at z;exact z)).1
  rw[show(eU CX P w K mg base N qual scope f cd A outer s H E).base=base from rfl,q]at this
  cases this
end Mini
end
section
namespace Mini
open PySem PyProof.Rows
section
variable{M:Model}{prog:Program}{w:World}{A:Around}{E:QZq}{h:Heap}{g:Array GenState}{d:Drawn}{t:Nat}{os:OsState}{a:Addr}{o:Obj}
 {nm q:Str}{C N:Addr}{bs bm:List Value}{hdct:Bool}{sn:List Str}{sub:List Value}{ab:Bool}{col:Option Bool}{dd:Option Addr}{k0 k1 k2 k3 k5:Option Value}{newId:String}{mN:QZz}
end
end Mini
end
section
namespace Mini
open PySem L2 PyProof.Rows
abbrev inH(X:Cx)(a:Addr)(oe:Obj):Cx:={X with A:=X.A.mark (some (.ref a)),calm:=false,pn:=(a,oe)::X.pn,xe:=fun _ _=>False}
section
variable{X:Cx}{δ:QQz}{σ:L2.St}{H:Hp}{s:Shared}{a:Addr}{oe:Obj}
def Yc(ok:X.Ok):(inH X a oe).Ok:=
 ⟨ok.mod,ok.kind,ok.glob,ok.blt,ok.above,ok.inj,ok.has,ok.cab,(fun z=>nomatch z),ok.frames,ok.stk,ok.exf,ok.bs,ok.bsz,ok.noex,ok.exfs,ok.mz,ok.frf⟩
def Gm(I:L2.Inv X δ σ H s)(he:s.heap.get? a=some oe)(hH:H a=none)(hl:a≠X.env.locals)(hf:a∉X.fs)(hc:∀v,oe.data≠ .cell v):L2.Inv (inH X a oe) δ σ H s:=
 ⟨Yc I.ok,I.os,I.bare,I.base,I.loc,I.cell,I.free,I.freeC,fun p hp=>by
  rcases QCq.mp (hp)with rfl|hp
  ·exact⟨he,hH,hl,hf,hc⟩
  ·exact I.pin p hp,I.hok,I.len⟩
def Np(I:L2.Inv (inH X a oe) δ σ H s)(ok:X.Ok):L2.Inv X δ σ H s:=
 ⟨ok,I.os,I.bare,I.base,I.loc,I.cell,I.free,I.freeC,fun p hp=>I.pin p (QYq _ hp),I.hok,I.len⟩
end
section
variable{X:Cx}{a C W T:Addr}{oe:Obj}
end
section
variable{X:Cx}{a C W T:Addr}{oe:Obj}{en wx tx cx:Str}{i:Nat}{q1 q2 q3 q4 q5 q6 q7 q8 q9 r1 r2 r3 r4 r5:Pos}
end
def pA(P:Program)(w:World)(base:Heap):JH:=fun outer H s E e s'=>∃C,CXE C P w base outer H s E e s'
def JK(K:QQq)(n:Nat)(cls:Nat->Option Addr)(f:List Sl->Res):Sp:=fun vs H Q E=>∃ps,vs.length=n/\Sat K ps (vs.map some) H/\noOwn ps/\match f ps with
 |.ok r qs=>∀v H',Cz K ps vs H qs H'->ado K H H' r v->Q v H'
 |.exc j qs=>∀H',Cz K ps vs H qs H'->∃C,cls j=some C/\E (.ref C) none H'
 |.bad=>False
def WE(cls:Nat->Option Addr)(E:XK):Wi:=fun j _ _ H=>∃C,cls j=some C/\E (.ref C) none H
section
variable{K:QQq}
theorem Od{st:Stmt}{fd:FuncData}{k:Nat}{c:Cf}(F:Uj K x qual st f fd)(S:fP N ps (aF st))(hp:g.pars=ps.length)(hn:g.names=N.length)
  (hb:∀(cdv:Value)(A:Around)(outer:List Env)(s:Shared)(H:Hp)(E:XK),iG k (A.deeper (PyProof.Rows.envOfC qual (aF st) s.heap.objs.size f cdv))->Qm (eU (pA P w base) P w K mg base N qual (aF st) f cdv A outer s H E) (WE cls E) c g.body (cN st)):
  fK P w K mg base (pA P w base) (k+1) f fd ps (JK K ps.length cls (fU c g)):=by
 obtain⟨oc,od,kV,doc,pm,an,cdv,ct,osl,rfl,lk,hcd⟩:=F.ex
 refine VP lk hcd S (fun vs H Q E h=>?_) fun A outer s H vs Q E hr h=>?_
 ·obtain⟨_,h,_⟩:=h
  exact h
 ·obtain⟨sl,hl,S0,no,q⟩:=h
  refine⟨_,hb cdv A outer s H E hr (sl++List.replicate (g.names-g.pars) .un),?_⟩
  have hlen:sl.length=vs.length:=by simpa using S0.len
  have hst:L2.start N vs=vs.map some++List.replicate (g.names-g.pars) none:=by
   unfold L2.start
   rw[hn,hp,hl]
  have e0:fU c g sl=match ex c g.body (sl++List.replicate (g.names-g.pars) .un)with
    |.next σ=>.ok (.val .non) (σ.take g.pars)
    |.ret r σ=>.ok r (σ.take g.pars)
    |.exc k σ=>.exc k (σ.take g.pars)
    |_=>.bad:=by
   unfold fU
   rw[if_pos (by rw[hp,<-hl,hlen])]<;>cases ex c g.body _<;>rfl
  rw[e0]at q
  rw[hst]
  refine⟨S0.pad _,?_⟩
  have hg:vs.length=g.pars:=by rw[hl,hp]
  cases r:ex c g.body _ with
  |next env'=>rw[r]at q;exact fun ζ H' N=>q .non H' (N.cz S0 hg) rfl
  |ret rv env'=>
   rw[r]at q
   refine fun v ζ H' N z=>q v H' (N.cz S0 hg) ?_
   cases rv with
   |val d=>exact z
   |new o=>
    obtain⟨a,e1,e2,e3⟩:=z
    refine⟨a,e1,e2,?_⟩
    rcases e3 with e3|⟨i,ys,e3,_⟩
    ·exact e3
    ·by_cases hi:i<sl.length
     ·rw[Qwz hi]at e3
      exact absurd e3 (no i ys)
     ·rw[QIz (by omega),List.getElem?_replicate]at e3
      split at e3<;>cases e3
   |ref i=>exact z.elim
   |tmp o=>exact z.elim
  |brk env'=>rw[r]at q;exact q.elim
  |cont env'=>rw[r]at q;exact q.elim
  |exc j env'=>
   rw[r]at q
   exact fun ζ H' N=>q H' (N.cz S0 hg)
  |bad=>rw[r]at q;exact q.elim
def Jk{N:List Str}{scope:Scope}{f:Addr}{A:Around}{s:Shared}{E:XK}{c:Cf}{j k:Nat}(hC:cls j=some C)(O:∀h,K.In h->Ql x C mg h)
  (hg:Gl (eU (pA P w base) P w K mg base N qual scope f cd A outer s H E) x)(hd:(x==("__debug__":Str))=false):
  GS (eU (pA P w base) P w K mg base N qual scope f cd A outer s H E) (WE cls E) c (.raise j) (.Raise (some (.Call (.Name x np) [.Constant (.str m) k cp] [] cpos)) none pos):=fun env δ s2 σ H2 D I q=>by
 obtain⟨S,q⟩:=q
 obtain⟨C',e,hE⟩:=q σ H2 (Nz.refl S)
 rw[hC]at e
 cases e
 exact wp_raise O hg rfl I (fun s3 h' e vs I3 hm=>CK (fun z=>⟨C,z⟩) I3 hm hE) hd
structure Ay(K:QQq)(mg:QZz)(cls:Nat->Option Addr)(exs:List Str):Prop where
 zero:cls 0=none
 at_:∀k x,exs[k]? =some x->∃C,cls (k+1)=some C/\∀h,K.In h->Ql x C mg h
def aeM{C:Ct}{qual:Str}{f:Addr}{A:Around}{s:Shared}{E:XK}(hx:Ay K mg cls C.exs)
  (hcx:∀f' args kw cp p n m,Ih c n->rzB C f'=true->trX n C f' args kw=some m->GS (eU (pA P w base) P w K mg base N qual C.sc f cd A outer s H E) (WE cls E) c m (.Expr (.Call f' args kw cp) p)):
  Top C (eU (pA P w base) P w K mg base N qual C.sc f cd A outer s H E) (WE cls E) c:=by
 refine⟨fun _=>rfl,PassesOwn.leaving,fun e g p n m h=>?_,hcx⟩
 rw[Fd h]
 have none_:∀st,GS (eU (pA P w base) P w K mg base N qual C.sc f cd A outer s H E) (WE cls E) c (.raise 0) st:=fun st env δ s2 σ H2 D I q=>by
  obtain⟨S,q⟩:=q
  obtain⟨C',e,_⟩:=q σ H2 (Nz.refl S)
  rw[hx.zero]at e
  cases e
 unfold BK
 split
 ·split
  ·rename_i hg
   rw[QUq]at hg
   split
   ·rename_i k hk
    obtain⟨A',h1,h2⟩:=hx.at_ k _ (gW hk)
    refine Jk h1 h2 ?_ (qw hg.2).1
    have:=hg.1
    unfold xM at this
    exact(by simpa using this:C.sc.names.lookup _=some .globalImplicit)
   ·exact none_ _
  ·exact none_ _
 ·exact none_ _
end
section
variable{M:Model}{A:Around}{E:QZq}{nm q nm' q':Str}{C N D N':Addr}{bs bm bs' bm':List Value}{hdct hdct':Bool}{sn sn':List Str}{sub sub':List Value}{ab ab':Bool}{col col':Option Bool}{dd dd':Option Addr}{k0 k1 k2 k3 k5 k0' k1' k2' k3' k5':Option Value}{newId newId':String}
end
section
variable{prog:Program}{w:World}{A:Around}{E:QZq}{s:Shared}{env:Env}
end
section
variable{X:Cx}{a C W T:Addr}{oe:Obj}{en wx:Str}{k0 i:Nat}{word:Str}{q1 q2 q3 q4 q5 q6 q7 q8 q9 r1 r2 r3 r4:Pos}
def Alc(H H':Hp):Prop:=H'=H\/∃p o,H p=none/\H'=upd H p o
end
section
structure TellsN(X:Cx)(C:Addr)(v:V)(hs:List ExceptHandler):Prop where
 ex:∃(cx:Str)(re:Expr)(p5 p7 p8:Pos)(rest:List ExceptHandler),hs=.ExceptHandler (some (.Name cx p5)) none [.Return (some re) p7] p8::rest/\(∀h,X.K.In h->Ql cx C X.mg h)/\Gl X cx/\(cx==("__debug__":Str))=false/\
  ∀(a:Addr)(oe:Obj),oe.cls=.ref C->PE (inH X a oe) re (fun σ H Q=>∀H1,Alc H H1->Q v H1)
theorem ZD{C:Addr}{D:Ends}{e:Value}{H1:Hp}(I1:L2.Inv X δ σ H1 s1)(c:CXE C X.prog X.w X.base X.stack H1 s1 (fun _ _ H'=>∀H1,Alc H' H1->D.rt v H1) e s')(stk:X.stack=X.env::X.outer)(Gu:X.env.frame=some X.env.locals)
  (T:TellsN X C v hs):
  wpAny (model X.prog X.w) X.A (noteFrame e X.env) (fun _ Ω=>wpAny (model X.prog X.w) X.A (setFlight e none) (fun _ s₃=>
   wpAny (model X.prog X.w) X.A (handleBy e X.env hs) (SP X δ D) X.xe s₃) X.xe Ω) X.xe s':=by
 obtain⟨cx,re,p5,p7,p8,rest,rfl,O,g0,d0,hw⟩:=T.ex
 obtain⟨a,a0,B,H',rfl,os,bare,lt,hokB,fl,an,hHa,bB,q⟩:=c
 have nf:∀{h:Heap},h.FunFrames B X.stack->∀b∈frs X.stack,∃o,h.get? b=some o/\∀vs,o.data≠ .fields vs:=fun F b hb=>(F.mem hb).2
 have inv:∀{h:Heap},Eh _ H1 H' s1.heap B h->L2.Inv X δ σ H' {s' with heap:=h}:=fun{h}L=>
  I1.call' os (L.un I1.qu) (hokB.kept L.stays) bare fun b z=>absurd z (by simp)
 have nl:a≠X.env.locals:=fun z=>by
  obtain⟨m,⟨o,es,ep,ho,_⟩,_⟩:=I1.loc
  rw[<-z,an]at ho;cases ho
 have nfs:a∉X.fs:=fun z=>by
  obtain⟨_,o,ho,_⟩:=I1.stack.mem (by rw[stk];show a∈frs _;unfold frs;rw[List.filterMap_cons,Gu];exact QYq _ z)
  rw[an]at ho;cases ho
 have fl0:=fl
 rw[stk]at fl
 refine wpAny_looks_onW (by rw[I1.ok.frames,stk]) Gu fl fun h1 held up1=>?_
 refine wpAny_landsW held fun h2 fl2 up2=>?_
 have L2':=(lt.move held.1 up1 (nf fl0.2.2.1)).move fl2.1 up2 (nf (by rw[stk];exact held.2.2.1))
 obtain⟨oe,vs,hoe,hoc,hod,ho0⟩:=fl2.first
 refine handleBy_own (by decide+kernel) (m8 (Gm (inv L2') hoe hHa nl nfs (fun v z=>by rw[hod]at z;cases z)) g0 (O _ (inv L2').JM).bound ⟨rfl,O _ (inv L2').JM,⟨oe,hoe,hoc⟩,?_⟩ d0)
 refine lands_againW fl2 fun h3 fl3 up3=>?_
 obtain⟨oe3,vs3,hoe3,hoc3,hod3,_⟩:=fl3.first
 refine QGq ((Rw (mq (hw a oe3 hoc3))) δ _ _ H' {nx:=fun _ _=>False,rt:=D.rt} (Gm (inv (L2'.move fl3.1 up3 (nf (by rw[stk];exact fl2.2.2.1)))) hoe3 hHa nl nfs (fun v z=>by rw[hod3]at z;cases z)) q) (fun f s5 h5=>?_) fun _ _ z=>False.elim z
 cases f with
 |ret u=>
  obtain⟨v,σ5,H5,I5,rv,q5⟩:=h5
  exact⟨v,σ5,H5,Np I5 I1.ok,rv,q5⟩
 |next=>obtain⟨_,_,_,z⟩:=h5;exact False.elim z
 |brk=>obtain⟨_,_,_,z⟩:=h5;exact False.elim z
 |cont=>obtain⟨_,_,_,z⟩:=h5;exact False.elim z
end
section
theorem S6(G:fK X.prog X.w X.K X.mg X.base (pA X.prog X.w X.base) k fc fdc ps (JK X.K ps.length cls (c.fn g)))(hr:iG k X.A)(gf:Gl X fx)(mf:X.mg fx=some (.ref fc))(kp:PySem.W.keepIn X.K (.ref fc)=true)(bf:Binds X.K fdc ps [])
  (df:(fx==("__debug__":Str))=false)(ha:GA X.Vm W0 c m (e::es))(he:starEach (e::es) X.env=(false,eval e X.env)::starEach es X.env)(hpl:(backTo p3 (starEach es X.env)).any (·.1)=false)(hn:∀sl,c.fn g sl=.bad\/sl.length=ps.length)
  (stk:X.stack=X.env::X.outer)(Gu:X.env.frame=some X.env.locals)(hN:X.N.Nodup)(T:∀j w,ws.lookup j=some w->∃C v,cls j=some C/\(∀H,bM X.K H w v)/\TellsN X C v (h0::hs)):
  GS X W0 c (.ret (.tcall g m ws)) (.Try [.Return (some (.Call (.Name fx p1) (e::es) [] p3)) p4] (h0::hs) [] [] p9):=by
 intro env δ s σ H D I q
 simp only[Bj,E.au,aeB]at q
 obtain⟨S,q⟩:=q
 refine wpAny_Try_except (wpAny_execs_cons (wpAny_Return_some (wpAny_Call_Name_kw (m8 I gf mf ?_ df))))
 have ha':QM X.Vm.K W0 env (evs c m env) σ H (fun vs H1=>∃rs γ,evs c m env=.ok rs γ/\Nx X.K env σ H γ H1/\ie X.K σ H H1 rs vs):=by
  refine⟨S,?_⟩
  cases r:evs c m env with
  |bad=>rw[r]at q;exact q.elim
  |exc j γ=>rw[r]at q;exact fun H1 N=>q σ H1 N.z
  |ok rs γ=>exact fun vs H1 N rv=>⟨rs,γ,rfl,N,rv⟩
 refine PySem.W.callWith_K I.ok.mod.kin kp (QGq (ha env p3 δ s σ H _ (I.wish _) ha') (fun us s1 hq=>?_) fun _ _ z=>False.elim z) he hpl
 obtain⟨vs,H1,I1,r,rs,γ,er,N,rv⟩:=hq
 have I1:=I1.iW
 refine⟨I1.JM,?_⟩
 rw[er]at q
 simp only[Out.bind,jQ]at q
 cases e1:enter rs γ with
 |none=>rw[e1]at q;exact q.elim
 |some sl=>
  rw[e1]at q
  simp only at q
  have En:=gG N.dX e1 rv
  have hsl:sl.length=ps.length:=by
   rcases hn sl with z|z
   ·rw[z]at q;exact q.elim
   ·exact z
  have sp:JK X.K ps.length cls (c.fn g) vs H1 (fun v H2=>D.rt v H2) (fun Cv _ H2=>∃j w C,cls j=some C/\Cv=.ref C/\ws.lookup j=some w/\∀H3,Alc H2 H3->∀v,bM X.K H3 w v->D.rt v H3):=by
   refine⟨sl,by rw[<-En.len.1,hsl],En.dX S N.dX N.sub,En.noOwn,?_⟩
   cases e2:c.fn g sl with
   |bad=>rw[e2]at q;exact q.elim
   |ok rv qs=>
    rw[e2]at q
    simp only at q
    intro v H2 C z
    cases e3:giveBack rs qs γ with
    |none=>rw[e3]at q;exact q.elim
    |some ε=>
     rw[e3]at q
     have N2:=(nO S N En C e3).z
     cases rv with
     |val d=>exact q v σ H2 N2 z
     |new o=>obtain⟨a,z1,z2,z3⟩:=z;exact q v σ H2 N2 ⟨a,z1,z2,.inl (N.dom a z3)⟩
     |ref i=>exact z.elim
     |tmp o=>exact z.elim
   |exc j qs=>
    rw[e2]at q
    simp only at q
    cases e4:ws.lookup j with
    |none=>rw[e4]at q;exact q.elim
    |some w=>
     rw[e4]at q
     cases e3:giveBack rs qs γ with
     |none=>rw[e3]at q;exact q.elim
     |some ε=>
      rw[e3]at q
      obtain⟨C,v,hC,_⟩:=T j w e4
      exact fun H2 cz=>⟨C,hC,⟨j,w,C,hC,rfl,e4,fun H3 al v z=>by
       have N2:=nO S N En cz e3
       rcases al with rfl|⟨p,o,hp,rfl⟩
       ·exact q v σ _ N2.z z
       ·exact q v σ _ (N2.trans (Nx.laid N2.dX hp)).z z⟩⟩
  refine wpAny_call (codeAny_mono (G.run X.A X.stack s1 H1 ⟨us,[]⟩ us vs _ _ hr I1.env0 (by have:=bf s1 us I1.JM (by simpa using (by rw[<-r.length,<-En.len.1,hsl]));rw[List.append_nil]at this;exact this) r sp) fun rr s' hq=>?_)
  cases rr with
  |error ex=>
   obtain⟨C,a,a0,B,H',h1,h2,h3,h4,h5,h6,h7,h8,h9,j,w,C',hj,hC,hw,hD⟩:=hq
   cases hC
   obtain⟨C2,v,hj2,dv,T2⟩:=T j w hw
   rw[hj]at hj2
   cases hj2
   exact ZD I1 ⟨a,a0,B,H',h1,h2,h3,h4,h5,h6,h7,h8,h9,fun H1 al=>hD H1 al v (dv _)⟩ stk Gu T2
  |ok fl=>
   cases fl with
   |ret u=>
    obtain⟨v,H',I',rv',q'⟩:=I1.after hq
    exact⟨v,σ,H',I',rv',q'⟩
   |next=>exact False.elim hq
   |brk=>exact False.elim hq
   |cont=>exact False.elim hq
end
section
variable{K:QQq}
theorem MN{qual:Str}{f:Addr}{A:Around}{s s1 s':Shared}{E:XK}{E1:XK}{σ:L2.St}
  (I:L2.Inv (eU (pA P w base) P w K mg base N qual scope f cd A outer s H E) δ σ H1 s1)(c:CXE C P w base (eU (pA P w base) P w K mg base N qual scope f cd A outer s H E).stack H1 s1 E1 e s')(hE:∀H2,E1 (.ref C) none H2->E (.ref C) none H2):
  (eU (pA P w base) P w K mg base N qual scope f cd A outer s H E).xe e s':=by
 obtain⟨a,a0,B,H',rfl,os,bare,lt,hokB,fl,an,hHa,bB,qE⟩:=c
 have hb:=I.base
 have fr:frs (eU (pA P w base) P w K mg base N qual scope f cd A outer s H E).stack=s.heap.objs.size::frs outer:=rfl
 have noA:∀b:Addr,b∉(eU (pA P w base) P w K mg base N qual scope f cd A outer s H E).ex:=fun b z=>absurd (show b∈([])from z) (by simp)
 have lt0:∀b o,s.heap.get? b=some o->b≠s.heap.objs.size:=fun b o q z=>by
  have:=Qqz q
  rw[z]at this
  exact Nat.lt_irrefl _ this
 have nf:∀{b:Addr}{o:Obj},s.heap.get? b=some o->b∉frs outer->b∉s.heap.objs.size::frs outer:=fun q n z=>by
  rcases QCq.mp z with z|z
  ·exact lt0 _ _ q z
  ·exact n z
 refine wpAny_leaves_onW I.ok.frames rfl fl fun h2 fl2 up=>?_
 refine⟨C,a,a0,B,H',rfl,os.trans I.os,bare,⟨fl2.1,fun b o q n z=>?_,fun b o q n z=>?_,fun b o q n=>?_,fun b o q z=>?_,fun b xs q=>?_,fun b o u q=>?_,fun b ps q=>?_⟩,hokB,fl2,?_,hHa,bB,hE _ qE⟩
 ·exact lt.keep b o (hb.keep b o q n z (noA _)) (hb.free b o q n (noA _)) (nf q z)
 ·obtain⟨sl,q2⟩:=hb.slot b o q n z (noA _)
  obtain⟨sl2,q3⟩:=lt.slot b _ q2 (hb.free b o q n (noA _)) (QYq _ z)
  have nd:∀vs,o.data≠ .fields vs:=fun vs z'=>by
   obtain⟨_,o',q',n'⟩:=I.stack.mem (by show b∈frs (eU _ P w K mg base N qual scope f cd A outer s H E).stack;rw[fr];exact QYq _ z)
   rw[q2]at q'
   cases q'
   exact n' vs z'
  obtain⟨sl3,q4⟩:=up b _ q3 nd
  exact⟨sl3,q4⟩
 ·obtain⟨o2,q2⟩:=hb.there b o q (noA _)
  exact lt.free b o2 q2 (hb.free b o q n (noA _))
 ·obtain⟨o2,q2⟩:=hb.there b o q (noA _)
  exact lt.there b o2 q2 (nf q z)
 ·exact lt.tups b xs (hb.tups b xs q)
 ·exact lt.frzs b o u (hb.frzs b o u q)
 ·obtain⟨m1,e1⟩:=hb.tbls b ps q
  obtain⟨m2,e2⟩:=lt.tbls b _ e1
  exact⟨m1++m2,e2.trans (congrArg (fun z=>some _) (Array.append_assoc))⟩
 ·cases q':s.heap.get? a with
  |none=>rfl
  |some o=>
   obtain⟨o2,q2⟩:=hb.there a o q' (noA _)
   rw[an]at q2
   cases q2
def ab7{qual:Str}{f:Addr}{A:Around}{s:Shared}{E:XK}:mH (pA P w base) (eU (pA P w base) P w K mg base N qual scope f cd A outer s H E) E:=fun _ _ _ _ _ _ I⟨_,c⟩=>MN I c fun _ z=>z
def ab6:mH (pA P w base) X (fun _ _ _=>False):=fun _ _ _ _ _ _ _⟨_,c⟩=>by
 obtain⟨_,_,_,_,_,_,_,_,_,_,_,_,_,z⟩:=c
 exact z.elim
end
section
variable{E:XK}
theorem NT{e:Expr}{k g:Nat}{fc:Addr}{ps:List Str}{fx:Str}(hW:∀j env σ H,W j env σ H->∃C,cls j=some C/\E (.ref C) none H)(hx:mH (pA X.prog X.w X.base) X E)
  (G:fK X.prog X.w X.K X.mg X.base (pA X.prog X.w X.base) k fc fdc ps (JK X.K ps.length cls (c.fn g)))(hr:iG k X.A)(gf:Gl X fx)(mf:X.mg fx=some (.ref fc))(kp:PySem.W.keepIn X.K (.ref fc)=true)(bf:Binds X.K fdc ps [])
  (df:(fx==("__debug__":Str))=false)(ha:GA X W c m (e::es))(he:starEach (e::es) X.env=(false,eval e X.env)::starEach es X.env)(hpl:(backTo p3 (starEach es X.env)).any (·.1)=false)(hn:∀sl,c.fn g sl=.bad\/sl.length=ps.length)
  (hs:swapsWith (.Call (.Name fx p1) (e::es) [] p3) none p4.line X.env=pure false):
  GS X W c (.callx g m) (.Expr (.Call (.Name fx p1) (e::es) [] p3) p4):=by
 intro env
 refine PS.imp (wZ (Fg G hr gf mf kp bf .nil hx (ha env) df he hpl) hs) fun D σ H q=>?_
 simp only[aex]at q
 obtain⟨S,q⟩:=q
 refine⟨S,?_⟩
 cases r:evs c m env with
 |bad=>rw[r]at q;exact q
 |exc j γ=>rw[r]at q;exact fun H1 N=>q σ H1 N.z
 |ok rs γ=>
  rw[r]at q
  simp only[Out.fl,v9]at q
  intro vs H1 N rv
  rw[List.append_nil]
  cases e1:enter rs γ with
  |none=>rw[e1]at q;exact q.elim
  |some sl=>
   rw[e1]at q
   simp only at q
   have En:=gG N.dX e1 rv
   refine⟨sl,?_,En.dX S N.dX N.sub,En.noOwn,?_⟩
   ·rcases hn sl with z|z
    ·rw[z]at q;exact q.elim
    ·rw[<-En.len.1,z]
   ·cases e2:c.fn g sl with
    |bad=>rw[e2]at q;exact q.elim
    |ok rv qs=>
     rw[e2]at q
     simp only at q
     intro v H2 C z
     cases e3:giveBack rs qs γ with
     |none=>rw[e3]at q;exact q.elim
     |some ε=>
      rw[e3]at q
      exact q σ H2 (nO S N En C e3).z
    |exc j qs=>
     rw[e2]at q
     simp only at q
     intro H2 C
     cases e3:giveBack rs qs γ with
     |none=>rw[e3]at q;exact q.elim
     |some ε=>
      rw[e3]at q
      exact hW _ _ _ _ (q σ H2 (nO S N En C e3).z)
def adn(cls:Nat->Option Addr)(C:Ct)(X:Cx)(c:Cf):Prop:=∀(g:Nat)x fl,C.fns[g]? =some (x,fl)->C.rz.contains x=true->∃k f fd ps,fK X.prog X.w X.K X.mg X.base (pA X.prog X.w X.base) k f fd ps (JK X.K ps.length cls (c.fn g))/\iG k X.A/\X.mg x=some (.ref f)/\PySem.W.keepIn X.K (.ref f)=true/\Binds X.K fd ps []/\∀sl,c.fn g sl=.bad\/sl.length=ps.length
def V5{C:Ct}(O:iH C X c)(R:adn cls C X c)(hW:∀j env σ H,W j env σ H->∃C,cls j=some C/\E (.ref C) none H)(hx:mH (pA X.prog X.w X.base) X E):∀f args kw cp p n m,Ih c n->rzB C f=true->trX n C f args kw=some m->GS X W c m (.Expr (.Call f args kw cp) p):=fun f args kw cp p n m I hz h=>by
 unfold trX at h
 split at h
 ·split at h
  ·rename_i hx'
   rw[QUq]at hx'
   split at h
   ·rename_i g fl hf
    simp only[QJq]at h
    obtain⟨m1,h1,h2⟩:=h
    split at h2
    ·cases h2
    ·rename_i hn
     cases h2
     obtain⟨k,f,fd,ps,F,hr,hm,hk,hb,hl⟩:=R g _ fl (Gw hf) hz
     cases (I.a C X _ _ m1 O h1)with
     |nil=>exact absurd rfl hn
     |cons ge pl t=>exact NT hW hx F hr (j4 O hx'.2) hm hk hb (qw hx'.1).1 (Ar.cons ge pl t).ga.w (bC pl _ _) t.plain hl rfl
   ·cases h
  ·cases h
 ·cases h
end
end Mini
end
section
namespace Mini
open PySem L2
section
def QJ{st:Stmt}{fd fdc:FuncData}{k g:Nat}{m:E}{es:List Expr}{h0:ExceptHandler}
  (F:Uj K x x st f fd)(S:fP N qs (aF st))(hb:cN st=[.Try [.Return (some (.Call (.Name fx p1) (e::es) [] p3)) p4] (h0::hs) [] [] p9])
  (G:fK P w K mg base (pA P w base) k fc fdc ps (JK K ps.length cls (c.fn g)))(mf:mg fx=some (.ref fc))(kp:PySem.W.keepIn K (.ref fc)=true)(bf:Binds K fdc ps [])(lf:(aF st).names.lookup fx=some .globalImplicit)(df:(fx==("__debug__":Str))=false)
  (ha:∀X:Cx,X.N=N->X.env.scope=aF st->GA X W0 c m (e::es))(he:∀env,starEach (e::es) env=(false,eval e env)::starEach es env)(hpl:∀env,(backTo p3 (starEach es env)).any (·.1)=false)(hn:∀sl,c.fn g sl=.bad\/sl.length=ps.length)
  (T:∀X:Cx,X.K=K->X.mg=mg->X.N=N->X.env.scope=aF st->∀j w,ws.lookup j=some w->∃C v,cls j=some C/\(∀H,bM X.K H w v)/\TellsN X C v (h0::hs)):
  fK P w K mg base Bg (k+1) f fd qs (oA K qs.length (fU c ⟨qs.length,N.length,.cons (.ret (.tcall g m ws)) .nil⟩)):=
 Gv F S rfl rfl fun cdv A outer s H E hr=>by
  rw[hb]
  exact zY (S6 G hr lf mf kp bf df (ha _ rfl rfl) (he _) (hpl _) hn rfl rfl S.nd (T _ rfl rfl rfl rfl)) Gp
def Oz(ds:List Df)(lD:List Str)(d:Df):Ct:={ac1 ds lD d with rz:=d.rz}
def nD(ds:List Df)(lD:List Str)(d:Df):Option Fn:=(pX 60 (Oz ds lD d) (cN d.st)).map fun b=>{pars:=d.ps.length,names:=d.N.length,body:=b}
def sZ{p:Pg}{g:Fn}(h:p.fns[i]? =some g):p.fn (n+1) i=fU (p.cf n) g:=by
 funext ps
 show(match p.fns[i]? with|some g=>fU (p.cf n) g ps|none=>.bad)=_
 rw[h]
variable{p:Pg}{fa:Nat->Addr}{fd:Nat->FuncData}
theorem Lh{R:List Nat}(hfn:∀i d,ds[i]? =some d->lY K mg d (fa i) (fd i))(hsc:∀d∈ds,fP d.N d.ps (aF d.st))(htr:∀(i:Nat)d,i≠t->ds[i]? =some d->∃g,p.fns[i]? =some g/\nD ds lD d=some g)
  (hR:∀(i:Nat)d,i∈R->ds[i]? =some d->i≠t/\Ay K mg cls d.exs)(hz:∀(i:Nat)d,ds[i]? =some d->∀(g:Nat)d2,ds[g]? =some d2->d.rz.contains d2.x=true->g∈R)(hrR:r∈R)(hr0:ds[r]? =some dr)
  (hsp:∀d,ds[t]? =some d->(∃g,p.fns[t]? =some g/\g.pars=d.ps.length)/\∀n,fK P w K mg base (pA P w base) n (fa r) (fd r) dr.ps (JK K dr.ps.length cls (p.fn n r))->(∀sl,p.fn n r sl=.bad\/sl.length=dr.ps.length)->fK P w K mg base Bg (n+1) (fa t) (fd t) d.ps (oA K d.ps.length (p.fn (n+1) t)))
  (hbi:∀x∈qH,mg x=none)(hgl:∀(k:Nat)x,lD[k]? =some x->∃d v u,p.gl k=some d/\mg x=some u/\RelV v u/\∀H,bM K H d v):
  ∀(n:Nat),(∀(i:Nat)d,ds[i]? =some d->fK P w K mg base Bg n (fa i) (fd i) d.ps (oA K d.ps.length (p.fn n i)))/\∀(i:Nat)d,i∈R->ds[i]? =some d->fK P w K mg base (pA P w base) n (fa i) (fd i) d.ps (JK K d.ps.length cls (p.fn n i)):=by
 have len:∀n g d2,ds[g]? =some d2->∀sl,p.fn n g sl=.bad\/sl.length=d2.ps.length:=fun n g d2 q sl=>by
  cases n with
  |zero=>exact .inl rfl
  |succ n=>
   by_cases hgr:g=t
   ·subst hgr
    obtain⟨⟨g2,h1,h2⟩,_⟩:=hsp d2 q
    rw[sZ h1,<-h2]
    exact uX _ _ sl
   ·obtain⟨g2,hg2,ht2⟩:=htr g d2 hgr q
    unfold nD at ht2
    simp only[QJz]at ht2
    obtain⟨b2,hb2,rfl⟩:=ht2
    rw[sZ hg2]
    exact uX _ _ sl
 have xok:∀n d X,(∀g d2,ds[g]? =some d2->fK P w K mg base Bg n (fa g) (fd g) d2.ps (oA K d2.ps.length (p.fn n g)))->X.prog=P->X.w=w->X.K=K->X.mg=mg->X.base=base->X.N=d.N->X.env.scope=aF d.st->X.calm=true->d.N.Nodup->iG n X.A->iH (Oz ds lD d) X (p.cf n):=fun n d X IH e1 e2 e3 e4 e5 e6 e7 e8 nd hr=>by
  subst e1 e2 e3 e4 e5
  refine⟨e6,e7,nd,e8,?_,hbi,fun k x hk=>?_,fun g x fl hk=>?_⟩
  ·have:=hr.un
   omega
  ·obtain⟨dd,v,u,h1,h2,h3,h4⟩:=hgl k x hk
   exact⟨dd,h1,v,u,h2,h3,h4⟩
  ·have hk':(ds.map fun d=>(d.x,d.fl))[g]? =some _:=hk
   rw[QFz]at hk'
   cases q:ds[g]? with
   |none=>rw[q]at hk';cases hk'
   |some d2=>
    rw[q]at hk'
    obtain⟨rfl,rfl⟩:=hk'
    have D2:=hfn g d2 q
    exact⟨n,fa g,fd g,d2.ps,IH g d2 q,hr,D2.at_,D2.fu.kp,D2.bi,len n g d2 q⟩
 have rok:∀(n i:Nat)d X,ds[i]? =some d->(∀g d2,g∈R->ds[g]? =some d2->fK P w K mg base (pA P w base) n (fa g) (fd g) d2.ps (JK K d2.ps.length cls (p.fn n g)))->X.prog=P->X.w=w->X.K=K->X.mg=mg->X.base=base->iG n X.A->adn cls (Oz ds lD d) X (p.cf n):=fun n i d X hd IH e1 e2 e3 e4 e5 hr=>by
  subst e1 e2 e3 e4 e5
  intro g x fl hk hc
  have hk':(ds.map fun d=>(d.x,d.fl))[g]? =some _:=hk
  rw[QFz]at hk'
  cases q:ds[g]? with
  |none=>rw[q]at hk';cases hk'
  |some d2=>
   rw[q]at hk'
   obtain⟨rfl,rfl⟩:=hk'
   have D2:=hfn g d2 q
   exact⟨n,fa g,fd g,d2.ps,IH g d2 (hz i d hd g d2 q hc) q,hr,D2.at_,D2.fu.kp,D2.bi,len n g d2 q⟩
 intro n
 induction n with
 |zero=>
  refine⟨fun i d e=>?_,fun i d _ e=>?_⟩
  ·have no:∀vs H Q E,¬oA K d.ps.length (p.fn 0 i) vs H Q E:=fun vs H Q E h=>by
    obtain⟨_,_,_,_,z⟩:=h
    exact z
   exact⟨fun vs H Q E h=>absurd h (no vs H Q E),fun A outer s H args us vs Q E _ _ _ _ h=>absurd h (no vs H Q E)⟩
  ·have no:∀vs H Q E,¬JK K d.ps.length cls (p.fn 0 i) vs H Q E:=fun vs H Q E h=>by
    obtain⟨_,_,_,_,z⟩:=h
    exact z
   exact⟨fun vs H Q E h=>absurd h (no vs H Q E),fun A outer s H args us vs Q E _ _ _ _ h=>absurd h (no vs H Q E)⟩
 |succ n ih=>
  obtain⟨ih,jh⟩:=ih
  refine⟨fun i d e=>?_,fun i d hi e=>?_⟩
  ·by_cases hir:i=t
   ·subst hir
    exact(hsp d e).2 n (jh r dr hrR hr0) (len n r dr hr0)
   ·obtain⟨g,hg,ht⟩:=htr i d hir e
    unfold nD at ht
    simp only[QJz]at ht
    obtain⟨b,hb,rfl⟩:=ht
    have S:=hsc d (QBz e)
    rw[sZ hg]
    refine Gv (hfn i d e).fu S rfl rfl fun cdv A outer s H E hr=>?_
    have O:=xok n d (eU Bg P w K mg base d.N d.x _ (fa i) cdv A outer s H E).Vm ih rfl rfl rfl rfl rfl rfl rfl rfl S.nd hr
    exact(ihS _ 60).ss _ _ W0 _ b O ⟨fun _=>rfl,PassesOwn.never,fun e f p n m h=>by rw[Fd h];exact NQ,V5 O (rok n i d _ e jh rfl rfl rfl rfl rfl hr) (fun _ _ _ _ z=>z.elim) ab6⟩ hb
  ·obtain⟨hit,hex⟩:=hR i d hi e
   obtain⟨g,hg,ht⟩:=htr i d hit e
   unfold nD at ht
   simp only[QJz]at ht
   obtain⟨b,hb,rfl⟩:=ht
   have S:=hsc d (QBz e)
   rw[sZ hg]
   refine Od (hfn i d e).fu S rfl rfl fun cdv A outer s H E hr=>?_
   have O:=xok n d (eU (pA P w base) P w K mg base d.N d.x _ (fa i) cdv A outer s H E) ih rfl rfl rfl rfl rfl rfl rfl rfl S.nd hr
   exact(ihS _ 60).ss _ _ _ _ b O (aeM hex (V5 O (rok n i d _ e jh rfl rfl rfl rfl rfl hr) (fun _ _ _ _ z=>z) ab7)) hb
end
def pgE(ds:List Df)(lD:List Str)(vals:List D)(turns t:Nat)(tf:Fn):Pg:=
 {fns:=(ds.map fun d=>(nD ds lD d).getD {pars:=0,names:=0,body:=.nil}).set t tf,gl:=fun k=>vals[k]?,turns:=turns}
def aa8(ds:List Df)(lD:List Str)(t:Nat):Bool:=(List.range ds.length).all fun i=>i==t||match ds[i]? with|some d=>(nD ds lD d).isSome|none=>true
def Xe(ds:List Df)(R:List Nat):Bool:=ds.all fun d=>(List.range ds.length).all fun g=>match ds[g]? with|some d2=> !d.rz.contains d2.x||R.contains g|none=>true
def Xd{ds:List Df}{R:List Nat}(h:Xe ds R=true):∀(i:Nat)d,ds[i]? =some d->∀(g:Nat)d2,ds[g]? =some d2->d.rz.contains d2.x=true->g∈R:=fun i d e g d2 e2 c=>by
 have h2:=List.all_eq_true.mp (List.all_eq_true.mp h d (QBz e)) g (List.mem_range.mpr (QCz.mp e2).1)
 simp only[e2]at h2
 rw[c]at h2
 simpa using h2
def Sx{a w:D}(h:[(1,a)].lookup j=some w):j=1/\w=a:=by
 simp only[List.lookup]at h
 split at h
 ·rename_i e;cases h;exact⟨by simpa using e,rfl⟩
 ·cases h
def Tr{c:Cf}{x y z t:Str}(h:gj X i x)(g:gj X j y)(f:gj X k z)(e:gj X l t):GA X W0 c (.cons (.var i) (.cons (.var j) (.cons (.var k) (.cons (.var l) .nil)))) [.Name x p,.Name y q,.Name z r,.Name t s]:=lE h.ge (lE g.ge (lE f.ge (lE e.ge Di rfl) rfl) rfl) rfl
section
def PJ{l:PySem.W.OpenLaw}{fa:Addr}{ds:List Df}{vals:List D}{dL dr dt:Df}{tf:Fn}(X:K.In h)(G:h.Ns mainGlobals mg)(hfa:mg "law"=some (.ref fa))(hx:dL.x="law")(hy:dL.ps=[y])(hL:ds[L]? =some dL)(b:Hi ds)
  (scp:ds.all Q4=true)(nZ:aa8 ds lD t=true)(A:AllIn K (ds.map fun d=>(d.x,d.st)))(B:yr K lD vals)(Z:Qq K qH)R(hR:∀(i:Nat)d,i∈R->ds[i]? =some d->i≠t/\Ay K mg cls d.exs)(rzs:Xe ds R=true)(hrR:r∈R)(hr0:ds[r]? =some dr)(ht0:ds[t]? =some dt)(tp:tf.pars=dt.ps.length)
  (told:∀(P:Program)(w:World)(base:Heap)(fr ft:Addr)(fdr fdt:FuncData),lY K mg dr fr fdr->lY K mg dt ft fdt->fP dt.N dt.ps (aF dt.st)->∀(c:Cf)(n:Nat),fK P w K mg base (pA P w base) n fr fdr dr.ps (JK K dr.ps.length cls (c.fn r))->(∀sl,c.fn r sl=.bad\/sl.length=dr.ps.length)->
   fK P w K mg base Bg (n+1) ft fdt dt.ps (oA K dt.ps.length (fU c tf))):
  ∃fd:FuncData,(∀(s:Shared)(v:Value),BindsTo s fd ⟨[v],[]⟩ [(y,v)])/\∀base:Heap,K.In base->base.Ns mainGlobals mg->fK l.prog w K mg base Bg n fa fd [y] (oA K 1 ((pgE ds lD vals 1000 t tf).fn n L)):=by
 obtain⟨fs,A,C⟩:=PN X G ds b A
 obtain⟨q,e1,e2,e3⟩:=C L dL hL
 have e:=hfa.symm.trans (hx▸e2.at_)
 cases e
 refine⟨q.2,fun s v=>?_,fun base _ _=>?_⟩
 ·have:=e3 s [v] (by rw[hy];rfl)
  rw[hy]at this
  exact this
 ·have hS:=fun d hd=>Q3 (List.all_eq_true.mp scp d hd)
  have z1:∀(i:Nat)d,ds[i]? =some d->lY K mg d (((fs[i]?).map (·.1)).getD 0) (((fs[i]?).map (·.2)).getD q.2):=fun i d e=>by
   obtain⟨q',e1,e2⟩:=A.at i d e
   simp only[e1,Option.map_some,Option.getD_some]
   exact e2
  have z2:∀i d,i≠t->ds[i]? =some d->∃g,(pgE ds lD vals 1000 t tf).fns[i]? =some g/\nD ds lD d=some g:=fun i d hi e=>by
   have hs:=List.all_eq_true.mp nZ i (List.mem_range.mpr ((QCz.mp e).1))
   simp only[e,Bool.or_eq_true,beq_iff_eq,hi,false_or]at hs
   obtain⟨g,hg⟩:=Option.isSome_iff_exists.mp hs
   refine⟨g,?_,hg⟩
   show((ds.map fun d=>(nD ds lD d).getD {pars:=0,names:=0,body:=.nil}).set t tf)[i]? =some g
   rw[Qxz (Ne.symm hi),QFz,e]
   simp[hg]
  have z3:∀k x,lD[k]? =some x->∃d v u,(pgE ds lD vals 1000 t tf).gl k=some d/\mg x=some u/\RelV v u/\∀H,bM K H d v:=fun k x e=>by
   obtain⟨dd,e1,v,u,z1,z2,z3⟩:=(PL X G lD vals B).at k x e
   exact⟨dd,v,u,e1,z1,z2,z3⟩
  have zt:(pgE ds lD vals 1000 t tf).fns[t]? =some tf:=by
   show((ds.map fun d=>(nD ds lD d).getD {pars:=0,names:=0,body:=.nil}).set t tf)[t]? =_
   rw[Qwq (by simpa using ((QCz.mp ht0).1))]
  have:=Lh (P:=l.prog) (w:=w) (base:=base) z1 hS z2 hR (Xd rzs) hrR hr0 (fun d hd=>by
   rw[ht0]at hd
   cases hd
   refine⟨⟨tf,zt,tp⟩,fun n g hn=>?_⟩
   rw[sZ zt]
   exact told _ _ _ _ _ _ _ (z1 r dr hr0) (z1 t dt ht0) (hS dt (QBz ht0)) _ n g hn) (PK X G _ Z) z3 n
  have:=this.1 L dL hL
  rw[hy]at this
  simp only[e1,Option.map_some,Option.getD_some]at this
  exact this
end
end Mini
end
section
namespace Tx
open PySem L2 Mini
abbrev d0:Df:=bJ "checked" s0 [false]
abbrev d1:Df:=bJ "is_net" s1 [false]
abbrev d2:Df:=bJ "has_parts" s2 [false]
abbrev d3:Df:=bJ "is_tuple" s3 [false,false,false]
abbrev d4:Df:=bJ "is_number" s4 [false,false,false]
abbrev d5:Df:=bJ "is_name" s5 [false]
abbrev d6:Df:=bJ "are_unlike" s6 [false]
abbrev d7:Df:=bJ "is_row" s7 [false,false]
abbrev d8:Df:=bJ "is_wire" s8 [false,false]
abbrev d9:Df:=bJ "are_wires" s9 [false,false,false,false]
abbrev d10:Df:=bJ "are_rows" uA [false,false]
abbrev d11:Df:=bJ "is_kind" Bb [false,false,false]
abbrev d12:Df:=bJ "is_held" s12 [false,false,false]
abbrev d13:Df:=bJ "wire_names" s13 [false]
abbrev d14:Df:=bJ "waiting_gates" s14 [false,false]
abbrev d15:Df:=bJ "told" s15 [false,false,false]
abbrev d16:Df:=bJ "told_held" s16 [false,false,false]
abbrev d17:Df:=bJ "checked_talk" s17 [false,false]
abbrev d18:Df:=bJ "is_talk" s18 [false,false]
abbrev d19:Df:=bJ "is_state" s19 [false,false,false]
abbrev d20:Df:={bJ "stand_behind" s20 [false,false,false]with exs:=["NoRun"]}
abbrev d21:Df:=bJ "first_stand" s21 [false]
abbrev d22:Df:=bJ "steps_at" s22 [false,false,false]
abbrev d23:Df:=bJ "is_unasked" s23 [false,false,false]
abbrev d24:Df:=bJ "led_to" s24 [false,false,false,false]
abbrev d25:Df:=bJ "changed" s25 [false,false,false]
abbrev d26:Df:=bJ "newly_met" s26 [false,false,false,true]
abbrev Zv:Df:={bJ "gone_on" s27 [false,false,false,false]with exs:=["NoRun"],rz:=["stand_behind"]}
abbrev d28:Df:=bJ "further_changes" s28 [false,false]
abbrev d29:Df:=bJ "fault" s29 [false,false]
abbrev d30:Df:=bJ "fault_at" s30 [false,false,false,false]
abbrev d31:Df:=bJ "has_out" s31 [false,false]
abbrev d32:Df:=bJ "fault_of_step" s32 [false,false,false,false,false]
abbrev d33:Df:=bJ "_law_cell_at" s33 [false,false]
abbrev d34:Df:=bJ "_law_mixed" s34 [false,false,false]
abbrev d35:Df:=bJ "_law_next" s35 [false,true,false]
abbrev d36:Df:=bJ "_law_some" s36 [false,true,false,false,false]
abbrev d37:Df:=bJ "_law_table" s37 [false,true,false]
abbrev d38:Df:=bJ "_law_kind" s38 [false,true,false,false]
abbrev d39:Df:=bJ "_law_net" s39 [false,true,false,false]
abbrev d40:Df:=bJ "_law_talk" s40 [false,true,false,false]
abbrev d41:Df:=bJ "_law_ring" s41 [false,true]
abbrev d42:Df:=bJ "_law_chain" s42 [false,true]
abbrev d43:Df:=bJ "_law_meeting" s43 [false,true]
abbrev d44:Df:=bJ "_law_spoilt_kind" s44 [false,true,false]
abbrev d45:Df:=bJ "_law_case" s45 [false,false]
abbrev d46:Df:=bJ "_law_is_steady" s46 [false]
abbrev d47:Df:=bJ "_law_names" s47 [false]
abbrev d48:Df:=bJ "_law_tells" s48 [false,false,false]
abbrev d49:Df:=bJ "_law_waiting" s49 [false,false]
abbrev d50:Df:=bJ "_law_steps" s50 [false,false,false]
abbrev d51:Df:=bJ "_law_led" s51 [false,false,false,false]
abbrev d52:Df:=bJ "_law_drawn_run" s52 [false,false,false,false,false]
abbrev d53:Df:=bJ "_law_left" s53 [false,false]
abbrev d54:Df:=bJ "_law_goes" s54 [false,false,false]
abbrev G6:Df:=bJ "_law_told" s55 [false,false,false,false]
abbrev d56:Df:=bJ "law" s56 [false]
noncomputable def ds:List Df:=[d0,d1,d2,d3,d4,d5,d6,d7,d8,d9,d10,d11,d12,d13,d14,d15,d16,d17,d18,d19,d20,d21,d22,d23,d24,d25,d26,Zv,d28,d29,d30,d31,d32,d33,d34,d35,d36,d37,d38,d39,d40,d41,d42,d43,d44,d45,d46,d47,d48,d49,d50,d51,d52,d53,d54,G6,d56]
def lD:List Str:=["LETTERS","LONGEST_NAME","WORDS","MOST_INPUTS","MOST_GATES","MOST_WIRES","MOST_TABLE_WIRES","DEEPEST_HELD","MOST_STATES"]
noncomputable def vals:List D:=[.str "abcdefghijklmnopqrstuvwxyz",.int 6,.tup [.str "input",.str "gate",.str "start",.str "out",.str "state",.str "same",.str "not",.str "and",.str "or",.str "both",.str "held",.str "table",.str "on",.str "off"],.int 3,.int 5,.int 4,.int 8,.int 3,.int 12]
noncomputable def tf:Fn:=⟨4,4,.cons ABt .nil⟩
def pg:Pg:=pgE ds lD vals 1000 55 tf
def scp:ds.all Q4=true:=by decide+kernel
def Rs_:List Nat:=[27,20]
def rzs:Xe ds Rs_=true:=by decide+kernel
def nZ:aa8 ds lD 55=true:=by decide+kernel
def bd:Hi ds:=⟨fun _ _ _ _ _ _ us hl=>by obtain⟨_,rfl⟩:=sr hl;rfl,fun _ _ _ _ _ _ us hl=>by obtain⟨_,rfl⟩:=sr hl;rfl,fun _ _ _ _ _ _ us hl=>by obtain⟨_,rfl⟩:=sr hl;rfl,fun _ _ _ _ _ _ us hl=>by obtain⟨_,_,_,rfl⟩:=je hl;rfl,fun _ _ _ _ _ _ us hl=>by obtain⟨_,_,_,rfl⟩:=je hl;rfl,fun _ _ _ _ _ _ us hl=>by obtain⟨_,rfl⟩:=sr hl;rfl,fun _ _ _ _ _ _ us hl=>by obtain⟨_,rfl⟩:=sr hl;rfl,fun _ _ _ _ _ _ us hl=>by obtain⟨_,_,rfl⟩:=jY hl;rfl,fun _ _ _ _ _ _ us hl=>by obtain⟨_,_,rfl⟩:=jY hl;rfl,fun _ _ _ _ _ _ us hl=>by obtain⟨_,_,_,_,rfl⟩:=rZ hl;rfl,fun _ _ _ _ _ _ us hl=>by obtain⟨_,_,rfl⟩:=jY hl;rfl,fun _ _ _ _ _ _ us hl=>by obtain⟨_,_,_,rfl⟩:=je hl;rfl,fun _ _ _ _ _ _ us hl=>by obtain⟨_,_,_,rfl⟩:=je hl;rfl,fun _ _ _ _ _ _ us hl=>by obtain⟨_,rfl⟩:=sr hl;rfl,fun _ _ _ _ _ _ us hl=>by obtain⟨_,_,rfl⟩:=jY hl;rfl,fun _ _ _ _ _ _ us hl=>by obtain⟨_,_,_,rfl⟩:=je hl;rfl,fun _ _ _ _ _ _ us hl=>by obtain⟨_,_,_,rfl⟩:=je hl;rfl,fun _ _ _ _ _ _ us hl=>by obtain⟨_,_,rfl⟩:=jY hl;rfl,fun _ _ _ _ _ _ us hl=>by obtain⟨_,_,rfl⟩:=jY hl;rfl,fun _ _ _ _ _ _ us hl=>by obtain⟨_,_,_,rfl⟩:=je hl;rfl,fun _ _ _ _ _ _ us hl=>by obtain⟨_,_,_,rfl⟩:=je hl;rfl,fun _ _ _ _ _ _ us hl=>by obtain⟨_,rfl⟩:=sr hl;rfl,fun _ _ _ _ _ _ us hl=>by obtain⟨_,_,_,rfl⟩:=je hl;rfl,fun _ _ _ _ _ _ us hl=>by obtain⟨_,_,_,rfl⟩:=je hl;rfl,fun _ _ _ _ _ _ us hl=>by obtain⟨_,_,_,_,rfl⟩:=rZ hl;rfl,fun _ _ _ _ _ _ us hl=>by obtain⟨_,_,_,rfl⟩:=je hl;rfl,fun _ _ _ _ _ _ us hl=>by obtain⟨_,_,_,_,rfl⟩:=rZ hl;rfl,fun _ _ _ _ _ _ us hl=>by obtain⟨_,_,_,_,rfl⟩:=rZ hl;rfl,fun _ _ _ _ _ _ us hl=>by obtain⟨_,_,rfl⟩:=jY hl;rfl,fun _ _ _ _ _ _ us hl=>by obtain⟨_,_,rfl⟩:=jY hl;rfl,fun _ _ _ _ _ _ us hl=>by obtain⟨_,_,_,_,rfl⟩:=rZ hl;rfl,fun _ _ _ _ _ _ us hl=>by obtain⟨_,_,rfl⟩:=jY hl;rfl,fun _ _ _ _ _ _ us hl=>by obtain⟨_,_,_,_,_,rfl⟩:=Yl hl;rfl,fun _ _ _ _ _ _ us hl=>by obtain⟨_,_,rfl⟩:=jY hl;rfl,fun _ _ _ _ _ _ us hl=>by obtain⟨_,_,_,rfl⟩:=je hl;rfl,fun _ _ _ _ _ _ us hl=>by obtain⟨_,_,_,rfl⟩:=je hl;rfl,fun _ _ _ _ _ _ us hl=>by obtain⟨_,_,_,_,_,rfl⟩:=Yl hl;rfl,fun _ _ _ _ _ _ us hl=>by obtain⟨_,_,_,rfl⟩:=je hl;rfl,fun _ _ _ _ _ _ us hl=>by obtain⟨_,_,_,_,rfl⟩:=rZ hl;rfl,fun _ _ _ _ _ _ us hl=>by obtain⟨_,_,_,_,rfl⟩:=rZ hl;rfl,fun _ _ _ _ _ _ us hl=>by obtain⟨_,_,_,_,rfl⟩:=rZ hl;rfl,fun _ _ _ _ _ _ us hl=>by obtain⟨_,_,rfl⟩:=jY hl;rfl,fun _ _ _ _ _ _ us hl=>by obtain⟨_,_,rfl⟩:=jY hl;rfl,fun _ _ _ _ _ _ us hl=>by obtain⟨_,_,rfl⟩:=jY hl;rfl,fun _ _ _ _ _ _ us hl=>by obtain⟨_,_,_,rfl⟩:=je hl;rfl,fun _ _ _ _ _ _ us hl=>by obtain⟨_,_,rfl⟩:=jY hl;rfl,fun _ _ _ _ _ _ us hl=>by obtain⟨_,rfl⟩:=sr hl;rfl,fun _ _ _ _ _ _ us hl=>by obtain⟨_,rfl⟩:=sr hl;rfl,fun _ _ _ _ _ _ us hl=>by obtain⟨_,_,_,rfl⟩:=je hl;rfl,fun _ _ _ _ _ _ us hl=>by obtain⟨_,_,rfl⟩:=jY hl;rfl,fun _ _ _ _ _ _ us hl=>by obtain⟨_,_,_,rfl⟩:=je hl;rfl,fun _ _ _ _ _ _ us hl=>by obtain⟨_,_,_,_,rfl⟩:=rZ hl;rfl,fun _ _ _ _ _ _ us hl=>by obtain⟨_,_,_,_,_,rfl⟩:=Yl hl;rfl,fun _ _ _ _ _ _ us hl=>by obtain⟨_,_,rfl⟩:=jY hl;rfl,fun _ _ _ _ _ _ us hl=>by obtain⟨_,_,_,rfl⟩:=je hl;rfl,fun _ _ _ _ _ _ us hl=>by obtain⟨_,_,_,_,rfl⟩:=rZ hl;rfl,fun _ _ _ _ _ _ us hl=>by obtain⟨_,rfl⟩:=sr hl;rfl,trivial⟩
noncomputable def nms:List (Str×Stmt):=("checked",s0)::("is_net",s1)::("has_parts",s2)::("is_tuple",s3)::("is_number",s4)::("is_name",s5)::("are_unlike",s6)::("is_row",s7)::("is_wire",s8)::("are_wires",s9)::("are_rows",uA)::("is_kind",Bb)::("is_held",s12)::("wire_names",s13)::("waiting_gates",s14)::("told",s15)::("told_held",s16)::("checked_talk",s17)::("is_talk",s18)::("is_state",s19)::("stand_behind",s20)::("first_stand",s21)::("steps_at",s22)::("is_unasked",s23)::("led_to",s24)::("changed",s25)::("newly_met",s26)::("gone_on",s27)::("further_changes",s28)::("fault",s29)::("fault_at",s30)::("has_out",s31)::("fault_of_step",s32)::("_law_cell_at",s33)::("_law_mixed",s34)::("_law_next",s35)::("_law_some",s36)::("_law_table",s37)::("_law_kind",s38)::("_law_net",s39)::("_law_talk",s40)::("_law_ring",s41)::("_law_chain",s42)::("_law_meeting",s43)::("_law_spoilt_kind",s44)::("_law_case",s45)::("_law_is_steady",s46)::("_law_names",s47)::("_law_tells",s48)::("_law_waiting",s49)::("_law_steps",s50)::("_law_led",s51)::("_law_drawn_run",s52)::("_law_left",s53)::("_law_goes",s54)::("_law_told",s55)::("law",s56)::[]
end Tx
end
section
open PySem
section
open Mini
namespace Tx
def cL{n i:Nat}{g:Fn}{ps us:List Sl}(h:pg.fns[i]? =some g:=by kernel_rfl)(e:us=ps++List.replicate (g.names-g.pars) .un:=by rfl)(l:ps.length=g.pars:=by rfl):pg.fn (n+1) i ps=fin g.pars (ex (pg.cf n) g.body us):=by
 subst e
 refine Eq.trans ?_ (Q7 _ _ _ l)
 show(match pg.fns[i]? with|some g=>fU (pg.cf n) g ps|none=>.bad)=_
 rw[h]
def lO(k:Nat):Fn:=(pg.fns[k]?).getD ⟨0,0,.nil⟩
def cu{n i p k:Nat}{ps:List Sl}(h:(pg.fns[i]?).isSome=true:=by kernel_rfl)(hp:(lO i).pars=p:=by kernel_rfl)(hk:(lO i).names-p=k:=by kernel_rfl)(l:ps.length=p:=by rfl):pg.fn (n+1) i ps=fin p (ex (pg.cf n) (lO i).body (ps++List.replicate k .un)):=by
 subst hp hk
 refine cL ?_ rfl l
 unfold lO
 obtain⟨g,e⟩:=Option.isSome_iff_exists.mp h
 rw[e]
 rfl
noncomputable def ph:Fn:=⟨1,1,(.cons (.ite (.not (.call 1 AAT)) (.cons (.raise 0) .nil) .nil) (.cons (.ret (.var 0)) .nil))⟩
def HX(n:Nat)(p0:Sl):pg.fn (n+1) 0 [p0]=fin 1 (ex (pg.cf n) ph.body [p0]):=cL (g:=ph)
noncomputable def An:Fn:=lO 1
def K6(n:Nat)(p0:Sl):pg.fn (n+1) 1 [p0]=fin 1 (ex (pg.cf n) An.body [p0,.un]):=cu (p:=1) (k:=1)
noncomputable def pQ:Fn:=lO 2
def zj(n:Nat)(p0:Sl):pg.fn (n+1) 2 [p0]=fin 1 (ex (pg.cf n) pQ.body [p0]):=cu (p:=1) (k:=0)
noncomputable def mG:Fn:=⟨3,3,(.cons (.ret (.and (.cons (.isi (.var 0) .tup) (.cons (.chain .le .le (.var 1) ABa (.var 2)) .nil)))) .nil)⟩
def Ce(n:Nat)(p0 p1 p2:Sl):pg.fn (n+1) 3 [p0,p1,p2]=fin 3 (ex (pg.cf n) mG.body [p0,p1,p2]):=cL (g:=mG)
noncomputable def kj:Fn:=⟨3,3,(.cons (.ret (.and (.cons (.isi (.var 0) .int) (.cons (.not (.isi (.var 0) .bool)) (.cons (.chain .le .le (.var 1) (.var 0) (.var 2)) .nil))))) .nil)⟩
def zg(n:Nat)(p0 p1 p2:Sl):pg.fn (n+1) 4 [p0,p1,p2]=fin 3 (ex (pg.cf n) kj.body [p0,p1,p2]):=cL (g:=kj)
noncomputable def aaC:Fn:=⟨1,1,(.cons (.ite (.or (.cons (.not (.isi (.var 0) .str)) (.cons (.not (.chain .le .le AAG ABa (.glob 1))) .nil))) AAQ .nil) (.cons (.ret (.and (.cons (.bi .all (.comp 1 (.name 0) (.var 0) AAL (.cmp .isin (.var 0) (.glob 0)))) (.cons (.cmp .notin (.var 0) (.glob 2)) .nil)))) .nil))⟩
noncomputable def nU:Fn:=lO 6
def wX(n:Nat)(p0:Sl):pg.fn (n+1) 6 [p0]=fin 1 (ex (pg.cf n) nU.body [p0]):=cu (p:=1) (k:=0)
noncomputable def Am:Fn:=lO 7
def K5(n:Nat)(p0 p1:Sl):pg.fn (n+1) 7 [p0,p1]=fin 2 (ex (pg.cf n) Am.body [p0,p1]):=cu (p:=2) (k:=0)
noncomputable def gq:Fn:=⟨2,2,(.cons (.ret (.and (.cons (.isi (.var 0) .str) (.cons (.cmp .isin (.var 0) (.var 1)) .nil)))) .nil)⟩
def kW(n:Nat)(p0 p1:Sl):pg.fn (n+1) 8 [p0,p1]=fin 2 (ex (pg.cf n) gq.body [p0,p1]):=cL (g:=gq)
noncomputable def pR:Fn:=lO 9
def zm(n:Nat)(p0 p1 p2 p3:Sl):pg.fn (n+1) 9 [p0,p1,p2,p3]=fin 4 (ex (pg.cf n) pR.body [p0,p1,p2,p3]):=cu (p:=4) (k:=0)
noncomputable def uq:Fn:=lO 10
def Cj(n:Nat)(p0 p1:Sl):pg.fn (n+1) 10 [p0,p1]=fin 2 (ex (pg.cf n) uq.body [p0,p1]):=cu (p:=2) (k:=0)
noncomputable def di:Fn:=⟨3,5,(.cons (.ite (.or (.cons (.not (.call 3 (.cons (.var 0) (.cons AAP AAj)))) (.cons (.not (.isi AAc .str)) .nil))) AAQ .nil) (.cons (.set 3 AAc) (.cons (.set 4 ABa) (.cons (.ite (.cmp .isin (.var 3) (.tup AAX)) (.cons (.ret (.and (.cons ACL (.cons (.call 8 (.cons AAb AAZ)) .nil)))) .nil) .nil) (.cons (.ite (.cmp .isin (.var 3) (.tup (.cons AAw (.cons ABJ .nil)))) (.cons (.ret (.and (.cons ACL (.cons (.call 9 (.cons AAb (.cons (.var 1) (.cons AAG (.cons (.glob 5) .nil))))) .nil)))) .nil) .nil) (.cons (.ite (.cmp .eq (.var 3) ABM) (.cons (.ret (.and (.cons ACL (.cons (.call 9 (.cons AAb (.cons (.var 1) (.cons AAP (.cons (.glob 5) .nil))))) .nil)))) .nil) .nil) (.cons (.ite ACM (.cons (.ret (.and (.cons (.cmp .eq (.var 4) AAV) (.cons (.call 9 (.cons AAb (.cons (.var 1) (.cons AAG (.cons (.glob 6) .nil))))) (.cons (.call 10 (.cons AAf (.cons (.bi .len AAb) .nil))) .nil))))) .nil) .nil) (.cons (.ite ACN (.cons (.ret (.and (.cons (.cmp .eq (.var 4) (.con (.int 4))) (.cons (.cmp .lt (.var 2) (.glob 7)) (.cons (.call 12 (.cons (.var 0) (.cons (.var 1) ACU))) .nil))))) .nil) .nil) AAQ))))))))⟩
def eY(n:Nat)(p0 p1 p2:Sl):pg.fn (n+1) 11 [p0,p1,p2]=fin 3 (ex (pg.cf n) di.body [p0,p1,p2,.un,.un]):=cL (g:=di)
noncomputable def o9:Fn:=⟨3,3,(.cons (.ret (.and (.cons (.call 11 (.cons AAb AAR)) (.cons (.call 8 (.cons AAf AAZ)) (.cons (.isi (.idx (.var 0) AAV) .bool) .nil))))) .nil)⟩
def HS(n:Nat)(p0 p1 p2:Sl):pg.fn (n+1) 12 [p0,p1,p2]=fin 3 (ex (pg.cf n) o9.body [p0,p1,p2]):=cL (g:=o9)
noncomputable def nR:Fn:=lO 13
def mQ(n:Nat)(p0:Sl):pg.fn (n+1) 13 [p0]=fin 1 (ex (pg.cf n) nR.body [p0]):=cu (p:=1) (k:=0)
noncomputable def jz:Fn:=lO 14
def pY(n:Nat)(p0 p1:Sl):pg.fn (n+1) 14 [p0,p1]=fin 2 (ex (pg.cf n) jz.body [p0,p1,.un]):=cu (p:=2) (k:=1)
noncomputable def Eb:Fn:=⟨3,5,(.cons (.set 3 AAc) (.cons (.ite (.cmp .eq (.var 3) AAt) (.cons (.ret ABu) .nil) .nil) (.cons (.ite (.cmp .eq (.var 3) ABw) (.cons (.ret (.not ABu)) .nil) .nil) (.cons (.ite ACN ACX .nil) (.cons (.set 4 (.bi .tuple (.comp 1 (.name 0) AAb AAL (.idx (.var 3) (.var 0))))) (.cons (.ite (.cmp .eq (.var 3) AAw) ACR .nil) (.cons (.ite (.cmp .eq (.var 3) ABJ) ACQ .nil) (.cons (.ite ACM ACH .nil) AAk))))))))⟩
def mj(n:Nat)(p0 p1 p2:Sl):pg.fn (n+1) 15 [p0,p1,p2]=fin 3 (ex (pg.cf n) Eb.body [p0,p1,p2,.un,.un]):=cL (g:=Eb)
noncomputable def j6:Fn:=⟨3,5,(.cons (.set 3 (.call 15 (.cons AAb AAR))) (.cons (.set 4 (.cmp .eq (.idx (.var 2) AAf) (.var 3))) (.cons (.ret (.ite (.cmp .eq (.var 4) (.idx (.var 0) AAV)) (.var 3) (.var 1))) .nil)))⟩
def yW(n:Nat)(p0 p1 p2:Sl):pg.fn (n+1) 16 [p0,p1,p2]=fin 3 (ex (pg.cf n) j6.body [p0,p1,p2,.un,.un]):=cL (g:=j6)
noncomputable def gK:Fn:=⟨2,2,(.cons (.ite (.not (.call 18 (.cons (.call 0 AAT) AAZ))) (.cons (.raise 0) .nil) .nil) (.cons (.ret (.var 1)) .nil))⟩
def rH(n:Nat)(p0 p1:Sl):pg.fn (n+1) 17 [p0,p1]=fin 2 (ex (pg.cf n) gK.body [p0,p1]):=cL (g:=gK)
noncomputable def wC:Fn:=lO 18
def HR(n:Nat)(p0 p1:Sl):pg.fn (n+1) 18 [p0,p1]=fin 2 (ex (pg.cf n) wC.body [p0,p1,.un,.un]):=cu (p:=2) (k:=2)
noncomputable def um:Fn:=lO 19
def Cg(n:Nat)(p0 p1 p2:Sl):pg.fn (n+1) 19 [p0,p1,p2]=fin 3 (ex (pg.cf n) um.body [p0,p1,p2]):=cu (p:=3) (k:=0)
noncomputable def gJ:Fn:=lO 20
def jV(n:Nat)(p0 p1 p2:Sl):pg.fn (n+1) 20 [p0,p1,p2]=fin 3 (ex (pg.cf n) gJ.body [p0,p1,p2,.un,.un]):=cu (p:=3) (k:=2)
noncomputable def Qv:Fn:=⟨1,1,(.cons (.ret (.tup (.cons AAf ABN))) .nil)⟩
noncomputable def ud:Fn:=lO 22
def BL(n:Nat)(p0 p1 p2:Sl):pg.fn (n+1) 22 [p0,p1,p2]=fin 3 (ex (pg.cf n) ud.body [p0,p1,p2,.un]):=cu (p:=3) (k:=1)
noncomputable def jq:Fn:=⟨3,3,(.cons (.ret (.and (.cons (.cmp .isin (.var 2) AAc) (.cons (.cmp .notin (.var 2) (.bi .dict (.idx AAb AAg))) .nil)))) .nil)⟩
def wW(n:Nat)(p0 p1 p2:Sl):pg.fn (n+1) 23 [p0,p1,p2]=fin 3 (ex (pg.cf n) jq.body [p0,p1,p2]):=cL (g:=jq)
noncomputable def nT:Fn:=⟨4,5,(.cons (.ite (.call 23 ABW) (.cons (.ret AAs) .nil) .nil) (.cons (.set 4 (.bi .dict ACS)) (.cons (.ret (.tup (.cons (.call 25 (.cons (.var 0) (.cons AAp AAS))) (.cons (.get2 (.var 4) (.var 3) AAe) .nil)))) .nil)))⟩
def K4(n:Nat)(p0 p1 p2 p3:Sl):pg.fn (n+1) 24 [p0,p1,p2,p3]=fin 4 (ex (pg.cf n) nT.body [p0,p1,p2,p3,.un]):=cL (g:=nT)
noncomputable def wF:Fn:=lO 25
def HY(n:Nat)(p0 p1 p2:Sl):pg.fn (n+1) 25 [p0,p1,p2]=fin 3 (ex (pg.cf n) wF.body [p0,p1,p2]):=cu (p:=3) (k:=0)
noncomputable def pM:Fn:=lO 26
def yX(n:Nat)(p0 p1 p2 p3:Sl):pg.fn (n+1) 26 [p0,p1,p2,p3]=fin 4 (ex (pg.cf n) pM.body [p0,p1,p2,p3,.un,.un,.un]):=cu (p:=4) (k:=3)
noncomputable def lK:Fn:=⟨4,5,(.cons (.callx 20 ABX) (.cons (.callx 20 ABY) (.cons (.set 4 (.call 28 AAh)) (.cons (.callx 20 (.cons (.var 0) (.cons (.var 1) (.cons (.op .add (.var 2) (.var 4)) .nil)))) ABP))))⟩
def vf(n:Nat)(p0 p1 p2 p3:Sl):pg.fn (n+1) 27 [p0,p1,p2,p3]=fin 4 (ex (pg.cf n) lK.body [p0,p1,p2,p3,.un]):=cL (g:=lK)
noncomputable def g8:Fn:=lO 28
def mU(n:Nat)(p0 p1:Sl):pg.fn (n+1) 28 [p0,p1]=fin 2 (ex (pg.cf n) g8.body [p0,p1,.un,.un,.un,.un]):=cu (p:=2) (k:=4)
noncomputable def Hf:Fn:=lO 29
def Rn(n:Nat)(p0 p1:Sl):pg.fn (n+1) 29 [p0,p1]=fin 2 (ex (pg.cf n) Hf.body [p0,p1,.un,.un,.un]):=cu (p:=2) (k:=3)
noncomputable def uo:Fn:=lO 30
def Ci(n:Nat)(p0 p1 p2 p3:Sl):pg.fn (n+1) 30 [p0,p1,p2,p3]=fin 4 (ex (pg.cf n) uo.body [p0,p1,p2,p3,.un,.un,.un]):=cu (p:=4) (k:=3)
noncomputable def wD:Fn:=lO 31
def HW(n:Nat)(p0 p1:Sl):pg.fn (n+1) 31 [p0,p1]=fin 2 (ex (pg.cf n) wD.body [p0,p1]):=cu (p:=2) (k:=0)
noncomputable def jB:Fn:=lO 32
def p6(n:Nat)(p0 p1 p2 p3 p4:Sl):pg.fn (n+1) 32 [p0,p1,p2,p3,p4]=fin 5 (ex (pg.cf n) jB.body [p0,p1,p2,p3,p4,.un,.un]):=cu (p:=5) (k:=2)
noncomputable def dG:Fn:=⟨2,2,(.cons (.ite (.cmp .lt (.var 1) ABa) (.cons (.ret (.idx (.var 0) (.var 1))) .nil) .nil) (.cons (.ite (.cmp .eq (.var 0) AAv) (.cons (.ret AAH) .nil) .nil) (.cons (.ret (.op .add (.op .mul (.idx (.var 0) (.op .mod (.var 1) ABa)) (.con (.int 31))) (.var 1))) .nil)))⟩
def iu(n:Nat)(p0 p1:Sl):pg.fn (n+1) 33 [p0,p1]=fin 2 (ex (pg.cf n) dG.body [p0,p1]):=cL (g:=dG)
noncomputable def j9:Fn:=⟨3,4,(.cons (.set 3 (.op .mod (.op .mul (.op .add (.op .add (.call 33 (.cons (.var 0) AAZ)) (.op .mul (.con (.int 7919)) (.var 1))) AAG) (.con (.int 48271))) (.con (.int 2147483647)))) (.cons (.ret (.op .mod (.op .mod (.op .add (.op .add (.op .mul (.var 3) (.var 3)) (.op .mul (.con (.int 7)) (.var 3))) (.var 1)) (.con (.int 2147483629))) (.var 2))) .nil))⟩
def zc(n:Nat)(p0 p1 p2:Sl):pg.fn (n+1) 34 [p0,p1,p2]=fin 3 (ex (pg.cf n) j9.body [p0,p1,p2,.un]):=cL (g:=j9)
noncomputable def mF:Fn:=⟨3,3,(.cons (.setIx 1 AAH (.op .add AAi AAG)) (.cons (.ret (.call 34 (.cons (.var 0) (.cons AAi ABT)))) .nil))⟩
def BX(n:Nat)(p0 p1 p2:Sl):pg.fn (n+1) 35 [p0,p1,p2]=fin 3 (ex (pg.cf n) mF.body [p0,p1,p2]):=cL (g:=mF)
noncomputable def mD:Fn:=⟨5,6,(.cons (.set 5 (.bi .list (.var 2))) (.cons (.while_ AAo AAr) (.cons (.ret ABo) .nil)))⟩
def BV(n:Nat)(p0 p1 p2 p3 p4:Sl):pg.fn (n+1) 36 [p0,p1,p2,p3,p4]=fin 5 (ex (pg.cf n) mD.body [p0,p1,p2,p3,p4,.un]):=cL (g:=mD)
noncomputable def j8:Fn:=⟨3,6,(.cons (.set 3 (.call 36 (.cons (.var 0) (.cons (.ref 1) (.cons (.var 2) (.cons AAG AAx)))))) (.cons (.set 4 (.lis (.cons (.tup .nil) .nil))) (.cons (.for_ (.name 5) (.var 3) (.cons (.set 4 (.op .add (.comp 1 (.name 0) (.var 4) AAL (.op .add (.var 0) (.tup (.cons (.con (.bl false)) .nil)))) (.comp 1 (.name 0) (.var 4) AAL (.op .add (.var 0) (.tup (.cons AAL .nil)))))) .nil)) (.cons (.ret (.tup (.cons ABI (.cons (.var 3) (.cons (.bi .tuple (.bi .sorted (.comp 1 (.name 0) (.var 4) ABh (.var 0)))) .nil))))) .nil))))⟩
def yZ(n:Nat)(p0 p1 p2:Sl):pg.fn (n+1) 37 [p0,p1,p2]=fin 3 (ex (pg.cf n) j8.body [p0,p1,p2,.un,.un,.un]):=cL (g:=j8)
noncomputable def cX:Fn:=⟨4,6,(.cons (.set 4 (.call 35 (.cons (.var 0) (.cons (.ref 1) (.cons (.con (.int 9)) .nil))))) (.cons (.ite (.or (.cons (.cmp .lt (.var 4) (.con (.int 4))) (.cons (.cmp .lt ABx AAP) .nil))) (.cons (.ret (.tup (.cons (.idx (.lis AAX) (.op .mod (.var 4) AAP)) (.cons ABG .nil)))) .nil) .nil) (.cons (.ite (.cmp .lt (.var 4) (.con (.int 7))) (.cons (.ret (.tup (.cons (.idx (.lis (.cons AAw (.cons ABJ (.cons ABM .nil)))) (.op .sub (.var 4) (.con (.int 4)))) (.cons (.call 36 (.cons (.var 0) (.cons (.ref 1) (.cons (.var 2) (.cons AAP AAx))))) .nil)))) .nil) .nil) (.cons (.ite (.or (.cons (.cmp .eq (.var 4) (.con (.int 7))) (.cons (.cmp .eq (.var 3) AAH) .nil))) (.cons (.ret (.call 37 (.cons (.var 0) (.cons (.ref 1) ABT)))) .nil) .nil) (.cons (.set 5 (.call 38 (.cons (.var 0) (.cons (.ref 1) (.cons (.var 2) ACT))))) (.cons (.ret (.tup (.cons AAl (.cons (.var 5) (.cons ABG (.cons ABy .nil)))))) .nil))))))⟩
def jb(n:Nat)(p0 p1 p2 p3:Sl):pg.fn (n+1) 38 [p0,p1,p2,p3]=fin 4 (ex (pg.cf n) cX.body [p0,p1,p2,p3,.un,.un]):=cL (g:=cX)
noncomputable def wA:Fn:=lO 39
def HN(n:Nat)(p0 p1 p2 p3:Sl):pg.fn (n+1) 39 [p0,p1,p2,p3]=fin 4 (ex (pg.cf n) wA.body [p0,p1,p2,p3,.un,.un,.un,.un]):=cu (p:=4) (k:=4)
noncomputable def ue:Fn:=lO 40
def BR(n:Nat)(p0 p1 p2 p3:Sl):pg.fn (n+1) 40 [p0,p1,p2,p3]=fin 4 (ex (pg.cf n) ue.body [p0,p1,p2,p3,.un,.un,.un,.un,.un]):=cu (p:=4) (k:=5)
noncomputable def uf:Fn:=lO 41
def BW(n:Nat)(p0 p1:Sl):pg.fn (n+1) 41 [p0,p1]=fin 2 (ex (pg.cf n) uf.body [p0,p1,.un,.un,.un]):=cu (p:=2) (k:=3)
noncomputable def pP:Fn:=lO 42
def zf(n:Nat)(p0 p1:Sl):pg.fn (n+1) 42 [p0,p1]=fin 2 (ex (pg.cf n) pP.body [p0,p1,.un,.un,.un,.un,.un,.un]):=cu (p:=2) (k:=6)
noncomputable def aO:Fn:=⟨2,8,(.cons (.set 2 (.call 35 (.cons (.var 0) (.cons (.ref 1) (.cons (.con (.int 6)) .nil))))) (.cons (.set 3 (.tup (.cons (.idx (.lis (.cons ABM (.cons ABM (.cons AAw (.cons ABJ (.cons ABM (.cons ABM .nil))))))) (.var 2)) (.cons (.tup (.cons AAq (.cons ABV .nil))) .nil)))) (.cons (.ite (.cmp .gt (.var 2) AAV) (.cons (.set 3 (.tup (.cons AAl (.cons (.tup (.cons AAt (.cons AAq .nil))) (.cons ABV (.cons AAL .nil)))))) .nil) .nil) (.cons (.set 4 (.tup (.cons (.tup (.cons (.tup (.cons AAq ABp)) (.cons (.tup (.cons ABV AAy)) .nil))) (.cons (.tup (.cons (.tup (.cons ABV AAx)) .nil)) (.cons (.tup (.cons (.tup (.cons AAq AAx)) .nil)) (.cons (.tup (.cons (.tup (.cons ABm ABN)) .nil)) .nil)))))) (.cons (.set 5 (.lis (.cons (.tup (.cons ABm AAS)) .nil))) (.cons (.ite ABy (.cons (.append 5 (.tup (.cons ABl (.cons (.tup (.cons (.idx (.lis AAX) AAd) (.cons ABm .nil))) .nil)))) .nil) .nil) (.cons (.set 6 ABy) (.cons (.set 7 (.lis (.cons (.var 6) (.cons (.var 6) ABR)))) (.cons (.ite (.cmp .gt (.bi .len (.var 5)) AAG) (.cons (.append 7 (.cmp .eq (.var 6) (.cmp .eq (.idx (.idx (.idx (.var 5) AAG) AAG) AAH) AAt))) .nil) .nil) (.cons (.ret (.tup (.cons (.tup (.cons (.tup (.cons AAq (.cons ABV .nil))) (.cons ABo (.cons (.bi .tuple (.var 7)) .nil)))) (.cons (.tup (.cons (.tup (.cons ABm .nil)) ABS)) .nil)))) .nil))))))))))⟩
def ir(n:Nat)(p0 p1:Sl):pg.fn (n+1) 43 [p0,p1]=fin 2 (ex (pg.cf n) aO.body [p0,p1,.un,.un,.un,.un,.un,.un]):=cL (g:=aO)
noncomputable def cT:Fn:=⟨3,6,(.cons (.set 3 (.op .add AAp (.bi .tuple (.comp 1 (.name 0) AAe AAL AAc)))) (.cons (.set 4 (.call 35 (.cons (.var 0) (.cons (.ref 1) (.cons (.bi .len AAe) .nil))))) (.cons (.set 5 (.bi .list AAe)) (.cons (.setIx 5 (.var 4) (.tup (.cons (.idx (.idx (.var 5) (.var 4)) AAH) (.cons (.call 38 (.cons (.var 0) (.cons (.ref 1) (.cons (.var 3) ABp)))) .nil)))) (.cons (.ret (.tup (.cons AAp (.cons ABo (.cons (.idx (.var 2) AAP) .nil))))) .nil)))))⟩
def mR(n:Nat)(p0 p1 p2:Sl):pg.fn (n+1) 44 [p0,p1,p2]=fin 3 (ex (pg.cf n) cT.body [p0,p1,p2,.un,.un,.un]):=cL (g:=cT)
noncomputable def bH:Fn:=⟨2,6,(.cons (.set 2 (.lis AAZ)) (.cons (.set 3 (.call 35 (.cons (.var 0) (.cons (.ref 2) (.cons (.con (.int 8)) .nil))))) (.cons (.ite (.cmp .lt (.var 3) AAP) (.cons (.set 4 (.call 39 (.cons (.var 0) (.cons (.ref 2) (.cons AAP AAj))))) (.cons (.ret (.tup (.cons (.var 4) (.cons (.call 40 (.cons (.var 0) (.cons (.ref 2) (.cons (.var 4) AAj)))) .nil)))) .nil)) .nil) (.cons (.ite (.cmp .eq (.var 3) AAP) (.cons (.ret (.tup (.cons (.call 39 (.cons (.var 0) (.cons (.ref 2) (.cons AAH AAj)))) (.cons (.tup (.cons (.tup .nil) (.cons (.tup (.cons (.tup .nil) .nil)) .nil))) .nil)))) .nil) .nil) (.cons (.ite (.cmp .eq (.var 3) AAV) (.cons (.set 4 (.call 41 ABU)) (.cons (.ite ABi (.cons (.ret (.tup (.cons (.var 4) (.cons (.tup (.cons (.tup .nil) (.cons (.tup (.cons (.tup .nil) .nil)) .nil))) .nil)))) .nil) .nil) (.cons (.ret (.tup (.cons (.var 4) (.cons (.tup (.cons (.tup (.cons ABl .nil)) (.cons (.tup (.cons (.tup (.cons (.tup (.cons ABl ABp)) .nil)) (.cons (.tup (.cons (.tup (.cons ABl ABN)) .nil)) .nil))) .nil))) .nil)))) .nil))) .nil) (.cons (.ite (.cmp .lt (.var 3) (.con (.int 6))) (.cons (.setT [4,5] (.call 42 ABU)) .nil) (.cons (.setT [4,5] (.call 43 ABU)) .nil)) (.cons (.ite (.and (.cons (.cmp .eq (.op .mod (.var 3) AAP) AAG) (.cons ABi .nil))) (.cons (.set 4 (.call 44 (.cons (.var 0) (.cons (.ref 2) ABS)))) .nil) .nil) (.cons (.ret (.tup (.cons (.var 4) ABH))) .nil))))))))⟩
def dM(n:Nat)(p0 p1:Sl):pg.fn (n+1) 45 [p0,p1]=fin 2 (ex (pg.cf n) bH.body [p0,p1,.un,.un,.un,.un]):=cL (g:=bH)
noncomputable def JN:Fn:=⟨1,8,(.cons (.for_ (.name 1) AAb (.cons (.for_ (.tup [2,3]) (.var 1) (.cons (.for_ (.tup [4,5]) (.var 1) (.cons (.ite ABs (.cons ABL (.cons ABK (.cons (.ite ABO AAQ .nil) .nil))) .nil) .nil)) .nil)) .nil)) ACJ)⟩
noncomputable def pO:Fn:=⟨1,1,(.cons (.ret (.op .add (.bi .list AAc) (.comp 1 (.name 0) AAb AAL AAc))) .nil)⟩
def zb(n:Nat)(p0:Sl):pg.fn (n+1) 47 [p0]=fin 1 (ex (pg.cf n) pO.body [p0]):=cL (g:=pO)
noncomputable def j7:Fn:=⟨3,5,(.cons (.ite (.cmp .eq AAc AAt) (.cons (.ret ABv) .nil) .nil) (.cons (.ite (.cmp .eq AAc ABw) (.cons (.ret (.not ABv)) .nil) .nil) (.cons (.ite (.cmp .eq AAc AAl) AAn .nil) (.cons (.set 4 (.comp 1 (.name 0) AAb AAL (.idx (.var 2) (.var 0)))) (.cons (.ite (.cmp .eq AAc ABI) ABn .nil) (.cons (.ite (.cmp .eq AAc AAw) ABj .nil) (.cons (.ite (.cmp .eq AAc ABJ) ACG .nil) (.cons (.ite AAz ABr .nil) ACP))))))))⟩
def cW(n:Nat)(p0 p1 p2:Sl):pg.fn (n+1) 48 [p0,p1,p2]=fin 3 (ex (pg.cf n) j7.body [p0,p1,p2,.un,.un]):=cL (g:=j7)
noncomputable def lW:Fn:=lO 49
def uE(n:Nat)(p0 p1:Sl):pg.fn (n+1) 49 [p0,p1]=fin 2 (ex (pg.cf n) lW.body [p0,p1,.un]):=cu (p:=2) (k:=1)
noncomputable def pN:Fn:=lO 50
def za(n:Nat)(p0 p1 p2:Sl):pg.fn (n+1) 50 [p0,p1,p2]=fin 3 (ex (pg.cf n) pN.body [p0,p1,p2,.un]):=cu (p:=3) (k:=1)
noncomputable def wB:Fn:=lO 51
def HQ(n:Nat)(p0 p1 p2 p3:Sl):pg.fn (n+1) 51 [p0,p1,p2,p3]=fin 4 (ex (pg.cf n) wB.body [p0,p1,p2,p3,.un,.un,.un,.un]):=cu (p:=4) (k:=4)
noncomputable def jA:Fn:=lO 52
def pZ(n:Nat)(p0 p1 p2 p3 p4:Sl):pg.fn (n+1) 52 [p0,p1,p2,p3,p4]=fin 5 (ex (pg.cf n) jA.body [p0,p1,p2,p3,p4,.un,.un,.un,.un,.un,.un,.un]):=cu (p:=5) (k:=7)
noncomputable def ug:Fn:=lO 53
def BZ(n:Nat)(p0 p1:Sl):pg.fn (n+1) 53 [p0,p1]=fin 2 (ex (pg.cf n) ug.body [p0,p1,.un,.un,.un]):=cu (p:=2) (k:=3)
noncomputable def uh:Fn:=lO 54
def Ca(n:Nat)(p0 p1 p2:Sl):pg.fn (n+1) 54 [p0,p1,p2]=fin 3 (ex (pg.cf n) uh.body [p0,p1,p2,.un,.un]):=cu (p:=3) (k:=2)
noncomputable def jo:Fn:=⟨4,4,(.cons ABt .nil)⟩
def BP(n:Nat)(p0 p1 p2 p3:Sl):pg.fn (n+1) 55 [p0,p1,p2,p3]=fin 4 (ex (pg.cf n) jo.body [p0,p1,p2,p3]):=cL (g:=jo)
noncomputable def ul:Fn:=⟨1,11,(.cons (.setT [1,2] (.call 45 (.cons (.var 0) AAj))) (.cons (.setT [3,4] (.call 52 (.cons (.var 0) (.cons AAH ABc)))) (.cons (.setT [5,6] (.call 52 (.cons (.var 0) (.cons AAP ABc)))) (.cons (.set 7 (.lis (.cons (.bi .list (.var 3)) (.cons (.bi .list (.var 5)) .nil)))) (.cons (.set 8 (.call 55 (.cons (.var 1) (.cons (.var 2) (.cons (.idx (.var 7) AAH) (.cons (.idx (.var 7) AAG) .nil)))))) (.cons (.set 9 (.call 53 (.cons (.var 3) ABH))) (.cons (.ite (.or (.cons (.cmp .ne (.var 7) (.lis (.cons (.var 3) ABH))) (.cons (.cmp .ne (.var 8) (.idx (.lis (.cons AAs (.cons (.var 9) .nil))) (.bi .int (.call 54 (.cons (.var 1) (.cons (.var 2) (.cons (.op .add (.var 3) (.var 9)) .nil))))))) .nil))) AAQ .nil) (.cons (.ite (.or (.cons (.not (.call 46 ABT)) (.cons (.cmp .notN (.call 29 AAR) AAs) .nil))) ACJ .nil) (.cons (.set 10 (.call 55 (.cons (.var 1) (.cons (.var 2) (.cons (.var 5) AAS))))) (.cons (.ite (.or (.cons (.cmp .jJ (.var 8) AAs) (.cons (.cmp .jJ (.var 10) AAs) .nil))) AAQ .nil) (.cons (.ret (.cmp .eq (.call 20 (.cons (.var 1) (.cons (.var 2) (.cons (.op .add (.var 3) (.var 8)) .nil)))) (.call 20 (.cons (.var 1) (.cons (.var 2) (.cons (.op .add (.var 5) (.var 10)) .nil)))))) .nil)))))))))))⟩
def abN(n:Nat)(p0:Sl):pg.fn (n+1) 56 [p0]=fin 1 (ex (pg.cf n) ul.body [p0,.un,.un,.un,.un,.un,.un,.un,.un,.un,.un]):=cL (g:=ul)
end Tx
end
end
section
open PySem Mini
namespace Tx
abbrev sc(ns:List Int):D:=.lst (ns.map .int)
def PB(ns:List Int)(i:Int)(h0:0<=i)(h:i<ns.length):∃r:Int,at? (ns.map D.int) i=some (.int r):=by
 unfold at? ix?
 rw[QAq,if_neg (by omega:¬i<0)]
 rw[if_pos ⟨h0,h⟩]
 have:i.toNat<ns.length:=by omega
 exact⟨ns[i.toNat],by simp[this]⟩
def Mt(ns:List Int):lu (ns.map D.int)=true:=by
 induction ns with
 |nil=>rfl
 |cons i r ih=>simp[lu,nd,ih]
def Js(ns:List Int):jl (ns.map D.int)=0:=by
 induction ns with
 |nil=>rfl
 |cons i r ih=>simp[jl,dep,ih]
def Oi(ns:List Int):aG .eq (.lst (ns.map .int)) (.lst [])=some ns.isEmpty:=by
 cases ns with
 |nil=>rfl
 |cons i ns=>simp[aG,lQ,flat,nd,lu,dep,jl,cD,jE,Mt,Js]
def DR n ns k(hk:0<=k):∃r:Int,pg.fn (n+1) 33 [.val (sc ns),.val (.int k)]=.ok (.val (.int r)) [.val (sc ns),.val (.int k)]:=by
 by_cases h:k<ns.length
 ·obtain⟨r,e⟩:=PB ns k hk h
  exact⟨r,by rw[iu];simp[dG,h,e]⟩
 ·by_cases hn:ns=[]
  ·subst hn
   have h0:¬k<0:=by omega
   exact⟨0,by rw[iu];simp[dG,h0,aP,fits,Oi []]⟩
  ·have hl':=List.length_pos_iff.mpr hn
   have hl:(0:Int)<ns.length:=by omega
   obtain⟨r,e⟩:=PB ns (k%ns.length) (Int.emod_nonneg _ (by omega)) (Int.emod_lt_of_pos _ hl)
   have he:ns.isEmpty=false:=by simpa using hn
   exact⟨r*31+k,by rw[iu];simp[dG,h,e,aP,fits,Oi,he,hl,hl',small]⟩
@[simp]theorem ah1(n:Nat):(pg.cf n).fn=pg.fn n:=rfl
@[simp]theorem ah0(n:Nat):(pg.cf n).gl=pg.gl:=rfl
@[simp]theorem ac3(n:Nat):(pg.cf n).turns=1000:=rfl
def rR n ns k many(hk:0<=k)(hm:0<many):∃r:Int,0<=r/\r<many/\
  pg.fn (n+2) 34 [.val (sc ns),.val (.int k),.val (.int many)]=.ok (.val (.int r)) [.val (sc ns),.val (.int k),.val (.int many)]:=by
 obtain⟨c,e⟩:=DR n ns k hk
 have b:∀x:Int,small (x%2147483647)=true:=fun x=>by
  simp[small]
  omega
 have s1:small 7919=true:=by decide
 have s2:small 48271=true:=by decide
 refine⟨_,?_,?_,by rw[zc];simp[j9,e,s1,s2,s3,b,hm];rfl⟩
 ·exact Int.emod_nonneg _ (by omega)
 ·exact Int.emod_lt_of_pos _ hm
def Qt{k:Int}(h:0<=k):0<=k+1:=Int.le_trans h (Int.le_add_one (Int.le_refl k))
def bD n ns k many(hk:0<=k)(hm:0<many):∃r:Int,0<=r/\r<many/\
  pg.fn (n+3) 35 [.val (sc ns),.bor (.lst [.int k]),.val (.int many)]=.ok (.val (.int r)) [.val (sc ns),.bor (.lst [.int (k+1)]),.val (.int many)]:=by
 obtain⟨r,h1,h2,e⟩:=rR n ns _ many (Qt hk) hm
 refine⟨r,h1,h2,?_⟩
 rw[BX]
 simp[mF,at?,ix?,wY,e]
end Tx
end
section
open PySem Mini
namespace Tx
def qX:E:=AAo
def yP:S:=AAr
abbrev someσ(ns:List Int)(k:Int)(xs:List D)(least most:Int)(row:List D):Ev:=[.val (sc ns),.bor (.lst [.int k]),.val (.tup xs),.val (.int least),.val (.int most),.own (.lst row)]
def Ks n ns k(hk:0<=k)xs row least most(h0:0<row.length)(hf:row.length<=1000):
  ∃j:Nat,j<row.length/\ex (pg.cf (n+3)) yP (someσ ns k xs least most row)=.next (someσ ns (k+1) xs least most (row.eraseIdx j)):=by
 obtain⟨r,h1,h2,e⟩:=bD n ns k row.length hk (by omega)
 refine⟨r.toNat,by omega,?_⟩
 have f:fits row.length=true:=by simp[fits];omega
 have hx:ix? row.length r=some r.toNat:=by
  unfold ix?
  rw[if_neg (by omega:¬r<0),if_pos ⟨h1,h2⟩]
 have hr:row[r.toNat]? =some _:=QXq (by omega)
 simp[yP,e,dU,rK,f,hx,hr,yt]
theorem Hx(n:Nat)(ns:List Int)(xs:List D)(least most:Int)(hx:xs.length<=1000)(hl:0<=least)(hlm:least<=most):∀(L:Nat)(row:List D)(k:Int)(fuel:Nat),row.length=L->L<fuel->0<=k->row.Sublist xs->least<=row.length->
  ∃ys k',ys.Sublist xs/\least<=ys.length/\ys.length<=most/\0<=k'/\cY (ev (pg.cf (n+3)) qX) (ex (pg.cf (n+3)) yP) fuel (someσ ns k xs least most row)=.next (someσ ns k' xs least most ys):=by
 intro L
 induction L with
 |zero=>
  intro row k fuel hL hf hk hs hr
  obtain⟨fuel,rfl⟩:∃f,fuel=f+1:=⟨fuel-1,by omega⟩
  have:¬least<row.length:=by omega
  exact⟨row,k,hs,hr,by omega,hk,by simp[cY,qX,this]⟩
 |succ L ih=>
  intro row k fuel hL hf hk hs hr
  obtain⟨fuel,rfl⟩:∃f,fuel=f+1:=⟨fuel-1,by omega⟩
  have hrl:=hs.length_le
  by_cases h1:least<row.length
  ·--the row is longer than the least
   have cont:∀k1:Int,0<=k1->∃ys k',ys.Sublist xs/\least<=ys.length/\ys.length<=most/\0<=k'/\
     (ex _ yP _).turn _=.next (someσ ns k' xs least most ys):=fun k1 hk1=>by
    obtain⟨j,hj,e⟩:=Ks n ns k1 hk1 xs row least most (by omega) (by omega)
    have el:(row.eraseIdx j).length=L:=by rw[List.length_eraseIdx_of_lt hj];omega
    obtain⟨ys,k',a1,a2,a3,a4,a5⟩:=ih _ (k1+1) fuel el (by omega) (by omega) ((List.eraseIdx_sublist row j).trans hs) (by omega)
    exact⟨ys,k',a1,a2,a3,a4,by rw[e];exact a5⟩
   by_cases h2:most<row.length
   ·obtain⟨ys,k',a1,a2,a3,a4,a5⟩:=cont k hk
    refine⟨ys,k',a1,a2,a3,a4,?_⟩
    rw[<-a5]
    simp[cY,qX,h1,h2]
   ·obtain⟨r,b1,b2,e⟩:=bD n ns k 2 hk (by omega)
    by_cases h3:r=1
    ·subst h3
     obtain⟨ys,k',a1,a2,a3,a4,a5⟩:=cont (k+1) (by omega)
     refine⟨ys,k',a1,a2,a3,a4,?_⟩
     rw[<-a5]
     simp[cY,qX,h1,h2,e]
    ·exact⟨row,k+1,hs,by omega,by omega,by omega,by simp[cY,qX,h1,h2,e,h3]⟩
  ·exact⟨row,k,hs,by omega,by omega,hk,by simp[cY,qX,h1]⟩
def Es n ns k(hk:0<=k)xs least most(hx:xs.length<=900)(hl:0<=least)(hlm:least<=most)(hxl:least<=xs.length):
  ∃ys k',ys.Sublist xs/\least<=ys.length/\ys.length<=most/\0<=k'/\
   pg.fn (n+4) 36 [.val (sc ns),.bor (.lst [.int k]),.val (.tup xs),.val (.int least),.val (.int most)]=.ok (.val (.tup ys)) [.val (sc ns),.bor (.lst [.int k']),.val (.tup xs),.val (.int least),.val (.int most)]:=by
 obtain⟨ys,k',a1,a2,a3,a4,a5⟩:=Hx n ns xs least most (by omega) hl hlm xs.length xs k 1000 rfl (by omega) hk (List.Sublist.refl _) hxl
 refine⟨ys,k',a1,a2,a3,a4,?_⟩
 rw[BV]
 have hb:mD.body=.cons _ (.cons (.while_ qX yP) _):=rfl
 rw[hb]
 simp[a5]
end Tx
end
section
open PySem Mini
namespace Tx
def uz(s:Sl):Prop:=s=.un\/∃d,s=.val d
def jU(h:uz s)d(r:Ev):aX (.name 0) d (s::r)=some (.val d::r):=by
 rcases h with rfl|⟨e,rfl⟩<;>simp[aX]
def pL:E:=ABh
def ye n ns k(hk:0<=k)d(rest:Ev):∃b:Bool,ev (pg.cf (n+3)) pL (.val d:: .val (sc ns):: .bor (.lst [.int k])::rest)=.ok (.val (.bl b)) (.val d:: .val (sc ns):: .bor (.lst [.int (k+1)])::rest):=by
 obtain⟨r,h1,h2,e⟩:=bD n ns k 2 hk (by omega)
 exact⟨r==1,by simp[pL,e]⟩
theorem O5(n:Nat)(ns:List Int)(rest:Ev):∀(xs acc:List D)(k:Int)(s:Sl),0<=k->uz s->∃bs k' s',bs.length=xs.length/\0<=k'/\uz s'/\
  aV (.name 0) (ev (pg.cf (n+3)) pL) (ev (pg.cf (n+3)) (.var 0)) xs acc (s:: .val (sc ns):: .bor (.lst [.int k])::rest)=.ok (acc++m7 bs xs) (s':: .val (sc ns):: .bor (.lst [.int k'])::rest)
 |[]=>fun acc k s hk hs=>⟨[],k,s,rfl,hk,hs,by simp[aV,m7]⟩
 |x::xs=>fun acc k s hk hs=>by
  obtain⟨b,e⟩:=ye n ns k hk x rest
  cases b with
  |true=>
   obtain⟨bs,k',s',a1,a2,a3,a4⟩:=O5 n ns rest xs _ (k+1) _ (by omega) (.inr ⟨x,rfl⟩)
   refine⟨true::bs,k',s',by simp[a1],a2,a3,?_⟩
   rw[aV,jU hs]
   simp only[e,dF,if_true]
   have e0:ev (pg.cf (n+3)) (.var 0) (.val x:: .val (sc ns):: .bor (.lst [.int (k+1)])::rest)=.ok (.val x) (.val x:: .val (sc ns):: .bor (.lst [.int (k+1)])::rest):=by simp
   rw[e0,bU,a4]
   simp[m7]
  |false=>
   obtain⟨bs,k',s',a1,a2,a3,a4⟩:=O5 n ns rest xs acc (k+1) _ (by omega) (.inr ⟨x,rfl⟩)
   refine⟨false::bs,k',s',by simp[a1],a2,a3,?_⟩
   rw[aV,jU hs]
   simp only[e,dF,Qxq,if_false]
   rw[a4]
   simp[m7]
def Ue(b:Bool):E:=(.comp 1 (.name 0) (.var 4) AAL (.op .add (.var 0) (.tup (.cons (.con (.bl b)) .nil))))
def wQ:S:=(.cons (.set 4 (.op .add (Ue false) (Ue true))) .nil)
theorem Qa(c:Cf)(b:Bool)(rest:Ev):∀(rs:List (List Bool))(acc:List D)(s:Sl),uz s->(∀r∈rs,r.length<=1000)->∃s',uz s'/\
  aV (.name 0) (ev c AAL) (ev c (.op .add (.var 0) (.tup (.cons (.con (.bl b)) .nil)))) (rs.map aK) acc (s::rest)=.ok (acc++(rs.map (· ++[b])).map aK) (s'::rest)
 |[]=>fun acc s hs _=>⟨s,hs,by simp[aV]⟩
 |r::rs=>fun acc s hs hl=>by
  obtain⟨s',a1,a2⟩:=Qa c b rest rs _ _ (.inr ⟨_,rfl⟩) fun q hq=>hl q (QYq _ hq)
  have h1:=hl r QYz
  refine⟨s',a1,?_⟩
  rw[Qyz,aV,jU hs]
  have e0:ev c (.op .add (.var 0) (.tup (.cons (.con (.bl b)) .nil))) (.val (aK r)::rest)=.ok (.val (aK (r++[b]))) (.val (aK r)::rest):=by
   have f:fits (r.length+1)=true:=by simp[fits];omega
   simp[aP,aK,f]
  have e1:ev c AAL (.val (aK r)::rest)=.ok (.val (.bl true)) (.val (aK r)::rest):=by simp
  simp only[e1,dF,if_true]
  rw[e0,bU,a2]
  simp
def Qc c b(rs:List (List Bool))(hl:∀r∈rs,r.length<=1000)(hs:s=.own (.lst (rs.map aK))\/s=.val (.lst (rs.map aK)))s0 s1 s2 s3 s5:ev c (Ue b) [s0,s1,s2,s3,s,s5]=.ok (.new (.lst ((rs.map (· ++[b])).map aK))) [s0,s1,s2,s3,.val (.lst (rs.map aK)),s5]:=by
 obtain⟨s',_,a⟩:=Qa c b [s0,s1,s2,s3,.val _,s5] rs [] .un (.inl rfl) hl
 have h:ev c (.var 4) [s0,s1,s2,s3,s,s5]=.ok (.val (.lst (rs.map aK))) [s0,s1,s2,s3,.val (.lst (rs.map aK)),s5]:=by
  rcases hs with rfl|rfl<;>simp
 unfold Ue
 rw[qJ,h,bU]
 simp only[items]
 rw[show List.replicate 1 Sl.un++[s0,s1,s2,s3,.val _,s5]=Sl.un::[s0,s1,s2,s3,.val _,s5]from rfl,a]
 simp
def HH c(rs:List (List Bool))(hl:∀r∈rs,r.length<=1000)(hn:rs.length<=1000)(hs:s=.own (.lst (rs.map aK)))s0 s1 s2 s3 s5:
  ex c wQ [s0,s1,s2,s3,s,s5]=.next [s0,s1,s2,s3,.own (.lst ((rs.map (· ++[false])++rs.map (· ++[true])).map aK)),s5]:=by
 have f:fits (rs.length+rs.length)=true:=by simp[fits];omega
 unfold wQ
 simp only[x_0,x_1,x_5,v_5]
 rw[Qc c false rs hl (.inl hs),lJ]
 rw[Qc c true rs hl (.inr rfl),lJ]
 simp[f]
theorem uZ(c:Cf)(s0 s1 s2 s3:Sl):∀(ys:List D)(k:Nat)(s5:Sl),uz s5->k+ys.length<=9->∃s5',uz s5'/\aL (.name 5) (ex c wQ) ys [s0,s1,s2,s3,.own (.lst ((dO k).map aK)),s5]=.next [s0,s1,s2,s3,.own (.lst ((dO (k+ys.length)).map aK)),s5']
 |[]=>fun k s5 h5 _=>⟨s5,h5,by simp[aL]⟩
 |y::ys=>fun k s5 h5 hk=>by
  simp only[QBq]at hk
  obtain⟨s5',a1,a2⟩:=uZ c s0 s1 s2 s3 ys (k+1) _ (.inr ⟨y,rfl⟩) (by omega)
  refine⟨s5',a1,?_⟩
  have st:aX (.name 5) y [s0,s1,s2,s3,.own (.lst ((dO k).map aK)),s5]=some [s0,s1,s2,s3,.own (.lst ((dO k).map aK)),.val y]:=by
   rcases h5 with rfl|⟨e,rfl⟩<;>simp[aX]
  have lens:∀k,∀r∈dO k,r.length=k:=by
   intro k
   induction k with
   |zero=>intro r hr;simp[dO]at hr;subst hr;rfl
   |succ k ih=>
    intro r hr
    simp only[dO,QXz,QDq]at hr
    rcases hr with ⟨q,hq,rfl⟩|⟨q,hq,rfl⟩<;>simp[ih q hq]
  have hn:(dO k).length<=1000:=by
   rw[oH]
   have:2 ^k<=2 ^9:=Nat.pow_le_pow_right (by omega) (by omega)
   omega
  rw[aL,st]
  simp only
  rw[HH c _ (fun r hr=>by rw[lens k r hr];omega) hn rfl,iI]
  rw[show(dO k).map _++(dO k).map _=dO (k+1)from rfl,a2]
  rw[show k+1+ys.length=k+(y::ys).length by simp;omega]
def qD:E:=.comp 1 (.name 0) (.var 4) pL (.var 0)
def Dz n ns k(hk:0<=k)zs s2 s3 s5:∃bs k',bs.length=zs.length/\0<=k'/\
  ev (pg.cf (n+3)) qD [.val (sc ns),.bor (.lst [.int k]),s2,s3,.own (.lst zs),s5]=.ok (.new (.lst (m7 bs zs))) [.val (sc ns),.bor (.lst [.int k']),s2,s3,.val (.lst zs),s5]:=by
 obtain⟨bs,k',s',c1,c2,c3,c4⟩:=O5 n ns [s2,s3,.val _,s5] zs [] k .un hk (.inl rfl)
 refine⟨bs,k',c1,c2,?_⟩
 have h:ev (pg.cf (n+3)) (.var 4) [.val (sc ns),.bor (.lst [.int k]),s2,s3,.own (.lst zs),s5]=.ok (.val (.lst zs)) [.val (sc ns),.bor (.lst [.int k]),s2,s3,.val (.lst zs),s5]:=by simp
 unfold qD
 rw[qJ,h,bU]
 simp only[items]
 rw[show List.replicate 1 Sl.un++[.val _,.bor _,s2,s3,.val _,s5]=Sl.un:: .val _:: .bor _::[s2,s3,.val _,s5]from rfl,c4]
 simp
def Kc n ns k(hk:0<=k)xs(hx:xs.length<=900)(h1:1<=xs.length):
  ∃ys rs k',ys.Sublist xs/\1<=ys.length/\ys.length<=3/\(∀r∈rs,r.length=ys.length)/\zV rs=true/\0<=k'/\
   pg.fn (n+5) 37 [.val (sc ns),.bor (.lst [.int k]),.val (.tup xs)]=.ok (.val (.tup [.str "table",.tup ys,.tup (rs.map aK)])) [.val (sc ns),.bor (.lst [.int k']),.val (.tup xs)]:=by
 obtain⟨ys,k1,a1,a2,a3,a4,a5⟩:=Es n ns k hk xs 1 3 hx (by omega) (by omega) (by omega)
 obtain⟨s5,b1,b2⟩:=uZ (pg.cf (n+4)) (.val (sc ns)) (.bor (.lst [.int k1])) (.val (.tup xs)) (.val (.tup ys)) ys 0 .un (.inl rfl) (by omega)
 obtain⟨bs,k2,c1,c2,c4⟩:=Dz (n+1) ns k1 a4 ((dO ys.length).map aK) (.val (.tup xs)) (.val (.tup ys)) s5
 rw[QAq,oH]at c1
 obtain⟨rs,d1,d2,d3⟩:=Hw ys.length (by omega) (by omega) bs c1
 refine⟨ys,rs,k2,a1,by omega,by omega,d2,d3,c2,?_⟩
 rw[yZ]
 have hb:j8=⟨3,6,.cons _ (.cons _ (.cons (.for_ _ _ wQ)
  (.cons (.ret (.tup (.cons _ (.cons _ (.cons (.bi .tuple (.bi .sorted qD)) .nil))))) .nil)))⟩:=rfl
 rw[hb]
 have e1:([D.tup []])=(dO 0).map aK:=rfl
 have e2:(dO 0).length=1:=rfl
 have q:qD.au=none:=rfl
 simp[a5,aP,items,e1,e2,b2,c4,d1,q]
end Tx
end
section
open PySem Mini
namespace Tx
inductive bR(xs:List D):Nat->D->Prop
 |same {n:Nat} {x:D}:x∈xs->bR xs n (.tup [.str "same",x])
 |not {n:Nat} {x:D}:x∈xs->bR xs n (.tup [.str "not",x])
 |and {n:Nat} {ys:List D}:ys.Sublist xs->2<=ys.length->ys.length<=3->bR xs n (.tup [.str "and",.tup ys])
 |or {n:Nat} {ys:List D}:ys.Sublist xs->2<=ys.length->ys.length<=3->bR xs n (.tup [.str "or",.tup ys])
 |both {n:Nat} {ys:List D}:ys.Sublist xs->2<=ys.length->ys.length<=3->bR xs n (.tup [.str "both",.tup ys])
 |table {n:Nat} {ys:List D} {rs:List (List Bool)}:ys.Sublist xs->1<=ys.length->ys.length<=3->(∀r∈rs,r.length=ys.length)->zV rs=true->bR xs n (.tup [.str "table",.tup ys,.tup (rs.map aK)])
 |held {n:Nat} {k x:D} {b:Bool}:bR xs n k->x∈xs->bR xs (n+1) (.tup [.str "held",k,x,.bl b])
def Pz xs r(h1:0<=r)(h2:r<xs.length):∃d,at? xs r=some d/\d∈xs:=by
 unfold at? ix?
 rw[if_neg (Int.not_lt.mpr h1),if_pos ⟨h1,h2⟩]
 have:=(Int.toNat_lt h1).mpr h2
 exact⟨xs[r.toNat],by simp[this],List.getElem_mem this⟩
def Sv(r:Int):r%2=0\/r%2=1:=by omega
def Oc{r:Int}(h1:¬r<4)(h2:r<7):r-4=0\/r-4=1\/r-4=2:=by omega
def eight{r:Int}(h1:¬r<7)(h2:r<9)(h3:¬r=7):r=8:=by omega
def Zr(n:Nat):¬((n:Int)+1=0):=by omega
def vN m ns xs(hx:xs.length<=900)(h1:1<=xs.length)deep
  (rec:∀dp,deep=dp+1->∀k:Int,0<=k->∃d k',bR xs dp d/\0<=k'/\pg.fn (m+5) 38 [.val (sc ns),.bor (.lst [.int k]),.val (.tup xs),.val (.int dp)]=.ok (.val d) [.val (sc ns),.bor (.lst [.int k']),.val (.tup xs),.val (.int dp)])
  k(hk:0<=k):∃d k',bR xs deep d/\0<=k'/\
  pg.fn (m+6) 38 [.val (sc ns),.bor (.lst [.int k]),.val (.tup xs),.val (.int deep)]=.ok (.val d) [.val (sc ns),.bor (.lst [.int k']),.val (.tup xs),.val (.int deep)]:=by
 obtain⟨r,r1,r2,er⟩:=bD (m+2) ns k 9 hk (by decide)
 have hk1:=Qt hk
 by_cases c1:r<4\/xs.length<2
 ·obtain⟨q,q1,q2,eq⟩:=bD (m+2) ns _ xs.length hk1 (Int.ofNat_lt.mpr h1)
  obtain⟨x,ex,mx⟩:=Pz xs q q1 q2
  obtain⟨w,ew,kw⟩:∃w,at? [.str "same",.str "not"] (r%2)=some _/\bR xs deep (.tup [.str w,x]):=by
   rcases Sv r with h|h<;>rw[h]
   ·exact⟨_,rfl,.same mx⟩
   ·exact⟨_,rfl,.not mx⟩
  refine⟨_,k+1+1,kw,Qt hk1,?_⟩
  rw[jb]
  by_cases c4:r<4
  ·simp[cX,er,c4,eq,ex,aP,ew]
  ·have c6:=c1.resolve_left c4
   have c5:(xs.length:Int)<2:=Int.ofNat_lt.mpr c6
   simp[cX,er,c4,c5,c6,eq,ex,aP,ew]
 ·have c2:¬r<4:=fun h=>c1 (.inl h)
  have c3':=fun h=>c1 (.inr h)
  have c3:¬(xs.length:Int)<2:=fun h=>c3' (Int.ofNat_lt.mp h)
  by_cases c7:r<7
  ·obtain⟨ys,k',a1,a2,a3,a4,a5⟩:=Es (m+1) ns _ hk1 xs 2 3 hx (by decide) (by decide) (Int.not_lt.mp c3)
   have a2:=Int.ofNat_le.mp a2
   have a3:=Int.ofNat_le.mp a3
   obtain⟨w,ew,kw⟩:∃w,at? [.str "and",.str "or",.str "both"] (r-4)=some _/\bR xs deep (.tup [.str w,.tup ys]):=by
    rcases Oc c2 c7 with h|h|h<;>rw[h]
    ·exact⟨_,rfl,.and a1 a2 a3⟩
    ·exact⟨_,rfl,.or a1 a2 a3⟩
    ·exact⟨_,rfl,.both a1 a2 a3⟩
   exact⟨_,k',kw,a4,by rw[jb];simp[cX,er,c2,c3,c3',c7,a5,aP,ew]⟩
  ·by_cases c8:r=7\/deep=0
   ·obtain⟨ys,rs,k',a1,a2,a3,a4,a5,a6,a7⟩:=Kc m ns _ hk1 xs hx h1
    refine⟨_,k',.table a1 a2 a3 a4 a5,a6,?_⟩
    rw[jb]
    by_cases c9:r=7
    ·subst c9
     simp[cX,er,c3,c3',a7]
    ·have c10:=c8.resolve_left c9
     subst c10
     simp[cX,er,c2,c3,c3',c7,c9,beq_false_of_ne c9,a7]
   ·obtain⟨dp,rfl⟩:=Nat.exists_eq_succ_of_ne_zero (fun h=>c8 (.inr h))
    have c9:=eight c7 r2 fun h=>c8 (.inl h)
    subst c9
    obtain⟨d,k1,b1,b2,b3⟩:=rec dp rfl _ hk1
    obtain⟨q,q1,q2,eq⟩:=bD (m+2) ns k1 xs.length b2 (Int.ofNat_lt.mpr h1)
    obtain⟨x,ex,mx⟩:=Pz xs q q1 q2
    obtain⟨z,z1,z2,ez⟩:=bD (m+2) ns _ 2 (Qt b2) (by decide)
    refine⟨_,k1+1+1,.held (b:=z==1) b1 mx,Qt (Qt b2),?_⟩
    rw[jb]
    have e1:=Zr dp
    simp[cX,er,c3,c3',beq_false_of_ne e1,e1,(Int.add_sub_cancel _ _),b3,eq,ex,ez,aP]
def agw m deep:m+deep+1+5=m+6+deep:=by omega
def agv m deep:m+6+(deep+1)=m+deep+1+6:=by omega
theorem xx ns xs(hx:xs.length<=900)(h1:1<=xs.length):∀(deep m:Nat)(k:Int),0<=k->∃d k',bR xs deep d/\0<=k'/\
  pg.fn (m+6+deep) 38 [.val (sc ns),.bor (.lst [.int k]),.val (.tup xs),.val (.int deep)]=.ok (.val d) [.val (sc ns),.bor (.lst [.int k']),.val (.tup xs),.val (.int deep)]
 |0=>fun m k hk=>vN m ns xs hx h1 0 (fun dp h=>nomatch h) k hk
 |deep+1=>fun m k hk=>by
  have:=vN _ ns xs hx h1 (deep+1) (fun dp h k hk=>by
   cases h
   rw[agw m deep]
   exact(xx ns xs hx h1 deep m k hk)) k hk
  rw[agv m deep]
  exact this
end Tx
end
section
open PySem Mini
namespace Tx
def Gi:E:=(.tup (.cons (.var 0) (.cons (.call 38 (.cons (.var 1) (.cons (.ref 2) (.cons (.var 7) ABp)))) .nil)))
def M3 n ns k(hk:0<=k)xs(hx:xs.length<=900)(h1:1<=xs.length)x s3 s4 s5 s6 s8:∃d k',bR xs 1 d/\0<=k'/\
  ev (pg.cf (n+7)) Gi [.val x,.val (sc ns),.bor (.lst [.int k]),s3,s4,s5,s6,.val (.tup xs),s8]=.ok (.val (.tup [x,d])) [.val x,.val (sc ns),.bor (.lst [.int k']),s3,s4,s5,s6,.val (.tup xs),s8]:=by
 obtain⟨d,k',a1,a2,a3⟩:=xx ns xs hx h1 1 n k hk
 refine⟨d,k',a1,a2,?_⟩
 simp only[Int.natCast_one,show n+6+1=n+7 from rfl]at a3
 simp[Gi,a3,aP]
theorem zO(n:Nat)(ns:List Int)(xs:List D)(hx:xs.length<=900)(h1:1<=xs.length)(s3 s4 s5 s6 s8:Sl):∀(row acc:List D)(k:Int)(s:Sl),0<=k->uz s->∃ks k' s',ks.length=row.length/\(∀d∈ks,bR xs 1 d)/\0<=k'/\uz s'/\
  aV (.name 0) (ev (pg.cf (n+7)) AAL) (ev (pg.cf (n+7)) Gi) row acc [s,.val (sc ns),.bor (.lst [.int k]),s3,s4,s5,s6,.val (.tup xs),s8]
   =.ok (acc++aR row ks) [s',.val (sc ns),.bor (.lst [.int k']),s3,s4,s5,s6,.val (.tup xs),s8]
 |[]=>fun acc k s hk hs=>⟨[],k,s,rfl,fun d h=>(by cases h),hk,hs,by simp[aV,aR]⟩
 |x::row=>fun acc k s hk hs=>by
  obtain⟨d,k1,a1,a2,a3⟩:=M3 n ns k hk xs hx h1 x s3 s4 s5 s6 s8
  obtain⟨ks,k',s',b1,b2,b3,b4,b5⟩:=zO n ns xs hx h1 s3 s4 s5 s6 s8 row _ k1 _ a2 (.inr ⟨x,rfl⟩)
  refine⟨d::ks,k',s',by simp[b1],fun e h=>?_,b3,b4,?_⟩
  ·rcases QCq.mp h with rfl|h
   ·exact a1
   ·exact b2 e h
  ·rw[aV,jU hs]
   have e1:∀σ,ev (pg.cf (n+7)) AAL σ=.ok (.val (.bl true)) σ:=fun σ=>by simp
   simp only[e1,dF,if_true]
   rw[a3,bU,b5]
   simp[aR]
theorem tu(n:Nat)(ns:List Int)(rest:Ev):∀(xs acc:List D)(k:Int)(s:Sl),0<=k->uz s->∃(bs:List Bool)(k':Int)(s':Sl),bs.length=xs.length/\0<=k'/\uz s'/\
  aV (.name 0) (ev (pg.cf (n+3)) AAL) (ev (pg.cf (n+3)) pL) xs acc (s:: .val (sc ns):: .bor (.lst [.int k])::rest)=.ok (acc++bs.map .bl) (s':: .val (sc ns):: .bor (.lst [.int k'])::rest)
 |[]=>fun acc k s hk hs=>⟨[],k,s,rfl,hk,hs,by simp[aV]⟩
 |x::xs=>fun acc k s hk hs=>by
  obtain⟨b,e⟩:=ye n ns k hk x rest
  obtain⟨bs,k',s',a1,a2,a3,a4⟩:=tu n ns rest xs _ _ _ (Qt hk) (.inr ⟨x,rfl⟩)
  refine⟨b::bs,k',s',by simp[a1],a2,a3,?_⟩
  rw[aV,jU hs]
  have e1:∀σ,ev (pg.cf (n+3)) AAL σ=.ok (.val (.bl true)) σ:=fun σ=>by simp
  simp only[e1,dF,if_true]
  rw[e,bU,a4]
  simp
def Fx:E:=(.comp 1 (.name 0) (.var 5) AAL Gi)
def Gh:E:=(.comp 1 (.name 0) (.var 6) AAL pL)
def xj:S:=(.cons (.set 6 (.op .add (.var 4) (.var 5))) (.cons (.set 7 (.bi .tuple Fx)) (.cons (.ret (.tup (.cons (.var 4) (.cons (.var 7) (.cons (.bi .tuple Gh) .nil))))) .nil)))
def Mp n ns k(hk:0<=k)ν row(hx:ν.length+row.length<=900)(h1:1<=row.length)s2 s3:∃(ks:List D)(ls:List Bool)(k':Int),ks.length=row.length/\(∀d∈ks,bR (ν++row) 1 d)/\ls.length=(ν++row).length/\0<=k'/\
  ex (pg.cf (n+7)) xj [.val (sc ns),.bor (.lst [.int k]),s2,s3,.val (.tup ν),.val (.tup row),.un,.un]
   =.ret (.val (.tup [.tup ν,.tup (aR row ks),.tup (ls.map .bl)])) [.val (sc ns),.bor (.lst [.int k']),s2,s3,.val (.tup ν),.val (.tup row),.val (.tup (ν++row)),.val (.tup (aR row ks))]:=by
 obtain⟨ks,k1,s',a1,a2,a3,a4,a5⟩:=zO n ns (ν++row) (by simpa using hx) (by simp;omega) s2 s3 _ _ .un row [] k .un hk (.inl rfl)
 obtain⟨ls,k',s'',b1,b2,b3,b4⟩:=tu _ ns [s2,s3,.val _,.val _,.val _,.val _] _ [] k1 .un a3 (.inl rfl)
 refine⟨ks,ls,k',a1,a2,b1,b2,?_⟩
 have f:fits (ν.length+row.length)=true:=by simp[fits];omega
 have em:ev (pg.cf (n+7)) Fx [.val (sc ns),.bor (.lst [.int k]),s2,s3,.val (.tup ν),.val (.tup row),.val (.tup (ν++row)),.un]=.ok (.new (.lst (aR row ks))) [.val (sc ns),.bor (.lst [.int k1]),s2,s3,.val (.tup ν),.val (.tup row),.val (.tup (ν++row)),.un]:=by
  have h:ev (pg.cf (n+7)) (.var 5) [.val (sc ns),.bor (.lst [.int k]),s2,s3,.val (.tup ν),.val (.tup row),.val (.tup (ν++row)),.un]=.ok (.val (.tup row)) [.val (sc ns),.bor (.lst [.int k]),s2,s3,.val (.tup ν),.val (.tup row),.val (.tup (ν++row)),.un]:=by simp
  unfold Fx
  rw[qJ,h,bU]
  simp only[items]
  rw[show List.replicate 1 Sl.un++[.val _,.bor _,s2,s3,.val _,.val _,.val _,.un]=[.un,.val _,.bor _,s2,s3,.val _,.val _,.val _,.un]from rfl,a5]
  simp
 have el:ev (pg.cf (n+7)) Gh [.val (sc ns),.bor (.lst [.int k1]),s2,s3,.val (.tup ν),.val (.tup row),.val (.tup (ν++row)),.val (.tup (aR row ks))]=.ok (.new (.lst (ls.map .bl))) [.val (sc ns),.bor (.lst [.int k']),s2,s3,.val (.tup ν),.val (.tup row),.val (.tup (ν++row)),.val (.tup (aR row ks))]:=by
  have h:ev (pg.cf (n+7)) (.var 6) [.val (sc ns),.bor (.lst [.int k1]),s2,s3,.val (.tup ν),.val (.tup row),.val (.tup (ν++row)),.val (.tup (aR row ks))]=.ok (.val (.tup (ν++row))) [.val (sc ns),.bor (.lst [.int k1]),s2,s3,.val (.tup ν),.val (.tup row),.val (.tup (ν++row)),.val (.tup (aR row ks))]:=by simp
  unfold Gh
  rw[qJ,h,bU]
  simp only[items]
  rw[show List.replicate 1 Sl.un++[.val _,.bor _,s2,s3,.val _,.val _,.val _,.val _]=.un:: .val _:: .bor _::[s2,s3,.val _,.val _,.val _,.val _]from rfl,b4]
  simp
 have q1:Fx.au=none:=rfl
 have q2:Gh.au=none:=rfl
 simp[xj,f,em,el,q1,q2,aP]
def hd(h:Nat):List D:=([.str "a",.str "b",.str "come"]:List D).take h
def cP(g:Nat):List D:=([.str "p",.str "q",.str "rr",.str "go",.str "abcdef"]:List D).take g
def iz(h2:h<=2):(hd h).length=h:=List.length_take_of_le (Nat.le_succ_of_le h2)
def dJ(g4:g<=5):(cP g).length=g:=List.length_take_of_le g4
def aH(h g:Nat)(ks:List D)(ls:List Bool):D:=.tup [.tup (hd h),.tup (aR (cP g) ks),.tup (ls.map .bl)]
structure bY(h g:Nat)(ks:List D)(ls:List Bool):Prop where
 h2:h<=2
 g1:1<=g
 g5:g<=5
 kl:ks.length=g
 kk:∀d∈ks,bR (hd h++cP g) 1 d
 ll:ls.length=h+g
def Yn{h:Nat}(i2:ni<=2)(r2:(h:Int)<ni+1):h<=2:=by omega
def Mq n ns k(hk:0<=k)ni(i0:0<=ni)(i2:ni<=2):∃h g ks ls k',bY h g ks ls/\0<=k'/\
  pg.fn (n+8) 39 [.val (sc ns),.bor (.lst [.int k]),.val (.int ni),.val (.int 4)]=.ok (.val (aH h g ks ls)) [.val (sc ns),.bor (.lst [.int k']),.val (.int ni),.val (.int 4)]:=by
 obtain⟨r,r1,r2,er⟩:=bD (n+4) ns k _ hk (Int.lt_add_one_of_le i0)
 obtain⟨q,q1,q2,eq⟩:=bD (n+4) ns _ 4 (Qt hk) (by decide)
 obtain⟨h,rfl⟩:=Int.eq_ofNat_of_zero_le r1
 obtain⟨g,rfl⟩:=Int.eq_ofNat_of_zero_le q1
 have h2:=Yn i2 r2
 have g3:=Int.ofNat_lt.mp q2
 have g1:=Nat.le_add_right 1 g
 have g5:=Nat.add_le_add_left (Nat.le_of_lt g3) 1
 have lh:=iz h2
 have lg:=dJ g5
 obtain⟨ks,ls,k',a1,a2,a3,a4,a5⟩:=Mp n ns _ (Qt (Qt hk)) (hd h) (cP _) (by rw[lh,lg];exact Nat.le_trans (Nat.add_le_add h2 g5) (by decide)) (by rw[lg];exact g1) (.val (.int ni)) (.val (.int 4))
 refine⟨h,1+g,ks,ls,k',⟨h2,g1,g5,a1.trans lg,a2,by rw[a3,QTq,lh,lg]⟩,a4,?_⟩
 rw[HN]
 have hb:wA=⟨4,8,(.cons (.set 4 (.slc (.tup (.cons AAq (.cons ABV (.cons (.con (.str "come")) .nil)))) .noneE (.call 35 (.cons (.var 0) (.cons (.ref 1) ACU))))) (.cons (.set 5 (.slc (.tup AAa) .noneE ABb)) xj))⟩:=by kernel_rfl
 rw[hb]
 have c1:ik (.tup [.str "a",.str "b",.str "come"]) none (some h)=some (.val (.tup (hd h))):=by
  rcases h with _|_|_|h
  ·rfl
  ·rfl
  ·rfl
  ·exact absurd h2 (by simp)
 have c2:ik (.tup [.str "p",.str "q",.str "rr",.str "go",.str "abcdef"]) none (some (1+g))=some (.val (.tup (cP (1+g)))):=by
  rcases g with _|_|_|_|g
  ·rfl
  ·rfl
  ·rfl
  ·rfl
  ·exact absurd g3 (by simp)
 simp[er,eq,aP,cV,E.jJ,c1,c2,a5,aH]
end Tx
end
section
open PySem Mini
namespace Tx
def aY n xs a b(h1:a<=xs.length)(h2:xs.length<=b):pg.fn (n+1) 3 [.val (.tup xs),.val (.int a),.val (.int b)]=.ok (.val (.bl true)) [.val (.tup xs),.val (.int a),.val (.int b)]:=by
 rw[Ce]
 simp[mG,h1,h2]
def V7:E:=.bi .all (.comp 1 (.name 0) (.var 0) AAL (.isi (.var 0) .bool))
def vR n bs m(h:m=bs.length):pg.fn (n+2) 7 [.val (aK bs),.val (.int m)]=.ok (.val (.bl true)) [.val (aK bs),.val (.int m)]:=by
 subst h
 have e:ev (pg.cf (n+1)) V7 [.val (aK bs),.val (.int bs.length)]=.ok (.val (.bl true)) [.val (aK bs),.val (.int bs.length)]:=by
  refine all1 (r:=.val (aK bs)) (by simp) rfl rfl fun x hx=>?_
  obtain⟨b,_,rfl⟩:=QDq.mp hx
  simp
 have t:pg.fn _ 3 [.val (aK bs),.val _,.val _]=.ok _ [.val _,.val _,.val _]:=aY n _ bs.length bs.length (by simp) (by simp)
 rw[K5]
 have hb:Am=⟨2,2,(.cons (.ret (.and (.cons (.call 3 (.cons (.var 0) (.cons (.var 1) AAZ))) (.cons V7 .nil)))) .nil)⟩:=by kernel_rfl
 rw[hb]
 simp[t,e]
def b7(xs:List D):Prop:=∀x∈xs,∃s,x=.str s
def lF(h:b7 xs):xs.all flat=true:=by
 rw[List.all_eq_true]
 intro x hx
 obtain⟨s,rfl⟩:=h x hx
 rfl
def jj{x:D}(hx:x∈xs)(h:b7 xs):aJ x xs=true:=by
 induction xs with
 |nil=>cases hx
 |cons y ys ih=>
  unfold aJ
  rcases QCq.mp hx with rfl|hx
  ·obtain⟨s,rfl⟩:=h x QYz
   simp[cD]
  ·simp[ih hx fun z hz=>h z (QYq _ hz)]
def Dw(h:b7 xs)(nd:xs.Nodup)(hx:x∈xs):fH x xs=1:=by
 induction xs with
 |nil=>cases hx
 |cons y ys ih=>
  have hys:=fun z hz=>h z (QYq _ hz)
  obtain⟨s,rfl⟩:=h y QYz
  rw[List.nodup_cons]at nd
  have zero:∀{zs:List D},b7 zs->D.str s∉zs->fH (.str s) zs=0:=by
   intro zs
   induction zs with
   |nil=>intro _ _;rfl
   |cons z zs ihz=>
    intro hz hn
    obtain⟨q,rfl⟩:=hz z QYz
    have ne:q≠s:=fun e=>hn (by rw[e];exact QYz)
    simp[fH,cD,ne,ihz (fun w hw=>hz w (QYq _ hw)) fun hw=>hn (QYq _ hw)]
  rcases QCq.mp hx with rfl|hx
  ·simp[fH,cD,zero hys nd.1]
  ·obtain⟨q,rfl⟩:=hys x hx
   have ne:s≠q:=fun e=>nd.1 (by rw[e];exact hx)
   simp[fH,cD,ne,ih hys nd.2 hx]
def jg n{d:D}(dd:d=.tup xs\/d=.lst xs)(h:b7 xs)(hx:x∈xs):pg.fn (n+1) 8 [.val x,.val d]=.ok (.val (.bl true)) [.val x,.val d]:=by
 obtain⟨s,rfl⟩:=h x hx
 rw[kW]
 have o:fG (.str s) xs=true:=by
  unfold fG
  rw[lF h]
  rfl
 have e:aG .isin (.str s) d=some true:=by
  rcases dd with rfl|rfl<;>(show(if fG _ xs then some _ else none)=_;rw[o,jj hx h];rfl)
 simp[gq,e]
def wI:E:=.bi .all (.comp 1 (.name 0) (.var 0) AAL (.cmp .eq (.count (.var 1) (.var 0)) AAG))
def lX n{d:D}(hd:d=.tup xs\/d=.lst xs)(h:b7 xs)(nd:xs.Nodup):pg.fn (n+1) 6 [.val d]=.ok (.val (.bl true)) [.val d]:=by
 have e:ev (pg.cf n) wI [.val d]=.ok (.val (.bl true)) [.val d]:=by
  refine all1 (r:=.val d) (by simp) rfl (by rcases hd with rfl|rfl<;>rfl) fun x hx=>?_
  obtain⟨s,rfl⟩:=h x hx
  have e1:Ag (.tup xs) (.str s)=some (.val (.int 1)):=by
   simp only[Ag]
   rw[lF h,Dw h nd hx]
   rfl
  have e2:Ag (.lst xs) _=some _:=e1
  rcases hd with rfl|rfl<;>simp[e1,e2]
 have hb:nU=⟨1,1,(.cons (.ret wI) .nil)⟩:=by kernel_rfl
 rw[wX,hb]
 have q:wI.au=none:=rfl
 simp[e,q]
def o7:D->D
 |.tup (a::_)=>a
 |_=>.non
theorem wH:∀(gs ks:List D),ks.length=gs.length->(aR gs ks).map o7=gs
 |[],ks=>fun _=>by simp[aR]
 |g::gs,[]=>fun h=>by simp at h
 |g::gs,k::ks=>fun h=>by simp[aR,o7,wH gs ks (by simpa using h)]
def z8(it:E):E:=.comp 1 (.name 0) it AAL AAc
def sX{σ:Ev}gs ks(hl:ks.length=gs.length)(hi:ev c it σ=.ok (.val (.tup (aR gs ks))) σ):ev c (z8 it) σ=.ok (.new (.lst gs)) σ:=by
 have:=tR (el:=.idx (.var 0) AAH) o7 hi rfl rfl fun y hy=>by
  rw[cQ]at hy
  obtain⟨p,_,rfl⟩:=QDq.mp hy
  simp[pairD,o7]
 rw[wH gs ks hl]at this
 exact this
def fL n hs gs ks x(hl:ks.length=gs.length)(hf:hs.length+gs.length<=1000):
  pg.fn (n+1) 13 [.val (.tup [.tup hs,.tup (aR gs ks),x])]=.ok (.new (.lst (hs++gs))) [.val (.tup [.tup hs,.tup (aR gs ks),x])]:=by
 have f:fits (hs.length+gs.length)=true:=by simp[fits];omega
 have hb:nR=⟨1,1,.cons (.ret (.op .add (.bi .list AAc) (z8 AAb))) .nil⟩:=by kernel_rfl
 rw[mQ,hb]
 simp[sX (c:=pg.cf n) (it:=.idx (.var 0) AAG) (σ:=[.val (.tup [.tup hs,.tup (aR gs ks),x])]) gs ks hl (by simp),f]
end Tx
end
section
open PySem Mini
namespace Tx
@[simp↓]theorem Up:decide (Str.ofString "same"=Str.ofString "same")=true:=rfl
@[simp↓]theorem Z3:decide (Str.ofString "not"=Str.ofString "not")=true:=rfl
@[simp↓]theorem Z8:decide (Str.ofString "and"=Str.ofString "and")=true:=rfl
@[simp↓]theorem adD:decide (Str.ofString "or"=Str.ofString "or")=true:=rfl
@[simp↓]theorem Uy:decide (Str.ofString "both"=Str.ofString "both")=true:=rfl
@[simp↓]theorem Qs:decide (Str.ofString "table"=Str.ofString "table")=true:=rfl
@[simp↓]theorem Uu:decide (Str.ofString "held"=Str.ofString "held")=true:=rfl
@[simp]theorem Wd:decide (Str.ofString "same"=Str.ofString "not")=false:=rfl
@[simp]theorem We:decide (Str.ofString "same"=Str.ofString "and")=false:=rfl
@[simp]theorem ZZ:decide (Str.ofString "same"=Str.ofString "or")=false:=rfl
@[simp]theorem Ur:decide (Str.ofString "same"=Str.ofString "both")=false:=rfl
@[simp]theorem QD:decide (Str.ofString "same"=Str.ofString "table")=false:=rfl
@[simp]theorem Uq:decide (Str.ofString "same"=Str.ofString "held")=false:=rfl
@[simp]theorem Wg:decide (Str.ofString "not"=Str.ofString "same")=false:=rfl
@[simp]theorem Z4:decide (Str.ofString "not"=Str.ofString "and")=false:=rfl
@[simp]theorem aaX:decide (Str.ofString "not"=Str.ofString "or")=false:=rfl
@[simp]theorem Wj:decide (Str.ofString "not"=Str.ofString "both")=false:=rfl
@[simp]theorem Us:decide (Str.ofString "not"=Str.ofString "table")=false:=rfl
@[simp]theorem Wh:decide (Str.ofString "not"=Str.ofString "held")=false:=rfl
@[simp]theorem Wq:decide (Str.ofString "and"=Str.ofString "same")=false:=rfl
@[simp]theorem Z7:decide (Str.ofString "and"=Str.ofString "not")=false:=rfl
@[simp]theorem aaY:decide (Str.ofString "and"=Str.ofString "or")=false:=rfl
@[simp]theorem Ws:decide (Str.ofString "and"=Str.ofString "both")=false:=rfl
@[simp]theorem Uz:decide (Str.ofString "and"=Str.ofString "table")=false:=rfl
@[simp]theorem Wr:decide (Str.ofString "and"=Str.ofString "held")=false:=rfl
@[simp]theorem Z0:decide (Str.ofString "or"=Str.ofString "same")=false:=rfl
@[simp]theorem aaV:decide (Str.ofString "or"=Str.ofString "not")=false:=rfl
@[simp]theorem aaW:decide (Str.ofString "or"=Str.ofString "and")=false:=rfl
@[simp]theorem Z2:decide (Str.ofString "or"=Str.ofString "both")=false:=rfl
@[simp]theorem Wf:decide (Str.ofString "or"=Str.ofString "table")=false:=rfl
@[simp]theorem Z1:decide (Str.ofString "or"=Str.ofString "held")=false:=rfl
@[simp]theorem Uw:decide (Str.ofString "both"=Str.ofString "same")=false:=rfl
@[simp]theorem Wn:decide (Str.ofString "both"=Str.ofString "not")=false:=rfl
@[simp]theorem Wo:decide (Str.ofString "both"=Str.ofString "and")=false:=rfl
@[simp]theorem Z6:decide (Str.ofString "both"=Str.ofString "or")=false:=rfl
@[simp]theorem QG:decide (Str.ofString "both"=Str.ofString "table")=false:=rfl
@[simp]theorem Ux:decide (Str.ofString "both"=Str.ofString "held")=false:=rfl
@[simp]theorem Qz:decide (Str.ofString "table"=Str.ofString "same")=false:=rfl
@[simp]theorem Um:decide (Str.ofString "table"=Str.ofString "not")=false:=rfl
@[simp]theorem Uo:decide (Str.ofString "table"=Str.ofString "and")=false:=rfl
@[simp]theorem Wc:decide (Str.ofString "table"=Str.ofString "or")=false:=rfl
@[simp]theorem QC:decide (Str.ofString "table"=Str.ofString "both")=false:=rfl
@[simp]theorem QB:decide (Str.ofString "table"=Str.ofString "held")=false:=rfl
@[simp]theorem Ut:decide (Str.ofString "held"=Str.ofString "same")=false:=rfl
@[simp]theorem Wl:decide (Str.ofString "held"=Str.ofString "not")=false:=rfl
@[simp]theorem Wm:decide (Str.ofString "held"=Str.ofString "and")=false:=rfl
@[simp]theorem Z5:decide (Str.ofString "held"=Str.ofString "or")=false:=rfl
@[simp]theorem Uv:decide (Str.ofString "held"=Str.ofString "both")=false:=rfl
@[simp]theorem QF:decide (Str.ofString "held"=Str.ofString "table")=false:=rfl
@[simp]theorem VB:aG .isin (.str "same") (.tup [.str "same",.str "not"])=some true:=rfl
@[simp]theorem YB:aG .isin (.str "not") (.tup [.str "same",.str "not"])=some true:=rfl
@[simp]theorem YF:aG .isin (.str "and") (.tup [.str "same",.str "not"])=some false:=rfl
@[simp]theorem aan:aG .isin (.str "or") (.tup [.str "same",.str "not"])=some false:=rfl
@[simp]theorem VF:aG .isin (.str "both") (.tup [.str "same",.str "not"])=some false:=rfl
@[simp]theorem SQ:aG .isin (.str "table") (.tup [.str "same",.str "not"])=some false:=rfl
@[simp]theorem VD:aG .isin (.str "held") (.tup [.str "same",.str "not"])=some false:=rfl
@[simp]theorem Yz:aG .isin (.str "same") (.tup [.str "and",.str "or"])=some false:=rfl
@[simp]theorem aao:aG .isin (.str "not") (.tup [.str "and",.str "or"])=some false:=rfl
@[simp]theorem aap:aG .isin (.str "and") (.tup [.str "and",.str "or"])=some true:=rfl
@[simp]theorem acK:aG .isin (.str "or") (.tup [.str "and",.str "or"])=some true:=rfl
@[simp]theorem YD:aG .isin (.str "both") (.tup [.str "and",.str "or"])=some false:=rfl
@[simp]theorem Vz:aG .isin (.str "table") (.tup [.str "and",.str "or"])=some false:=rfl
@[simp]theorem YC:aG .isin (.str "held") (.tup [.str "and",.str "or"])=some false:=rfl
def gl5:pg.gl 5=some (.int 4):=rfl
def gl6:pg.gl 6=some (.int 8):=rfl
def gl7:pg.gl 7=some (.int 3):=rfl
def JW:E:=.bi .all (.comp 1 (.name 0) (.var 0) AAL (.call 8 (.cons (.var 0) ABT)))
def dj n{d:D}(dd:d=.tup xs\/d=.lst xs)(h:b7 xs)(nd:xs.Nodup)(hs:ys.Sublist xs)a b(h1:a<=ys.length)(h2:ys.length<=b):
  pg.fn (n+2) 9 [.val (.tup ys),.val d,.val (.int a),.val (.int b)]=.ok (.val (.bl true)) [.val (.tup ys),.val d,.val (.int a),.val (.int b)]:=by
 have e:ev (pg.cf (n+1)) JW [.val (.tup ys),.val d,.val (.int a),.val (.int b)]=.ok (.val (.bl true)) [.val (.tup ys),.val d,.val (.int a),.val (.int b)]:=by
  refine all1 (r:=.val (.tup ys)) (by simp) rfl rfl fun x hx=>?_
  simp[jg n dd h (hs.subset hx)]
 have hb:pR=⟨4,4,(.cons (.ite (.not (.call 3 (.cons (.var 0) AAh))) AAQ .nil) (.cons (.ret (.and (.cons JW (.cons (.call 6 AAT) .nil)))) .nil))⟩:=by kernel_rfl
 rw[zm,hb]
 simp[aY n ys a b h1 h2,e,lX n (.inl rfl) (fun z hz=>h z (hs.subset hz)) (hs.nodup nd)]
def agY xs:cut xs (some 1) none=xs.tail:=by
 cases xs with
 |nil=>rfl
 |cons x xs=>
  have:clip (xs.length+1) 1=1:=by simp[clip];omega
  simp[cut,this]
theorem vU:∀(rs:List (List Bool)),zV rs=true->∀p∈rs.zip rs.tail,lL p.1 p.2=true
 |[]=>fun _ p h=>by simp at h
 |[a]=>fun _ p h=>by simp at h
 |a::b::r=>fun hi p h=>by
  simp only[zV,QUq]at hi
  simp only[List.tail_cons,List.zip_cons_cons,QCq]at h
  rcases h with rfl|h
  ·exact hi.1
  ·exact vU _ hi.2 p (by simpa using h)
def U6:E:=.bi .all (.comp 1 (.name 0) (.var 0) AAL (.call 7 (.cons (.var 0) ABT)))
def upC:E:=.bi .all (.comp 2 (.tup [0,1]) (.zip (.var 0) (.slc (.var 0) AAG .noneE)) AAL (.cmp .lt (.var 0) (.var 1)))
def Aq n rs(m:Nat)(h:∀r∈rs,r.length=m)(hi:zV rs=true):
  pg.fn (n+3) 10 [.val (.tup (rs.map aK)),.val (.int m)]=.ok (.val (.bl true)) [.val (.tup (rs.map aK)),.val (.int m)]:=by
 have e1:ev (pg.cf (n+2)) U6 [.val (.tup (rs.map aK)),.val (.int m)]=.ok (.val (.bl true)) [.val (.tup (rs.map aK)),.val (.int m)]:=by
  refine all1 (r:=.val (.tup (rs.map aK))) (by simp) rfl rfl fun x hx=>?_
  obtain⟨r,hr,rfl⟩:=QDq.mp hx
  simp[vR n r m (by rw[h r hr])]
 have e2:ev (pg.cf (n+2)) upC [.val (.tup (rs.map aK)),.val (.int m)]=.ok (.val (.bl true)) [.val (.tup (rs.map aK)),.val (.int m)]:=by
  have hz:aR (rs.map aK) (rs.map aK).tail=((rs.zip rs.tail).map fun p=>(aK p.1,aK p.2)).map pairD:=by
   rw[cQ,<-List.map_tail,List.zip_map]
   rfl
  refine all2 (r:=.val (.lst (aR _ (rs.map aK).tail))) ?_ rfl (by show some _=some _;rw[hz]) fun x hx=>?_
  ·simp[cV,E.jJ,ik,agY]
  ·obtain⟨p,hp,rfl⟩:=QDq.mp hx
   have lt:aG .lt (aK p.1) (aK p.2)=some true:=by
    simp[aG,ltD,aK,j5,vU rs hi p hp]
   simp[lt]
 have hb:uq=⟨2,2,(.cons (.ite (.or (.cons (.not (.isi (.var 0) .tup)) (.cons (.not U6) .nil))) AAQ .nil) (.cons (.ret upC) .nil))⟩:=by kernel_rfl
 have q:upC.au=none:=rfl
 rw[Cj,hb]
 simp[e1,e2,q]
def Jc n k:n+4+2*k=n+2+2*k+1+1:=by omega
def SM n k:n+1+2*k+2=n+2+2*k+1:=by omega
def agu n k:n+2*k+3=n+2+2*k+1:=by omega
def agt n k:n+3+2*k+1=n+4+2*k:=by omega
def ags n k:n+4+2*(k+1)=n+4+2*k+1+1:=by omega
def Ge{a:Nat}(h1:c<=a)(h2:d<=c):(d:Int)<=a:=Int.ofNat_le.mpr (Nat.le_trans h2 h1)
def Gf{a:Nat}(h1:a<=c)(h2:c<=d):(a:Int)<=d:=Int.ofNat_le.mpr (Nat.le_trans h1 h2)
theorem CT{xs:List D}(h:b7 xs)(nd:xs.Nodup):∀{k:Nat}{d:D},bR xs k d->∀(n:Nat)(dp:Int),dp+k<=3->
  pg.fn (n+4+2*k) 11 [.val d,.val (.lst xs),.val (.int dp)]=.ok (.val (.bl true)) [.val d,.val (.lst xs),.val (.int dp)]:=by
 intro k d hk
 induction hk with
 | @same k x hx=>
  intro n dp _
  rw[Jc,eY]
  simp[di,aY (n+2+2*k) [.str "same",x] 2 4 (by simp) (by simp),jg (n+2+2*k) (.inr rfl) h hx,aP]
 | @not k x hx=>
  intro n dp _
  rw[Jc,eY]
  simp[di,aY (n+2+2*k) [.str "not",x] 2 4 (by simp) (by simp),jg (n+2+2*k) (.inr rfl) h hx,aP]
 | @and k ys hs h1 h2=>
  intro n dp _
  have w:=dj (n+1+2*k) (.inr rfl) h nd hs 1 4 (Ge h1 (by decide)) (Gf h2 (by decide))
  rw[SM]at w
  rw[Jc,eY]
  simp[di,aY (n+2+2*k) [.str "and",.tup ys] 2 4 (by simp) (by simp),w,aP,gl5]
 | @or k ys hs h1 h2=>
  intro n dp _
  have w:=dj (n+1+2*k) (.inr rfl) h nd hs 1 4 (Ge h1 (by decide)) (Gf h2 (by decide))
  rw[SM]at w
  rw[Jc,eY]
  simp[di,aY (n+2+2*k) [.str "or",.tup ys] 2 4 (by simp) (by simp),w,aP,gl5]
 | @both k ys hs h1 h2=>
  intro n dp _
  have w:=dj (n+1+2*k) (.inr rfl) h nd hs 2 4 (Ge h1 (by decide)) (Gf h2 (by decide))
  rw[SM]at w
  rw[Jc,eY]
  simp[di,aY (n+2+2*k) [.str "both",.tup ys] 2 4 (by simp) (by simp),w,aP,gl5]
 | @table k ys rs hs h1 h2 hr hi=>
  intro n dp _
  have w:=dj (n+1+2*k) (.inr rfl) h nd hs 1 8 (Ge h1 (by decide)) (Gf h2 (by decide))
  rw[SM]at w
  have z:=Aq (n+2*k) rs ys.length hr hi
  rw[agu]at z
  rw[Jc,eY]
  simp[di,aY (n+2+2*k) [.str "table",.tup ys,.tup (rs.map aK)] 2 4 (by simp) (by simp),w,z,aP,gl6]
 | @held k d x b hk hx ih=>
  intro n dp hd
  have w:=jg (n+3+2*k) (.inr rfl) h hx
  rw[agt]at w
  have hl:pg.fn (n+4+2*k+1) 12 [.val (.tup [.str "held",d,x,.bl b]),.val (.lst xs),.val (.int (dp+1))]=.ok (.val (.bl true)) [.val (.tup [.str "held",d,x,.bl b]),.val (.lst xs),.val (.int (dp+1))]:=by
   rw[HS]
   simp[o9,ih n (dp+1) (by omega),w]
  have lt:dp<3:=by omega
  rw[ags,eY]
  simp[di,aY (n+4+2*k) [.str "held",d,x,.bl b] 2 4 (by simp) (by simp),hl,aP,gl7,lt]
end Tx
end
section
open PySem Mini
namespace Tx
def Vn(h g:Nat):List Str:=(["a","b","come"]:List Str).take h++(["p","q","rr","go","abcdef"]:List Str).take g
def names(h g:Nat):List D:=hd h++cP g
def m5 h g:names h g=(Vn h g).map .str:=by
 simp[names,Vn,hd,cP,List.map_take]
def uG{ss:List Str}(h:ss.Nodup):(ss.map D.str).Nodup:=by
 induction ss with
 |nil=>simp
 |cons s ss ih=>
  rw[List.nodup_cons]at h
  rw[Qyz,List.nodup_cons]
  exact⟨fun z=>h.1 (by simpa using z),ih h.2⟩
def names_nodup(h2:h<=2)(g1:1<=g)(g4:g<=5):(names h g).Nodup:=by
 rw[m5]
 exact uG (((List.take_sublist h _).append (List.take_sublist g _)).nodup (by decide))
def bj h g:b7 (names h g):=fun x hx=>by
 rw[m5]at hx
 obtain⟨s,_,rfl⟩:=QDq.mp hx
 exact⟨s,rfl⟩
def fD(h2:h<=2)(g4:g<=5):(names h g).length=h+g:=by
 rw[names,QTq,iz h2,dJ g4]
def Ss n s(hs:s∈Vn 3 5):pg.fn (n+1) 5 [.val (.str s)]=.ok (.val (.bl true)) [.val (.str s)]:=by
 have:Vn 3 5=(["a","b","come","p","q","rr","go","abcdef"]:List Str):=by rfl
 rw[this]at hs
 simp only[QCq,QAz,or_false]at hs
 rcases hs with rfl|rfl|rfl|rfl|rfl|rfl|rfl|rfl<;>kernel_rfl
def Fv{s:Str}(hs:s∈Vn h g):s∈Vn 3 5:=by
 unfold Vn at*
 rw[QXz]at*
 rcases hs with hs|hs
 ·exact .inl (by have:=List.mem_of_mem_take hs;simpa using this)
 ·exact .inr (by have:=List.mem_of_mem_take hs;simpa using this)
def gl3:pg.gl 3=some (.int 3):=rfl
def gl4:pg.gl 4=some (.int 5):=rfl
def Cr:E:=.bi .all (.comp 1 (.name 0) AAb AAL ACO)
def Ek(h:ys.length=xs.length):(aR xs ys).length=xs.length:=by
 rw[cQ];simp[h]
section
def jW(h g:Nat)(ks:List D)(X:D):D:=.tup [.tup (hd h),.tup (aR (cP g) ks),X]
def zX n(O:bY h g ks ls)X:pg.fn (n+2) 2 [.val (jW h g ks X)]=.ok (.val (.bl true)) [.val (jW h g ks X)]:=by
 have lg:=dJ O.g5
 have lh:=iz O.h2
 have lz:(aR (cP g) ks).length=g:=by rw[Ek (by rw[lg,O.kl]),lg]
 have e:ev (pg.cf (n+1)) Cr [.val (jW h g ks X)]=.ok (.val (.bl true)) [.val (jW h g ks X)]:=by
  refine all1 (r:=.val (.tup (aR (cP g) ks))) (by simp[jW]) rfl rfl fun x hx=>?_
  rw[cQ]at hx
  obtain⟨p,_,rfl⟩:=QDq.mp hx
  simp[pairD,aY n [p.1,p.2] 2 2 (by simp) (by simp)]
 have hb:pQ=⟨1,1,(.cons (.ite (.or (.cons (.not (.call 3 (.cons AAc (.cons AAH (.cons (.glob 3) .nil))))) (.cons (.not (.call 3 (.cons AAb (.cons AAG (.cons (.glob 4) .nil))))) .nil))) AAQ .nil) (.cons (.ret Cr) .nil))⟩:=by kernel_rfl
 have q:Cr.au=none:=rfl
 rw[zj,hb]
 simp only[jW]at*
 simp[aY n (hd h) 0 3 (by omega) (by have:=O.h2;omega),aY n (aR (cP g) ks) 1 5 (by have:=O.g1;omega) (by have:=O.g5;omega),gl3,gl4,e,q]
def Vp:E:=.bi .all (.comp 1 (.name 0) (.var 1) AAL (.call 5 AAT))
def Vx:E:=.bi .all (.comp 2 (.tup [0,1]) AAb AAL (.call 11 (.cons (.var 1) (.cons (.var 3) ABN))))
def Nh n(O:bY h g ks ls)X b(t5:pg.fn (n+6) 7 [.val X,.val (.int (names h g).length)]=.ok (.val (.bl b)) [.val X,.val (.int (names h g).length)]):pg.fn (n+7) 1 [.val (jW h g ks X)]=.ok (.val (.bl b)) [.val (jW h g ks X)]:=by
 have lg:=dJ O.g5
 have lh:=iz O.h2
 have T:=bj h g
 have Nd:=names_nodup O.h2 O.g1 O.g5
 have e1:ev (pg.cf (n+6)) Vp [.val (jW h g ks X),.own (.lst (names h g))]=.ok (.val (.bl true)) [.val (jW h g ks X),.val (.lst (names h g))]:=by
  refine all1 (r:=.val (.lst (names h g))) (by simp) rfl rfl fun x hx=>?_
  rw[m5]at hx
  obtain⟨s,hs,rfl⟩:=QDq.mp hx
  simp[Ss (n+5) s (Fv hs)]
 have e2:ev (pg.cf (n+6)) Vx [.val (jW h g ks X),.val (.lst (names h g))]=.ok (.val (.bl true)) [.val (jW h g ks X),.val (.lst (names h g))]:=by
  refine all2 (r:=.val (.tup (aR (cP g) ks))) (by simp[jW]) rfl (by show some _=some _;rw[cQ]) fun x hx=>?_
  simp[CT T Nd (O.kk x.2 (List.of_mem_zip hx).2) n 0 (by decide)]
 have hb:An=⟨1,2,(.cons (.ite (.or (.cons (.not (.call 3 (.cons (.var 0) (.cons AAV AAx)))) (.cons (.not (.call 2 AAT)) .nil))) AAQ .nil) (.cons (.set 1 ACV) (.cons (.ite (.or (.cons (.not Vp) (.cons (.not (.call 6 AAZ)) .nil))) AAQ .nil) (.cons (.ret (.and (.cons Vx (.cons (.call 7 (.cons AAf ABk)) .nil)))) .nil))))⟩:=by kernel_rfl
 rw[K6,hb]
 have nn:hd h++cP g=names h g:=rfl
 have g2:getD (jW h g ks X) (.int 2)=some X:=by simp[jW]
 have t1':pg.fn _ 3 [.val (jW h g ks X),.val _,.val _]=.ok _ [.val _,.val _,.val _]:=aY (n+5) [.tup (hd h),.tup (aR (cP g) ks),X] 3 3 (by simp) (by simp)
 have t3':pg.fn _ 13 [.val (jW h g ks X)]=.ok (.new (.lst (names h g))) [.val _]:=fL (n+5) (hd h) (cP g) ks X (by rw[O.kl,lg]) (by have:=O.h2;have:=O.g5;omega)
 simp[t1',zX (n+4) O X,t3',e1,lX (n+5) (.inr rfl) T Nd,e2,g2,t5]
def Jd n(O:bY h g ks ls):pg.fn (n+7) 1 [.val (aH h g ks ls)]=.ok (.val (.bl true)) [.val (aH h g ks ls)]:=
 Nh n O _ true (vR _ ls (names h g).length (by rw[fD O.h2 O.g5,O.ll]))
def DN n(O:bY h g ks ls):pg.fn (n+8) 0 [.val (aH h g ks ls)]=.ok (.val (aH h g ks ls)) [.val (aH h g ks ls)]:=by
 rw[HX]
 simp[ph,Jd n O]
end
end Tx
end
section
open PySem Mini
namespace Tx
theorem goD(τ:Int->Ev){cond elt:Ev->Out Rv}(P:D->D->Prop)(all:Bool):∀(xs acc:List D)(k:Int)(s:Sl),0<=k->bu s->
  (∀x∈xs,∀k,0<=k->∃b k',0<=k'/\(all=true->b=true)/\cond (.val x::τ k)=.ok (.val (.bl b)) (.val x::τ k'))->
  (∀x∈xs,∀k,0<=k->∃y k',0<=k'/\P x y/\elt (.val x::τ k)=.ok (.val y) (.val x::τ k'))->
  ∃(zs:List (D×D))(k':Int)(s':Sl),(zs.map (·.1)).Sublist xs/\(all=true->zs.map (·.1)=xs)/\(∀p∈zs,P p.1 p.2)/\0<=k'/\aV (.name 0) cond elt xs acc (s::τ k)=.ok (acc++zs.map (·.2)) (s'::τ k')
 |[]=>fun acc k s hk _ _ _=>⟨[],k,s,List.Sublist.refl _,fun _=>rfl,fun p h=>(by cases h),hk,by simp[aV]⟩
 |x::xs=>fun acc k s hk hs hc he=>by
  obtain⟨b,k1,a1,a2,a3⟩:=hc x QYz k hk
  rw[aV,oF hs]
  simp only[a3,dF]
  cases b with
  |true=>
   obtain⟨y,k2,b1,b2,b3⟩:=he x QYz k1 a1
   obtain⟨zs,k',s',c1,c2,c3,c4,c5⟩:=goD τ P all xs _ k2 _ b1 (.inr ⟨_,rfl⟩) (fun z hz=>hc z (QYq _ hz)) fun z hz=>he z (QYq _ hz)
   refine⟨(x,y)::zs,k',s',c1.cons_cons x,fun h=>by simp[c2 h],fun p hp=>?_,c4,?_⟩
   ·rcases QCq.mp hp with rfl|hp
    ·exact b2
    ·exact c3 p hp
   ·rw[if_pos rfl,b3,bU,c5]
    simp
  |false=>
   obtain⟨zs,k',s',c1,c2,c3,c4,c5⟩:=goD τ P all xs acc k1 _ a1 (.inr ⟨_,rfl⟩) (fun z hz=>hc z (QYq _ hz)) fun z hz=>he z (QYq _ hz)
   exact⟨zs,k',s',c1.cons x,fun h=>by simpa using a2 h,c3,c4,by rw[if_neg (by simp),c5]⟩
def O2{σ:Ev}{r:Rv}{xs:List D}(τ:Int->Ev)(P:D->D->Prop)(all:Bool)(hk:0<=k)(hi:ev c it σ=.ok r (τ k))(hr:r.jF=some d)(hd:items d=some xs)
  (hc:∀x∈xs,∀k,0<=k->∃b k',0<=k'/\(all=true->b=true)/\ev c co (.val x::τ k)=.ok (.val (.bl b)) (.val x::τ k'))
  (he:∀x∈xs,∀k,0<=k->∃y k',0<=k'/\P x y/\ev c el (.val x::τ k)=.ok (.val y) (.val x::τ k')):
  ∃(zs:List (D×D))(k':Int),(zs.map (·.1)).Sublist xs/\(all=true->zs.map (·.1)=xs)/\(∀p∈zs,P p.1 p.2)/\0<=k'/\ev c (.comp 1 (.name 0) it co el) σ=.ok (.new (.lst (zs.map (·.2)))) (τ k'):=by
 obtain⟨zs,k',s',a1,a2,a3,a4,a5⟩:=goD τ P all xs [] k .un hk (.inl rfl) hc he
 refine⟨zs,k',a1,a2,a3,a4,?_⟩
 rw[qJ,hi]
 have b:∀{β:Type}(g:D->Ev->Out β),(Out.ok r (τ k)).ao g=g d (τ k):=fun g=>by cases r<;>simp[Rv.jF]at hr<;>subst hr<;>rfl
 rw[b]
 simp only[hd]
 rw[show List.replicate 1 Sl.un++τ k=.un::τ k from rfl,a5]
 simp
def lU(m:D×Nat):D:=.tup [m.1,.int m.2]
def dW(st:List (D×Nat)):D:=.tup (st.map lU)
def aB(os:List D)(sts:List (List (D×Nat))):D:=.tup [.tup os,.tup (sts.map dW)]
structure bQ(h g:Nat)(os:List D)(sts:List (List (D×Nat))):Prop where
 ou:os.Sublist (cP g)
 s1:1<=sts.length
 s4:sts.length<=4
 mv:∀st∈sts,(st.map (·.1)).Sublist (hd h++os)/\∀m∈st,m.2<sts.length
def RQ:E:=.comp 1 (.name 0) AAe ABg AAc
def UW:E:=.comp 1 (.name 0) (.op .add AAp (.var 4)) pL (.var 0)
def Yg:E:=(.tup (.cons (.var 0) (.cons (.call 35 (.cons (.var 1) (.cons (.ref 2) ABR))) .nil)))
def Yh:E:=.comp 1 (.name 0) (.var 8) AAL Yg
def yF:S:=(.cons (.set 8 UW) (.cons (.append 6 (.bi .tuple Yh)) .nil))
def WQ{zs:List (D×D)}(h:(zs.map (·.1)).Sublist xs)(e:∀p∈zs,p.2=p.1):(zs.map (·.2)).Sublist xs:=by
 rw[show zs.map (·.2)=zs.map (·.1)from List.map_congr_left e];exact h
section
variable(n:Nat)(ns:List Int)(hs os gs:List D)(x:D)(s3 s5 s6 s7 s8:Sl)
def Ku(k:Int)(hk:0<=k)(hl:hs.length+os.length<=900):∃(ys:List D)(k':Int),ys.Sublist (hs++os)/\0<=k'/\
  ev (pg.cf (n+3)) UW [.val (sc ns),.bor (.lst [.int k]),.val (.tup [.tup hs,.tup gs,x]),s3,.val (.tup os),s5,s6,s7,s8]=.ok (.new (.lst ys)) [.val (sc ns),.bor (.lst [.int k']),.val (.tup [.tup hs,.tup gs,x]),s3,.val (.tup os),s5,s6,s7,s8]:=by
 have f:fits (hs.length+os.length)=true:=by simp[fits];omega
 obtain⟨zs,k',a1,a2,a3,a4,a5⟩:=O2 (it:=(.op .add AAp (.var 4))) (el:=.var 0) (σ:=[.val (sc ns),.bor (.lst [.int k]),.val (.tup [.tup hs,.tup gs,x]),s3,.val (.tup os),s5,s6,s7,s8]) (fun k=>[.val (sc ns),.bor (.lst [.int k]),.val (.tup [.tup hs,.tup gs,x]),s3,.val (.tup os),s5,s6,s7,s8])
  (fun x y=>y=x) false hk (r:=.val (.tup (hs++os))) (by simp[f]) rfl rfl
  (fun x _ k hk=>by obtain⟨b,e⟩:=ye n ns k hk x [.val _,s3,.val _,s5,s6,s7,s8];exact⟨b,k+1,by omega,by simp,e⟩) fun x _ k hk=>⟨x,k,hk,rfl,by simp⟩
 exact⟨_,k',WQ a1 a3,a4,a5⟩
theorem Su(k:Int)(hk:0<=k)(ys:List D)(many:Nat)(h1:1<=many)(net:D)(s4:Sl):∃(st:List (D×Nat))(k':Int),st.map (·.1)=ys/\(∀m∈st,m.2<many)/\0<=k'/\
  ev (pg.cf (n+3)) Yh [.val (sc ns),.bor (.lst [.int k]),.val net,s3,s4,.val (.int many),s6,s7,.own (.lst ys)]=.ok (.new (.lst (st.map lU))) [.val (sc ns),.bor (.lst [.int k']),.val net,s3,s4,.val (.int many),s6,s7,.val (.lst ys)]:=by
 obtain⟨zs,k',a1,a2,a3,a4,a5⟩:=O2 (c:=pg.cf (n+3)) (it:=.var 8) (co:=.con (.bl true)) (el:=Yg) (σ:=[.val (sc ns),.bor (.lst [.int k]),.val net,s3,s4,.val (.int many),s6,s7,.own (.lst ys)]) (fun k=>[.val (sc ns),.bor (.lst [.int k]),.val net,s3,s4,.val (.int many),s6,s7,.val (.lst ys)])
  (fun x y=>∃j:Nat,j<many/\y=lU (x,j)) true hk (r:=.val (.lst ys)) (by simp) rfl rfl
  (fun x _ k hk=>⟨true,k,hk,fun _=>rfl,by simp⟩) fun x _ k hk=>by
   obtain⟨q,q1,q2,e⟩:=bD n ns k many hk (by omega)
   obtain⟨j,rfl⟩:∃j:Nat,q=j:=⟨q.toNat,by omega⟩
   exact⟨_,k+1,by omega,⟨j,by omega,rfl⟩,by simp[Yg,e,aP,lU]⟩
 have pick:∀(zs:List (D×D)),(∀p∈zs,∃j:Nat,j<many/\p.2=lU (p.1,j))->∃st:List _,st.map (·.1)=zs.map (·.1)/\(∀m∈st,m.2<many)/\st.map lU=zs.map (·.2):=by
  intro zs
  induction zs with
  |nil=>exact fun _=>⟨[],rfl,fun m h=>(by cases h),rfl⟩
  |cons z zs ih=>
   intro h
   obtain⟨j,j1,j2⟩:=h z QYz
   obtain⟨st,b1,b2,b3⟩:=ih fun p hp=>h p (QYq _ hp)
   refine⟨(z.1,j)::st,by simp[b1],fun m hm=>?_,by simp[b3,j2]⟩
   rcases QCq.mp hm with rfl|hm
   ·exact j1
   ·exact b2 m hm
 obtain⟨st,b1,b2,b3⟩:=pick zs a3
 exact⟨st,k',by rw[b1,a2 rfl],b2,a4,by rw[b3];exact a5⟩
def Hr(k:Int)(hk:0<=k)(hl:hs.length+os.length<=900)(many:Nat)(h1:1<=many)(acc:List D)(ha:acc.length<=1000)(h8:bu s8):∃(st:List (D×Nat))(k':Int)(s':Sl),(st.map (·.1)).Sublist (hs++os)/\(∀m∈st,m.2<many)/\0<=k'/\bu s'/\
  ex (pg.cf (n+3)) yF [.val (sc ns),.bor (.lst [.int k]),.val (.tup [.tup hs,.tup gs,x]),s3,.val (.tup os),.val (.int many),.own (.lst acc),s7,s8]=.next [.val (sc ns),.bor (.lst [.int k']),.val (.tup [.tup hs,.tup gs,x]),s3,.val (.tup os),.val (.int many),.own (.lst (acc++[dW st])),s7,s']:=by
 obtain⟨ys,k1,a1,a2,a3⟩:=Ku n ns hs os gs x s3 (.val (.int many)) (.own (.lst acc)) s7 s8 k hk hl
 obtain⟨st,k',b1,b2,b3,b4⟩:=Su n ns s3 (.own (.lst acc)) s7 k1 a2 ys many h1 (.tup [.tup hs,.tup gs,x]) (.val (.tup os))
 have f:fits (acc.length+1)=true:=by simp[fits];omega
 have q:Yh.au=none:=rfl
 refine⟨st,k',.val (.lst ys),by rw[b1];exact a1,b2,b3,.inr ⟨_,rfl⟩,?_⟩
 rcases h8 with rfl|⟨e,rfl⟩<;>simp[yF,a3,b4,dU,yt,f,q,dW]
theorem uP(hl:hs.length+os.length<=900)(many:Nat)(h1:1<=many):∀(xs:List D)(acc:List (List (D×Nat)))(k:Int)(s7 s8:Sl),0<=k->bu s7->bu s8->acc.length+xs.length<=1000->∃(sts:List (List (D×Nat)))(k':Int)(t7 t8:Sl),sts.length=xs.length/\(∀st∈sts,(st.map (·.1)).Sublist (hs++os)/\∀m∈st,m.2<many)/\0<=k'/\
  aL (.name 7) (ex (pg.cf (n+3)) yF) xs [.val (sc ns),.bor (.lst [.int k]),.val (.tup [.tup hs,.tup gs,x]),s3,.val (.tup os),.val (.int many),.own (.lst (acc.map dW)),s7,s8]=.next [.val (sc ns),.bor (.lst [.int k']),.val (.tup [.tup hs,.tup gs,x]),s3,.val (.tup os),.val (.int many),.own (.lst ((acc++sts).map dW)),t7,t8]
 |[]=>fun acc k s7 s8 hk _ _ _=>⟨[],k,s7,s8,rfl,fun st h=>(by cases h),hk,by simp[aL]⟩
 |y::xs=>fun acc k s7 s8 hk h7 h8 hx=>by
  simp only[QBq]at hx
  obtain⟨st,k1,s',a1,a2,a3,a4,a5⟩:=Hr n ns hs os gs x s3 _ s8 k hk hl many h1 (acc.map dW) (by simp;omega) h8
  obtain⟨sts,k',t7,t8,b1,b2,b3,b4⟩:=uP hl many h1 xs (acc++[st]) k1 _ s' a3 (.inr ⟨_,rfl⟩) a4 (by simp;omega)
  refine⟨st::sts,k',t7,t8,by simp[b1],fun q hq=>?_,b3,?_⟩
  ·rcases QCq.mp hq with rfl|hq
   ·exact⟨a1,a2⟩
   ·exact b2 q hq
  ·rw[aL]
   have st1:aX (.name 7) y [.val (sc ns),.bor (.lst [.int k]),.val (.tup [.tup hs,.tup gs,x]),s3,.val (.tup os),.val (.int many),.own (.lst (acc.map dW)),s7,s8]=some [.val (sc ns),.bor (.lst [.int k]),.val (.tup [.tup hs,.tup gs,x]),s3,.val (.tup os),.val (.int many),.own (.lst (acc.map dW)),.val y,s8]:=by
    rcases h7 with rfl|⟨e,rfl⟩<;>simp[aX]
   rw[st1]
   simp only
   rw[a5,iI]
   rw[show acc.map dW++[dW st]=(acc++[st]).map dW by simp,b4]
   simp
end
theorem oK:∀(m:Nat)(lo:Int),(bw lo m).length=m
 |0=>fun _=>rfl
 |m+1=>fun lo=>by simp[bw,oK m]
def RP(n:Nat)(ns:List Int)(k:Int)(hk:0<=k)(hs gs ks:List D)(x:D)(hl:ks.length=gs.length)(s3 s4 s5 s6 s7 s8:Sl):∃(os:List D)(k':Int),os.Sublist gs/\0<=k'/\
  ev (pg.cf (n+3)) RQ [.val (sc ns),.bor (.lst [.int k]),.val (.tup [.tup hs,.tup (aR gs ks),x]),s3,s4,s5,s6,s7,s8]=.ok (.new (.lst os)) [.val (sc ns),.bor (.lst [.int k']),.val (.tup [.tup hs,.tup (aR gs ks),x]),s3,s4,s5,s6,s7,s8]:=by
 obtain⟨zs,k',a1,a2,a3,a4,a5⟩:=O2 (c:=pg.cf (n+3)) (it:=AAe) (co:=ABg) (el:=AAc) (σ:=[.val (sc ns),.bor (.lst [.int k]),.val (.tup [.tup hs,.tup (aR gs ks),x]),s3,s4,s5,s6,s7,s8]) (fun k=>[.val (sc ns),.bor (.lst [.int k]),.val (.tup [.tup hs,.tup (aR gs ks),x]),s3,s4,s5,s6,s7,s8])
  (fun x y=>y=o7 x) false hk (r:=.val (.tup (aR gs ks))) (by simp) rfl rfl
  (fun x _ k hk=>by
   obtain⟨q,_,_,e⟩:=bD n ns k 3 hk (by omega)
   exact⟨decide (0<q),k+1,by omega,by simp,by simp[e]⟩) fun x hx k hk=>by
   rw[cQ]at hx
   obtain⟨p,_,rfl⟩:=QDq.mp hx
   exact⟨_,k,hk,rfl,by simp[pairD,o7]⟩
 refine⟨_,k',?_,a4,a5⟩
 have:=a1.map o7
 rw[wH gs ks hl]at this
 rw[show zs.map (·.2)=(zs.map (·.1)).map o7 by rw[List.map_map];exact List.map_congr_left a3]
 exact this
def QK(n:Nat)(ns:List Int)(k:Int)(hk:0<=k){ks:List D}(O:bY h g ks ls):∃os sts k',bQ h g os sts/\0<=k'/\
  pg.fn (n+4) 40 [.val (sc ns),.bor (.lst [.int k]),.val (aH h g ks ls),.val (.int 4)]=.ok (.val (aB os sts)) [.val (sc ns),.bor (.lst [.int k']),.val (aH h g ks ls),.val (.int 4)]:=by
 have lg:=dJ O.g5
 have lh:=iz O.h2
 obtain⟨os,k1,a1,a2,a3⟩:=RP n ns k hk (hd h) (cP g) ks _ (by rw[O.kl,lg]) _ .un .un .un .un .un
 obtain⟨q,q1,q2,eq⟩:=bD n ns k1 4 a2 (by omega)
 obtain⟨m,rfl⟩:∃m:Nat,q=m:=⟨q.toNat,by omega⟩
 have lo:=a1.length_le
 have:=O.h2
 have:=O.g5
 obtain⟨sts,k',t7,t8,b1,b2,b3,b4⟩:=uP n ns (hd h) os _ _ _ (by omega) (1+m) (by omega) (bw 0 (1+m)) [] (k1+1) .un .un (by omega) (.inl rfl) (.inl rfl) (by simp[oK];omega)
 rw[oK]at b1
 refine⟨os,sts,k',⟨a1,by omega,by omega,fun st hst=>?_⟩,b3,?_⟩
 ·rw[b1];exact b2 st hst
 ·have hb:ue=⟨4,9,.cons (.set 4 (.bi .tuple RQ)) (.cons (.set 5 ABb) (.cons (.set 6 AAv) (.cons (.for_ (.name 7) (.range1 (.var 5)) yF) (.cons (.ret (.tup (.cons (.var 4) (.cons (.bi .tuple (.var 6)) .nil)))) .nil))))⟩:=by kernel_rfl
  rw[BR,hb]
  have q0:RQ.au=none:=rfl
  have fm:fits (1+m)=true:=by simp[fits];omega
  have md:Be (1+m)=true:=by simp[Be];omega
  have tn:(1+(m:Int)).toNat=1+m:=by omega
  have b4':aL (.name 7) (ex (pg.cf (n+3)) yF) (bw 0 (1+m)) [.val (sc ns),.bor (.lst [.int (k1+1)]),.val (aH h g ks ls),.val (.int 4),.val (.tup os),.val (.int (1+m)),.own (.lst []),.un,.un]=.next [.val (sc ns),.bor (.lst [.int k']),.val (aH h g ks ls),.val (.int 4),.val (.tup os),.val (.int (1+m)),.own (.lst (sts.map dW)),t7,t8]:=by simpa[aH]using b4
  have a3':ev _ RQ [.val _,.bor _,.val (aH h g ks ls),.val (.int 4),.un,.un,.un,.un,.un]=.ok _ [.val _,.bor _,.val (aH h g ks ls),.val _,.un,.un,.un,.un,.un]:=a3
  simp[a3',q0,eq,aP,fm,md,tn,b4',items,aB]
end Tx
end
section
open PySem Mini
namespace Tx
def Gg:E:=(.comp 1 (.name 0) (.var 2) AAL pL)
def MT n ns k(hk:0<=k)xs s3 s4:∃(bs:List Bool)(k':Int),bs.length=xs.length/\0<=k'/\
  ev (pg.cf (n+3)) Gg [.val (sc ns),.bor (.lst [.int k]),.own (.lst xs),s3,s4]=.ok (.new (.lst (bs.map .bl))) [.val (sc ns),.bor (.lst [.int k']),.val (.lst xs),s3,s4]:=by
 obtain⟨bs,k',s',a1,a2,a3,a4⟩:=tu n ns [.val _,s3,s4] xs [] k .un hk (.inl rfl)
 refine⟨bs,k',a1,a2,?_⟩
 have h:ev (pg.cf (n+3)) (.var 2) [.val (sc ns),.bor (.lst [.int k]),.own (.lst xs),s3,s4]=.ok (.val (.lst xs)) [.val (sc ns),.bor (.lst [.int k]),.val (.lst xs),s3,s4]:=by simp
 unfold Gg
 rw[qJ,h,bU]
 simp only[items]
 rw[show List.replicate 1 Sl.un++[.val _,.bor _,.val _,s3,s4]=.un:: .val _:: .bor _::[.val _,s3,s4]from rfl,a4]
 simp
def U7:S:=(.cons (.append 3 (.tup (.cons (.idx (.var 2) (.var 4)) (.cons (.tup (.cons AAl (.cons (.tup (.cons AAt (.cons (.idx (.var 2) (.op .sub (.var 4) AAG)) .nil))) (.cons (.idx (.var 2) (.op .mod (.op .add (.var 4) AAG) ABx)) (.cons (.con (.bl false)) .nil))))) .nil)))) .nil)
def rk(a b:String):D:=.tup [.str "held",.tup [.str "same",.str a],.str b,.bl false]
def yU:Nat->List D
 |3=>[rk "rr" "q",rk "p" "rr",rk "q" "p"]
 |4=>[rk "go" "q",rk "p" "rr",rk "q" "go",rk "rr" "p"]
 |_=>[rk "abcdef" "q",rk "p" "rr",rk "q" "go",rk "rr" "abcdef",rk "go" "p"]
def HJ c s0 s1 g(hg:g=3\/g=4\/g=5):∃s4,aL (.name 4) (ex c U7) (bw 0 g) [s0,s1,.own (.lst (cP g)),.own (.lst []),.un]=.next [s0,s1,.own (.lst (cP g)),.own (.lst (aR (cP g) (yU g))),s4]:=by
 refine⟨.val (.int (g-1)),?_⟩
 rcases hg with rfl|rfl|rfl
 all_goals
  try rfl
def Bw g(hg:g=3\/g=4\/g=5):∀d∈yU g,bR (hd 0++cP g) 1 d:=by
 intro d h
 rcases hg with rfl|rfl|rfl<;>simp only[yU,QCq,QAz,or_false]at h<;>rcases h with rfl|rfl|rfl|rfl|rfl<;>exact .held (.same (by simp[hd,cP])) (by simp[hd,cP])
def Rj n ns k(hk:0<=k):∃g ks ls k',bY 0 g ks ls/\3<=g/\0<=k'/\pg.fn (n+4) 41 [.val (sc ns),.bor (.lst [.int k])]=.ok (.val (aH 0 g ks ls)) [.val (sc ns),.bor (.lst [.int k'])]:=by
 obtain⟨r,r1,r2,er⟩:=bD n ns k 3 hk (by omega)
 obtain⟨g,hg,hr⟩:∃g:Nat,(g=3\/g=4\/g=5)/\3+r=g:=⟨(3+r).toNat,by omega,by omega⟩
 have lg:(cP g).length=g:=dJ (by omega)
 obtain⟨s4,a⟩:=HJ (pg.cf (n+3)) (.val (sc ns)) (.bor (.lst [.int (k+1)])) g hg
 obtain⟨bs,k',b1,b2,b3⟩:=MT n ns (k+1) (by omega) (cP g) (.own (.lst (aR (cP g) (yU g)))) s4
 refine⟨g,yU g,bs,k',⟨by omega,by omega,by omega,?_,Bw g hg,by omega⟩,by omega,b2,?_⟩
 ·rcases hg with rfl|rfl|rfl<;>rfl
 ·have hb:uf=⟨2,5,(.cons (.set 2 (.slc (.lis AAa) .noneE (.op .add AAV (.call 35 (.cons (.var 0) (.cons (.ref 1) AAx)))))) (.cons (.set 3 AAv) (.cons (.for_ (.name 4) (.range1 ABx) U7) (.cons (.ret (.tup (.cons (.tup .nil) (.cons (.bi .tuple (.var 3)) (.cons (.bi .tuple Gg) .nil))))) .nil))))⟩:=by kernel_rfl
  rw[BW,hb]
  have sl:ik (.lst [.str "p",.str "q",.str "rr",.str "go",.str "abcdef"]) none (some g)=some (.new (.lst (cP g))):=by
   rcases hg with rfl|rfl|rfl<;>rfl
  have fg:fits g=true:=by simp[fits];omega
  have md:Be g=true:=by simp[Be];omega
  have q:Gg.au=none:=rfl
  simp[er,hr,sl,aP,cV,E.jJ,lg,fg,md,items,a,b3,q,aH,hd]
def o8:S:=(.cons (.set 7 AAd) (.cons (.append 5 (.tup (.cons (.var 6) (.cons (.tup (.cons (.idx (.lis AAX) (.var 7)) AAS)) .nil)))) (.cons (.append 4 (.cmp .eq (.idx (.var 4) (.neg AAG)) (.cmp .eq (.var 7) AAH))) (.cons (.set 3 (.var 6)) .nil))))
def Ua xs b:at? (xs++[b]) (-1)=some b:=by
 unfold at? ix?
 have e:(-1+((xs.length:Int)+1)).toNat=xs.length:=by omega
 have e2:(0:Int)<= -1+(xs.length+1):=by omega
 have e3: -1+((xs.length:Int)+1)<xs.length+1:=by omega
 simp[e,e2,e3]
def DQ n ns k(hk:0<=k)s2 s7(h7:bu s7)a x ls l acc(hl:ls.length<=1000)(ha:acc.length<=1000):
  ∃(w:Str)(b:Bool)(t7:Sl),(w="same"\/w="not")/\bu t7/\ex (pg.cf (n+3)) o8 [.val (sc ns),.bor (.lst [.int k]),s2,.val a,.own (.lst ((ls++[l]).map .bl)),.own (.lst acc),.val x,s7]
   =.next [.val (sc ns),.bor (.lst [.int (k+1)]),s2,.val x,.own (.lst ((ls++[l]++[b]).map .bl)),.own (.lst (acc++[.tup [x,.tup [.str w,a]]])),.val x,t7]:=by
 obtain⟨r,r1,r2,er⟩:=bD n ns k 2 hk (by omega)
 have fa:fits (acc.length+1)=true:=by simp[fits];omega
 have fb:fits (ls.length+1+1)=true:=by simp[fits];omega
 have al:at? (ls.map D.bl++[.bl l]) (-1)=some _:=Ua _ _
 rcases (by omega:r=0\/r=1)with rfl|rfl
 ·refine⟨"same",l==true,.val (.int 0),.inl rfl,.inr ⟨_,rfl⟩,?_⟩
  rcases h7 with rfl|⟨e,rfl⟩<;>simp[o8,er,aP,fa,fb,dU,yt,al]
 ·refine⟨"not",l==false,.val (.int 1),.inr rfl,.inr ⟨_,rfl⟩,?_⟩
  rcases h7 with rfl|⟨e,rfl⟩<;>simp[o8,er,aP,fa,fb,dU,yt,al]
theorem tU(n:Nat)(ns:List Int)(s2:Sl):∀(xs acc:List D)(k:Int)(s6 s7:Sl)(a:D)(ls:List Bool)(l:Bool),0<=k->bu s6->bu s7->ls.length+xs.length<=1000->acc.length+xs.length<=1000->
  ∃(ks:List D)(bs:List Bool)(k':Int)(t3 t6 t7:Sl),ks.length=xs.length/\bs.length=xs.length/\0<=k'/\(∀d∈ks,∃y∈a::xs,d=.tup [.str "same",y]\/d=.tup [.str "not",y])/\
   aL (.name 6) (ex (pg.cf (n+3)) o8) xs [.val (sc ns),.bor (.lst [.int k]),s2,.val a,.own (.lst ((ls++[l]).map .bl)),.own (.lst acc),s6,s7]=.next [.val (sc ns),.bor (.lst [.int k']),s2,t3,.own (.lst ((ls++[l]++bs).map .bl)),.own (.lst (acc++aR xs ks)),t6,t7]
 |[]=>fun acc k s6 s7 a ls l hk _ _ _ _=>⟨[],[],k,.val a,s6,s7,rfl,rfl,hk,fun d h=>(by cases h),by simp[aL,aR]⟩
 |x::xs=>fun acc k s6 s7 a ls l hk h6 h7 hl ha=>by
  simp only[QBq]at hl ha
  obtain⟨w,b,t,a1,a2,a3⟩:=DQ n ns k hk s2 s7 h7 a x ls l acc (by omega) (by omega)
  obtain⟨ks,bs,k',t3,t6,t7,b1,b2,b3,b4,b5⟩:=tU n ns s2 xs (acc++[.tup [x,.tup [.str w,a]]]) (k+1) (.val x) t x (ls++[l]) b (by omega) (.inr ⟨_,rfl⟩) a2 (by simp;omega) (by simp;omega)
  refine⟨.tup [.str w,a]::ks,b::bs,k',t3,t6,t7,by simp[b1],by simp[b2],b3,fun d hd=>?_,?_⟩
  ·rcases QCq.mp hd with rfl|hd
   ·exact⟨a,QYz,by rcases a1 with rfl|rfl<;>simp⟩
   ·obtain⟨y,hy,e⟩:=b4 d hd
    exact⟨y,QYq _ hy,e⟩
  ·have st:aX (.name 6) x [.val (sc ns),.bor (.lst [.int k]),s2,.val a,.own (.lst ((ls++[l]).map .bl)),.own (.lst acc),s6,s7]=some [.val (sc ns),.bor (.lst [.int k]),s2,.val a,.own (.lst ((ls++[l]).map .bl)),.own (.lst acc),.val x,s7]:=by
    rcases h6 with rfl|⟨e,rfl⟩<;>simp[aX]
   rw[aL,st]
   simp only
   rw[a3,iI,b5]
   simp[aR]
def ahb(d:D):Prop:=∃h g ks ls os sts,bY h g ks ls/\bQ h g os sts/\d=.tup [aH h g ks ls,aB os sts]
def O8 n ns k(hk:0<=k):∃h g ks ls os sts k',bY h g ks ls/\bQ h g os sts/\0<=k'/\pg.fn (n+4) 42 [.val (sc ns),.bor (.lst [.int k])]=.ok (.val (.tup [aH h g ks ls,aB os sts])) [.val (sc ns),.bor (.lst [.int k'])]:=by
 obtain⟨r,r1,r2,er⟩:=bD n ns k 4 hk (by omega)
 obtain⟨g,hg,hr⟩:∃g:Nat,(g=1\/g=2\/g=3\/g=4)/\1+r=g:=⟨(1+r).toNat,by omega,by omega⟩
 have lg:(cP g).length=g:=dJ (by omega)
 obtain⟨q,q1,q2,eq⟩:=bD n ns (k+1) 2 (by omega) (by omega)
 obtain⟨ks,bs,k',t3,t6,t7,b1,b2,b3,b4,b5⟩:=tU n ns _ (cP g) [] (k+1+1) .un .un _ [] _ (by omega) (.inl rfl) (.inl rfl) (by simp;omega) (by simp;omega)
 obtain⟨z,z1,z2⟩:∃z,at? (cP g) (-1)=some z/\z∈cP g:=by
  rcases hg with rfl|rfl|rfl|rfl
  ·exact⟨.str "p",rfl,by simp[cP]⟩
  ·exact⟨.str "q",rfl,by simp[cP]⟩
  ·exact⟨.str "rr",rfl,by simp[cP]⟩
  ·exact⟨.str "go",rfl,by simp[cP]⟩
 refine⟨1,g,ks,(q==1)::bs,[z],[[(.str "a",1)],[(z,0)]],k',⟨by omega,by omega,by omega,by omega,fun d dm=>?_,by simp[b2,lg];omega⟩,⟨by simpa using z2,by simp,by simp,fun st h=>?_⟩,b3,?_⟩
 ·obtain⟨y,hy,e⟩:=b4 d dm
  have hy':y∈hd 1++cP g:=by simpa[hd]using hy
  rcases e with rfl|rfl
  ·exact .same hy'
  ·exact .not hy'
 ·simp only[QCq,QAz,or_false]at h
  rcases h with rfl|rfl<;>simp[hd]
 ·have hb:pP=⟨2,8,(.cons (.set 2 (.slc (.lis (.cons ABm (.cons ABl (.cons (.con (.str "rr")) (.cons (.con (.str "go")) .nil))))) .noneE (.op .add AAG (.call 35 (.cons (.var 0) (.cons (.ref 1) AAj)))))) (.cons (.set 3 AAq) (.cons (.set 4 (.lis (.cons ABy .nil))) (.cons (.set 5 AAv) (.cons (.for_ (.name 6) (.var 2) o8) (.cons (.ret (.tup (.cons (.tup (.cons (.tup (.cons AAq .nil)) (.cons ABo (.cons (.bi .tuple (.var 4)) .nil)))) (.cons (.tup (.cons (.tup (.cons (.idx (.var 2) (.neg AAG)) .nil)) (.cons (.tup (.cons (.tup (.cons (.tup (.cons AAq ABp)) .nil)) (.cons (.tup (.cons (.tup (.cons (.idx (.var 2) (.neg AAG)) ABN)) .nil)) .nil))) .nil))) .nil)))) .nil))))))⟩:=by kernel_rfl
  rw[zf,hb]
  have sl:ik (.lst [.str "p",.str "q",.str "rr",.str "go"]) none (some g)=some (.new (.lst (cP g))):=by
   rcases hg with rfl|rfl|rfl|rfl<;>rfl
  have b5':aL (.name 6) (ex (pg.cf (n+3)) o8) (cP g) [.val (sc ns),.bor (.lst [.int (k+1+1)]),.val (.lst (cP g)),.val (.str "a"),.own (.lst [.bl (q==1)]),.own (.lst []),.un,.un]=.next [.val (sc ns),.bor (.lst [.int k']),.val (.lst (cP g)),t3,.own (.lst (.bl (q==1)::bs.map .bl)),.own (.lst (aR (cP g) ks)),t6,t7]:=by simpa using b5
  simp[er,hr,eq,sl,aP,cV,E.jJ,items,b5',z1,aH,aB,dW,lU,hd]
end Tx
end
section
open PySem Mini
namespace Tx
def n8:S->S
 |.cons _ t=>t
 |s=>s
def hdS:S->S
 |.cons t _=>t
 |s=>s
def zF:S:=n8 (n8 (n8 aO.body))
def Ip n ns k(hk:0<=k):∃(kd:D)(s2:Sl),(∀g,bR (hd 2++cP g) 1 kd)/\
  ex (pg.cf (n+3)) aO.body [.val (sc ns),.bor (.lst [.int k]),.un,.un,.un,.un,.un,.un]=ex (pg.cf (n+3)) zF [.val (sc ns),.bor (.lst [.int (k+1)]),s2,.val kd,.un,.un,.un,.un]:=by
 obtain⟨r,r1,r2,er⟩:=bD n ns k 6 hk (by omega)
 have hb:aO.body=.cons (hdS aO.body) (.cons (hdS (n8 aO.body)) (.cons (hdS (n8 (n8 aO.body))) zF)):=rfl
 have sb:∀g,([.str "a",.str "b"]:List D).Sublist (hd 2++cP g):=fun g=>List.sublist_append_left _ _
 have at6:=gM
 have hh:∀g,bR (hd 2++cP g) 1 (.tup [.str "held",.tup [.str "same",.str "a"],.str "b",.bl true]):=fun g=>.held (.same (by simp[hd])) (by simp[hd])
 rcases (by omega:r=0\/r=1\/r=2\/r=3\/r=4\/r=5)with rfl|rfl|rfl|rfl|rfl|rfl
 ·refine⟨.tup [.str "both",.tup [.str "a",.str "b"]],.val (.int 0),fun g=>.both (sb g) (by simp) (by simp),?_⟩
  rw[hb];simp[aO,hdS,n8,er,aP,at?,ix?]
 ·refine⟨.tup [.str "both",.tup [.str "a",.str "b"]],.val (.int 1),fun g=>.both (sb g) (by simp) (by simp),?_⟩
  rw[hb];simp[aO,hdS,n8,er,aP,at?,ix?]
 ·refine⟨.tup [.str "and",.tup [.str "a",.str "b"]],.val (.int 2),fun g=>.and (sb g) (by simp) (by simp),?_⟩
  rw[hb];simp[aO,hdS,n8,er,aP,at?,ix?]
 ·refine⟨.tup [.str "or",.tup [.str "a",.str "b"]],.val (.int 3),fun g=>.or (sb g) (by simp) (by simp),?_⟩
  rw[hb];simp[aO,hdS,n8,er,aP,at?,ix?]
 ·refine⟨_,.val (.int 4),hh,?_⟩
  rw[hb];simp[aO,hdS,n8,er,aP,at?,ix?]
 ·refine⟨_,.val (.int 5),hh,?_⟩
  rw[hb];simp[aO,hdS,n8,er,aP,at?,ix?]
def dZ:List (List (D×Nat)):=[[(.str "a",1),(.str "b",2)],[(.str "b",3)],[(.str "a",3)],[(.str "p",0)]]
def oR g(h1:1<=g):bQ 2 g [.str "p"] dZ:=by
 refine⟨?_,by simp[dZ],by simp[dZ],fun st h=>?_⟩
 ·obtain⟨j,rfl⟩:∃j,g=j+1:=⟨g-1,by omega⟩
  simp[cP]
 ·simp only[dZ,QCq,QAz,or_false]at h
  rcases h with rfl|rfl|rfl|rfl<;>simp[hd,dZ]
def Cw n ns k(hk:0<=k):∃h g ks ls os sts k',bY h g ks ls/\bQ h g os sts/\0<=k'/\pg.fn (n+4) 43 [.val (sc ns),.bor (.lst [.int k])]=.ok (.val (.tup [aH h g ks ls,aB os sts])) [.val (sc ns),.bor (.lst [.int k'])]:=by
 obtain⟨kd,s2,a1,a2⟩:=Ip n ns k hk
 obtain⟨q,q1,q2,eq⟩:=bD n ns (k+1) 2 (by omega) (by omega)
 rcases (by omega:q=0\/q=1)with rfl|rfl
 ·obtain⟨z,z1,z2,ez⟩:=bD n ns (k+1+1) 2 (by omega) (by omega)
  refine⟨2,1,[kd],[z==1,z==1,z==1],[.str "p"],dZ,k+1+1+1,⟨by omega,by omega,by omega,rfl,fun d h=>?_,rfl⟩,oR 1 (by omega),by omega,?_⟩
  ·cases QDz.mp h;exact a1 1
  ·rw[ir,a2]
   simp[zF,aO,n8,eq,ez,aP,aH,hd,cP,aR,aB,dW,lU,dZ]
 ·obtain⟨w,w1,w2,ew⟩:=bD n ns (k+1+1) 2 (by omega) (by omega)
  obtain⟨z,z1,z2,ez⟩:=bD n ns (k+1+1+1) 2 (by omega) (by omega)
  rcases (by omega:w=0\/w=1)with rfl|rfl
  ·refine⟨2,2,[kd,.tup [.str "same",.str "p"]],[z==1,z==1,z==1,z==1],[.str "p"],dZ,k+1+1+1+1,⟨by omega,by omega,by omega,rfl,fun d h=>?_,rfl⟩,oR 2 (by omega),by omega,?_⟩
   ·simp only[QCq,QAz,or_false]at h
    rcases h with rfl|rfl
    ·exact a1 2
    ·exact .same (by simp[hd,cP])
   ·rw[ir,a2]
    simp[zF,aO,n8,eq,ew,ez,aP,aH,hd,cP,aR,aB,dW,lU,dZ,dU,yt]
  ·refine⟨2,2,[kd,.tup [.str "not",.str "p"]],[z==1,z==1,z==1, !(z==1)],[.str "p"],dZ,k+1+1+1+1,⟨by omega,by omega,by omega,rfl,fun d h=>?_,rfl⟩,oR 2 (by omega),by omega,?_⟩
   ·simp only[QCq,QAz,or_false]at h
    rcases h with rfl|rfl
    ·exact a1 2
    ·exact .not (by simp[hd,cP])
   ·rw[ir,a2]
    simp[zF,aO,n8,eq,ew,ez,aP,aH,hd,cP,aR,aB,dW,lU,dZ,dU,yt]
end Tx
end
section
open PySem Mini
namespace Tx
theorem Ej:∀(gs ks:List D)(i:Nat)(x d:D),gs[i]? =some x->ks.length=gs.length->(aR gs ks).set i (.tup [x,d])=aR gs (ks.set i d)
 |[],_,_=>fun _ _ h _=>by simp at h
 |g::gs,[],_=>fun _ _ _ h=>by simp at h
 |g::gs,k::ks,0=>fun x d h _=>by simp at h;subst h;simp[aR]
 |g::gs,k::ks,i+1=>fun x d h hl=>by simp[aR,Ej gs ks i x d (by simpa using h) (by simpa using hl)]
theorem zip_get:∀(gs ks:List D)(i:Nat),i<gs.length->ks.length=gs.length->∃x d,(aR gs ks)[i]? =some (.tup [x,d])/\gs[i]? =some x
 |[],_,_=>fun h _=>by simp at h
 |g::gs,[],_=>fun _ h=>by simp at h
 |g::gs,k::ks,0=>fun _ _=>⟨g,k,by simp[aR],rfl⟩
 |g::gs,k::ks,i+1=>fun h hl=>by
  obtain⟨x,d,a,b⟩:=zip_get gs ks i (by simpa using h) (by simpa using hl)
  exact⟨x,d,by simp[aR,a],by simpa using b⟩
def Hv n ns k(hk:0<=k){ks:List D}(O:bY h g ks ls):∃ks' k',bY h g ks' ls/\0<=k'/\
  pg.fn (n+8) 44 [.val (sc ns),.bor (.lst [.int k]),.val (aH h g ks ls)]=.ok (.val (aH h g ks' ls)) [.val (sc ns),.bor (.lst [.int k']),.val (aH h g ks ls)]:=by
 have lg:=dJ O.g5
 have lh:=iz O.h2
 have h2:=O.h2
 have g1:=O.g1
 have g5:=O.g5
 have kl:=O.kl
 have lz:(aR (cP g) ks).length=g:=by rw[Ek (by rw[lg,kl]),lg]
 obtain⟨q,q1,q2,eq⟩:=bD (n+4) ns k g hk (by omega)
 obtain⟨i,rfl⟩:∃i:Nat,q=i:=⟨q.toNat,by omega⟩
 obtain⟨d,k',a1,a2,a3⟩:=xx ns (hd h++cP g) (by simp;omega) (by simp;omega) 1 n (k+1) (by omega)
 simp only[Int.natCast_one,show n+6+1=n+7 from rfl]at a3
 obtain⟨x,y,b1,b2⟩:=zip_get (cP g) ks i (by omega) (by omega)
 refine⟨ks.set i d,k',⟨h2,g1,g5,by simp[kl],fun e he=>?_,O.ll⟩,a2,?_⟩
 ·rcases List.mem_or_eq_of_mem_set he with he|rfl
  ·exact O.kk e he
  ·exact a1
 ·have hb:cT=⟨3,6,.cons (.set 3 (.op .add _ (.bi .tuple (z8 _)))) _⟩:=rfl
  have f:fits ((hd h).length+(cP g).length)=true:=by simp[fits];omega
  have i1:at? (aR (cP g) ks) i=some (.tup [x,y]):=by rw[gM _ _ (by omega),b1]
  have i2:ix? g i=some i:=by simp[ix?];omega
  have q0:∀it,(z8 it).au=none:=fun _=>rfl
  have n0:getD (aH h g ks ls) (.int 0)=some (.tup (hd h)):=by simp[aH]
  have n1:getD (aH h g ks ls) (.int 1)=some (.tup (aR (cP g) ks)):=by simp[aH]
  have n2:getD (aH h g ks ls) (.int 2)=some (.tup (ls.map .bl)):=by simp[aH]
  rw[mR,hb]
  simp[cT,n8,sX (c:=pg.cf (n+7)) (it:=.idx (.var 2) AAG) (σ:=[.val (sc ns),.bor (.lst [.int k]),.val (aH h g ks ls),.un,.un,.un]) (cP g) ks (by omega) (by simp[aH]),q0,f,n0,n1,n2,lz,eq,a3,i1,i2,wY,Ej _ ks i x d b2 (by omega),aP]
  simp[aH]
def vq h g:bQ h g [] [[]]:=⟨by simp,by simp,by simp,fun st h=>by cases QDz.mp h;simp⟩
def Xn g(h3:3<=g):bQ 0 g [.str "q"] [[(.str "q",1)],[(.str "q",0)]]:=by
 refine⟨?_,by simp,by simp,fun st h=>?_⟩
 ·obtain⟨j,rfl⟩:∃j,g=j+2:=⟨g-2,by omega⟩
  simp[cP]
 ·simp only[QCq,QAz,or_false]at h
  rcases h with rfl|rfl<;>simp[hd]
def v7:S:=n8 (n8 (n8 (n8 (n8 bH.body))))
def Ai:S:=n8 v7
def T3 n ns k(hk:0<=k):∃h g ks ls os sts,bY h g ks ls/\bQ h g os sts/\pg.fn (n+9) 45 [.val (sc ns),.val (.int k)]=.ok (.val (.tup [aH h g ks ls,aB os sts])) [.val (sc ns),.val (.int k)]:=by
 obtain⟨r,r1,r2,er⟩:=bD (n+5) ns k 8 hk (by omega)
 by_cases c2:r<2
 ·obtain⟨h,g,ks,ls,k1,O,a1,a2⟩:=Mq n ns (k+1) (by omega) 2 (by omega) (by omega)
  obtain⟨os,sts,k2,T,b1,b2⟩:=QK (n+4) ns k1 a1 O
  exact⟨h,g,ks,ls,os,sts,O,T,by rw[dM];simp[bH,er,c2,a2,b2,aP]⟩
 have c2b:=c2
 by_cases c3:r=2
 ·subst c3
  obtain⟨h,g,ks,ls,k1,O,a1,a2⟩:=Mq n ns (k+1) (by omega) 0 (by omega) (by omega)
  exact⟨h,g,ks,ls,[],[[]],O,vq h g,by rw[dM];simp[bH,er,a2,aP,aB,dW]⟩
 by_cases c4:r=3
 ·subst c4
  obtain⟨g,ks,ls,k1,O,g3,a1,a2⟩:=Rj (n+4) ns (k+1) (by omega)
  obtain⟨q,q1,q2,eq⟩:=bD (n+5) ns k1 2 a1 (by omega)
  rcases (by omega:q=1\/q=0)with rfl|rfl
  ·exact⟨0,g,ks,ls,[],[[]],O,vq 0 g,by rw[dM];simp[bH,er,a2,eq,aP,aB,dW]⟩
  ·exact⟨0,g,ks,ls,_,_,O,Xn g g3,by rw[dM];simp[bH,er,a2,eq,aP,aB,dW,lU]⟩
 have e2:(r==2)=false:=by simpa using c3
 have e3:(r==3)=false:=by simpa using c4
 have main:∃h g ks ls os sts k1,bY h g ks ls/\bQ h g os sts/\0<=k1/\ex (pg.cf (n+8)) bH.body [.val (sc ns),.val (.int k),.un,.un,.un,.un]=ex (pg.cf (n+8)) Ai [.val (sc ns),.val (.int k),.own (.lst [.int k1]),.val (.int r),.val (aH h g ks ls),.val (aB os sts)]:=by
  have hb:bH.body=.cons _ (.cons _ (.cons _ (.cons _ (.cons _ (.cons _ Ai))))):=rfl
  by_cases c6:r<6
  ·obtain⟨h,g,ks,ls,os,sts,k1,O,T,a1,a2⟩:=O8 (n+4) ns (k+1) (by omega)
   refine⟨h,g,ks,ls,os,sts,k1,O,T,a1,?_⟩
   rw[hb]
   simp[bH,hdS,n8,v7,er,c2,e2,e3,c3,c4,c6,a2,aP,aX,dI,bL]
  ·obtain⟨h,g,ks,ls,os,sts,k1,O,T,a1,a2⟩:=Cw (n+4) ns (k+1) (by omega)
   refine⟨h,g,ks,ls,os,sts,k1,O,T,a1,?_⟩
   rw[hb]
   simp[bH,hdS,n8,v7,er,c2,e2,e3,c3,c4,c6,a2,aP,aX,dI,bL]
 obtain⟨h,g,ks,ls,os,sts,k1,O,T,a1,a2⟩:=main
 by_cases c7:r%2=1
 ·obtain⟨q,q1,q2,eq⟩:=bD (n+5) ns k1 2 a1 (by omega)
  rcases (by omega:q=1\/q=0)with rfl|rfl
  ·obtain⟨ks',k2,O',b1,b2⟩:=Hv n ns (k1+1) (by omega) O
   refine⟨h,g,ks',ls,os,sts,O',T,?_⟩
   rw[dM,a2]
   simp[Ai,v7,bH,n8,c7,eq,b2,aP]
  ·refine⟨h,g,ks,ls,os,sts,O,T,?_⟩
   rw[dM,a2]
   simp[Ai,v7,bH,n8,c7,eq,aP]
 ·refine⟨h,g,ks,ls,os,sts,O,T,?_⟩
  have c8:r%2=0:=by omega
  rw[dM,a2]
  simp[Ai,v7,bH,n8,c8,aP]
end Tx
end
section
open PySem Mini
namespace Tx
def Vr:E:=.bi .all (.comp 1 (.name 0) (.var 0) AAL ACO)
def Mv:E:=.bi .all (.comp 1 (.name 0) (.var 0) AAL (.call 4 (.cons AAb (.cons AAH ACT))))
def Zj:E:=.comp 1 (.name 0) (.var 0) AAL AAc
def zT n(h:b7 xs)(nd:xs.Nodup)st(N:Nat)(hs:(st.map (·.1)).Sublist xs)(hn:∀m∈st,m.2<N):
  pg.fn (n+3) 19 [.val (dW st),.val (.tup xs),.val (.int N)]=.ok (.val (.bl true)) [.val (dW st),.val (.tup xs),.val (.int N)]:=by
 have ll:=hs.length_le
 have e1:ev (pg.cf (n+2)) Vr [.val (dW st),.val (.tup xs),.val (.int N)]=.ok (.val (.bl true)) [.val (dW st),.val (.tup xs),.val (.int N)]:=by
  refine all1 (r:=.val (dW st)) (by simp) rfl rfl fun x hx=>?_
  obtain⟨m,_,rfl⟩:=QDq.mp hx
  simp[lU,aY (n+1) [m.1,.int m.2] 2 2 (by simp) (by simp)]
 have e2:ev (pg.cf (n+2)) Mv [.val (dW st),.val (.tup xs),.val (.int N)]=.ok (.val (.bl true)) [.val (dW st),.val (.tup xs),.val (.int N)]:=by
  refine all1 (r:=.val (dW st)) (by simp) rfl rfl fun x hx=>?_
  obtain⟨m,hm,rfl⟩:=QDq.mp hx
  have t:pg.fn (n+2) 4 [.val (.int m.2),.val (.int 0),.val (.int (N-1))]=.ok (.val (.bl true)) [.val (.int m.2),.val (.int 0),.val (.int (N-1))]:=by
   rw[zg]
   have:=Int.le_sub_one_of_lt (Int.ofNat_lt.mpr (hn m hm))
   simp[kj,aeJ,this]
  simp[lU,t]
 have e3:ev (pg.cf (n+2)) Zj [.val (dW st),.val (.tup xs),.val (.int N)]=.ok (.new (.lst (st.map (·.1)))) [.val (dW st),.val (.tup xs),.val (.int N)]:=by
  have:=tR (c:=pg.cf (n+2)) (it:=.var 0) (σ:=[.val (dW st),.val (.tup xs),.val (.int N)]) (el:=.idx (.var 0) AAH) o7 (r:=.val (dW st)) (by simp;rfl) rfl rfl fun y hy=>by
   obtain⟨m,_,rfl⟩:=QDq.mp hy
   simp[lU,o7]
  rw[List.map_map]at this
  exact this
 have hb:um=⟨3,3,(.cons (.ite (.or (.cons (.not (.call 3 (.cons (.var 0) (.cons AAH ABk)))) (.cons (.not Vr) .nil))) AAQ .nil) (.cons (.ite (.not (.call 9 (.cons (.bi .tuple Zj) (.cons (.var 1) (.cons AAH ABk))))) AAQ .nil) (.cons (.ret Mv) .nil)))⟩:=by kernel_rfl
 rw[Cg,hb]
 have q1:Zj.au=none:=rfl
 have q2:Mv.au=none:=rfl
 have t1':pg.fn _ 3 [.val (dW st),.val _,.val _]=.ok _ [.val _,.val _,.val _]:=aY (n+1) (st.map lU) 0 xs.length (by omega) (by simpa using ll)
 simp[t1',e1,e3,q1,dj n (.inl rfl) h nd hs 0 xs.length (by omega) (by simpa using ll),e2,q2]
def gl8:pg.gl 8=some (.int 12):=rfl
def wL:E:=.bi .all (.comp 1 (.name 0) AAg AAL (.call 19 (.cons (.var 0) (.cons (.var 4) (.cons (.bi .len AAe) .nil)))))
section
variable{os:List D}
def bQ.sub(T:bQ h g os sts):(hd h++os).Sublist (names h g):=(List.Sublist.refl _).append T.ou
def KJ:(cP g).Sublist (names h g):=List.sublist_append_right _ _
def CQ n(O:bY h g ks ls)(T:bQ h g os sts):pg.fn (n+4) 18 [.val (aH h g ks ls),.val (aB os sts)]=.ok (.val (.bl true)) [.val (aH h g ks ls),.val (aB os sts)]:=by
 have lg:=dJ O.g5
 have lh:=iz O.h2
 have h2:=O.h2
 have g5:=O.g5
 have s1:=T.s1
 have s4:=T.s4
 have lo:=T.ou.length_le
 have X:=bj h g
 have Nd:=names_nodup O.h2 O.g1 O.g5
 have t1:pg.fn _ 3 [.val (aB os sts),.val _,.val _]=.ok _ [.val _,.val _,.val _]:=aY (n+2) [.tup os,.tup _] 2 2 (by simp) (by simp)
 have hb:wC=⟨2,4,(.cons (.ite (.not (.call 3 (.cons (.var 1) (.cons AAP AAy)))) AAQ .nil) (.cons (.set 2 (z8 AAb)) (.cons (.ite (.or (.cons (.not (.call 9 (.cons AAi (.cons (.var 2) (.cons AAH (.cons ABx .nil)))))) (.cons (.not (.call 3 (.cons AAg (.cons AAG (.cons (.glob 8) .nil))))) .nil))) AAQ .nil) (.cons (.set 3 (.op .add AAc AAi)) (.cons (.ret wL) .nil)))))⟩:=by kernel_rfl
 have q:wL.au=none:=rfl
 have f:fits ((hd h).length+os.length)=true:=by simp[fits];omega
 have n0:getD (aH h g ks ls) (.int 0)=some (.tup (hd h)):=by simp[aH]
 have m0:getD (aB os sts) (.int 0)=some (.tup os):=by simp[aB]
 have m1:getD (aB os sts) (.int 1)=some (.tup (sts.map dW)):=by simp[aB]
 have e':ev (pg.cf (n+3)) wL [.val (aH h g ks ls),.val (aB os sts),.val (.lst (cP g)),.val (.tup (hd h++os))]=.ok (.val (.bl true)) [.val (aH h g ks ls),.val (aB os sts),.val (.lst (cP g)),.val (.tup (hd h++os))]:=by
  refine all1 (r:=.val (.tup (sts.map dW))) (by simp[aB]) rfl rfl fun x hx=>?_
  obtain⟨st,hst,rfl⟩:=QDq.mp hx
  simp[aB,zT n (fun x hx=>X x (T.sub.subset hx)) (T.sub.nodup Nd) st sts.length (T.mv st hst).1 (T.mv st hst).2]
 rw[HR,hb]
 simp[t1,sX (c:=pg.cf (n+3)) (it:=.idx (.var 0) AAG) (σ:=[.val (aH h g ks ls),.val (aB os sts),.un,.un]) (cP g) ks (by rw[O.kl,lg]) (by simp[aH]),m0,m1,n0,lg,dj (n+1) (.inr rfl) (fun x hx=>X x (KJ.subset hx)) (KJ.nodup Nd) T.ou 0 g (by omega) (by omega),aY (n+2) (sts.map dW) 1 12 (by simp;omega) (by simp;omega),gl8,f,e',q]
def qj n(O:bY h g ks ls)(T:bQ h g os sts):pg.fn (n+9) 17 [.val (aH h g ks ls),.val (aB os sts)]=.ok (.val (aB os sts)) [.val (aH h g ks ls),.val (aB os sts)]:=by
 rw[rH]
 simp[gK,DN n O,CQ (n+4) O T]
end
end Tx
end
section
open PySem Mini
namespace Tx
def lk(x:D):List (D×Nat)->Option Nat
 |[]=>none
 |m::st=>if cD m.1 x then some m.2 else lk x st
abbrev eF(st:List (D×Nat)):List D:=st.map (·.1)
abbrev uB(st:List (D×Nat)):List D:=st.map fun m=>.int m.2
def dcD(st:List (D×Nat)):D:=.cH (eF st) (uB st)
theorem FQ x:∀st,bI x (eF st) (uB st)=(lk x st).map fun j:Nat=>D.int j
 |[]=>rfl
 |m::st=>by
  simp only[Qyz,bI,lk]
  split
  ·rfl
  ·exact FQ x st
theorem FT x:∀st,aJ x (eF st)=(lk x st).isSome
 |[]=>rfl
 |m::st=>by
  simp only[Qyz,aJ,lk,FT x st]
  cases cD m.1 x<;>simp
theorem jk:∀(st:List (D×Nat))(ks vs:List D),b7 (ks++eF st)->(ks++eF st).Nodup->dictOf ks vs (st.map lU)=some (ks++eF st,vs++uB st)
 |[]=>fun ks vs _ _=>by simp[dictOf]
 |m::st=>fun ks vs h nd=>by
  obtain⟨s,e⟩:=h m.1 (by simp)
  have no:aJ m.1 ks=false:=by
   rw[e]
   have hn:=fun hm=>by
    rw[show eF _=m.1::eF st from rfl,List.nodup_append]at nd
    exact nd.2.2 _ hm _ QYz rfl
   rw[e]at hn
   have hk:=fun x hx=>h x (QWz _ hx)
   clear nd h
   induction ks with
   |nil=>rfl
   |cons y ys ih=>
    obtain⟨q,rfl⟩:=hk y QYz
    have ne:¬q=s:=fun c=>hn (by rw[c];exact QYz)
    simp[aJ,cD,ne,ih (fun c=>hn (QYq _ c)) fun x hx=>hk x (QYq _ hx)]
  have r:=jk st (ks++[m.1]) (vs++[.int m.2]) (by simpa using h) (by simpa using nd)
  rw[Qyz,show lU m=.tup [m.1,.int m.2]from rfl,dictOf,if_pos (by rw[e];rfl)]
  simp only[putD,no]
  rw[if_neg (by simp),r]
  simp
def aZ(sts:List (List (D×Nat)))(i:Nat):List (D×Nat):=sts.getD i []
end Tx
end
section
open PySem Mini
namespace Tx
def m9 n hs gs ks x(hl:ks.length=gs.length)(hf:hs.length+gs.length<=1000):
  pg.fn (n+1) 47 [.val (.tup [.tup hs,.tup (aR gs ks),x])]=.ok (.new (.lst (hs++gs))) [.val (.tup [.tup hs,.tup (aR gs ks),x])]:=
 ((zb n _).trans (mQ n _).symm).trans (fL n hs gs ks x hl hf)
def sU{xs:List D}(h:b7 xs)(hn:D.str s∉xs):aJ (.str s) xs=false:=by
 induction xs with
 |nil=>rfl
 |cons x xs ih=>
  obtain⟨q,rfl⟩:=h x QYz
  have ne:q≠s:=fun e=>hn (by rw[e];exact QYz)
  simp[aJ,cD,ne,ih (fun z hz=>h z (QYq _ hz)) fun hz=>hn (QYq _ hz)]
theorem GP:∀(xs ys ks vs:List D),ys.length=xs.length->b7 xs->b7 ks->(ks++xs).Nodup->dictOf ks vs (aR xs ys)=some (ks++xs,vs++ys)
 |[],ys=>fun ks vs hl _ _ _=>by
  have:ys=[]:=by cases ys<;>simp_all
  subst this
  simp[aR,dictOf]
 |x::xs,[]=>fun ks vs hl _ _ _=>by simp at hl
 |x::xs,y::ys=>fun ks vs hl h hk nd=>by
  obtain⟨s,rfl⟩:=h x QYz
  have hn:=fun z=>by
   have:=List.nodup_append.mp nd
   exact this.2.2 _ z _ QYz rfl
  have ih:=GP xs ys (ks++[.str s]) (vs++[y]) (by simpa using hl) (fun z hz=>h z (QYq _ hz)) (fun z hz=>by
   rcases QXz.mp hz with hz|hz
   ·exact hk z hz
   ·simp at hz;exact⟨s,hz⟩) (by simpa using nd)
  simp only[aR,dictOf,keyOk,if_true,putD,sU hk hn,Qxq,if_false]
  rw[ih]
  simp
def Ov(hl:ys.length=xs.length)(h:b7 xs)(nd:xs.Nodup):dictOf [] [] (aR xs ys)=some (xs,ys):=by
 have:=GP xs ys [] [] hl h (fun z hz=>by cases hz) (by simpa using nd)
 simpa using this
def dq(xs:List D)(bs:List Bool)(x:D):Bool:=match bI x xs (bs.map .bl)with
 |some (.bl b)=>b
 |_=>false
theorem vM{x:D}:∀{xs:List D}{bs:List Bool},b7 xs->bs.length=xs.length->x∈xs->bI x xs (bs.map .bl)=some (.bl (dq xs bs x))
 |[],_=>fun _ _ hx=>by cases hx
 |y::ys,[]=>fun _ hl _=>by simp at hl
 |y::ys,b::bs=>fun h hl hx=>by
  obtain⟨q,rfl⟩:=h x hx
  obtain⟨s,rfl⟩:=h y QYz
  by_cases e:s=q
  ·subst e
   simp[dq,bI,cD]
  ·have hx':D.str q∈ys:=by
    rcases QCq.mp hx with z|z
    ·cases z;exact absurd rfl e
    ·exact z
   have l:bI (.str q) (.str s::ys) ((b::bs).map .bl)=bI (.str q) ys (bs.map .bl):=by simp[bI,cD,e]
   have v:dq (.str s::ys) (b::bs) (.str q)=dq ys bs (.str q):=by
    unfold dq
    rw[l]
   rw[l,v]
   exact vM (fun z hz=>h z (QYq _ hz)) (by simpa using hl) hx'
def gD{xs:List D}(h:b7 xs)(hl:bs.length=xs.length)(hx:x∈xs):getD (.cH xs (bs.map .bl)) x=some (.bl (dq xs bs x)):=by
 obtain⟨q,rfl⟩:=h x hx
 exact vM h hl hx
theorem sV:∀(bs:List Bool),aJ (.bl false) (bs.map .bl)= !bs.all id
 |[]=>rfl
 |b::bs=>by cases b<;>simp[aJ,cD,sV bs]
theorem xH:∀(bs:List Bool),aJ (.bl true) (bs.map .bl)=bs.any id
 |[]=>rfl
 |b::bs=>by cases b<;>simp[aJ,cD,xH bs]
def tE(bs:List Bool):(bs.map D.bl).all flat=true:=by
 rw[List.all_eq_true]
 intro x hx
 obtain⟨b,_,rfl⟩:=QDq.mp hx
 rfl
def xG b(bs:List Bool):aG .isin (.bl b) (.lst (bs.map .bl))=some (aJ (.bl b) (bs.map .bl)):=by
 have o:fG (.bl b) (bs.map .bl)=true:=by
  unfold fG
  rw[tE]
  rfl
 show(if fG _ _ then some _ else none)=_
 rw[o]
 rfl
def Mi b(bs:List Bool):aG .notin (.bl b) (.lst (bs.map .bl))=some (!aJ (.bl b) (bs.map .bl)):=by
 have o:fG (.bl b) (bs.map .bl)=true:=by
  unfold fG
  rw[tE]
  rfl
 show(if fG _ _ then some _ else none)=_
 rw[o]
 rfl
def vz(bs:List Bool):lu (bs.map D.bl)=true:=by
 induction bs with
 |nil=>rfl
 |cons b bs ih=>simp[lu,nd,ih]
def Ds(bs:List Bool):jl (bs.map D.bl)=0:=by
 induction bs with
 |nil=>rfl
 |cons b bs ih=>simp[jl,dep,ih]
def Ms(rs:List (List Bool)):lu (rs.map aK)=true:=by
 induction rs with
 |nil=>rfl
 |cons r rs ih=>simp[lu,nd,aK,vz,ih]
def Nf(bs:List Bool)(rs:List (List Bool)):∃b,aG .isin (.tup (bs.map .bl)) (.tup (rs.map aK))=some b:=by
 have o:fG (.tup (bs.map .bl)) (rs.map aK)=true:=by
  simp[fG,nd,dep,vz,Ds,Ms]
 refine⟨aJ (.tup (bs.map .bl)) (rs.map aK),?_⟩
 show(if fG _ _ then some _ else none)=_
 rw[o]
 rfl
end Tx
end
section
open PySem Mini
namespace Tx
def sE:E:=.comp 1 (.name 0) AAb AAL (.idx (.var 3) (.var 0))
def sy:E:=.comp 1 (.name 0) AAb AAL (.idx (.var 2) (.var 0))
noncomputable def pC:Fn:=⟨3,5,(.cons (.set 3 AAc) (.cons (.ite (.cmp .eq (.var 3) AAt) (.cons (.ret ABu) .nil) .nil) (.cons (.ite (.cmp .eq (.var 3) ABw) (.cons (.ret (.not ABu)) .nil) .nil) (.cons (.ite ACN ACX .nil) (.cons (.set 4 (.bi .tuple sE)) (.cons (.ite (.cmp .eq (.var 3) AAw) ACR .nil) (.cons (.ite (.cmp .eq (.var 3) ABJ) ACQ .nil) (.cons (.ite ACM ACH .nil) AAk))))))))⟩
def iY:Eb=pC:=rfl
noncomputable def ig:Fn:=⟨3,5,(.cons (.ite (.cmp .eq AAc AAt) (.cons (.ret ABv) .nil) .nil) (.cons (.ite (.cmp .eq AAc ABw) (.cons (.ret (.not ABv)) .nil) .nil) (.cons (.ite (.cmp .eq AAc AAl) AAn .nil) (.cons (.set 4 sy) (.cons (.ite (.cmp .eq AAc ABI) ABn .nil) (.cons (.ite (.cmp .eq AAc AAw) ABj .nil) (.cons (.ite (.cmp .eq AAc ABJ) ACG .nil) (.cons (.ite AAz ABr .nil) ACP))))))))⟩
def tells_eq:j7=ig:=rfl
section
variable{bs:List Bool}
def IW n(h:b7 xs)(hl:bs.length=xs.length)(hs:ys.Sublist xs)w r s1 s3 s4:
  ev (pg.cf n) sE [.val (.tup (w:: .tup ys::r)),s1,.val (.cH xs (bs.map .bl)),s3,s4]=.ok (.new (.lst ((ys.map (dq xs bs)).map .bl))) [.val (.tup (w:: .tup ys::r)),s1,.val (.cH xs (bs.map .bl)),s3,s4]:=by
 have:=tR (c:=pg.cf n) (it:=.idx (.var 0) AAG) (el:=.idx (.var 3) (.var 0)) (σ:=[.val (.tup (w:: .tup ys::r)),s1,.val (.cH xs (bs.map .bl)),s3,s4]) (fun x=>.bl (dq xs bs x)) (r:=.val (.tup ys)) (τ:=[.val (.tup (w:: .tup ys::r)),s1,.val (.cH xs (bs.map .bl)),s3,s4]) (by simp) rfl rfl fun x hx=>by
  simp[gD h hl (hs.subset hx)]
 rw[sE,this]
 simp
def IV n(h:b7 xs)(hl:bs.length=xs.length)(hs:ys.Sublist xs)w r s2 s3 s4:
  ev (pg.cf n) sy [.val (.tup (w:: .tup ys::r)),.val (.cH xs (bs.map .bl)),s2,s3,s4]=.ok (.new (.lst ((ys.map (dq xs bs)).map .bl))) [.val (.tup (w:: .tup ys::r)),.val (.cH xs (bs.map .bl)),s2,s3,s4]:=by
 have:=tR (c:=pg.cf n) (it:=.idx (.var 0) AAG) (el:=.idx (.var 2) (.var 0)) (σ:=[.val (.tup (w:: .tup ys::r)),.val (.cH xs (bs.map .bl)),s2,s3,s4]) (fun x=>.bl (dq xs bs x)) (r:=.val (.tup ys)) (τ:=[.val (.tup (w:: .tup ys::r)),.val (.cH xs (bs.map .bl)),s2,s3,s4]) (by simp) rfl rfl fun x hx=>by
  simp[gD h hl (hs.subset hx)]
 rw[sy,this]
 simp
def nu(h:b7 xs)(hl:bs.length=xs.length)(hs:ys.Sublist xs)w r:∃row:List Bool,row.length=ys.length/\
  (∀(n:Nat)(s1 s3 s4:Sl),ev (pg.cf n) sE [.val (.tup (w:: .tup ys::r)),s1,.val (.cH xs (bs.map .bl)),s3,s4]=.ok (.new (.lst (row.map .bl))) [.val (.tup (w:: .tup ys::r)),s1,.val (.cH xs (bs.map .bl)),s3,s4])/\
  (∀(n:Nat)(s2 s3 s4:Sl),ev (pg.cf n) sy [.val (.tup (w:: .tup ys::r)),.val (.cH xs (bs.map .bl)),s2,s3,s4]=.ok (.new (.lst (row.map .bl))) [.val (.tup (w:: .tup ys::r)),.val (.cH xs (bs.map .bl)),s2,s3,s4]):=
 ⟨ys.map _,by simp,fun n s1 s3 s4=>IW n h hl hs w r s1 s3 s4,fun n s2 s3 s4=>IV n h hl hs w r s2 s3 s4⟩
def Agree(xs:List D)(bs:List Bool)(i j:Nat)(d:D)(own b:Bool):Prop:=
 pg.fn i 15 [.val d,.val (.bl own),.val (.cH xs (bs.map .bl))]=.ok (.val (.bl b)) [.val d,.val (.bl own),.val (.cH xs (bs.map .bl))]/\
 pg.fn j 48 [.val d,.val (.cH xs (bs.map .bl)),.val (.bl own)]=.ok (.val (.bl b)) [.val d,.val (.cH xs (bs.map .bl)),.val (.bl own)]
def I9 n k:n+1+2*k=n+2*k+1:=Nat.add_right_comm n 1 _
def I8 m k:m+1+k=m+k+1:=Nat.add_right_comm m 1 k
def af2 n k:n+1+2*(k+1)=n+1+2*k+1+1:=rfl
def J9(h:b7 xs)(hl:bs.length=xs.length):∀{k:Nat}{d:D},bR xs k d->∀own:Bool,∃b,∀n m:Nat,Agree xs bs (n+1+2*k) (m+1+k) d own b:=by
 intro k d hk
 have q1:sE.au=none:=rfl
 have q2:sy.au=none:=rfl
 induction hk with
 | @same k x hx=>
  intro own
  have e:=gD h hl hx
  refine⟨dq xs bs x,fun n m=>⟨?_,?_⟩⟩
  ·rw[I9,mj,iY]
   simp[pC,e]
  ·rw[I8,cW,tells_eq]
   simp[ig,e]
 | @not k x hx=>
  intro own
  have e:=gD h hl hx
  refine⟨!dq xs bs x,fun n m=>⟨?_,?_⟩⟩
  ·rw[I9,mj,iY]
   simp[pC,e]
  ·rw[I8,cW,tells_eq]
   simp[ig,e]
 | @and k ys hs h1 h2=>
  intro own
  obtain⟨row,_,e1,e2⟩:=nu h hl hs (.str "and") []
  refine⟨row.all id,fun n m=>⟨?_,?_⟩⟩
  ·rw[I9,mj,iY]
   simp[pC,e1,q1,j5 row]
  ·rw[I8,cW,tells_eq]
   simp[ig,e2,q2,Mi,sV]
 | @or k ys hs h1 h2=>
  intro own
  obtain⟨row,_,e1,e2⟩:=nu h hl hs (.str "or") []
  refine⟨row.any id,fun n m=>⟨?_,?_⟩⟩
  ·rw[I9,mj,iY]
   simp[pC,e1,q1,j5 row]
  ·rw[I8,cW,tells_eq]
   simp[ig,e2,q2,xG,xH]
 | @both k ys hs h1 h2=>
  intro own
  obtain⟨row,hr,e1,e2⟩:=nu h hl hs (.str "both") []
  refine⟨row.all id||(own&&row.any id),fun n m=>⟨?_,?_⟩⟩
  ·rw[I9,mj,iY]
   cases ha:row.all id<;>cases own<;>simp[pC,e1,q1,j5 row,ha]
  ·obtain⟨b0,row',rfl⟩:∃b0 row',row=b0::row':=by
    cases row with
    |nil=>simp at hr;omega
    |cons b r=>exact⟨b,r,rfl⟩
   rw[I8,cW,tells_eq]
   have i1:=xG true (b0::row')
   have i2:=xG false (b0::row')
   rw[xH]at i1
   rw[sV]at i2
   cases ha:(b0::row').all id with
   |true=>
    have hb0:b0=true:=by simp at ha;exact ha.1
    have hn:(b0::row').any id=true:=by simp[hb0]
    rw[ha]at i2
    simp[ig,e2,q2,i1,i2,hb0]
    simp_all
   |false=>
    cases hn:(b0::row').any id with
    |true=>
     rw[hn]at i1
     rw[ha]at i2
     simp only[Qyz]at i1 i2 e2
     simp[ig,e2,q2,i1,i2]
    |false=>
     rw[hn]at i1
     simp[ig,e2,q2,i1,i2,(by simp at hn;exact hn.1)]
     simp_all
 | @table k ys rs hs h1 h2 hr hi=>
  intro own
  obtain⟨row,_,e1,e2⟩:=nu h hl hs (.str "table") [.tup (rs.map aK)]
  obtain⟨b,eb⟩:=Nf row rs
  refine⟨b,fun n m=>⟨?_,?_⟩⟩
  ·rw[I9,mj,iY]
   simp[pC,e1,q1,eb]
  ·rw[I8,cW,tells_eq]
   simp[ig,e2,q2,eb]
 | @held k d x bb hk hx ih=>
  intro own
  obtain⟨b,ib⟩:=ih own
  have e:=gD h hl hx
  have hh:∀n,pg.fn (n+1+2*k+1) 16 [.val (.tup [.str "held",d,x,.bl bb]),.val (.bl own),.val (.cH xs (bs.map .bl))]=.ok (.val (.bl (if _==bb then b else own))) [.val (.tup [.str "held",d,x,.bl bb]),.val (.bl own),.val (.cH xs (bs.map .bl))]:=fun n=>by
   rw[yW]
   cases hc:((dq xs bs x==b)==bb)<;>simp[j6,(fun n=>(ib n 0).1),e,hc]
  refine⟨if (dq xs bs x==b)==bb then b else own,fun n m=>⟨?_,?_⟩⟩
  ·rw[af2,mj,iY]
   simp[pC,hh]
  ·rw[<-Nat.add_assoc,cW,tells_eq]
   have hx2:(dq xs bs x==(b==bb))=((dq xs bs x==b)==bb):=by cases dq xs bs x<;>cases b<;>cases bb<;>rfl
   cases hc:((dq xs bs x==b)==bb)<;>rw[hc]at hx2<;>simp[ig,(fun m=>(ib 0 m).2),e,hx2,aP,b2i]
end
end Tx
end
section
open PySem Mini
namespace Tx
section
def J0:E:=.comp 2 (.tup [0,1]) AAb AAm (.var 0)
def JZ:E:=.comp 1 (.name 0) AAb AAu AAc
theorem JB(O:bY h g ks ls)(hl:bs.length=(names h g).length):∃zs:List D,zs.Sublist (cP g)/\∀n m:Nat,
  pg.fn (n+4) 14 [.val (aH h g ks ls),.val (aK bs)]=.ok (.new (.lst zs)) [.val (aH h g ks ls),.val (aK bs)]/\
  pg.fn (m+3) 49 [.val (aH h g ks ls),.val (aK bs)]=.ok (.new (.lst zs)) [.val (aH h g ks ls),.val (aK bs)]:=by
 have T:=bj h g
 have lg:=dJ O.g5
 have lh:=iz O.h2
 have ag:∀k own,∃b,bR _ 1 k->∀n m,Agree _ bs (n+3) (m+2) k own b:=fun k own=>by
  by_cases hk:bR (names h g) 1 k
  ·obtain⟨b,z⟩:=J9 T hl hk own
   exact⟨b,fun _=>z⟩
  ·exact⟨true,fun z=>absurd z hk⟩
 have sk:∃F:D->Bool->Bool,∀k own,bR _ 1 k->∀n m,Agree (names h g) bs (n+3) (m+2) k own (F k own):=
  ⟨fun k own=>Classical.choose (ag k own),fun k own=>Classical.choose_spec (ag k own)⟩
 obtain⟨F,hF⟩:=sk
 let p:D×D->Bool:=fun x=> !(F x.2 (dq (names h g) bs x.1)==dq (names h g) bs x.1)
 have mem:∀x∈(cP g).zip ks,x.1∈names h g/\bR _ 1 x.2:=fun x hx=>⟨QVq _ (List.of_mem_zip hx).1,O.kk x.2 (List.of_mem_zip hx).2⟩
 obtain⟨x0,ps,zeq⟩:∃x0 ps,(cP g).zip ks=x0::ps:=by
  cases q:(cP g).zip ks with
  |nil=>
   have:=congrArg List.length q
   rw[List.length_zip,lg,O.kl]at this
   have:=O.g1
   simp at*
   omega
  |cons x ps=>exact⟨x,ps,rfl⟩
 have dz:dictOf [] [] _=some (names h g,bs.map .bl):=Ov (by simpa using hl) T (names_nodup O.h2 O.g1 O.g5)
 refine⟨(((cP g).zip ks).filter p).map (·.1),?_,fun n m=>?_⟩
 ·have s1:((((cP g).zip ks).filter p).map (·.1)).Sublist _:=(List.filter_sublist).map _
  rw[(List.map_fst_zip (by rw[lg,O.kl];exact QVz _))]at s1
  exact s1
 have w1:pg.fn (n+3) 13 [.val (aH h g ks ls)]=.ok (.new (.lst (names h g))) [.val _]:=
  fL (n+2) (hd h) (cP g) ks _ (by rw[O.kl,lg]) (by have:=O.h2;have:=O.g5;omega)
 have w2:pg.fn (m+2) 47 [.val (aH h g ks ls)]=.ok (.new (.lst (names h g))) [.val _]:=
  m9 (m+1) (hd h) (cP g) ks _ (by rw[O.kl,lg]) (by have:=O.h2;have:=O.g5;omega)
 have e1:ev (pg.cf (n+3)) J0 [.val (aH h g ks ls),.val (aK bs),.own (.dct (names h g) (bs.map .bl))]=.ok (.new (.lst ((((cP g).zip ks).filter p).map (·.1)))) [.val (aH h g ks ls),.val (aK bs),.val (.cH (names h g) (bs.map .bl))]:=by
  rw[zeq]at mem⊢
  have c0:∀x,x∈x0::ps->∀s:Sl,(s=.own (.dct (names h g) (bs.map .bl))\/s=.val (.cH (names h g) (bs.map .bl)))->ev (pg.cf (n+3)) AAm [.val x.1,.val x.2,.val (aH h g ks ls),.val (aK bs),s]=.ok (.val (.bl (p x))) [.val x.1,.val x.2,.val (aH h g ks ls),.val (aK bs),.val (.cH (names h g) (bs.map .bl))]:=fun x hx s hs=>by
   obtain⟨m1,m2⟩:=mem x hx
   rcases hs with rfl|rfl<;>simp[gD T hl m1,(hF x.2 (dq (names h g) bs x.1) m2 n m).1,p]
  have it:items (.tup (aR (cP g) ks))=some ((x0::ps).map pairD):=by show some _=some _;rw[cQ,zeq]
  exact Zy (·.1) p (r:=.val _) (by simp[aH]) rfl it (c0 x0 QYz _ (.inl rfl)) (fun x hx=>c0 x (QYq _ hx) _ (.inr rfl)) (fun x _ _=>by simp)
 have e2:ev (pg.cf (m+2)) JZ [.val (aH h g ks ls),.val (aK bs),.own (.dct (names h g) (bs.map .bl))]=.ok (.new (.lst ((((cP g).zip ks).filter p).map (·.1)))) [.val (aH h g ks ls),.val (aK bs),.val (.cH (names h g) (bs.map .bl))]:=by
  rw[zeq]at mem⊢
  let p':D->Bool:=fun d=>match d with|.tup [a,k]=>p (a,k)|_=>false
  let f':D->D:=fun d=>match d with|.tup (a::_)=>a|_=>.non
  have fm:∀xs:List (D×D),((xs.map pairD).filter p').map f'=(xs.filter p).map (·.1):=by
   intro xs
   induction xs with
   |nil=>rfl
   |cons x xs ih=>
    have hp:p' (pairD x)=p x:=rfl
    rw[Qyz,List.filter_cons,List.filter_cons,hp]
    cases p x with
    |true=>simp only[if_true,Qyz,ih];rfl
    |false=>simp only[Qxq,if_false,ih]
  have c0:∀x,x∈x0::ps->∀s:Sl,(s=.own (.dct (names h g) (bs.map .bl))\/s=.val (.cH (names h g) (bs.map .bl)))->ev (pg.cf (m+2)) AAu [.val (pairD x),.val (aH h g ks ls),.val (aK bs),s]=.ok (.val (.bl (p' (pairD x)))) [.val (pairD x),.val (aH h g ks ls),.val (aK bs),.val (.cH (names h g) (bs.map .bl))]:=fun x hx s hs=>by
   obtain⟨m1,m2⟩:=mem x hx
   rcases hs with rfl|rfl<;>simp[gD T hl m1,(hF x.2 (dq (names h g) bs x.1) m2 n m).2,p',p,pairD]
  have it:items (.tup (aR (cP g) ks))=some (pairD x0::ps.map pairD):=by show some _=some _;rw[cQ,zeq];rfl
  have:=Zz (el:=.idx (.var 0) AAH) (it:=.idx (.var 0) AAG) (σ:=[.val (aH h g ks ls),.val (aK bs),.own (.dct (names h g) (bs.map .bl))]) f' p' (r:=.val _) (by simp[aH]) rfl it (c0 x0 QYz _ (.inl rfl)) (fun y hy=>by
   obtain⟨x,hx,rfl⟩:=QDq.mp hy
   exact c0 x (QYq _ hx) _ (.inr rfl)) (fun y hy _=>by
   rw[<-Qyz]at hy
   obtain⟨x,hx,rfl⟩:=QDq.mp hy
   simp[pairD,f'])
  rw[<-Qyz,fm]at this
  exact this
 refine⟨?_,?_⟩
 ·have hb:jz=⟨2,3,(.cons (.set 2 (.bi .dict (.zip ACV (.var 1)))) (.cons (.ret J0) .nil))⟩:=by kernel_rfl
  have q:J0.au=none:=rfl
  have z:bG (aK bs)=some _:=rfl
  rw[pY,hb]
  simp[w1,z,dz,e1,q]
 ·have hb:lW=⟨2,3,(.cons (.set 2 (.bi .dict (.bi .list (.zip (.call 47 AAT) (.var 1))))) (.cons (.ret JZ) .nil))⟩:=by kernel_rfl
  have q:JZ.au=none:=rfl
  have z:bG (aK bs)=some _:=rfl
  rw[uE,hb]
  simp[w2,z,dz,e2,q]
end
end Tx
end
section
open PySem Mini
namespace Tx
structure Wt(h g:Nat)(ks:List D)(ls:List Bool)(W:List Bool->List D):Prop where
 sub:∀bs,bs.length=(names h g).length->(W bs).Sublist (cP g)
 pr:∀bs,bs.length=(names h g).length->∀n,pg.fn (n+4) 14 [.val (aH h g ks ls),.val (aK bs)]=.ok (.new (.lst (W bs))) [.val (aH h g ks ls),.val (aK bs)]
 lw:∀bs,bs.length=(names h g).length->∀n,pg.fn (n+3) 49 [.val (aH h g ks ls),.val (aK bs)]=.ok (.new (.lst (W bs))) [.val (aH h g ks ls),.val (aK bs)]
def aaU{ks:List D}(O:bY h g ks ls):∃W,Wt h g ks ls W:=by
 have ag:∀bs:List Bool,∃zs:List D,bs.length=(names h g).length->zs.Sublist _/\∀n m:Nat,pg.fn _ 14 [.val _,.val _]=.ok _ [.val _,.val _]/\pg.fn _ 49 [.val _,.val _]=.ok _ [.val _,.val _]:=fun bs=>by
  by_cases hl:bs.length=(names h g).length
  ·obtain⟨zs,z⟩:=JB O hl
   exact⟨zs,fun _=>z⟩
  ·exact⟨[],fun z=>absurd z hl⟩
 exact⟨fun bs=>Classical.choose _,fun bs hl=>(Classical.choose_spec (ag bs) hl).1,fun bs hl n=>((Classical.choose_spec (ag bs) hl).2 n 0).1,fun bs hl n=>((Classical.choose_spec (ag bs) hl).2 0 n).2⟩
def j0{xs:List D}(h:b7 xs):aJ (.str s) xs=true↔D.str s∈xs:=by
 constructor
 ·intro z
  by_cases c:D.str s∈xs
  ·exact c
  ·rw[sU h c]at z;cases z
 ·intro z;exact jj z h
theorem Vy(hw:oZ .str w=false):∀{xs:List D},b7 xs->aJ w xs=false
 |[]=>fun _=>rfl
 |x::xs=>fun h=>by
  obtain⟨s,rfl⟩:=h x QYz
  rw[aJ,Vy hw fun y hy=>h y (QYq _ hy),Bool.or_false]
  cases w<;>first|rfl|cases hw
def Dl{W L:List D}(s:W.Sublist L):b7 L->L.Nodup->L.filter (fun x=>aJ x W)=W:=by
 induction s with
 |slnil=>intro _ _;rfl
 | @cons l₁ l₂ a s ih=>
  intro t nd
  rw[List.nodup_cons]at nd
  obtain⟨q,rfl⟩:=t a QYz
  have t2:=fun x hx=>t x (QYq _ hx)
  rw[List.filter_cons,sU (fun x hx=>t2 x (s.subset hx)) fun z=>nd.1 (s.subset z)]
  exact ih t2 nd.2
 | @cons_cons l₁ l₂ a s ih=>
  intro t nd
  rw[List.nodup_cons]at nd
  obtain⟨q,rfl⟩:=t a QYz
  have t2:=fun x hx=>t x (QYq _ hx)
  have yes:aJ (.str q) (D.str q::l₁)=true:=by simp[aJ,cD]
  rw[List.filter_cons,yes,if_pos rfl]
  congr 1
  refine Eq.trans (List.filter_congr fun x hx=>?_) (ih t2 nd.2)
  obtain⟨u,rfl⟩:=t2 x hx
  have ne:¬q=u:=fun e=>nd.1 (by rw[e];exact hx)
  simp[aJ,cD,ne]
theorem vV x:∀xs ys:List D,aJ x (xs++ys)=(aJ x xs||aJ x ys)
 |[]=>fun ys=>rfl
 |y::xs=>fun ys=>by simp[aJ,vV x xs ys,Bool.or_assoc]
abbrev St:=List Bool×Nat
def aq(s:St):D:=.tup [aK s.1,.int s.2]
section
variable{os:List D}{sts:List (List (D×Nat))}
structure JP(h g:Nat)(sts:List (List (D×Nat)))(s:St):Prop where
 l:s.1.length=(names h g).length
 j:s.2<sts.length
def jR(h:Nat)(sts:List (List (D×Nat)))(W:List Bool->List D)(s:St):List D:=(hd h).filter (fun x=>(lk x (aZ sts s.2)).isSome)++W s.1
def gY h:b7 (hd h):=fun x hx=>bj h 0 x (QWz _ hx)
def kJ g:b7 (cP g):=fun x hx=>bj 0 g x (QVq _ hx)
def jT(hj:j<sts.length):aZ sts j∈sts:=by simp[aZ,hj]
def oh(hj:j<sts.length):at? (sts.map dW) (j:Int)=some (dW (aZ sts j)):=by
 rw[gM _ _ (by simpa using hj)]
 simp[aZ,hj]
def qR(Wk:Wt h g ks ls W)(S:JP h g sts s):(jR h sts W s).Sublist (names h g):=(List.filter_sublist).append (Wk.sub s.1 S.l)
def f9(T:bQ h g os sts)(O:bY h g ks ls)(hj:j<sts.length):b7 (eF (aZ sts j))/\(eF (aZ sts j)).Nodup:=by
 have:=(T.mv _ (jT hj)).1
 exact⟨fun x hx=>bj h g x (T.sub.subset (this.subset hx)),this.nodup (T.sub.nodup (names_nodup O.h2 O.g1 O.g5))⟩
def stC:E:=.comp 1 (.name 0) AAc (.cmp .isin (.var 0) (.var 4)) (.var 0)
def yO n(O:bY h g ks ls)(T:bQ h g os sts)(Wk:Wt h g ks ls W)(S:JP h g sts s):
  pg.fn (n+5) 22 [.val (aH h g ks ls),.val (aB os sts),.val (aq s)]=.ok (.new (.lst (jR h sts W s))) [.val (aH h g ks ls),.val (aB os sts),.val (aq s)]:=by
 have K:=f9 T O S.j
 have e:ev (pg.cf (n+4)) stC [.val (aH h g ks ls),.val (aB os sts),.val (aq s),.own (.dct (eF (aZ sts s.2)) (uB (aZ sts s.2)))]=.ok (.new (.lst ((hd h).filter fun x=>(lk x (aZ sts s.2)).isSome))) [.val (aH h g ks ls),.val (aB os sts),.val (aq s),.own (.dct (eF (aZ sts s.2)) (uB (aZ sts s.2)))]:=by
  have:=yd (c:=pg.cf (n+4)) (it:=.idx (.var 0) AAH) (co:=.cmp .isin (.var 0) (.var 4)) (el:=.var 0) (σ:=[.val (aH h g ks ls),.val (aB os sts),.val (aq s),.own (.dct (eF (aZ sts s.2)) (uB (aZ sts s.2)))]) (τ:=[.val (aH h g ks ls),.val (aB os sts),.val (aq s),.own (.dct (eF (aZ sts s.2)) (uB (aZ sts s.2)))]) (r:=.val (.tup (hd h))) (fun x=>x) (fun x=>(lk x (aZ sts s.2)).isSome) (by simp[aH]) rfl rfl (fun x hx=>by
   obtain⟨q,rfl⟩:=gY h x hx
   have:aG .isin (.str q) (.cH (eF (aZ sts s.2)) (uB (aZ sts s.2)))=some (lk (.str q) (aZ sts s.2)).isSome:=by rw[<-FT];rfl
   simp[this,Ob.d]) (fun x _ _=>by simp)
  rw[List.map_id']at this
  exact this
 have t1:getD (aB os sts) (.int 1)=some (.tup (sts.map dW)):=by simp[aB]
 have s0:getD (aq s) (.int 0)=some (aK s.1):=by simp[aq]
 have s1:getD (aq s) (.int 1)=some (.int s.2):=by simp[aq]
 have sl:=(qR Wk S).length_le
 have nl:=fD O.h2 O.g5
 have h2:=O.h2
 have g5:=O.g5
 have f:fits (((hd h).filter fun x=>(lk x (aZ sts s.2)).isSome).length+(W s.1).length)=true:=by
  simp only[jR,QTq]at sl
  simp[fits]
  omega
 have hb:ud=⟨3,4,(.cons (.set 3 (.bi .dict ACS)) (.cons (.ret (.op .add stC (.call 14 ABd))) .nil))⟩:=by kernel_rfl
 rw[BL,hb]
 simp[t1,s0,s1,oh S.j,dW,jk _ [] [] (by simpa using K.1) (by simpa using K.2),e,Wk.pr s.1 S.l n,f,jR]
end
end Tx
end
section
open PySem Mini
namespace Tx
section
variable{os:List D}
theorem My{x:D}:∀{st:List (D×Nat)},b7 (eF st)->(∃s,x=.str s)->((lk x st).isSome=true↔x∈eF st)
 |[],_,_=>by simp[lk]
 |m::st,t,⟨s,hs⟩=>by
  subst hs
  rw[<-FT,j0 t]
def lsM:E:=.comp 1 (.name 0) ACS (.cmp .isin AAc AAi) AAc
def lsN:E:=.comp 1 (.name 0) (.call 47 AAT) (.cmp .isin (.var 0) (.var 4)) (.var 0)
def Jf(h:Nat)(st:List (D×Nat)):List D:=(st.filter fun m=>aJ m.1 (hd h)).map (·.1)
def lN n(O:bY h g ks ls):pg.fn (n+1) 47 [.val (aH h g ks ls)]=.ok (.new (.lst (names h g))) [.val (aH h g ks ls)]:=
 m9 n (hd h) _ ks _ (by rw[O.kl,dJ O.g5]) (by rw[iz O.h2,dJ O.g5];have:=O.h2;have:=O.g5;omega)
def zW(O:bY h g ks ls)(hx:x∈hd h):x∉cP g:=fun hs=>by
 have nd:=names_nodup O.h2 O.g1 O.g5
 rw[names,List.nodup_append]at nd
 exact nd.2.2 _ hx _ hs rfl
def Kp(O:bY h g ks ls)(T:bQ h g os sts)(Wk:Wt h g ks ls W)(S:JP h g sts s):(names h g).filter (fun x=>aJ x (Jf h (aZ sts s.2)++W s.1))=jR h sts W s:=by
 have K:=f9 T O S.j
 have ws:=Wk.sub s.1 S.l
 have tW:=fun x hx=>kJ g x (ws.subset hx)
 have iA:b7 (Jf h _):=fun x hx=>by
  obtain⟨m,hm,rfl⟩:=QDq.mp hx
  exact K.1 m.1 (QTz (List.mem_filter.mp hm).1)
 have tI:b7 _:=fun x hx=>by
  rcases QXz.mp hx with z|z
  ·exact iA x z
  ·exact tW x z
 have hI:∀q:Str,D.str q∈Jf h (aZ sts s.2)↔D.str q∈hd h/\D.str q∈eF _:=fun q=>by
  constructor
  ·intro z
   obtain⟨m,hm,e⟩:=QDq.mp z
   obtain⟨a,b⟩:=List.mem_filter.mp hm
   rw[e]at b
   exact⟨(j0 (gY h)).mp b,by rw[<-e];exact QTz a⟩
  ·rintro ⟨a,b⟩
   obtain⟨m,hm,e⟩:=QDq.mp b
   refine QDq.mpr ⟨m,List.mem_filter.mpr ⟨hm,?_⟩,e⟩
   rw[show m.1=D.str q from e]
   exact(j0 (gY h)).mpr a
 rw[names,List.filter_append,jR]
 congr 1
 ·refine List.filter_congr fun x hx=>?_
  obtain⟨q,rfl⟩:=gY h x hx
  rw[Bool.eq_iff_iff,j0 tI,My K.1 ⟨q,rfl⟩,QXz,hI]
  exact⟨fun z=>z.elim (fun a=>a.2) fun a=>absurd (ws.subset a) (zW O hx),fun z=>.inl ⟨hx,z⟩⟩
 ·refine Eq.trans (List.filter_congr fun x hx=>?_) (Dl ws (kJ g) ((List.sublist_append_right (hd h) _).nodup (names_nodup O.h2 O.g1 O.g5)))
  obtain⟨q,rfl⟩:=kJ g x hx
  rw[Bool.eq_iff_iff,j0 tI,j0 tW,QXz,hI]
  exact⟨fun z=>z.elim (fun a=>absurd hx (zW O a.1)) fun a=>a,.inr⟩
def eG{xs:List D}(t:b7 xs):aG .isin (.str q) (.lst xs)=some (aJ (.str q) xs)/\aG .isin (.str q) (.tup xs)=some (aJ (.str q) xs)/\aG .notin (.str q) (.tup xs)=some (!aJ (.str q) xs):=by
 have o:fG (.str q) xs=true:=by unfold fG;rw[lF t];rfl
 refine⟨?_,?_,?_⟩
 ·show(if fG _ xs then some _ else none)=_;rw[o];rfl
 ·show(if fG _ xs then some _ else none)=_;rw[o];rfl
 ·show(if fG _ xs then some _ else none)=_;rw[o];rfl
theorem gF(p:D->Bool):∀st:List (D×Nat),((st.map lU).filter fun d=>match d with|.tup (a::_)=>p a|_=>false).map o7=(st.filter fun m=>p m.1).map (·.1)
 |[]=>rfl
 |m::st=>by
  rw[Qyz,List.filter_cons,List.filter_cons,show(match lU m with|.tup (a::_)=>p a|_=>false)=p m.1 from rfl]
  cases p m.1
  ·exact gF p st
  ·simp only[if_true,Qyz,gF p st];rfl
def xr n(O:bY h g ks ls)(T:bQ h g os sts)(Wk:Wt h g ks ls W)(S:JP h g sts s):
  pg.fn (n+4) 50 [.val (aH h g ks ls),.val (aB os sts),.val (aq s)]=.ok (.new (.lst (jR h sts W s))) [.val (aH h g ks ls),.val (aB os sts),.val (aq s)]:=by
 have K:=f9 T O S.j
 have t1:getD (aB os sts) (.int 1)=some (.tup (sts.map dW)):=by simp[aB]
 have n0:getD (aH h g ks ls) (.int 0)=some (.tup (hd h)):=by simp[aH]
 have s0:getD (aq s) (.int 0)=some (aK s.1):=by simp[aq]
 have s1:getD (aq s) (.int 1)=some (.int s.2):=by simp[aq]
 have e1:ev (pg.cf (n+3)) lsM [.val (aH h g ks ls),.val (aB os sts),.val (aq s),.un]=.ok (.new (.lst (Jf h (aZ sts s.2)))) [.val (aH h g ks ls),.val (aB os sts),.val (aq s),.un]:=by
  have:=yd (c:=pg.cf (n+3)) (it:=.idx AAg AAe) (co:=.cmp .isin AAc AAi) (el:=.idx (.var 0) AAH) (σ:=[.val (aH h g ks ls),.val (aB os sts),.val (aq s),.un]) (τ:=[.val (aH h g ks ls),.val (aB os sts),.val (aq s),.un]) (r:=.val (dW (aZ sts s.2))) o7 (fun d=>match d with|.tup (a::_)=>aJ a (hd h)|_=>false) (by simp[t1,s1,oh S.j]) rfl rfl (fun x hx=>by
   obtain⟨m,hm,rfl⟩:=QDq.mp hx
   obtain⟨q,eq⟩:=K.1 m.1 (QTz hm)
   simp[lU,n0,eq,(eG (q:=q) (gY h)).2.1]) (fun x hx _=>by
   obtain⟨m,hm,rfl⟩:=QDq.mp hx
   simp[lU,o7])
  rw[gF fun a=>aJ a (hd h)]at this
  exact this
 have tI:b7 (Jf h _++W s.1):=fun x hx=>by
  rcases QXz.mp hx with z|z
  ·obtain⟨m,hm,rfl⟩:=QDq.mp z
   exact K.1 m.1 (QTz (List.mem_filter.mp hm).1)
  ·exact kJ g x ((Wk.sub s.1 S.l).subset z)
 have e2:ev (pg.cf (n+3)) lsN [.val (aH h g ks ls),.val (aB os sts),.val (aq s),.own (.lst (Jf h (aZ sts s.2)++W s.1))]=.ok (.new (.lst (jR h sts W s))) [.val (aH h g ks ls),.val (aB os sts),.val (aq s),.own (.lst (Jf h (aZ sts s.2)++W s.1))]:=by
  have:=yd (c:=pg.cf (n+3)) (it:=.call 47 AAT) (co:=.cmp .isin (.var 0) (.var 4)) (el:=.var 0) (σ:=[.val (aH h g ks ls),.val (aB os sts),.val (aq s),.own (.lst (Jf h (aZ sts s.2)++W s.1))]) (τ:=[.val (aH h g ks ls),.val (aB os sts),.val (aq s),.own (.lst (Jf h (aZ sts s.2)++W s.1))]) (r:=.new (.lst (names h g))) (fun x=>x) (fun x=>aJ x (Jf h (aZ sts s.2)++W s.1)) (by simp[lN (n+2) O]) rfl rfl (fun x hx=>by
   obtain⟨q,rfl⟩:=bj h g x hx
   simp[(eG (q:=q) tI).1,Ob.d]) (fun x _ _=>by simp)
  rw[List.map_id',Kp O T Wk S]at this
  exact this
 have f:fits ((Jf h (aZ sts s.2)).length+(W s.1).length)=true:=by
  have a:(Jf h (aZ sts s.2)).length<=(aZ sts s.2).length:=by rw[Jf,QAq];exact List.length_filter_le _ _
  have b:=(T.mv _ (jT S.j)).1.length_le
  have c:=(Wk.sub s.1 S.l).length_le
  have d:=T.sub.length_le
  have nl:=fD O.h2 O.g5
  have h2:=O.h2
  have g5:=O.g5
  have:=dJ O.g5
  simp at b
  simp only[QTq]at d
  simp[fits]
  omega
 have hb:pN=⟨3,4,(.cons (.set 3 lsM) (.cons (.set 3 (.op .add (.var 3) (.call 49 ABd))) (.cons (.ret lsN) .nil)))⟩:=by kernel_rfl
 have q:lsN.au=none:=rfl
 rw[za,hb]
 simp[e1,Wk.lw s.1 S.l n,s0,f,Ob.d,e2,q]
end
end Tx
end
section
open PySem Mini
namespace Tx
section
def cJ(xs:List D)(bs:List Bool)(x:D):List Bool:=(xs.zip bs).map fun p=>if cD p.1 x then !p.2 else p.2
def tB{bs:List Bool}(hl:bs.length=xs.length)x:(cJ xs bs x).length=xs.length:=by simp[cJ,hl]
def chF(x:D)(p:D×D):D:=match p.2 with
 |.bl b=>.bl (if cD p.1 x then !b else b)
 |d=>d
theorem Hb x:∀(xs:List D)(bs:List Bool),(xs.zip (bs.map D.bl)).map (chF x)=(cJ xs bs x).map .bl
 |[],bs=>by simp[cJ]
 |_::_,[]=>by simp[cJ]
 |y::xs,b::bs=>by
  have:=Hb x xs bs
  simp only[cJ]at this⊢
  simp[chF,this]
def chC:E:=.comp 2 (.tup [0,1]) (.zip ACV (.var 1)) AAL (.ite (.cmp .eq (.var 0) (.var 4)) (.not (.var 1)) (.var 1))
def DP n(O:bY h g ks ls)(hl:bs.length=(names h g).length)(hx:∃s,x=.str s):
  pg.fn (n+2) 25 [.val (aH h g ks ls),.val (aK bs),.val x]=.ok (.val (aK (cJ (names h g) bs x))) [.val (aH h g ks ls),.val (aK bs),.val x]:=by
 obtain⟨q,rfl⟩:=hx
 have w:pg.fn _ 13 [.val (aH h g ks ls)]=.ok (.new (.lst (names h g))) [.val _]:=
  fL n (hd h) _ ks _ (by rw[O.kl,dJ O.g5]) (by rw[iz O.h2,dJ O.g5];have:=O.h2;have:=O.g5;omega)
 have e:ev (pg.cf (n+1)) chC [.val (aH h g ks ls),.val (aK bs),.val (.str q)]=.ok (.new (.lst ((cJ (names h g) bs (.str q)).map .bl))) [.val (aH h g ks ls),.val (aK bs),.val (.str q)]:=by
  have:=V6 (c:=pg.cf (n+1)) (it:=.zip ACV (.var 1)) (el:=.ite (.cmp .eq (.var 0) (.var 4)) (.not (.var 1)) (.var 1)) (σ:=[.val (aH h g ks ls),.val (aK bs),.val (.str q)]) (τ:=[.val (aH h g ks ls),.val (aK bs),.val (.str q)]) (r:=.val (.lst (aR (names h g) (bs.map .bl)))) (chF _) (by
    have z:bG (aK bs)=some _:=rfl
    simp[w,z]) rfl (by show some _=some _;rw[cQ]) (fun p hp=>by
    obtain⟨u,eu⟩:=bj h g p.1 (List.of_mem_zip hp).1
    obtain⟨b,_,eb⟩:=QDq.mp (List.of_mem_zip hp).2
    rw[<-eb,eu]
    have e1:chF (.str q) p=.bl (if decide (u=q)then !b else b):=by
     unfold chF
     rw[<-eb,eu]
     rfl
    rw[e1]
    cases c:decide (u=q)<;>simp[c])
  rw[Hb]at this
  exact this
 have hb:wF=⟨3,3,(.cons (.ret (.bi .tuple chC)) .nil)⟩:=by kernel_rfl
 have qv:chC.au=none:=rfl
 rw[HY,hb]
 simp[e,qv]
 rfl
theorem vd:∀(L pre:List D),(bw pre.length L.length).map (fun d=>match d with|.int i=>(pre++L).getD i.toNat .non|_=>.non)=L
 |[]=>fun pre=>rfl
 |x::L=>fun pre=>by
  have:=vd L (pre++[x])
  simp only[QTq,QBq,List.length_nil,QLq,QLz,List.nil_append]at this
  simp only[QBq,bw,Qyz]
  rw[show((pre.length:Int)+1)=((pre.length+(0+1):Nat)) by simp,this]
  simp[List.getD]
def fgC:E:=.comp 1 (.name 0) (.range1 (.bi .len (.var 4))) AAL (.cmp .ne (.idx ABZ (.var 0)) ACI)
theorem u9:∀(n:Nat)(lo:Int)(x:D),x∈bw lo n->∃j:Nat,j<n/\x=.int (lo+j)
 |0=>fun _ _ h=>by cases h
 |n+1=>fun lo x h=>by
  rcases QCq.mp h with rfl|h
  ·exact⟨0,by omega,by simp⟩
  ·obtain⟨j,hj,rfl⟩:=u9 n _ x h
   exact⟨j+1,by omega,by congr 1;omega⟩
def Tu n(O:bY h g ks ls)T(S:JP h g sts s)s5 s6 s7:
  ev (pg.cf n) fgC [.val (aH h g ks ls),.val T,.val (aq s),.val (.str q),.own (.lst (names h g)),s5,s6,s7]=.ok (.new (.lst ((cJ (names h g) s.1 (.str q)).map .bl))) [.val (aH h g ks ls),.val T,.val (aq s),.val (.str q),.own (.lst (names h g)),s5,s6,s7]:=by
 have nl:=fD O.h2 O.g5
 have h2:=O.h2
 have g5:=O.g5
 have fl:=tB S.l (.str q)
 have f1:fits (names h g).length=true:=by simp[fits];omega
 have f2:Be (names h g).length=true:=by simp[Be];omega
 have s0:getD (aq s) (.int 0)=some (aK s.1):=by simp[aq]
 have:=tR (c:=pg.cf n) (it:=.range1 (.bi .len (.var 4))) (el:=.cmp .ne (.idx ABZ (.var 0)) ACI) (σ:=[.val (aH h g ks ls),.val T,.val (aq s),.val (.str q),.own (.lst (names h g)),s5,s6,s7]) (τ:=[.val (aH h g ks ls),.val T,.val (aq s),.val (.str q),.own (.lst (names h g)),s5,s6,s7]) (r:=.val (.lst (bw 0 (names h g).length))) (fun d=>match d with|.int i=>([]++(cJ (names h g) s.1 (.str q)).map D.bl).getD i.toNat .non|_=>.non) (by simp[f1,f2,Ob.d]) rfl rfl (fun x hx=>by
  obtain⟨j,hj,rfl⟩:=u9 _ _ _ hx
  have hb:j<s.1.length:=by rw[S.l];exact hj
  obtain⟨u,eu⟩:=bj h g _ (List.getElem_mem hj)
  have a1:at? (names h g) j=some (.str u):=by rw[gM _ _ hj,QXq hj,eu]
  have a3:getD (aK s.1) (.int j)=some (.bl s.1[j]):=by simpa[aK]using (by rw[gM _ _ (by simpa using hb)];simp[hb])
  have v:([]++(cJ (names h g) s.1 (.str q)).map D.bl).getD ((0:Int)+j).toNat .non=.bl (!(s.1[j]==decide (u=q))):=by
   rw[List.nil_append,Int.zero_add,Int.toNat_natCast,List.getD_eq_getElem?_getD,QFz,QXq (by rw[fl];exact hj)]
   have e2:cD (names h g)[j] (.str q)=decide (u=q):=by rw[eu];rfl
   simp only[cJ,List.getElem_map,List.getElem_zip,Option.map_some,Option.getD_some,e2]
   cases decide (u=q)<;>cases s.1[j]<;>rfl
  simp only[v]
  simp[s0,a3,a1,Ob.d])
 have fl':((cJ (names h g) s.1 (.str q)).map D.bl).length=(names h g).length:=by rw[QAq,fl]
 have rg:=vd ((cJ (names h g) s.1 (.str q)).map D.bl) []
 rw[fl']at rg
 rw[show((([]:List D).length):Int)=0 from rfl]at rg
 rw[rg]at this
 exact this
end
end Tx
end
section
open PySem Mini
namespace Tx
section
variable{os:List D}
def su(h g:Nat)(os:List D)(sts:List (List (D×Nat)))(s:St)(x:D):Option St:=
 if aJ x (hd h)||aJ x os then(lk x (aZ sts s.2)).map fun j=>(cJ (names h g) s.1 x,j)else some (cJ (names h g) s.1 x,s.2)
def fV:Option St->D
 |none=>.non
 |some s=>aq s
def sdE(a:List Bool)(j:Nat):D.tup [aK a,.int j]=aq (a,j):=rfl
def mW(T:bQ h g os sts):b7 os:=fun x hx=>kJ g x (T.ou.subset hx)
theorem Vt{x:D}{N:Nat}:∀{st:List (D×Nat)},(∀m∈st,m.2<N)->∀{j:Nat},lk x st=some j->j<N
 |[],_,_,e=>by cases e
 |m::st,hm,j,e=>by
  simp only[lk]at e
  split at e
  ·cases e;exact hm m QYz
  ·exact Vt (fun q hq=>hm q (QYq _ hq)) e
def Ym(T:bQ h g os sts)(S:JP h g sts s)(e:su h g os sts s x=some s'):JP h g sts s':=by
 unfold su at e
 split at e
 ·obtain⟨j,hj,rfl⟩:=QJz.mp e
  exact⟨tB S.l x,Vt (T.mv _ (jT S.j)).2 hj⟩
 ·cases e
  exact⟨tB S.l x,S.j⟩
def qL n(O:bY h g ks ls)(T:bQ h g os sts)(S:JP h g sts s)q:
  pg.fn (n+1) 23 [.val (aB os sts),.val (aq s),.val (.str q)]=.ok (.val (.bl (aJ (.str q) os&& !(lk (.str q) (aZ sts s.2)).isSome))) [.val (aB os sts),.val (aq s),.val (.str q)]:=by
 have K:=f9 T O S.j
 have t0:getD (aB os sts) (.int 0)=some (.tup os):=by simp[aB]
 have t1:getD (aB os sts) (.int 1)=some (.tup (sts.map dW)):=by simp[aB]
 have s1:getD (aq s) (.int 1)=some (.int s.2):=by simp[aq]
 have i:=(eG (q:=q) (mW T)).2.1
 have i2:aG .notin (.str q) (.cH (eF (aZ sts s.2)) (uB (aZ sts s.2)))=some (!(lk (.str q) (aZ sts s.2)).isSome):=by rw[<-FT];rfl
 rw[wW]
 cases c:aJ _ os<;>rw[c]at i<;>simp[jq,t0,i,t1,s1,oh S.j,dW,jk _ [] [] (by simpa using K.1) (by simpa using K.2),Ob.d,i2]
def Gd(O:bY h g ks ls)(T:bQ h g os sts)(Wk:Wt h g ks ls W)(S:JP h g sts s)(hx:D.str q∈jR h sts W s):(aJ (.str q) os&& !(lk (.str q) (aZ sts s.2)).isSome)=true/\su h g os sts s (.str q)=none\/(aJ (.str q) os&& !(lk (.str q) (aZ sts s.2)).isSome)=false/\su h g os sts s (.str q)=some (cJ (names h g) s.1 (.str q),(lk (.str q) (aZ sts s.2)).getD s.2):=by
 unfold su
 rcases QXz.mp hx with z|z
 ·obtain⟨z1,z2⟩:=List.mem_filter.mp z
  rw[sU (mW T) fun w=>zW O z1 (T.ou.subset w),jj z1 (gY h)]
  obtain⟨j,hj⟩:=Option.isSome_iff_exists.mp z2
  rw[hj]
  exact .inr ⟨rfl,rfl⟩
 ·have zr:=(Wk.sub s.1 S.l).subset z
  rw[sU (gY h) fun w=>zW O w zr]
  cases ho:aJ _ os with
  |true=>
   cases hj:lk _ _ with
   |none=>exact .inl ⟨rfl,rfl⟩
   |some j=>exact .inr ⟨rfl,rfl⟩
  |false=>
   have hn:lk (.str q) (aZ sts s.2)=none:=by
    cases hj:lk _ _ with
    |none=>rfl
    |some j=>
     rcases QXz.mp ((T.mv _ (jT S.j)).1.subset ((My (f9 T O S.j).1 ⟨q,rfl⟩).mp (by rw[hj];rfl)))with w|w
     ·exact absurd zr (zW O w)
     ·rw[jj w (mW T)]at ho;cases ho
   rw[hn]
   exact .inr ⟨rfl,rfl⟩
def IK n(O:bY h g ks ls)(T:bQ h g os sts)(Wk:Wt h g ks ls W)(S:JP h g sts s)(hx:x∈jR h sts W s):
  pg.fn (n+3) 24 [.val (aH h g ks ls),.val (aB os sts),.val (aq s),.val x]=.ok (.val (fV (su h g os sts s x))) [.val (aH h g ks ls),.val (aB os sts),.val (aq s),.val x]:=by
 have K:=f9 T O S.j
 obtain⟨q,rfl⟩:=bj h g x ((qR Wk S).subset hx)
 have u:=qL (n+1) O T S q
 have t1:getD (aB os sts) (.int 1)=some (.tup (sts.map dW)):=by simp[aB]
 have s0:getD (aq s) (.int 0)=some (aK s.1):=by simp[aq]
 have s1:getD (aq s) (.int 1)=some (.int s.2):=by simp[aq]
 have gt:pI (.cH (eF (aZ sts s.2)) (uB (aZ sts s.2))) (.str q) (.int s.2)=some (.int ((lk (.str q) (aZ sts s.2)).getD s.2)):=by
  show(if keyOk (.str q)then some _ else none)=_
  rw[FQ]
  cases lk _ _<;>rfl
 rw[K4]
 rcases (Gd O T Wk S hx)with ⟨k1,k2⟩|⟨k1,k2⟩
 ·rw[k1]at u
  rw[k2]
  simp[nT,u,fV]
 ·rw[k1]at u
  rw[k2]
  simp[nT,u,t1,s0,s1,oh S.j,dW,jk _ [] [] (by simpa using K.1) (by simpa using K.2),Ob.d,DP n O S.l ⟨q,rfl⟩,lV,gt,aP,fV,sdE]
def ldB:S:=(.cons (.ite (.cmp .eq (.var 6) (.var 3)) (.cons (.ret (.tup (.cons (.var 5) (.cons (.var 7) .nil)))) .nil) .nil) .nil)
theorem Vw(c:Cf)(a b e F:D)(N:Sl){q:Str}:∀(st:List (D×Nat))(s6 s7:Sl),b7 (eF st)->bu s6->bu s7->
  (∀j,lk (.str q) st=some j->∃s6' s7',aL (.tup [6,7]) (ex c ldB) (st.map lU) [.val a,.val b,.val e,.val (.str q),N,.val F,s6,s7]=.ret (.val (.tup [F,.int j])) [.val a,.val b,.val e,.val (.str q),N,.val F,s6',s7'])/\
  (lk (.str q) st=none->∃s6' s7',aL (.tup [6,7]) (ex c ldB) (st.map lU) [.val a,.val b,.val e,.val (.str q),N,.val F,s6,s7]=.next [.val a,.val b,.val e,.val (.str q),N,.val F,s6',s7'])
 |[]=>fun s6 s7 _ _ _=>⟨fun j z=>(by cases z),fun _=>⟨s6,s7,rfl⟩⟩
 |m::st=>fun s6 s7 t h6 h7=>by
  obtain⟨u,eu⟩:=t m.1 QYz
  have tt:aX (.tup [6,7]) (lU m) [.val a,.val b,.val e,.val (.str q),N,.val F,s6,s7]=some [.val a,.val b,.val e,.val (.str q),N,.val F,.val m.1,.val (.int m.2)]:=by
   rcases h6 with rfl|⟨d,rfl⟩<;>rcases h7 with rfl|⟨d,rfl⟩<;>simp[aX,dI,bL,lU]
  have ih:=Vw c a b e F N (q:=q) st (.val m.1) (.val (.int m.2)) (fun x hx=>t x (QYq _ hx)) (.inr ⟨_,rfl⟩) (.inr ⟨_,rfl⟩)
  rw[Qyz,aL,tt]
  have e1:lk (.str q) (m::st)=if decide (u=q)then some m.2 else lk (.str q) st:=by rw[lk,eu];rfl
  rw[e1,eu]at*
  by_cases cq:u=q
  ·subst cq
   refine⟨fun j z=>?_,fun z=>by simp at z⟩
   simp at z
   subst z
   exact⟨.val (.str u),.val (.int m.2),by simp[ldB,aP]⟩
  ·have sk:(ex c ldB [.val a,.val b,.val e,.val (.str q),N,.val F,.val (.str u),.val (.int m.2)])=.next [.val a,.val b,.val e,.val (.str q),N,.val F,.val (.str u),.val (.int m.2)]:=by simp[ldB,cq]
   simp only[sk]
   simp only[cq,decide_false,Qxq,if_false]
   exact ih
theorem CN n(O:bY h g ks ls)(T:bQ h g os sts)(S:JP h g sts s)(hx:∃q,x=.str q):
  pg.fn (n+2) 51 [.val (aH h g ks ls),.val (aB os sts),.val (aq s),.val x]=.ok (.val (fV (su h g os sts s x))) [.val (aH h g ks ls),.val (aB os sts),.val (aq s),.val x]:=by
 obtain⟨q,rfl⟩:=hx
 have ln:=lN n O
 have n0:getD (aH h g ks ls) (.int 0)=some (.tup (hd h)):=by simp[aH]
 have t0:getD (aB os sts) (.int 0)=some (.tup os):=by simp[aB]
 have t1:getD (aB os sts) (.int 1)=some (.tup (sts.map dW)):=by simp[aB]
 have s1:getD (aq s) (.int 1)=some (.int s.2):=by simp[aq]
 have st:=oh S.j
 have i1:=(eG (q:=q) (gY h)).2.2
 have i2:=(eG (q:=q) (mW T)).2.2
 have fe:=Tu (n+1) O (aB os sts) S (q:=q) .un .un .un
 have lg:=Vw (pg.cf (n+1)) (aH h g ks ls) (aB os sts) (aq s) (aK (cJ (names h g) s.1 (.str q))) (.own (.lst (names h g))) (q:=q) _ .un .un (f9 T O S.j).1 (.inl rfl) (.inl rfl)
 have it:items (dW (aZ sts s.2))=some _:=rfl
 have rd:D.tup _=aK (cJ (names h g) s.1 (.str q)):=rfl
 have hb:wB=⟨4,8,(.cons (.set 4 (.call 47 AAT)) (.cons (.set 5 (.bi .tuple fgC)) (.cons (.ite (.and (.cons (.cmp .notin (.var 3) AAc) (.cons (.cmp .notin (.var 3) AAi) .nil))) (.cons (.ret (.tup (.cons (.var 5) (.cons AAe .nil)))) .nil) .nil) (.cons (.for_ (.tup [6,7]) ACS ldB) (.cons (.ret AAs) .nil)))))⟩:=by kernel_rfl
 have qv:fgC.au=none:=rfl
 rw[HQ,hb]
 unfold su
 cases c1:aJ _ (hd h)with
 |false=>
  cases c2:aJ _ os with
  |false=>
   rw[c1]at i1
   rw[c2]at i2
   simp[ln,fe,qv,rd,n0,t0,i1,i2,s1,aP,fV,sdE]
  |true=>
   rw[c1]at i1
   rw[c2]at i2
   cases hj:lk _ _ with
   |none=>
    obtain⟨s6,s7,e⟩:=lg.2 hj
    simp[ln,fe,qv,rd,n0,t0,i1,i2,t1,s1,st,it,e,fV]
   |some j=>
    obtain⟨s6,s7,e⟩:=lg.1 j hj
    simp[ln,fe,qv,rd,n0,t0,i1,i2,t1,s1,st,it,e,fV,sdE]
 |true=>
  rw[c1]at i1
  cases hj:lk _ _ with
  |none=>
   obtain⟨s6,s7,e⟩:=lg.2 hj
   simp[ln,fe,qv,rd,n0,i1,t1,s1,st,it,e,fV]
  |some j=>
   obtain⟨s6,s7,e⟩:=lg.1 j hj
   simp[ln,fe,qv,rd,n0,i1,t1,s1,st,it,e,fV,sdE]
end
end Tx
end
section
open PySem Mini
namespace Tx
structure Cs where
 h:Nat
 g:Nat
 ks:List D
 ls:List Bool
 os:List D
 sts:List (List (D×Nat))
 W:List Bool->List D
namespace Cs
variable(C:Cs)
structure Ok:Prop where
 o:bY C.h C.g C.ks C.ls
 t:bQ C.h C.g C.os C.sts
 w:Wt C.h C.g C.ks C.ls C.W
def n:D:=aH C.h C.g C.ks C.ls
def t:D:=aB C.os C.sts
abbrev nm:List D:=names C.h C.g
abbrev S(s:St):Prop:=JP C.h C.g C.sts s
def st(s:St):List D:=jR C.h C.sts C.W s
def led(s:St)(x:D):Option St:=su C.h C.g C.os C.sts s x
end Cs
section
variable{C:Cs}{s:St}
namespace Cs.Ok
variable(K:C.Ok)
include K
def sub(S:C.S s):(C.st s).Sublist C.nm:=qR K.w S
def pW(S:C.S s):b7 (C.st s):=fun x hx=>bj C.h C.g x ((K.sub S).subset hx)
def wtx(S:C.S s):b7 (C.W s.1):=fun x hx=>kJ C.g x ((K.w.sub s.1 S.l).subset hx)
def zK{t:St}(S:C.S s)(e:C.led s x=some t):C.S t:=Ym K.t S e
def dC m(S:C.S s):pg.fn (m+5) 22 [.val C.n,.val C.t,.val (aq s)]=.ok (.new (.lst (C.st s))) [.val C.n,.val C.t,.val (aq s)]:=yO m K.o K.t K.w S
def vL m(S:C.S s):pg.fn (m+4) 50 [.val C.n,.val C.t,.val (aq s)]=.ok (.new (.lst (C.st s))) [.val C.n,.val C.t,.val (aq s)]:=xr m K.o K.t K.w S
def iy m(S:C.S s)(hx:x∈C.st s):pg.fn (m+3) 24 [.val C.n,.val C.t,.val (aq s),.val x]=.ok (.val (fV (C.led s x))) [.val C.n,.val C.t,.val (aq s),.val x]:=IK m K.o K.t K.w S hx
def xu m(S:C.S s)(hx:∃q,x=.str q):pg.fn (m+2) 51 [.val C.n,.val C.t,.val (aq s),.val x]=.ok (.val (fV (C.led s x))) [.val C.n,.val C.t,.val (aq s),.val x]:=CN m K.o K.t S hx
def checked m:pg.fn (m+9) 17 [.val C.n,.val C.t]=.ok (.val C.t) [.val C.n,.val C.t]:=qj m K.o K.t
def wpr m(S:C.S s):pg.fn (m+4) 14 [.val C.n,.val (aK s.1)]=.ok (.new (.lst (C.W s.1))) [.val C.n,.val (aK s.1)]:=K.w.pr s.1 S.l m
def unasked m(S:C.S s)(hx:D.str q∈C.st s):pg.fn (m+1) 23 [.val C.t,.val (aq s),.val (.str q)]=.ok (.val (.bl (C.led s (.str q)).isNone)) [.val C.t,.val (aq s),.val (.str q)]:=by
 have u:=qL m K.o K.t S q
 rcases Gd K.o K.t K.w S hx with ⟨a,b⟩|⟨a,b⟩<;>rw[a]at u<;>rw[Cs.led,b]<;>exact u
end Cs.Ok
def T4 m(ns:List Int)k(hk:0<=k):∃C:Cs,C.Ok/\pg.fn (m+9) 45 [.val (.lst (ns.map .int)),.val (.int k)]=.ok (.val (.tup [C.n,C.t])) [.val (.lst (ns.map .int)),.val (.int k)]:=by
 obtain⟨h,g,ks,ls,os,sts,O,T,e⟩:=T3 m ns k hk
 obtain⟨W,w⟩:=aaU O
 exact⟨⟨h,g,ks,ls,os,sts,W⟩,⟨O,T,w⟩,e⟩
def Vq:getD C.n (.int 2)=some (aK C.ls):=by simp[Cs.n,aH];rfl
def WL:getD C.t (.int 0)=some (.tup C.os):=by simp[Cs.t,aB]
def abe:getD C.t (.int 1)=some (.tup (C.sts.map dW)):=by simp[Cs.t,aB]
def abt s:getD (aq s) (.int 0)=some (aK s.1):=by simp[aq]
def aeV s:getD (aq s) (.int 1)=some (.int s.2):=by simp[aq]
end
abbrev Rs:=List (St×List D)
def kD(R:Rs):List D:=R.map fun p=>aq p.1
def vD(R:Rs):List D:=R.map fun p=>.lst p.2
def M5 R N:kD (R++N)=kD R++kD N:=List.map_append
def Wy R N:vD (R++N)=vD R++vD N:=List.map_append
def CP R:(kD R).length=R.length:=QAq _
theorem Ez:∀a b:List Bool,jE (a.map .bl) (b.map .bl)=decide (a=b)
 |[],[]=>rfl
 |[],_::_=>rfl
 |_::_,[]=>rfl
 |x::a,y::b=>by
  simp only[Qyz,jE,cD,Ez a b,List.cons.injEq]
  by_cases e:x=y<;>by_cases e':a=b<;>simp[e,e']
def Er a b:cD (aq a) (aq b)=decide (a=b):=by
 obtain⟨a,i⟩:=a
 obtain⟨b,j⟩:=b
 simp only[aq,aK,cD,jE,Ez,Bool.and_true,Prod.mk.injEq]
 by_cases e:a=b<;>by_cases e':i=j<;>simp[e,e']<;>omega
theorem Nr t:∀R:Rs,aJ (aq t) (kD R)=decide (t∈R.map (·.1))
 |[]=>by simp[kD,aJ]
 |p::R=>by
  have:=Nr t R
  simp only[kD]at this
  simp only[kD,Qyz,aJ,Er,this,QCq]
  by_cases e:p.1=t
  ·simp[e]
  ·have:¬t=p.1:=fun z=>e z.symm
   simp[e,this]
def Mz(s:St):Rs->Option (List D)
 |[]=>none
 |p::R=>if p.1=s then some p.2 else Mz s R
theorem Vu s:∀R:Rs,bI (aq s) (kD R) (vD R)=(Mz s R).map D.lst
 |[]=>rfl
 |p::R=>by
  have:=Vu s R
  simp only[kD,vD]at this
  simp only[kD,vD,Qyz,bI,Er,this,Mz]
  by_cases e:p.1=s<;>simp[e]
theorem FW{r:List D}N:∀{R:Rs},Mz s R=some r->Mz s (R++N)=some r
 |[]=>fun e=>by cases e
 |p::R=>fun e=>by
  simp only[QLz,Mz]at e⊢
  split
  ·rename_i z;rw[if_pos z]at e;exact e
  ·rename_i z;rw[if_neg z]at e;exact FW N e
theorem CG{s:St}{r:List D}:∀{R:Rs}{k:Nat},(R.map (·.1)).Nodup->R[k]? =some (s,r)->Mz s R=some r
 |[],_=>fun _ e=>by cases e
 |p::R,0=>fun _ e=>by cases e;simp[Mz]
 |p::R,k+1=>fun nd e=>by
  have e':R[k]? =some (s,r):=e
  rw[Qyz,List.nodup_cons]at nd
  rw[Mz,if_neg (fun z=>nd.1 (by rw[z];exact QTz (QBz e')))]
  exact CG nd.2 e'
def nA s:o4 (aq s)=true:=by
 have:∀bs:List Bool,(bools (bs.map .bl)).isSome=true:=fun bs=>by
  induction bs with
  |nil=>rfl
  |cons b bs ih=>simp only[Qyz,bools,Option.isSome_map,ih]
 exact this s.1
def R7 t R:aG .notin (aq t) (.jH (kD R) (vD R))=some (!decide (t∈R.map (·.1))):=by
 show(if o4 _ then some _ else none)=_
 rw[nA,Nr]
 rfl
def VG{r:List D}(e:Mz s R=some r):getD (.jH (kD R) (vD R)) (aq s)=some (.lst r):=by
 show(if o4 _ then bI _ (kD R) (vD R)else none)=_
 rw[nA,Vu,e]
 rfl
def abY{r:List D}(e:t∉R.map (·.1))(f:R.length+1<=1000):wY (aq t) (.lst r) (.sdt (kD R) (vD R))=some (.sdt (kD (R++[(t,r)])) (vD (R++[(t,r)]))):=by
 have f':fits ((kD R).length+1)=true:=by rw[CP];simp[fits];omega
 show(if o4 _&&fits _ then some _ else none)=_
 have i:aJ (aq t) (kD R)=false:=by rw[Nr];simpa using e
 have p:putD (aq t) (.lst r) (kD R) (vD R)=(kD R++[aq t],vD R++[.lst r]):=by unfold putD;rw[i];rfl
 rw[nA,f',p,M5,Wy]
 rfl
section
variable{C:Cs}
structure Cs.Ro(C:Cs)(R:Rs):Prop where
 nd:(R.map (·.1)).Nodup
 ok:∀p∈R,C.S p.1
 le:∀p∈R,p.2.length<=R.length
 wr:∀p∈R,∀x∈p.2,x∈C.nm
def Cs.new(C:Cs)(s:St)(r:List D):List D->Rs->Rs
 |[],_=>[]
 |x::xs,R=>match C.led s x with
  |none=>C.new s r xs R
  |some t=>if t∈R.map (·.1)then C.new s r xs R else(t,r++[x])::C.new s r xs (R++[(t,r++[x])])
def Mf(Y:C.Ro R)(S:C.S t)(hr:r.length<=R.length+1)(ht:t∉R.map (·.1))(hw:∀x∈r,x∈C.nm):C.Ro (R++[(t,r)]):=by
 refine⟨?_,fun p hp=>?_,fun p hp=>?_,fun p hp=>?_⟩
 ·rw[List.map_append,List.nodup_append]
  exact⟨Y.nd,by simp,fun a ha b hb e=>ht (by
   have:b=t:=by simpa using hb
   rw[<-this,<-e];exact ha)⟩
 ·rcases QXz.mp hp with z|z
  ·exact Y.ok p z
  ·rw[QDz.mp z];exact S
 ·rw[QTq]
  rcases QXz.mp hp with z|z
  ·exact Nat.le_succ_of_le (Y.le p z)
  ·rw[QDz.mp z];exact hr
 ·rcases QXz.mp hp with z|z
  ·exact Y.wr p z
  ·rw[QDz.mp z];exact hw
def JV{x:D}(hw:∀x∈r,x∈C.nm)(hx:x∈C.nm):∀y∈r++[x],y∈C.nm:=fun y hy=>by
 rcases QXz.mp hy with z|z
 ·exact hw y z
 ·rw[QDz.mp z];exact hx
theorem oO(K:C.Ok){s:St}(S:C.S s){r:List D}(hw:∀x∈r,x∈C.nm):∀(xs:List D){R:Rs},(∀x∈xs,x∈C.nm)->C.Ro R->r.length<=R.length->C.Ro (R++C.new s r xs R)
 |[],R,_,Y,_=>by simpa[Cs.new]using Y
 |x::xs,R,hx,Y,hr=>by
  have hx':=fun y hy=>hx y (QYq _ hy)
  rw[Cs.new]
  split
  ·exact oO K S hw xs hx' Y hr
  ·rename_i t e
   split
   ·exact oO K S hw xs hx' Y hr
   ·rename_i ht
    have:=oO K S hw xs hx' (Mf Y (K.zK S e) (by simp;omega) ht (JV hw (hx x QYz))) (by simp;omega)
    rw[QLq]at this
    exact this
def allB:Nat->List (List Bool)
 |0=>[[]]
 |n+1=>(allB n).map (true:: ·)++(allB n).map (false:: ·)
theorem Aw:∀n,(allB n).length=2 ^n
 |0=>rfl
 |n+1=>by rw[allB,QTq,QAq,QAq,Aw n,Nat.pow_succ];omega
theorem uw:∀bs:List Bool,bs∈allB bs.length
 |[]=>by simp[allB]
 |b::bs=>by
  rw[QBq,allB,QXz]
  cases b
  ·exact .inr (QTz (uw bs))
  ·exact .inl (QTz (uw bs))
def P0(n:Nat):List St:=(allB n).map (·,0)++((allB n).map (·,1)++((allB n).map (·,2)++(allB n).map (·,3)))
def PX n:(P0 n).length=4*2 ^n:=by
 simp only[P0,QTq,QAq,Aw]
 omega
def PQ(h:s.2<4):s∈P0 s.1.length:=by
 obtain⟨bs,j⟩:=s
 have m:=uw bs
 simp only[P0,QXz,QDq]
 rcases j with _|_|_|_|j
 ·exact .inl ⟨bs,m,rfl⟩
 ·exact .inr (.inl ⟨bs,m,rfl⟩)
 ·exact .inr (.inr (.inl ⟨bs,m,rfl⟩))
 ·exact .inr (.inr (.inr ⟨bs,m,rfl⟩))
 ·simp at h;omega
theorem zz:∀(l L:List St),l.Nodup->(∀x∈l,x∈L)->l.length<=L.length
 |[]=>fun _ _ _=>QIq _
 |x::l=>fun L nd m=>by
  rw[List.nodup_cons]at nd
  have mx:=m x QYz
  have:=zz l (L.erase x) nd.2 fun y hy=>(List.mem_erase_of_ne fun e=>nd.1 (by rw[<-e];exact hy)).mpr (m y (QYq _ hy))
  rw[List.length_erase_of_mem mx]at this
  have:=List.length_pos_of_mem mx
  rw[QBq]
  omega
def Cs.Ro.zL(K:C.Ok)(X:C.Ro R):R.length<=512:=by
 have a:=zz _ (P0 (C.nm).length) X.nd fun s hs=>by
  obtain⟨p,hp,rfl⟩:=QDq.mp hs
  have S:=X.ok p hp
  rw[<-S.l]
  exact PQ (Qvq S.j K.t.s4)
 rw[QAq,PX,fD K.o.h2 K.o.g5]at a
 have h2:=K.o.h2
 have g5:=K.o.g5
 have:2 ^(C.h+C.g)<=2 ^7:=Nat.pow_le_pow_right (by omega) (by omega)
 omega
def Cs.wz(C:Cs):Nat->Nat->Rs->Rs
 |0,_,R=>R
 |f+1,k,R=>match R[k]? with
  |none=>R
  |some p=>C.wz f (k+1) (R++C.new p.1 p.2 (C.st p.1) R)
theorem Pn(K:C.Ok):∀(f k:Nat){R:Rs},C.Ro R->C.Ro (C.wz f k R)
 |0,_,_,X=>X
 |f+1,k,R,X=>by
  rw[Cs.wz]
  split
  ·exact X
  ·rename_i p e
   have m:=QBz e
   exact Pn K f _ (oO K (X.ok p m) (X.wr p m) _ (fun x hx=>(K.sub (X.ok p m)).subset hx) X (X.le p m))
def sI(ls:List Bool):St:=(ls,0)
def yS(K:C.Ok):C.S (sI C.ls):=⟨by rw[fD K.o.h2 K.o.g5];exact K.o.ll,K.t.s1⟩
def R0(ls:List Bool):Rs:=[(sI ls,[])]
def Qj(K:C.Ok):C.Ro (R0 C.ls):=⟨by simp[R0],fun p hp=>by rw[QDz.mp hp];exact yS K,fun p hp=>by rw[QDz.mp hp];simp,fun p hp=>by rw[QDz.mp hp];simp⟩
end
end Tx
end
section
open PySem Mini
namespace Tx
section
variable{C:Cs}
def cZ(s:St):bO (aq s)=false:=rfl
def tH n:pg.fn (n+1) 21 [.val C.n]=.ok (.val (aq (sI C.ls))) [.val C.n]:=by
 rfl
def Vo:S:=(.cons (.set 6 (.call 24 (.cons (.var 0) (.cons (.var 1) (.cons (.var 2) ABH))))) (.cons (.ite (.and (.cons ACW (.cons (.cmp .notin (.var 6) (.var 3)) .nil))) (.cons (.setIx 3 (.var 6) (.op .add (.idx (.var 3) (.var 2)) (.lis ABH))) (.cons (.append 4 (.var 6)) .nil)) .nil) .nil))
theorem Ft(n:Nat)(K:C.Ok){s:St}(S:C.S s){r:List D}:∀(xs:List D)(R:Rs)(M:List D)(s5 s6:Sl),(∀x∈xs,x∈C.st s)->C.Ro R->Mz s R=some r->r.length<=R.length->(∀x∈r,x∈C.nm)->M.length<=R.length->bu s5->bu s6->∃s5' s6',
  aL (.name 5) (ex (pg.cf (n+3)) Vo) xs [.val C.n,.val C.t,.val (aq s),.bor (.sdt (kD R) (vD R)),.own (.lst M),s5,s6]=.next [.val C.n,.val C.t,.val (aq s),.bor (.sdt (kD (R++C.new s r xs R)) (vD (R++C.new s r xs R))),.own (.lst (M++kD (C.new s r xs R))),s5',s6']
 |[]=>fun R M s5 s6 _ _ _ _ _ _ _ _=>⟨s5,s6,by simp[aL,Cs.new,kD]⟩
 |x::xs=>fun R M s5 s6 hx X lr rl rw_' ml h5 h6=>by
  have lt:=K.iy n S (hx x QYz)
  have hx':=fun y hy=>hx y (QYq _ hy)
  have tt:aX (.name 5) x [.val C.n,.val C.t,.val (aq s),.bor (.sdt (kD R) (vD R)),.own (.lst M),s5,s6]=some [.val C.n,.val C.t,.val (aq s),.bor (.sdt (kD R) (vD R)),.own (.lst M),.val x,s6]:=by
   rcases h5 with rfl|⟨d,rfl⟩<;>simp[aX,bL]
  rw[aL,tt]
  simp only[Cs.new]
  have c6:∀d,wO 6 [.val C.n,.val C.t,.val (aq s),.bor (.sdt (kD R) (vD R)),.own (.lst M),.val x,s6] (.val d) (some s6)=some [.val C.n,.val C.t,.val (aq s),.bor (.sdt (kD R) (vD R)),.own (.lst M),.val x,.val d]:=fun d=>by
   rcases h6 with rfl|⟨d,rfl⟩<;>simp
  cases e:C.led s x with
  |none=>
   rw[e]at lt
   have go:ex (pg.cf (n+3)) Vo [.val C.n,.val C.t,.val (aq s),.bor (.sdt (kD R) (vD R)),.own (.lst M),.val x,s6]=.next [.val C.n,.val C.t,.val (aq s),.bor (.sdt (kD R) (vD R)),.own (.lst M),.val x,.val .non]:=by
    simp[Vo,lt,c6,fV]
   simp only[go]
   exact Ft n K S xs R M _ _ hx' X lr rl rw_' ml (.inr ⟨_,rfl⟩) (.inr ⟨_,rfl⟩)
  |some t=>
   rw[e]at lt
   have ni:=R7 t R
   by_cases ht:t∈R.map (·.1)
   ·have go:ex (pg.cf (n+3)) Vo [.val C.n,.val C.t,.val (aq s),.bor (.sdt (kD R) (vD R)),.own (.lst M),.val x,s6]=.next [.val C.n,.val C.t,.val (aq s),.bor (.sdt (kD R) (vD R)),.own (.lst M),.val x,.val (aq t)]:=by
     rw[QFq ht]at ni
     simp[Vo,lt,c6,fV,cZ,ni,Ob.d]
    simp only[go,if_pos ht]
    exact Ft n K S xs R M _ _ hx' X lr rl rw_' ml (.inr ⟨_,rfl⟩) (.inr ⟨_,rfl⟩)
   ·have rb:=X.zL K
    have f1:fits (r.length+1)=true:=by simp[fits];omega
    have f2:fits (M.length+1)=true:=by simp[fits];omega
    have go:ex (pg.cf (n+3)) Vo [.val C.n,.val C.t,.val (aq s),.bor (.sdt (kD R) (vD R)),.own (.lst M),.val x,s6]=.next [.val C.n,.val C.t,.val (aq s),.bor (.sdt (kD (R++[(t,r++[x])])) (vD (R++[(t,r++[x])]))),.own (.lst (M++[aq t])),.val x,.val (aq t)]:=by
     rw[QEz ht]at ni
     simp[Vo,lt,c6,fV,cZ,ni,Ob.d,VG lr,aP,f1,abY (r:=r++[x]) ht (by omega),f2,yt,dU]
    simp only[go,if_neg ht]
    obtain⟨a,b,z⟩:=Ft n K S xs _ (M++[aq t]) _ _ hx' (Mf X (K.zK S e) (by simp;omega) ht (JV rw_' ((K.sub S).subset (hx x QYz)))) (FW _ lr) (by simp;omega) rw_' (by simp;omega) (.inr ⟨_,rfl⟩) (.inr ⟨_,rfl⟩)
    refine⟨a,b,?_⟩
    rw[show(Fl.next [.val C.n,.val C.t,.val _,.bor _,.own _,.val x,.val _]).turn _=_ from z]
    simp only[QLq,QLz,List.nil_append]
    rfl
def Mm n(K:C.Ok)(X:C.Ro R){k:Nat}{s:St}(e:R[k]? =some (s,r)):
  pg.fn (n+6) 26 [.val C.n,.val C.t,.val (aq s),.bor (.sdt (kD R) (vD R))]=.ok (.new (.lst (kD (C.new s r (C.st s) R)))) [.val C.n,.val C.t,.val (aq s),.bor (.sdt (kD (R++C.new s r (C.st s) R)) (vD (R++C.new s r (C.st s) R)))]:=by
 have m:=QBz e
 have S:=X.ok _ m
 obtain⟨a,b,z⟩:=Ft (n+2) K S _ R [] .un .un (fun x hx=>hx) X (CG X.nd e) (X.le _ m) (X.wr _ m) (QIq _) (.inl rfl) (.inl rfl)
 have hb:pM=⟨4,7,(.cons (.set 4 AAv) (.cons (.for_ (.name 5) (.call 22 ABX) Vo) ABP))⟩:=by kernel_rfl
 rw[yX,hb]
 simp[aP,K.dC n S,items,z,Ob.d]
def TQ x xs:cut (x::xs) (some 1) none=xs:=by
 have a:clip (xs.length+1) 1=1:=by
  unfold clip
  simp
  intro z
  omega
 simp[cut,a]
def T8 x xs:at? (x::xs) 0=some x:=by
 simp
end
end Tx
end
section
open PySem Mini
namespace Tx
section
variable{C:Cs}
def mZ(t:∀x∈xs,x∈C.nm):lu xs=true/\jl xs=0:=by
 have ok:∀s∈Vn 3 5,sOk s=true:=by decide+kernel
 induction xs with
 |nil=>exact⟨rfl,rfl⟩
 |cons x xs ih=>
  have m:=t x QYz
  rw[Cs.nm,m5]at m
  obtain⟨s,hs,rfl⟩:=QDq.mp m
  have i:=ih fun y hy=>t y (QYq _ hy)
  exact⟨by simp[lu,nd,ok s (Fv hs),i.1],by simp[jl,dep,i.2]⟩
end
mutual
theorem xU:∀d:D,nd d=true->cD d d=true
 |.non=>fun _=>rfl
 |.bl b=>fun _=>by cases b<;>rfl
 |.int i=>fun _=>by simp[cD]
 |.str s=>fun _=>by simp[cD]
 |.tup xs=>fun h=>by simpa[cD]using tK xs h
 |.lst xs=>fun h=>by simpa[cD]using tK xs h
 |.cH _ _=>fun h=>by simp[nd]at h
 |.jH _ _=>fun h=>by simp[nd]at h
theorem tK:∀xs:List D,lu xs=true->jE xs xs=true
 |[]=>fun _=>rfl
 |x::xs=>fun h=>by
  simp only[lu,QUq]at h
  simp[jE,xU x h.1,tK xs h.2]
end
def Oj(h:nd d=true/\dep d<=50):aG .eq d d=some true/\aG .ne d d=some false:=by
 have o:lQ d d=true:=by simp[lQ,h.1,h.2]
 constructor
 ·show(if lQ d d then some _ else none)=_
  rw[xU _ h.1,o];rfl
 ·show(if lQ d d then some _ else none)=_
  rw[xU _ h.1,o];rfl
def Kr s:nd (aq s)=true/\dep (aq s)<=2:=by
 have a:∀bs:List Bool,lu (bs.map .bl)=true/\jl (bs.map .bl)=0:=fun bs=>by
  induction bs with
  |nil=>exact⟨rfl,rfl⟩
  |cons b bs ih=>exact⟨by simp[lu,nd,ih.1],by simp[jl,dep,ih.2]⟩
 obtain⟨a,b⟩:=a s.1
 constructor
 ·simp[aq,aK,nd,lu,a]
 ·simp[aq,aK,dep,jl,b]
end Tx
end
section
open PySem Mini
namespace Tx
section
variable{C:Cs}
def Cs.gone(C:Cs)(s t:St)(x:D):List D:=(C.W s.1).filter fun y=> !aJ y (C.W t.1++[x])
def J6(r:List D):List D->D
 |[]=>.non
 |y::_=>.tup [.str "taken",.lst r,y]
def Cs.sf(C:Cs)(s:St)(r:List D)(x:D):D:=
 match C.led s x with
 |none=>.tup [.str "unasked",.lst r]
 |some t=>J6 r (C.gone s t x)
def iB(f:D->D):List D->D
 |[]=>.non
 |x::xs=>if bO (f x)then iB f xs else f x
def LK(os:List D)(st:List (D×Nat)):Bool:=st.any fun m=>aJ m.1 os
def Cs.flt(C:Cs)(s:St)(r:List D):D:=
 if (C.st s).isEmpty then(if LK C.os (aZ C.sts s.2)then .tup [.str "stuck",.lst r]else .non)else iB (fun x=>C.sf s (r++[x]) x) (C.st s)
def ah7(s:Sl):Prop:=s=.un\/(∃d,s=.val d)\/∃o,s=.own o
def Ik{xs:List D}(t:b7 xs):aG .notin (.str q) (.lst xs)=some (!aJ (.str q) xs):=by
 have o:fG (.str q) xs=true:=by unfold fG;rw[lF t];rfl
 show(if fG _ xs then some _ else none)=_;rw[o];rfl
def VN:S:=(.cons (.ite (.and (.cons (.cmp .ne (.var 6) (.var 3)) (.cons (.cmp .notin (.var 6) (.var 5)) .nil))) (.cons (.ret (.tup (.cons (.con (.str "taken")) (.cons (.var 4) ABR)))) .nil) .nil) .nil)
def Gn u q ws:aJ (.str u) (ws++[.str q])=(aJ (.str u) ws||decide (u=q)):=by
 rw[vV]
 congr 1
 simp[aJ,cD]
 by_cases e:u=q
 ·simp[e]
 ·simp[e]
  exact fun z=>e z.symm
theorem VM(c:Cf)(a b e:Sl)(q:Str)(r:List D){ws:List D}(tw:b7 ws):∀(xs:List D)(s6:Sl),b7 xs->bu s6->∃s6',
  aL (.name 6) (ex c VN) xs [a,b,e,.val (.str q),.val (.lst r),.own (.lst ws),s6]=match xs.filter (fun y=> !aJ y (ws++[.str q]))with
   |[]=>.next [a,b,e,.val (.str q),.val (.lst r),.own (.lst ws),s6']
   |y::ys=>.ret (.val (J6 r (y::ys))) [a,b,e,.val (.str q),.val (.lst r),.own (.lst ws),s6']
 |[]=>fun s6 _ _=>⟨s6,rfl⟩
 |x::xs=>fun s6 t h6=>by
  obtain⟨u,rfl⟩:=t x QYz
  have tt:aX (.name 6) (.str u) [a,b,e,.val (.str q),.val (.lst r),.own (.lst ws),s6]=some [a,b,e,.val (.str q),.val (.lst r),.own (.lst ws),.val (.str u)]:=by
   rcases h6 with rfl|⟨d,rfl⟩<;>simp[aX,bL]
  obtain⟨s6',z⟩:=VM c a b e q r tw xs _ (fun y hy=>t y (QYq _ hy)) (.inr ⟨_,rfl⟩)
  have ni:=Ik (q:=u) tw
  rw[aL,tt,List.filter_cons,Gn]
  cases c1:aJ _ ws with
  |true=>
   refine⟨s6',?_⟩
   rw[c1]at ni
   have go:ex c VN [a,b,e,.val (.str q),.val (.lst r),.own (.lst ws),.val (.str u)]=.next [a,b,e,.val (.str q),.val (.lst r),.own (.lst ws),.val (.str u)]:=by
    by_cases cq:u=q<;>simp[VN,cq,ni,Ob.d]
   simp only[go]
   exact z
  |false=>
   rw[c1]at ni
   by_cases cq:u=q
   ·refine⟨s6',?_⟩
    have go:ex c VN [a,b,e,.val (.str q),.val (.lst r),.own (.lst ws),.val (.str u)]=.next [a,b,e,.val (.str q),.val (.lst r),.own (.lst ws),.val (.str u)]:=by
     simp[VN,cq]
    simp only[go,QFq cq]
    exact z
   ·refine⟨.val (.str u),?_⟩
    have go:ex c VN [a,b,e,.val (.str q),.val (.lst r),.own (.lst ws),.val (.str u)]=.ret (.val (.tup [.str "taken",.lst r,.str u])) [a,b,e,.val (.str q),.val (.lst r),.own (.lst ws),.val (.str u)]:=by
     simp[VN,cq,ni,Ob.d,aP]
    simp only[go,QEz cq]
    rfl
theorem Zk n(K:C.Ok)(S:C.S s)(hx:x∈C.st s)r:
  pg.fn (n+5) 32 [.val C.n,.val C.t,.val (aq s),.val x,.val (.lst r)]=.ok (.val (C.sf s r x)) [.val C.n,.val C.t,.val (aq s),.val x,.val (.lst r)]:=by
 have lt:=K.iy (n+1) S hx
 obtain⟨q,rfl⟩:=bj C.h C.g x ((K.sub S).subset hx)
 have u:=K.unasked (n+3) S hx
 have s0:=abt s
 have hb:jB=⟨5,7,(.cons (.ite (.call 23 ABW) (.cons (.ret (.tup (.cons (.con (.str "unasked")) ABS))) .nil) .nil) (.cons (.set 5 (.call 14 (.cons (.var 0) (.cons (.idx (.call 24 (.cons (.var 0) ABW)) AAH) .nil)))) (.cons (.for_ (.name 6) (.call 14 ABd) VN) ABe)))⟩:=by kernel_rfl
 rw[p6,hb]
 unfold Cs.sf
 cases e:C.led s _ with
 |none=>
  rw[e]at u
  simp[u,aP]
 |some t=>
  rw[e]at u lt
  have St:=K.zK S e
  have w1:=K.wpr n St
  have w2:=K.wpr n S
  have t0:=abt t
  obtain⟨s6,z⟩:=VM (pg.cf (n+4)) (.val C.n) (.val C.t) (.val (aq s)) q r (K.wtx St) _ .un (K.wtx S) (.inl rfl)
  show _=Res.ok (.val (J6 r ((C.W s.1).filter fun y=> !aJ y _))) _
  cases hf:(C.W s.1).filter _ with
  |nil=>
   rw[hf]at z
   simp[u,lt,fV,t0,w1,w2,s0,Ob.d,items,z,J6]
  |cons y ys=>
   rw[hf]at z
   simp[u,lt,fV,t0,w1,w2,s0,Ob.d,items,z]
def hoC:E:=.comp 1 (.name 0) (.idx AAb AAg) AAL (.cmp .isin AAc AAi)
theorem CW n(K:C.Ok)(S:C.S s):
  pg.fn (n+1) 31 [.val C.t,.val (aq s)]=.ok (.val (.bl (LK C.os (aZ C.sts s.2)))) [.val C.t,.val (aq s)]:=by
 have st:=oh S.j
 have e:=tR (c:=pg.cf n) (it:=.idx AAb AAg) (el:=.cmp .isin AAc AAi) (σ:=[.val C.t,.val (aq s)]) (τ:=[.val C.t,.val (aq s)]) (r:=.val (dW (aZ C.sts s.2))) (fun d=>match d with|.tup (a::_)=>.bl (aJ a C.os)|_=>.non) (by simp[abe (C:=C),aeV s,st]) rfl rfl (fun x hx=>by
  obtain⟨m,hm,rfl⟩:=QDq.mp hx
  obtain⟨q,eq⟩:=(f9 K.t K.o S.j).1 m.1 (QTz hm)
  simp[lU,WL (C:=C),eq,(eG (q:=q) (mW K.t)).2.1])
 have e':ev (pg.cf n) hoC [.val C.t,.val (aq s)]=.ok (.new (.lst ((aZ C.sts s.2).map fun m=>.bl (aJ m.1 C.os)))) [.val C.t,.val (aq s)]:=by
  rw[List.map_map]at e
  exact e
 have bs:∀st:List (D×Nat),bools (st.map fun m=>D.bl (aJ m.1 C.os))=some (st.map fun m=>aJ m.1 C.os):=fun st=>by
  induction st with
  |nil=>rfl
  |cons m st ih=>simp only[Qyz,bools,ih,Option.map_some]
 have ba:b1 .any (.lst ((aZ C.sts s.2).map fun m=>D.bl (aJ m.1 C.os)))=some (.val (.bl (LK C.os (aZ C.sts s.2)))):=by
  show(bools _).map _=_
  rw[bs]
  simp[LK,List.any_map]
 have hb:wD=⟨2,2,(.cons (.ret (.bi .any hoC)) .nil)⟩:=by kernel_rfl
 have q:hoC.au=none:=rfl
 rw[HW,hb]
 simp[q,e',Ob.d,ba]
def faB:S:=(.cons (.set 6 (.call 32 (.cons (.var 0) (.cons (.var 1) (.cons (.var 2) (.cons (.var 5) (.cons (.op .add (.var 3) (.lis ABH)) .nil))))))) (.cons (.ite ACW (.cons (.ret (.var 6)) .nil) .nil) .nil))
theorem V0(n:Nat)(K:C.Ok){s:St}(S:C.S s){r:List D}(hr:r.length<=512)(a4:Sl):∀(xs:List D)(s5 s6:Sl),(∀x∈xs,x∈C.st s)->bu s5->bu s6->∃s5' s6',
  aL (.name 5) (ex (pg.cf (n+5)) faB) xs [.val C.n,.val C.t,.val (aq s),.val (.lst r),a4,s5,s6]=if bO (iB (fun x=>C.sf s (r++[x]) x) xs)then .next [.val C.n,.val C.t,.val (aq s),.val (.lst r),a4,s5',s6']
   else .ret (.val (iB (fun x=>C.sf s (r++[x]) x) xs)) [.val C.n,.val C.t,.val (aq s),.val (.lst r),a4,s5',s6']
 |[]=>fun s5 s6 _ _ _=>⟨s5,s6,rfl⟩
 |x::xs=>fun s5 s6 hx h5 h6=>by
  have fo:=Zk n K S (hx x QYz) (r++[x])
  have f1:fits (r.length+1)=true:=by simp[fits];omega
  have tt:aX (.name 5) x [.val C.n,.val C.t,.val (aq s),.val (.lst r),a4,s5,s6]=some [.val C.n,.val C.t,.val (aq s),.val (.lst r),a4,.val x,s6]:=by
   rcases h5 with rfl|⟨d,rfl⟩<;>simp[aX,bL]
  have c6:∀d,wO 6 [.val C.n,.val C.t,.val (aq s),.val (.lst r),a4,.val x,s6] (.val d) (some s6)=some [.val C.n,.val C.t,.val (aq s),.val (.lst r),a4,.val x,.val d]:=fun d=>by
   rcases h6 with rfl|⟨d,rfl⟩<;>simp
  rw[aL,tt]
  simp only[iB]
  cases e:bO (C.sf s _ x)with
  |true=>
   have en:C.sf s (r++[x]) x=.non:=by
    cases he:C.sf s _ x<;>first|rfl|(rw[he]at e;cases e)
   rw[en]at fo
   have go:ex (pg.cf (n+5)) faB [.val C.n,.val C.t,.val (aq s),.val (.lst r),a4,.val x,s6]=.next [.val C.n,.val C.t,.val (aq s),.val (.lst r),a4,.val x,.val .non]:=by
    simp[faB,aP,Ob.d,f1,fo,c6]
   simp only[go,if_true]
   exact V0 n K S hr a4 xs _ _ (fun y hy=>hx y (QYq _ hy)) (.inr ⟨_,rfl⟩) (.inr ⟨_,rfl⟩)
  |false=>
   refine⟨.val x,.val (C.sf s (r++[x]) x),?_⟩
   have go:ex (pg.cf (n+5)) faB [.val C.n,.val C.t,.val (aq s),.val (.lst r),a4,.val x,s6]=.ret (.val (C.sf s (r++[x]) x)) [.val C.n,.val C.t,.val (aq s),.val (.lst r),a4,.val x,.val (C.sf s (r++[x]) x)]:=by
    simp[faB,aP,Ob.d,f1,fo,c6,e]
   simp only[go,Qxq,if_false,e]
   rfl
theorem Aa n(K:C.Ok)(S:C.S s)(hr:r.length<=512):
  pg.fn (n+6) 30 [.val C.n,.val C.t,.val (aq s),.val (.lst r)]=.ok (.val (C.flt s r)) [.val C.n,.val C.t,.val (aq s),.val (.lst r)]:=by
 have st:=K.dC n S
 have ho:=CW (n+4) K S
 obtain⟨a,b,z⟩:=V0 n K S hr (.val (.lst (C.st s))) _ .un .un (fun x hx=>hx) (.inl rfl) (.inl rfl)
 have hb:uo=⟨4,7,(.cons (.set 4 (.call 22 ABX)) (.cons (.ite (.and (.cons (.not (.var 4)) (.cons (.call 31 AAR) .nil))) (.cons (.ret (.tup (.cons (.con (.str "stuck")) AAS))) .nil) .nil) (.cons (.for_ (.name 5) (.var 4) faB) ABe)))⟩:=by kernel_rfl
 rw[Ci,hb]
 unfold Cs.flt
 cases c:(C.st s).isEmpty with
 |true=>
  cases co:LK C.os _ with
  |true=>
   rw[co]at ho
   simp[st,Ob.d,c,ho,aP]
  |false=>
   rw[co]at ho
   simp[st,Ob.d,ho,List.isEmpty_iff.mp c,items,aL]
 |false=>
  cases cn:bO (iB _ _)with
  |true=>
   have en:iB (fun x=>C.sf s (r++[x]) x) (C.st s)=.non:=by
    cases he:iB _ _<;>first|rfl|(rw[he]at cn;cases cn)
   rw[cn,if_pos rfl]at z
   rw[en]
   simp[st,Ob.d,c,items,z]
  |false=>
   rw[cn,if_neg (by simp)]at z
   simp[st,Ob.d,c,items,z]
end
end Tx
end
section
open PySem Mini
namespace Tx
section
variable{C:Cs}
def Mj(e:bO d=true):d=.non:=by
 cases d<;>first|rfl|cases e
theorem ym:∀(f k:Nat)(R:Rs),∃Z,C.wz f k R=R++Z
 |0=>fun _ R=>⟨[],by simp[Cs.wz]⟩
 |f+1=>fun k R=>by
  rw[Cs.wz]
  split
  ·exact⟨[],by simp⟩
  ·rename_i p e
   obtain⟨Z,z⟩:=ym f _ _
   exact⟨_,by rw[z,QLq]⟩
def Cs.ff(C:Cs):Rs->D
 |[]=>.non
 |p::R=>if bO (C.flt p.1 p.2)then C.ff R else C.flt p.1 p.2
def ftB:S:=(.cons (.set 4 (.call 30 (.cons (.var 0) (.cons (.var 1) (.cons ABZ (.cons (.idx (.var 2) ABZ) .nil)))))) (.cons (.ite (.cmp .notN (.var 4) (.con (.non))) ABP .nil) (.cons (.set 3 (.op .add (.slc (.var 3) AAG .noneE) (.call 26 (.cons (.var 0) (.cons (.var 1) (.cons ABZ (.cons (.ref 2) .nil))))))) .nil)))
theorem VL(n:Nat)(K:C.Ok):∀(f k:Nat)(R:Rs)(s4:Sl),C.Ro R->k<=R.length->512<f+k->bu s4->∃a b c,
  cY (ev (pg.cf (n+6)) (.var 3)) (ex (pg.cf (n+6)) ftB) f [.val C.n,.val C.t,.own (.sdt (kD R) (vD R)),.own (.lst (kD (R.drop k))),s4]=
   if bO (C.ff ((C.wz f k R).drop k))then .next [.val C.n,.val C.t,a,b,c]else .ret (.val (C.ff ((C.wz f k R).drop k))) [.val C.n,.val C.t,a,b,c]
 |0=>fun k R _ X hk hf _=>by have:=X.zL K;omega
 |f+1=>fun k R s4 X hk hf h4=>by
  by_cases c:k<R.length
  ·obtain⟨p,e⟩:∃p,R[k]? =some p:=⟨_,QXq c⟩
   obtain⟨s,r⟩:=p
   have m:=QBz e
   have S:=X.ok _ m
   have fa:=Aa n K S (Nat.le_trans (X.le _ m) (X.zL K))
   have ge:=VG (CG X.nd e)
   have dr:kD (R.drop k)=aq s::kD (R.drop (k+1)):=by
    rw[List.drop_eq_getElem_cons c]
    rw[QXq c]at e
    simp only[Option.some.injEq]at e
    simp[kD,e]
   have X':=oO K S (X.wr _ m) _ (fun x hx=>(K.sub S).subset hx) X (X.le _ m)
   have rb':=X'.zL K
   simp only[QTq]at rb'
   have fi:fits ((kD (R.drop (k+1))).length+(kD (C.new s r (C.st s) R)).length)=true:=by
    rw[CP,CP,List.length_drop];simp[fits];omega
   have az:=T8 (aq s) (kD (R.drop (k+1)))
   have c4:∀d,wO 4 [.val C.n,.val C.t,.own (.sdt (kD R) (vD R)),.val (.lst (aq s::kD (R.drop (k+1)))),s4] (.val d) (some s4)=some [.val C.n,.val C.t,.own (.sdt (kD R) (vD R)),.val (.lst (aq s::kD (R.drop (k+1)))),.val d]:=fun d=>by
    rcases h4 with rfl|⟨d,rfl⟩<;>simp
   have bd:(C.wz (f+1) k R).drop k=(s,r)::(C.wz f (k+1) (R++C.new s r (C.st s) R)).drop (k+1):=by
    have b1:C.wz (f+1) k R=C.wz f (k+1) (R++C.new s r (C.st s) R):=by simp only[Cs.wz,e]
    obtain⟨Z,z⟩:=ym f _ _
    rw[b1,z,QLq,List.drop_eq_getElem_cons (by simp;omega),List.getElem_append_left c]
    rw[QXq c]at e
    simp only[Option.some.injEq]at e
    rw[e]
   rw[bd,dr,cY]
   simp only[Cs.ff,agT,KZ]
   cases cn:bO (C.flt s r)with
   |true=>
    have dd:kD ((R++C.new s r (C.st s) R).drop (k+1))=kD (R.drop (k+1))++kD (C.new s r (C.st s) R):=by
     rw[List.drop_append_of_le_length (by omega),M5]
    rw[Mj cn]at fa
    have go:ex (pg.cf (n+6)) ftB [.val C.n,.val C.t,.own (.sdt (kD R) (vD R)),.val (.lst (aq s::kD (R.drop (k+1)))),s4]=.next [.val C.n,.val C.t,.own (.sdt (kD (R++C.new s r (C.st s) R)) (vD (R++C.new s r (C.st s) R))),.own (.lst (kD ((R++C.new s r (C.st s) R).drop (k+1)))),.val .non]:=by
     rw[dd]
     simp[ftB,cV,E.jJ,ik,TQ,az,Mm n K X e,fi,Ob.d,ge,fa,c4]
    obtain⟨a,b,c',z⟩:=VL n K f (k+1) _ _ X' (by simp;omega) (by omega) (.inr ⟨_,rfl⟩)
    refine⟨a,b,c',?_⟩
    simp only[if_true]
    rw[<-z]
    simp[Ob.d,go,Out.Dj]
    rfl
   |false=>
    have go:ex (pg.cf (n+6)) ftB [.val C.n,.val C.t,.own (.sdt (kD R) (vD R)),.val (.lst (aq s::kD (R.drop (k+1)))),s4]=.ret (.val (C.flt s r)) [.val C.n,.val C.t,.own (.sdt (kD R) (vD R)),.val (.lst (aq s::kD (R.drop (k+1)))),.val (C.flt s r)]:=by
     simp[ftB,az,Ob.d,ge,fa,c4,cn]
    refine⟨.own (.sdt (kD R) (vD R)),.val (.lst (aq s::kD (R.drop (k+1)))),.val (C.flt s r),?_⟩
    simp[Ob.d,go,Out.Dj,cn]
    rfl
  ·have dk:R.drop k=[]:=List.drop_eq_nil_of_le (by omega)
   refine⟨.own (.sdt (kD R) (vD R)),.val (.lst []),s4,?_⟩
   rw[cY,Cs.wz,(List.getElem?_eq_none (by omega))]
   simp[kD,Ob.d,Out.Dj,dk,Cs.ff,bO]
   rfl
theorem Oh n(K:C.Ok):
  pg.fn (n+10) 29 [.val C.n,.val C.t]=.ok (.val (C.ff (C.wz 1000 0 (R0 C.ls)))) [.val C.n,.val C.t]:=by
 have c:=K.checked n
 have f:=tH (n+8) (C:=C)
 obtain⟨q1,q2,q3,z⟩:=VL (n+3) K 1000 0 _ .un (Qj K) (QIq _) (by omega) (.inl rfl)
 have k0:kD ((R0 C.ls).drop 0)=[aq _]:=rfl
 have k1:kD (R0 C.ls)=[aq _]:=rfl
 have v1:vD (R0 C.ls)=[.lst []]:=rfl
 rw[k0,k1,v1,List.drop_zero]at z
 have tn:(pg.cf (n+9)).turns=1000:=rfl
 have ds:Jq [aq (sI C.ls),.lst []]=some (.new (.sdt [aq (sI C.ls)] [.lst []])):=by
  have:Oq [aq (sI C.ls),.lst []]=some (.new (.sdt [aq (sI C.ls)] [.lst []])):=by
   show(if o4 _ then _ else none)=_
   rw[nA];rfl
  unfold Jq
  rw[this]
  rfl
 have hb:Hf=⟨2,5,(.cons ABQ (.cons (.set 2 (.dsp (.cons (.call 21 AAT) (.cons AAv .nil)))) (.cons (.set 3 (.bi .list (.var 2))) (.cons (.while_ (.var 3) ftB) ABe))))⟩:=by kernel_rfl
 have bl:∀ks vs:List D,b1 .list (.jH ks vs)=some _:=fun _ _=>rfl
 rw[Rn,hb]
 generalize C.ff _=d at*
 cases cn:bO d with
 |true=>
  rw[cn,if_pos rfl]at z
  rw[Mj cn]
  simp[c,f,aP,ds,bl,Ob.d,tn,z]
 |false=>
  rw[cn,if_neg (by simp)]at z
  simp[c,f,aP,ds,bl,Ob.d,tn,z]
end
end Tx
end
section
open PySem Mini
namespace Tx
section
def TX(a:lu xs=true)(b:jl xs<=49):aG .ne (.lst xs) (.lst [])=some (!xs.isEmpty)/\aG .eq (.lst xs) (.lst [])=some xs.isEmpty:=by
 have c:cD (.lst xs) (.lst [])=xs.isEmpty:=by cases xs<;>simp[cD,jE]
 have o:lQ (.lst xs) (.lst [])=true:=by simp[lQ,nd,lu,dep,a,b]
 constructor
 ·show(if lQ _ _ then some _ else none)=_
  rw[c,o];rfl
 ·show(if lQ _ _ then some _ else none)=_
  rw[c,o];rfl
end
end Tx
end
section
open PySem Mini
namespace Tx
section
variable{C:Cs}
def Cs.run(C:Cs):List D->St->Option St
 |[],s=>some s
 |w::ws,s=>if aJ w (C.st s)then(C.led s w).bind (C.run ws)else none
theorem gw:∀(a b:List D)(s:St),C.run (a++b) s=(C.run a s).bind (C.run b)
 |[]=>fun b s=>rfl
 |w::a=>fun b s=>by
  simp only[QLz,Cs.run]
  split
  ·cases C.led s w with
   |none=>rfl
   |some s'=>exact gw a b s'
  ·rfl
end
end Tx
end
section
open PySem Mini
namespace Tx
section
variable{C:Cs}
def T9 xs w:at? (xs++[w]) (-1)=some w:=by
 unfold at? ix?
 simp
 split
 ·rename_i hh
  have:((-1:Int)+(xs.length+1)).toNat=xs.length:=by omega
  simp[this]
 ·omega
def ZJ xs e(h0:0<xs.length):∃w∈xs,at? xs (e%(xs.length:Int))=some w:=by
 have a:=Int.emod_nonneg e (show(xs.length:Int)≠0 by omega)
 have b:=Int.emod_lt_of_pos e (show(0:Int)<xs.length by omega)
 generalize e%xs.length=r at a b
 obtain⟨r,rfl⟩:=Int.eq_ofNat_of_zero_le a
 have hr:r<xs.length:=by omega
 exact⟨xs[r],List.getElem_mem hr,by rw[gM _ _ hr,QXq hr]⟩
def drI:S:=(.cons (.ite (.cmp .notN (.call 51 (.cons (.var 2) (.cons (.var 3) (.cons (.var 6) (.cons (.var 10) .nil))))) AAs) (.cons (.append 9 (.var 10)) .nil) .nil) .nil)
theorem Nt(n:Nat)(K:C.Ok){s:St}(S:C.S s)(a0 a1 a4 a5 a7 a8 a11:Sl):∀(xs acc:List D)(uA:Sl),(∀x∈xs,x∈C.nm)->acc.length+xs.length<=100->bu uA->∃Δ,bu Δ/\
  aL (.name 10) (ex (pg.cf (n+2)) drI) xs [a0,a1,.val C.n,.val C.t,a4,a5,.val (aq s),a7,a8,.own (.lst acc),uA,a11]=.next [a0,a1,.val C.n,.val C.t,a4,a5,.val (aq s),a7,a8,.own (.lst (acc++xs.filter fun x=>(C.led s x).isSome)),Δ,a11]
 |[]=>fun acc uA _ _ h10=>⟨uA,h10,by simp[aL]⟩
 |x::xs=>fun acc uA hx hl h10=>by
  have ld:=K.xu n S (bj C.h C.g x (hx x QYz))
  have tt:aX (.name 10) x [a0,a1,.val C.n,.val C.t,a4,a5,.val (aq s),a7,a8,.own (.lst acc),uA,a11]=some [a0,a1,.val C.n,.val C.t,a4,a5,.val (aq s),a7,a8,.own (.lst acc),.val x,a11]:=by
   rcases h10 with rfl|⟨d,rfl⟩<;>simp[aX,bL]
  have f:fits (acc.length+1)=true:=by simp at hl;simp[fits];omega
  have hx':=fun y hy=>hx y (QYq _ hy)
  rw[aL,tt]
  cases e:C.led s x with
  |none=>
   rw[e]at ld
   obtain⟨Δ,b1,b2⟩:=Nt n K S a0 a1 a4 a5 a7 a8 a11 xs acc _ hx' (by simp at hl;omega) (.inr ⟨_,rfl⟩)
   refine⟨Δ,b1,?_⟩
   have go:ex (pg.cf (n+2)) drI [a0,a1,.val C.n,.val C.t,a4,a5,.val (aq s),a7,a8,.own (.lst acc),.val x,a11]=.next [a0,a1,.val C.n,.val C.t,a4,a5,.val (aq s),a7,a8,.own (.lst acc),.val x,a11]:=by simp[drI,ld,fV]
   simp only[go]
   rw[List.filter_cons,e]
   exact b2
  |some s1=>
   rw[e]at ld
   obtain⟨Δ,b1,b2⟩:=Nt n K S a0 a1 a4 a5 a7 a8 a11 xs (acc++[x]) _ hx' (by simp at hl⊢;omega) (.inr ⟨_,rfl⟩)
   refine⟨Δ,b1,?_⟩
   have go:ex (pg.cf (n+2)) drI [a0,a1,.val C.n,.val C.t,a4,a5,.val (aq s),a7,a8,.own (.lst acc),.val x,a11]=.next [a0,a1,.val C.n,.val C.t,a4,a5,.val (aq s),a7,a8,.own (.lst (acc++[x])),.val x,a11]:=by simp[drI,ld,fV,cZ,dU,yt,f]
   simp only[go]
   rw[List.filter_cons,e]
   simpa using b2
noncomputable def drB:S:=(.cons (.set 9 AAv) (.cons (.for_ (.name 10) (.call 50 (.cons (.var 2) (.cons (.var 3) ABR))) drI) (.cons (.ite (.cmp .ne (.var 9) AAv) (.cons (.set 11 (.op .mod (.op .mul (.op .add (.op .add (.var 5) (.op .mul (.op .mul (.con (.int 104729)) (.var 8)) (.var 8))) (.op .mul (.con (.int 7919)) (.var 8))) (.con (.int 48271))) (.con (.int 2147483647)))) (.cons (.append 7 (.idx (.var 9) (.op .mod (.op .fdiv (.var 11) (.con (.int 13))) (.bi .len (.var 9))))) (.cons (.set 6 (.call 51 (.cons (.var 2) (.cons (.var 3) (.cons (.var 6) (.cons (.idx (.var 7) (.neg AAG)) .nil)))))) .nil))) .nil) .nil)))
theorem TF n(K:C.Ok)a0 a1 a4 seed t(t0:0<=t)(t1:t<100)(S:C.S s){run:List D}(hr:∀x∈run,x∈C.nm)(hl:run.length<=100){s9 uA Bb:Sl}(h9:bu s9)(h10:bu uA)(h11:bu Bb):
  ∃(s':St)(ws:List D)(s9' Δ s11':Sl),C.S s'/\(∀x∈ws,x∈C.nm)/\ws.length<=1/\C.run ws s=some s'/\bu s9'/\bu Δ/\bu s11'/\
   ex (pg.cf (n+4)) drB [a0,a1,.val C.n,.val C.t,a4,.val (.int seed),.val (aq s),.own (.lst run),.val (.int t),s9,uA,Bb]=.next [a0,a1,.val C.n,.val C.t,a4,.val (.int seed),.val (aq s'),.own (.lst (run++ws)),.val (.int t),s9',Δ,s11']:=by
 have ls_:=K.vL n S
 have sub:∀x∈C.st s,x∈C.nm:=fun x hx=>(K.sub S).subset hx
 have sl:(C.st s).length<=(names C.h C.g).length:=(K.sub S).length_le
 have nl:=fD K.o.h2 K.o.g5
 have h2:=K.o.h2
 have g5:=K.o.g5
 obtain⟨Δ,b1,b2⟩:=Nt (n+2) K S a0 a1 a4 (.val (.int seed)) (.own (.lst run)) (.val (.int t)) Bb _ [] uA sub (by simp;omega) h10
 have fm:∀x∈(C.st s).filter (fun x=>(C.led s x).isSome),x∈C.nm:=fun x hx=>sub x (List.mem_filter.mp hx).1
 have nn:=mZ fm
 have ne:=(TX nn.1 (by rw[nn.2];omega)).1
 generalize hL:(C.st s).filter _=L at b2 ne fm
 have m1:small 104729=true:=by decide
 have m2:small 7919=true:=by decide
 have m3:small 48271=true:=by decide
 have m4:small t=true:=by simp[small];omega
 have f:fits (run.length+1)=true:=by simp[fits];omega
 cases L with
 |nil=>
  refine⟨s,[],.val (.lst []),Δ,Bb,S,fun x hx=>(by cases hx),by simp,rfl,.inr ⟨_,rfl⟩,b1,h11,?_⟩
  rcases h9 with rfl|⟨d,rfl⟩<;>simp[drB,aP,ls_,items,b2,Ob.d,ne]
 |cons w0 L=>
  obtain⟨w,hw,ew⟩:=ZJ (w0::L) ((seed+104729*t*t+7919*t)*48271%2147483647/13) (by simp)
  rw[<-hL]at hw
  obtain⟨hw1,hw2⟩:=List.mem_filter.mp hw
  obtain⟨s',es⟩:=Option.isSome_iff_exists.mp hw2
  have ld:=K.xu (n+2) S (bj C.h C.g w (sub w hw1))
  rw[es]at ld
  have ld':pg.fn _ 51 [.val C.n,.val C.t,.val _,.val w]=.ok (.val (aq s')) [.val C.n,.val C.t,.val _,.val w]:=ld
  have ew':at? (w0::L) ((seed+104729*t*t+7919*t)*48271%2147483647/13%(L.length+1))=some w:=by
   rw[<-ew]
   simp
  refine⟨s',[w],.val (.lst (w0::L)),Δ,.val (.int ((seed+104729*t*t+7919*t)*48271%2147483647)),K.zK S es,fun x hx=>?_,by simp,?_,.inr ⟨_,rfl⟩,b1,.inr ⟨_,rfl⟩,?_⟩
  ·rw[QDz.mp hx];exact sub w hw1
  ·simp[Cs.run,jj hw1 fun x hx=>bj C.h C.g x (sub x hx),es]
  ·rcases h9 with rfl|⟨d,rfl⟩<;>rcases h11 with rfl|⟨d,rfl⟩<;>simp[drB,aP,ls_,items,b2,Ob.d,ne,m1,m2,m3,m4,dU,yt,f,ew',T9 run w,ld']
theorem V3(n:Nat)(K:C.Ok)(a0 a1 a4:Sl)(seed:Int):∀(m:Nat)(t:Int)(s:St)(run:List D)(s8 s9 uA Bb:Sl),0<=t->t+m<=100->C.S s->(∀x∈run,x∈C.nm)->run.length+m<=100->bu s8->bu s9->bu uA->bu Bb->
  ∃(s':St)(ws:List D)(s8' s9' Δ s11':Sl),C.S s'/\(∀x∈ws,x∈C.nm)/\ws.length<=m/\C.run ws s=some s'/\
   aL (.name 8) (ex (pg.cf (n+4)) drB) (bw t m) [a0,a1,.val C.n,.val C.t,a4,.val (.int seed),.val (aq s),.own (.lst run),s8,s9,uA,Bb]=.next [a0,a1,.val C.n,.val C.t,a4,.val (.int seed),.val (aq s'),.own (.lst (run++ws)),s8',s9',Δ,s11']
 |0=>fun t s run s8 s9 uA Bb _ _ S _ _ _ _ _ _=>⟨s,[],s8,s9,uA,Bb,S,fun x hx=>(by cases hx),by simp,rfl,by simp[bw,aL]⟩
 |m+1=>fun t s run s8 s9 uA Bb t0 t1 S hr hl h8 h9 h10 h11=>by
  obtain⟨s1,w1,r9,r10,r11,c1,c2,c3,c4,c5,c6,c7,c8⟩:=TF n K a0 a1 a4 seed t t0 (by omega) S hr (by omega) h9 h10 h11
  obtain⟨s',ws,q8,q9,q10,q11,d1,d2,d3,d4,d5⟩:=V3 n K a0 a1 a4 seed m (t+1) s1 _ _ r9 r10 r11 (by omega) (by omega) c1 (fun x hx=>by
   rcases QXz.mp hx with z|z
   ·exact hr x z
   ·exact c2 x z) (by simp;omega) (.inr ⟨_,rfl⟩) c5 c6 c7
  refine⟨s',w1++ws,q8,q9,q10,q11,d1,fun x hx=>?_,by simp;omega,by rw[gw,c4];exact d4,?_⟩
  ·rcases QXz.mp hx with z|z
   ·exact c2 x z
   ·exact d2 x z
  ·have tt:aX (.name 8) (.int t) [a0,a1,.val C.n,.val C.t,a4,.val (.int seed),.val (aq s),.own (.lst run),s8,s9,uA,Bb]=some [a0,a1,.val C.n,.val C.t,a4,.val (.int seed),.val (aq s),.own (.lst run),.val (.int t),s9,uA,Bb]:=by
    rcases h8 with rfl|⟨d,rfl⟩<;>simp[aX,bL]
   rw[bw,aL,tt]
   simp only[c8]
   rw[<-QLq]
   exact d5
def Ad n ns(K:C.Ok)(hk:0<=k0)(hM:M<=99):∃(run:List D)(s:St),(∀x∈run,x∈C.nm)/\run.length<=M/\C.S s/\C.run run (sI C.ls)=some s/\
  pg.fn (n+5) 52 [.val (sc ns),.val (.int k0),.val C.n,.val C.t,.val (.int M)]=.ok (.val (.tup [.lst run,aq s])) [.val (sc ns),.val (.int k0),.val C.n,.val C.t,.val (.int M)]:=by
 obtain⟨sd,_,_,e1⟩:=rR (n+2) ns k0 1000000000 (by omega) (by omega)
 obtain⟨m,m1,m2,e2⟩:=rR (n+2) ns (k0+1) (M+1) (by omega) (by omega)
 obtain⟨m,rfl⟩:=Int.eq_ofNat_of_zero_le m1
 obtain⟨s,run,q8,q9,q10,q11,d1,d2,d3,d4,d5⟩:=V3 n K (.val (sc ns)) (.val (.int k0)) (.val (.int M)) sd m 0 _ [] .un .un .un .un (by omega) (by omega) (yS K) (fun x hx=>by cases hx) (by simp;omega) (.inl rfl) (.inl rfl) (.inl rfl) (.inl rfl)
 refine⟨run,s,d2,by omega,d1,d4,?_⟩
 have pw:binop .pow (.int 10) (.int 9)=some _:=rfl
 have se:D.tup [aK C.ls,.int 0]=aq (sI C.ls):=rfl
 have f1:fits m=true:=by simp[fits];omega
 have f2:Be m=true:=by simp[Be];omega
 have hb:jA=⟨5,12,(.cons (.set 5 (.call 34 (.cons (.var 0) (.cons (.var 1) (.cons (.op .pow (.con (.int 10)) (.con (.int 9))) .nil))))) (.cons (.set 6 (.tup (.cons (.idx (.var 2) AAP) ABN))) (.cons (.set 7 AAv) (.cons (.for_ (.name 8) (.range1 (.call 34 (.cons (.var 0) (.cons (.op .add (.var 1) AAG) (.cons (.op .add (.var 4) AAG) .nil))))) drB) (.cons (.ret (.tup (.cons (.var 7) ABR))) .nil)))))⟩:=by kernel_rfl
 rw[pZ,hb]
 simp[pw,e1,e2,Vq (C:=C),aP,se,f1,f2,items,d5,Ob.d]
end
end Tx
end
section
open PySem Mini
namespace Tx
section
variable{C:Cs}
theorem mY{r:List D}:∀{xs:List D}{R:Rs},p∈C.new s r xs R->∃x∈xs,C.led s x=some p.1/\p.2=r++[x]
 |[],R,hp=>by cases hp
 |x::xs,R,hp=>by
  rw[Cs.new]at hp
  split at hp
  ·obtain⟨y,hy,z⟩:=mY hp
   exact⟨y,QYq _ hy,z⟩
  ·rename_i t e
   split at hp
   ·obtain⟨y,hy,z⟩:=mY hp
    exact⟨y,QYq _ hy,z⟩
   ·rcases QCq.mp hp with rfl|hp
    ·exact⟨x,QYz,e,rfl⟩
    ·obtain⟨y,hy,z⟩:=mY hp
     exact⟨y,QYq _ hy,z⟩
theorem qx{r:List D}(e:C.led s x=some t):∀{xs:List D}{R:Rs},x∈xs->t∈(R++C.new s r xs R).map (·.1)
 |[],R,hx=>by cases hx
 |y::xs,R,hx=>by
  rw[Cs.new]
  split
  ·rename_i ey
   rcases QCq.mp hx with rfl|hx
   ·rw[e]at ey;cases ey
   ·exact qx e hx
  ·rename_i u ey
   split
   ·rename_i hu
    rcases QCq.mp hx with rfl|hx
    ·rw[e]at ey;cases ey
     rw[List.map_append];exact QWz _ hu
    ·exact qx e hx
   ·rcases QCq.mp hx with rfl|hx
    ·rw[e]at ey;cases ey
     simp
    ·have:=qx (r:=r) (R:=R++[(u,r++[y])]) e hx
     rw[QLq]at this
     exact this
structure Cs.Bf(C:Cs)(k:Nat)(R:Rs):Prop where
 run:∀p∈R,C.run p.2 (sI C.ls)=some p.1
 srt:∀(i j:Nat)(p q:St×List D),i<=j->R[i]? =some p->R[j]? =some q->p.2.length<=q.2.length
 clo:∀(j:Nat)(p:St×List D),j<k->R[j]? =some p->∀x∈C.st p.1,∀t,C.led p.1 x=some t->t∈R.map (·.1)
 lvl:∀q,R[k]? =some q->∀p∈R,p.2.length<=q.2.length+1
def xO{R N:Rs}{i:Nat}(e:(R++N)[i]? =some p):R[i]? =some p\/R.length<=i/\p∈N:=by
 by_cases c:i<R.length
 ·rw[Qwz c]at e;exact .inl e
 ·rw[QIz (by omega)]at e
  exact .inr ⟨by omega,QBz e⟩
def T7(K:C.Ok){R:Rs}(X:C.Ro R)(B:C.Bf k R){s:St}(e:R[k]? =some (s,r)):
  C.Bf (k+1) (R++C.new s r (C.st s) R):=by
 have m:=QBz e
 have S:=X.ok _ m
 have nl:∀p∈C.new s r (C.st s) R,p.2.length=r.length+1:=fun p hp=>by
  obtain⟨x,_,_,z⟩:=mY hp
  rw[z];simp
 have al:∀p∈R++C.new s r _ R,p.2.length<=r.length+1:=fun p hp=>by
  rcases QXz.mp hp with z|z
  ·exact B.lvl _ e p z
  ·rw[nl p z];exact QVz _
 have up:∀i p,R[i]? =some p->(R++C.new s r (C.st s) R)[i]? =some p:=fun i p ei=>by
  rw[Qwz (QCz.mp ei).1];exact ei
 refine⟨fun p hp=>?_,fun i j p q hij ei ej=>?_,fun j p hj ej x hx t et=>?_,fun q eq p hp=>?_⟩
 ·rcases QXz.mp hp with z|z
  ·exact B.run p z
  ·obtain⟨x,hx,ex_,z⟩:=mY z
   rw[z,gw,B.run _ m]
   have i:aJ x (C.st s)=true:=by
    obtain⟨q,rfl⟩:=K.pW S x hx
    exact jj hx (K.pW S)
   simp[Cs.run,i,ex_]
 ·rcases xO ej with z|⟨z1,z2⟩
  ·rcases xO ei with y|⟨y1,y2⟩
   ·exact B.srt i j p q hij y z
   ·have:=(QCz.mp z).1
    omega
  ·rw[nl q z2]
   exact al p (QBz ei)
 ·by_cases c:j=k
  ·subst c
   rw[up _ _ e]at ej
   cases ej
   exact qx et hx
  ·rw[Qwz (by have:=(QCz.mp e).1;omega)]at ej
   rw[List.map_append]
   exact QWz _ (B.clo j p (by omega) ej x hx t et)
 ·have le:r.length<=q.2.length:=by
   rcases xO eq with z|⟨z1,z2⟩
   ·exact B.srt k _ (s,r) q (by omega) e z
   ·rw[nl q z2];omega
  have:=al p hp
  omega
theorem Hd(K:C.Ok):∀(f k:Nat)(R:Rs),C.Ro R->k<=R.length->512<f+k->C.Bf k R->∃m,(C.wz f k R).length<=m/\C.Bf m (C.wz f k R)
 |0=>fun k R X hk hf _=>by have:=X.zL K;omega
 |f+1=>fun k R X hk hf B=>by
  rw[Cs.wz]
  split
  ·rename_i e
   exact⟨k,List.getElem?_eq_none_iff.mp e,B⟩
  ·rename_i p e
   obtain⟨s,r⟩:=p
   have m:=QBz e
   have S:=X.ok _ m
   have kl:=(QCz.mp e).1
   exact Hd K f _ _ (oO K S (X.wr _ m) _ (fun x hx=>(K.sub S).subset hx) X (X.le _ m)) (by simp;omega) (by omega) (T7 K X B e)
def T6:C.Bf 0 (R0 C.ls):=by
 refine⟨fun p hp=>?_,fun i j p q _ ei ej=>?_,fun j p hj=>(by omega),fun q _ p hp=>?_⟩
 ·rw[QDz.mp hp];rfl
 ·have:=QDz.mp (QBz ei)
  rw[this];exact QIq _
 ·rw[QDz.mp hp];exact QIq _
structure Cs.Fi(C:Cs)(F:Rs):Prop where
 ok:C.Ro F
 fst:sI C.ls∈F.map (·.1)
 run:∀p∈F,C.run p.2 (sI C.ls)=some p.1
 srt:∀(i j:Nat)(p q:St×List D),i<=j->F[i]? =some p->F[j]? =some q->p.2.length<=q.2.length
 clo:∀s∈F.map (·.1),∀x∈C.st s,∀t,C.led s x=some t->t∈F.map (·.1)
def Zn(K:C.Ok):C.Fi (C.wz 1000 0 (R0 C.ls)):=by
 obtain⟨m,hm,B⟩:=Hd K 1000 0 _ (Qj K) (QIq _) (by omega) (T6)
 refine⟨Pn K 1000 0 (Qj K),?_,B.run,B.srt,fun s hs x hx t et=>?_⟩
 ·obtain⟨Z,z⟩:=ym 1000 0 _
  rw[z]
  simp[R0]
 ·obtain⟨p,hp,rfl⟩:=QDq.mp hs
  obtain⟨j,ej⟩:=List.getElem?_of_mem hp
  exact B.clo j p (Qvq (QCz.mp ej).1 hm) ej x hx t et
theorem lG f:∀xs:List D,bO (iB f xs)=xs.all fun x=>bO (f x)
 |[]=>rfl
 |x::xs=>by
  rw[iB,List.all_cons,<-lG f xs]
  cases e:bO (f x)
  ·simp[e]
  ·simp
def Ht s r r' x:bO (C.sf s r x)=bO (C.sf s r' x):=by
 unfold Cs.sf
 split
 ·rfl
 ·unfold J6
  split<;>rfl
def Tt s r r':bO (C.flt s r)=bO (C.flt s r'):=by
 unfold Cs.flt
 split
 ·split<;>rfl
 ·rw[lG,lG]
  congr 1
  funext x
  exact Ht s _ _ x
theorem mC:∀{R:Rs},bO (C.ff R)=true->∀p∈R,bO (C.flt p.1 p.2)=true
 |[]=>fun _ p hp=>by cases hp
 |q::R=>fun e p hp=>by
  rw[Cs.ff]at e
  cases c:bO (C.flt q.1 q.2)with
  |false=>rw[c]at e;simp only[Qxq,if_false]at e;rw[c]at e;cases e
  |true=>
   rw[c]at e
   rcases QCq.mp hp with rfl|hp
   ·exact c
   ·exact mC (by simpa using e) p hp
end
end Tx
end
section
open PySem Mini
namespace Tx
def Mw(x y:D)(a b:List (D×Nat)):Bool:=match lk y a,lk x b with
 |some u,some v=>u==v
 |_,_=>false
def Fj(sts:List (List (D×Nat)))(m q:D×Nat):Bool:=cD m.1 q.1||Mw m.1 q.1 (aZ sts m.2) (aZ sts q.2)
def Kq(sts:List (List (D×Nat)))(st:List (D×Nat)):Bool:=st.all fun m=>st.all fun q=>Fj sts m q
def fM(sts:List (List (D×Nat))):Bool:=sts.all (Kq sts)
def Step(I J:Ev->Prop)(b:Ev->Fl)(v:Bool)(σ:Ev):Prop:=(v=true/\∃τ,I τ/\b σ=.next τ)\/(v=false/\∃τ,J τ/\b σ=.ret (.val (.bl false)) τ)
theorem qC{α:Type}{tg:Tg}{b:Ev->Fl}(I J:Ev->Prop)(p:α->Bool)(f:α->D):∀(xs:List α),(∀x∈xs,∀σ,I σ->∃Φ,aX tg (f x) σ=some Φ/\Step I J b (p x) Φ)->∀σ,I σ->Step I J (aL tg b (xs.map f)) (xs.all p) σ
 |[]=>fun _ σ h=>.inl ⟨rfl,σ,h,by simp[aL]⟩
 |x::xs=>fun hx σ h=>by
  obtain⟨Φ,a1,a2⟩:=hx x QYz σ h
  have e:aL tg b ((x::xs).map f) σ=(b Φ).turn (aL tg b (xs.map f)):=by rw[Qyz,aL,a1]
  rcases a2 with ⟨p1,τ,it,e1⟩|⟨p1,τ,jt,e1⟩
  ·rcases qC I J p f xs (fun y hy=>hx y (QYq _ hy)) τ it with ⟨q1,τ',it',e2⟩|⟨q1,τ',jt',e2⟩
   ·exact .inl ⟨by simp[p1,q1],τ',it',by rw[e,e1,iI,e2]⟩
   ·exact .inr ⟨by simp[p1,q1],τ',jt',by rw[e,e1,iI,e2]⟩
  ·exact .inr ⟨by simp[p1],τ,jt,by rw[e,e1,J3]⟩
def qT{c:Cf}{it:E}{σ τ:Ev}{xs:List D}(hi:ev c it σ=.ok (.val d) τ)(hd:items d=some xs)(h:Step I J (aL tg (ex c b) xs) v τ):Step I J (ex c (.cons (.for_ tg it b) .nil)) v σ:=by
 have e:ex c (.cons (.for_ tg it b) .nil) σ=(aL tg (ex c b) xs τ).seq (ex c .nil):=by
  rw[x_1,aaT,hi,Tv,hd]
 rcases h with ⟨p,τ',i,q⟩|⟨p,τ',i,q⟩
 ·exact .inl ⟨p,τ',i,by rw[e,q];simp⟩
 ·exact .inr ⟨p,τ',i,by rw[e,q];simp⟩
def Xb(c:Cf)(a b:S)(σ:Ev):ex c (.cons a b) σ=(ex c (.cons a .nil) σ).seq (ex c b):=by
 rw[x_1,x_1];cases ex c a σ<;>rfl
def Step.mono{b:Ev->Fl}{σ:Ev}(h:Step I J b v σ)(i:∀τ,I τ->I' τ)(j:∀τ,J τ->J' τ):Step I' J' b v σ:=by
 rcases h with ⟨p,τ,a,q⟩|⟨p,τ,a,q⟩
 ·exact .inl ⟨p,τ,i τ a,q⟩
 ·exact .inr ⟨p,τ,j τ a,q⟩
structure yp(N:Nat)(st:List (D×Nat)):Prop where
 tx:b7 (eF st)
 nd:(eF st).Nodup
 lt:∀m∈st,m.2<N
def yp.tl{m:D×Nat}(o:yp N (m::st)):yp N st:=⟨fun x hx=>o.tx x (QYq _ hx),(List.nodup_cons.mp o.nd).2,fun m hm=>o.lt m (QYq _ hm)⟩
theorem FP{y:Str}:∀{st:List (D×Nat)},b7 (eF st)->D.str y∉eF st->lk (.str y) st=none
 |[]=>fun _ _=>rfl
 |m::st=>fun h hn=>by
  obtain⟨s,e⟩:=h m.1 QYz
  have ne:¬s=y:=fun c=>hn (by rw[<-c,<-e];exact QYz)
  simp[lk,e,cD,ne,FP (fun x hx=>h x (QYq _ hx)) fun c=>hn (QYq _ c)]
theorem rY{N:Nat}:∀{st:List (D×Nat)}{m:D×Nat},yp N st->m∈st->lk m.1 st=some m.2
 |q::st,m,o,hm=>by
  obtain⟨s,e⟩:=o.tx q.1 QYz
  rcases QCq.mp hm with rfl|hm
  ·simp[lk,e,cD]
  ·have hk:m.1∈eF st:=QTz hm
   obtain⟨s',e'⟩:=o.tl.tx m.1 hk
   have ne:¬s=s':=fun c=>(List.nodup_cons.mp o.nd).1 (by show q.1∈eF st;rw[show q.1=m.1 by rw[e,e',c]];exact hk)
   have:=rY o.tl hm
   rw[e']at this
   simp[lk,e,e',cD,ne,this]
section
variable{os:List D}
theorem bQ.st(O:bY h g ks ls)(T:bQ h g os sts):∀st∈sts,yp sts.length st:=fun st hst=>
 ⟨fun x hx=>bj h g x (T.sub.subset ((T.mv st hst).1.subset hx)),(T.mv st hst).1.nodup (T.sub.nodup (names_nodup O.h2 O.g1 O.g5)),(T.mv st hst).2⟩
def lsT:S:=(.cons (.ite ABO AAQ .nil) .nil)
def lsB:S:=(.cons (.ite ABs (.cons ABL (.cons ABK lsT)) .nil) .nil)
def Iu(x:D)(st:List (D×Nat)):List D:=match lk x st with
 |some u=>[.int u]
 |none=>[]
theorem Gz(y:Str):∀{st:List (D×Nat)},yp N st->((st.map fun m=>(m.1,D.int m.2)).filter (fun x=>cD x.1 (.str y))).map (·.2)=Iu (.str y) st
 |[]=>fun _=>rfl
 |m::st=>fun o=>by
  obtain⟨s,e⟩:=o.tx m.1 QYz
  have ih:=Gz y o.tl
  by_cases c:s=y
  ·rw[Iu,FP o.tl.tx (fun h=>(List.nodup_cons.mp o.nd).1 (by show m.1∈eF st;rw[e,c];exact h))]at ih
   simp only[Qyz,List.filter_cons,e,cD,c,Iu,lk]
   simpa using ih
  ·simp only[Qyz,List.filter_cons,e,cD,c,Iu,lk]
   simpa[Iu]using ih
def Py(i:Nat)(hi:i<sts.length):at? (sts.map dW) (i:Int)=some (dW (aZ sts i)):=by
 rw[gM _ _ (by simpa using hi)]
 simp[aZ,hi]
def FJ(c:Cf)(hS:∀st∈sts,yp sts.length st)(i:Nat)(hi:i<sts.length)(y:Str)(vi vy:Nat)(h1:ev c (.idx AAb (.var vi)) σ=.ok (.val (dW (aZ sts i))) σ)(h2:σ[vy]? =some (.val (.str y))):
  ev c (.comp 2 (.tup [0,1]) (.idx AAb (.var vi)) (.cmp .eq (.var 0) (.var (vy+2))) (.var 1)) σ=.ok (.new (.lst (Iu (.str y) (aZ sts i)))) σ:=by
 have hm:aZ sts i∈sts:=by simp[aZ,hi]
 have o:=hS _ hm
 have:=O3 (co:=(.cmp .eq (.var 0) (.var (vy+2)))) (el:=.var 1) (ps:=(aZ sts i).map fun m=>(m.1,D.int m.2)) (·.2) (fun x=>cD x.1 (.str y)) h1 rfl (by show some _=some _;rw[List.map_map];rfl) (fun x hx=>?_) fun x _ _=>by simp
 ·rw[Gz y o]at this;exact this
 ·obtain⟨m,hm,rfl⟩:=QDq.mp hx
  obtain⟨s,e⟩:=o.tx m.1 (QTz hm)
  simp[e,cD,h2]
def QZ(c:Cf)(r:Fl):r.seq (ex c .nil)=r:=by cases r<;>rfl
def Tz:aG .eq (.lst []) (.lst [])=some true:=rfl
def Tw(u:Int):aG .eq (.lst [.int u]) (.lst [])=some false:=rfl
def Sq(u:Int):aG .ne (.lst [.int u]) (.lst [])=some true:=rfl
def Sh(u v:Int):aG .ne (.lst [.int u]) (.lst [.int v])=some (!(u==v)):=by
 simp[aG,lQ,flat,nd,lu,dep,jl,cD,jE]
def pU(s:Sl):Prop:=∀o,s≠ .bor o
def lZ(i:Nat)(v s:Sl)(σ:Ev)(h:σ[i]? =some s)(n:pU s):bL i v σ=some (σ.set i v):=by
 unfold bL
 rw[h]
 cases s with
 |bor o=>exact absurd rfl (n o)
 |_=>rfl
theorem Sw(c:Cf)(hS:∀st∈sts,yp sts.length st)(hst:st∈sts)(hm:m∈st)(hq:q∈st)(s1 s6 s7:Sl)(h6:pU s6)(h7:pU s7):
  Step (fun τ=>∃t6 t7,pU t6/\pU t7/\τ=[.val (aB os sts),s1,.val m.1,.val (.int m.2),.val q.1,.val (.int q.2),t6,t7]) (fun τ=>∃r,τ=.val (aB os sts)::r) (ex c lsB) (Fj sts m q) [.val (aB os sts),s1,.val m.1,.val (.int m.2),.val q.1,.val (.int q.2),s6,s7]:=by
 have o:=hS st hst
 obtain⟨x,e1⟩:=o.tx m.1 (QTz hm)
 obtain⟨y,e2⟩:=o.tx q.1 (QTz hq)
 unfold Fj
 rw[e1,e2]
 by_cases hxy:x=y
 ·subst hxy
  exact .inl ⟨by simp[cD],_,⟨s6,s7,h6,h7,rfl⟩,by simp[lsB]⟩
 ·have l1:=FJ c hS m.2 (o.lt m hm) y (σ:=[.val (aB os sts),s1,.val (.str x),.val (.int m.2),.val (.str y),.val (.int q.2),s6,s7]) 3 4 (by simp[aB,Py m.2 (o.lt m hm)]) (by simp)
  have hb:lsB=.cons _ .nil:=rfl
  have go:ex c lsB [.val (aB os sts),s1,.val (.str x),.val (.int m.2),.val (.str y),.val (.int q.2),s6,s7]=ex c lsT [.val (aB os sts),s1,.val (.str x),.val (.int m.2),.val (.str y),.val (.int q.2),.own (.lst (Iu (.str y) (aZ sts m.2))),.own (.lst (Iu (.str x) (aZ sts q.2)))]:=by
   rw[hb,x_1,aey]
   have ne:ev c ABs [.val (aB os sts),s1,.val (.str x),.val (.int m.2),.val (.str y),.val (.int q.2),s6,s7]=.ok (.val (.bl true)) [.val (aB os sts),s1,.val (.str x),.val (.int m.2),.val (.str y),.val (.int q.2),s6,s7]:=by simp[hxy]
   rw[ne,Zm,if_pos rfl,x_1,x_5,l1,VR,yQ,QHq,lZ 6 (.own (.lst (Iu (.str y) (aZ sts m.2)))) s6 [.val (aB os sts),s1,.val (.str x),.val (.int m.2),.val (.str y),.val (.int q.2),s6,s7] rfl h6,zy,yR,x_1,x_5]
   rw[show List.set [.val _,s1,.val _,.val _,.val _,.val _,s6,s7] 6 _=[.val _,s1,.val _,.val _,.val _,.val _,.own _,s7]from rfl,FJ c hS q.2 (o.lt q hq) x (σ:=[.val (aB os sts),s1,.val (.str x),.val (.int m.2),.val (.str y),.val (.int q.2),.own (.lst (Iu (.str y) (aZ sts m.2))),s7]) 5 2 (by simp[aB,Py q.2 (o.lt q hq)]) (by simp),VR,yQ,QHq,lZ 7 (.own (.lst (Iu (.str x) (aZ sts q.2)))) s7 [.val (aB os sts),s1,.val (.str x),.val (.int m.2),.val (.str y),.val (.int q.2),.own (.lst (Iu (.str y) (aZ sts m.2))),s7] rfl h7,zy,yR]
   exact QZ c _
  unfold Step
  rw[go]
  unfold Mw Iu
  cases v1:lk _ _ with
  |none=>exact .inr ⟨by simp[cD,hxy],_,⟨_,rfl⟩,by simp[lsT,aP,Tz,Tw,Sq,Sh];rfl⟩
  |some u=>
   cases v2:lk _ _ with
   |none=>exact .inr ⟨by simp[cD,hxy],_,⟨_,rfl⟩,by simp[lsT,aP,Tz,Tw,Sq,Sh];rfl⟩
   |some v=>
    by_cases w:u=v
    ·subst w
     exact .inl ⟨by simp[cD,hxy],_,⟨.val (.lst [.int u]),.own (.lst [.int u]),by simp[pU],by simp[pU],rfl⟩,by simp[lsT,aP,Tz,Tw,Sq,Sh]⟩
    ·have uv:((u:Int)==v)=false:=by simp;omega
     exact .inr ⟨by simp[cD,hxy,w],_,⟨_,rfl⟩,by simp[lsT,aP,Tz,Tw,Sq,Sh,uv];rfl⟩
def lsI(t:D)(τ:Ev):Prop:=∃s1 s2 s3 s4 s5 s6 s7,pU s1/\pU s2/\pU s3/\pU s4/\pU s5/\pU s6/\pU s7/\τ=[.val t,s1,s2,s3,s4,s5,s6,s7]
def lsJ(t:D)(τ:Ev):Prop:=∃r,τ=Sl.val t::r
def noV(d:D):pU (.val d):=fun o e=>by cases e
def Yd:pU .un:=fun o e=>by cases e
def oV(n:Nat)(hS:∀st∈sts,yp sts.length st):pg.fn (n+1) 46 [.val (aB os sts)]=.ok (.val (.bl (fM sts))) [.val (aB os sts)]:=by
 have main:Step (lsI (aB os sts)) (lsJ (aB os sts)) (ex (pg.cf n) (.cons (.for_ (.name 1) AAb (.cons (.for_ (.tup [2,3]) (.var 1) (.cons (.for_ (.tup [4,5]) (.var 1) lsB) .nil)) .nil)) .nil)) (fM sts) [.val (aB os sts),.un,.un,.un,.un,.un,.un,.un]:=by
  refine qT (d:=.tup _) (by simp[aB]) rfl (qC _ _ _ dW sts (fun st hst σ i=>?_) _ ⟨_,_,_,_,_,_,_,Yd,Yd,Yd,Yd,Yd,Yd,Yd,rfl⟩)
  obtain⟨s1,s2,s3,s4,s5,s6,s7,h1,h2,h3,h4,h5,h6,h7,rfl⟩:=i
  refine⟨[.val _,.val _,s2,s3,s4,s5,s6,s7],lZ 1 _ s1 _ rfl h1,?_⟩
  refine(qT (I:=fun τ=>∃s2 s3 s4 s5 s6 s7,pU s2/\pU s3/\pU s4/\pU s5/\pU s6/\pU s7/\τ=[.val _,.val (dW st),s2,s3,s4,s5,s6,s7]) (d:=dW st) (by simp) rfl (qC _ _ _ lU st (fun m hm σ i=>?_) _ ⟨_,_,_,_,_,_,h2,h3,h4,h5,h6,h7,rfl⟩)).mono
   (fun τ⟨s2,s3,s4,s5,s6,s7,h2,h3,h4,h5,h6,h7,e⟩=>⟨_,s2,s3,s4,s5,s6,s7,noV _,h2,h3,h4,h5,h6,h7,e⟩) fun τ j=>j
  obtain⟨s2,s3,s4,s5,s6,s7,h2,h3,h4,h5,h6,h7,rfl⟩:=i
  have st2:aX (.tup [2,3]) (lU m) [.val (aB os sts),.val (dW st),s2,s3,s4,s5,s6,s7]=some [.val (aB os sts),.val (dW st),.val m.1,.val (.int m.2),s4,s5,s6,s7]:=by
   simp only[lU,aX,dI]
   rw[lZ 2 _ s2 _ rfl h2,QHq]
   rw[show List.set [.val _,.val _,s2,s3,s4,s5,s6,s7] 2 _=[.val _,.val _,.val m.1,s3,s4,s5,s6,s7]from rfl,lZ 3 _ s3 _ rfl h3]
   rfl
  refine⟨_,st2,?_⟩
  refine(qT (I:=fun τ=>∃s4 s5 s6 s7,pU s4/\pU s5/\pU s6/\pU s7/\τ=[.val _,.val _,.val m.1,.val (.int m.2),s4,s5,s6,s7]) (d:=dW st) (by simp) rfl (qC _ _ _ lU st (fun q hq σ i=>?_) _ ⟨_,_,_,_,h4,h5,h6,h7,rfl⟩)).mono
   (fun τ⟨s4,s5,s6,s7,h4,h5,h6,h7,e⟩=>⟨_,_,s4,s5,s6,s7,noV _,noV _,h4,h5,h6,h7,e⟩) fun τ j=>j
  obtain⟨s4,s5,s6,s7,h4,h5,h6,h7,rfl⟩:=i
  have st4:aX (.tup [4,5]) (lU q) [.val (aB os sts),.val (dW st),.val m.1,.val (.int m.2),s4,s5,s6,s7]=some [.val (aB os sts),.val (dW st),.val m.1,.val (.int m.2),.val q.1,.val (.int q.2),s6,s7]:=by
   simp only[lU,aX,dI]
   rw[lZ 4 _ s4 _ rfl h4,QHq]
   rw[show List.set [.val _,.val _,.val m.1,.val _,s4,s5,s6,s7] 4 _=[.val _,.val _,.val m.1,.val _,.val q.1,s5,s6,s7]from rfl,lZ 5 _ s5 _ rfl h5]
   rfl
  exact⟨_,st4,(Sw _ hS hst hm hq _ s6 s7 h6 h7).mono (fun τ⟨t6,t7,h6,h7,e⟩=>⟨_,_,t6,t7,noV _,noV _,h6,h7,e⟩) fun τ j=>j⟩
 have fin:∃r,ex (pg.cf n) (.cons (.for_ (.name 1) AAb (.cons (.for_ (.tup [2,3]) (.var 1) (.cons (.for_ (.tup [4,5]) (.var 1) lsB) .nil)) .nil)) ACJ) [.val (aB os sts),.un,.un,.un,.un,.un,.un,.un]=.ret (.val (.bl (fM sts))) (.val (aB os sts)::r):=by
  rw[Xb]
  rcases main with ⟨v,τ,⟨s1,s2,s3,s4,s5,s6,s7,_,_,_,_,_,_,_,rfl⟩,e⟩|⟨v,τ,⟨r,rfl⟩,e⟩
  ·exact⟨[s1,s2,s3,s4,s5,s6,s7],by rw[e,v];simp⟩
  ·exact⟨r,by rw[e,v];simp⟩
 obtain⟨r,e⟩:=fin
 exact congrArg (fin 1) e
end
end Tx
end
section
open PySem Mini
namespace Tx
section
variable{C:Cs}
def pG(K:C.Ok)(S:C.S s)(hx:x∈C.st s):aJ x (C.st s)=true:=by
 obtain⟨q,rfl⟩:=K.pW S x hx
 exact jj hx (K.pW S)
def Mh(K:C.Ok)(S:C.S s)(hx:aJ x (C.st s)=true):x∈C.st s:=by
 cases c:oZ .str x with
 |false=>rw[Vy c (K.pW S)]at hx;cases hx
 |true=>
  cases x with
  |str q=>exact(j0 (K.pW S)).mp hx
  |_=>cases c
def KN(K:C.Ok)(S:C.S s){w:D}(e:C.run (w::ws) s=some v):∃t,w∈C.st s/\C.led s w=some t/\C.run ws t=some v:=by
 rw[Cs.run]at e
 cases c:aJ w _ with
 |false=>rw[c]at e;cases e
 |true=>
  rw[c]at e
  obtain⟨t,et,e⟩:=QJq.mp e
  exact⟨t,Mh K S c,et,e⟩
def JL:S:=(.cons (.ite (.not (.call 8 (.cons (.var 4) (.cons (.call 22 ABY) .nil)))) ABf .nil) (.cons (.set 3 (.call 24 ABq)) (.cons (.ite (.cmp .jJ (.var 3) AAs) ABf .nil) .nil)))
theorem U3(n:Nat)(K:C.Ok)(R:Sl):∀(ws:List D)(s:St)(s4:Sl),C.S s->C.run ws s=some v->bu s4->∃s4',
  aL (.name 4) (ex (pg.cf (n+5)) JL) ws [.val C.n,.val C.t,R,.val (aq s),s4]=.next [.val C.n,.val C.t,R,.val (aq v),s4']
 |[]=>fun s s4 _ e _=>by cases e;exact⟨s4,rfl⟩
 |w::ws=>fun s s4 S e h4=>by
  obtain⟨t,hw,et,e'⟩:=KN K S e
  have tt:aX (.name 4) w [.val C.n,.val C.t,R,.val (aq s),s4]=some [.val C.n,.val C.t,R,.val (aq s),.val w]:=by
   rcases h4 with rfl|⟨d,rfl⟩<;>simp[aX,bL]
  obtain⟨q,rfl⟩:=K.pW S w hw
  have i:=(eG (q:=q) (K.pW S)).1
  rw[pG K S hw]at i
  have iw:pg.fn (n+5) 8 [.val (.str q),.val (.lst (C.st s))]=.ok (.val (.bl true)) [.val (.str q),.val (.lst (C.st s))]:=by
   rw[kW]
   simp[gq,i]
  have lt:=K.iy (n+2) S hw
  rw[et]at lt
  obtain⟨s4',z⟩:=U3 n K R ws t _ (K.zK S et) e' (.inr ⟨_,rfl⟩)
  have go:ex (pg.cf (n+5)) JL [.val C.n,.val C.t,R,.val (aq s),.val (.str q)]=.next [.val C.n,.val C.t,R,.val (aq t),.val (.str q)]:=by
   simp[JL,K.dC n S,iw,lt,fV,cZ]
  refine⟨s4',?_⟩
  rw[aL,tt]
  simp only[go]
  exact z
def fJ n(K:C.Ok)(e:C.run ws (sI C.ls)=some v):
  pg.fn (n+10) 20 [.val C.n,.val C.t,.val (.lst ws)]=.ok (.val (aq v)) [.val C.n,.val C.t,.val (.lst ws)]:=by
 obtain⟨s4,z⟩:=U3 (n+4) K (.val (.lst ws)) ws _ .un (yS K) e (.inl rfl)
 have hb:gJ=⟨3,5,(.cons ABQ (.cons (.ite (.not (.isi (.var 2) .lst)) ABf .nil) (.cons (.set 3 (.call 21 AAT)) (.cons (.for_ (.name 4) (.var 2) JL) (.cons (.ret (.var 3)) .nil)))))⟩:=by kernel_rfl
 rw[jV,hb]
 simp[K.checked n,tH (n+8) (C:=C),oZ,items,z]
def uW(hn:bO (C.flt s [])=true)(hx:x∈C.st s):∃t,C.led s x=some t/\∀y∈C.W s.1,aJ y (C.W t.1++[x])=true:=by
 unfold Cs.flt at hn
 have ne:(C.st s).isEmpty=false:=by
  cases h:C.st s with
  |nil=>rw[h]at hx;cases hx
  |cons=>rfl
 rw[ne]at hn
 simp only[Qxq,if_false]at hn
 rw[lG]at hn
 have h1:=List.all_eq_true.mp hn x hx
 unfold Cs.sf at h1
 cases e:C.led s x with
 |none=>rw[e]at h1;cases h1
 |some t=>
  rw[e]at h1
  refine⟨t,rfl,fun y hy=>?_⟩
  cases c:aJ y _ with
  |true=>rfl
  |false=>
   have hg:y∈C.gone s t x:=List.mem_filter.mpr ⟨hy,by simp[c]⟩
   cases hq:C.gone s t x with
   |nil=>rw[hq]at hg;cases hg
   |cons a b=>simp only[hq]at h1;cases h1
def FN{q:Str}(tx:b7 (eF st))(e:lk (.str q) st=some j):(D.str q,j)∈st:=by
 induction st with
 |nil=>cases e
 |cons m st ih=>
  obtain⟨a,ha⟩:=tx m.1 QYz
  rw[lk,ha]at e
  by_cases c:a=q
  ·rw[show cD _ _=true by simp[cD,c]]at e
   cases e
   rw[<-c,<-ha]
   exact QYz
  ·rw[show cD _ _=false by simp[cD,c]]at e
   exact QYq _ (ih (fun x hx=>tx x (QYq _ hx)) (by simpa using e))
def uR(K:C.Ok)(hs:fM C.sts=true)(S:C.S s){p q:Str}(ne:p≠q)(e1:lk (.str p) (aZ C.sts s.2)=some j)(e2:lk (.str q) (aZ C.sts s.2)=some k):∃m,lk (.str q) (aZ C.sts j)=some m/\lk (.str p) (aZ C.sts k)=some m:=by
 have Ky:=f9 K.t K.o S.j
 have h2:=List.all_eq_true.mp (List.all_eq_true.mp (List.all_eq_true.mp hs _ (jT S.j)) _ (FN Ky.1 e1)) _ (FN Ky.1 e2)
 unfold Fj at h2
 rw[show cD _ _=false by simp[cD,ne],Bool.false_or]at h2
 unfold Mw at h2
 cases a:lk _ _ with
 |none=>simp only[a]at h2;cases h2
 |some m=>
  cases b:lk _ _ with
  |none=>simp only[a,b]at h2;cases h2
  |some m'=>
   simp only[a,b]at h2
   have:m=m':=by simpa using h2
   exact⟨m,rfl,by rw[this]⟩
def Cs.asks(C:Cs)(x:D):Bool:=aJ x (hd C.h)||aJ x C.os
def iR(h:C.asks x=true):C.led s x=(lk x (aZ C.sts s.2)).map fun j=>(cJ C.nm s.1 x,j):=by
 unfold Cs.led su
 rw[show(aJ x _||aJ x C.os)=true from h]
 rfl
def iQ(h:C.asks x=false):C.led s x=some (cJ C.nm s.1 x,s.2):=by
 unfold Cs.led su
 rw[show(aJ x _||aJ x C.os)=false from h]
 rfl
def stays(K:C.Ok)(hs:fM C.sts=true)(S:C.S s)(hn:bO (C.flt s [])=true)(hx:x∈C.st s)(hy:y∈C.st s)(ne:x≠y)(e:C.led s x=some t):y∈C.st t:=by
 obtain⟨p,rfl⟩:=K.pW S x hx
 obtain⟨q,rfl⟩:=K.pW S y hy
 have nn:p≠q:=fun z=>ne (by rw[z])
 rcases QXz.mp hy with z|z
 ·obtain⟨z1,z2⟩:=List.mem_filter.mp z
  obtain⟨k,ek⟩:=Option.isSome_iff_exists.mp z2
  refine QWz _ (List.mem_filter.mpr ⟨z1,?_⟩)
  cases c:C.asks _ with
  |true=>
   rw[iR c]at e
   obtain⟨j,ej,rfl⟩:=QJz.mp e
   obtain⟨m,a,_⟩:=uR K hs S nn ej ek
   rw[a];rfl
  |false=>
   rw[iQ c]at e
   cases e
   exact z2
 ·obtain⟨t',e',h⟩:=uW hn hx
  rw[e]at e'
  cases e'
  have:=h _ z
  rw[Gn,Bool.or_eq_true]at this
  rcases this with a|a
  ·exact QVq _ ((j0 (K.wtx (K.zK S e))).mp a)
  ·exact absurd (of_decide_eq_true a).symm nn
theorem iT x y:∀(ns:List D)(bs:List Bool),cJ ns (cJ ns bs x) y=cJ ns (cJ ns bs y) x
 |[],_=>rfl
 |_::_,[]=>rfl
 |a::ns,b::bs=>by
  have:=iT x y ns bs
  simp only[cJ]at this
  simp only[cJ,List.zip_cons_cons,Qyz,this]
  cases cD a x<;>cases cD a y<;>simp
def either(K:C.Ok)(hs:fM C.sts=true)(S:C.S s)(ne:p≠q)(e1:C.led s (.str p)=some t)(e2:C.led s (.str q)=some u)(e3:C.led t (.str q)=some v):C.led u (.str p)=some v:=by
 cases cp:C.asks _ with
 |true=>
  rw[iR cp]at e1
  obtain⟨j,ej,rfl⟩:=QJz.mp e1
  cases cq:C.asks _ with
  |true=>
   rw[iR cq]at e2 e3
   obtain⟨k,ek,rfl⟩:=QJz.mp e2
   obtain⟨m,em,rfl⟩:=QJz.mp e3
   obtain⟨m',a,b⟩:=uR K hs S ne ej ek
   rw[show lk _ _=some m from em]at a
   cases a
   rw[iR cp,show lk _ _=some m from b]
   simp only[Option.map_some,iT _ _]
  |false=>
   rw[iQ cq]at e2 e3
   cases e2
   cases e3
   rw[iR cp,show lk _ _=some j from ej]
   simp only[Option.map_some,iT _ _]
 |false=>
  rw[iQ cp]at e1
  cases e1
  cases cq:C.asks _ with
  |true=>
   rw[iR cq]at e2 e3
   obtain⟨k,ek,rfl⟩:=QJz.mp e2
   rw[show lk _ _=some k from ek]at e3
   cases e3
   rw[iQ cp]
   simp only[iT _ _]
  |false=>
   rw[iQ cq]at e2 e3
   cases e2
   cases e3
   rw[iQ cp]
   simp only[iT _ _]
end
end Tx
end
section
open PySem Mini
namespace Tx
section
variable[DecidableEq α]
def er(x:α):List α->List α
 |[]=>[]
 |y::u=>if y=x then u else y::er x u
def res:List α->List α->List α
 |_,[]=>[]
 |u,x::v=>if x∈u then res (er x u) v else x::res u v
def cnt(x:α):List α->Nat
 |[]=>0
 |y::u=>(if y=x then 1 else 0)+cnt x u
theorem EY:∀u:List α,res [] u=u
 |[]=>rfl
 |x::u=>by simp[res,EY u]
theorem Bx:∀{u v:List α},x∈u->res (x::v) u=res v (er x u)
 |[],_,h=>by cases h
 |y::u,v,h=>by
  by_cases c:y=x
  ·subst c;simp[res,er]
  ·have hu:x∈u:=by
    rcases QCq.mp h with z|z
    ·exact absurd z.symm c
    ·exact z
   have c':¬x=y:=fun z=>c z.symm
   by_cases d:y∈v
   ·simp[res,er,c,c',d,Bx hu]
   ·simp[res,er,c,c',d,Bx hu]
theorem wV:∀{u v:List α},x∉u->res (x::v) u=res v u
 |[],_,_=>rfl
 |y::u,v,h=>by
  have c:¬y=x:=fun z=>h (by rw[z];exact QYz)
  have c':¬x=y:=fun z=>c z.symm
  have hu:=fun z=>h (QYq _ z)
  by_cases d:y∈v
  ·simp[res,er,c,c',d,wV hu]
  ·simp[res,er,c,c',d,wV hu]
theorem m6:∀{u:List α},x∈u↔0<cnt x u
 |[]=>by simp[cnt]
 |y::u=>by
  by_cases c:y=x
  ·subst c;simp[cnt];omega
  ·have c':¬x=y:=fun z=>c z.symm
   simp[cnt,c,c',m6 (u:=u)]
theorem yf(x y:α):∀u:List α,cnt y (er x u)=cnt y u- (if x=y then 1 else 0)
 |[]=>by simp[cnt,er]
 |z::u=>by
  by_cases c:z=x
  ·subst c;simp[cnt,er]
  ·by_cases d:x=y
   ·subst d
    simp[cnt,er,c,yf x x u]
   ·simp[cnt,er,c,d,yf x y u]
theorem nM(x y:α):∀u:List α,cnt y (u++[x])=cnt y u+(if x=y then 1 else 0)
 |[]=>by simp[cnt]
 |z::u=>by simp[cnt,nM x y u];omega
def left(u:List α):List α->List α->List α
 |_,[]=>[]
 |pre,x::v=>if cnt x u<cnt x (pre++[x])then x::left u (pre++[x]) v else left u (pre++[x]) v
theorem rD(u:List α):∀(v u' pre:List α),(∀y,cnt y u'=cnt y u-cnt y pre)->res u' v=left u pre v
 |[]=>fun _ _ _=>by simp[res,left]
 |x::v=>fun u' pre h=>by
  have hx:=h x
  have e:=nM x x pre
  simp only[if_true]at e
  by_cases c:x∈u'
  ·have c0:=m6.mp c
   rw[res,if_pos c,left,if_neg (by omega)]
   refine rD u v _ _ fun y=>?_
   rw[yf,nM,h y]
   omega
  ·have c0:¬0<cnt x u':=fun z=>c (m6.mpr z)
   rw[res,if_neg c,left,if_pos (by omega)]
   congr 1
   refine rD u v _ _ fun y=>?_
   rw[nM,h y]
   by_cases d:x=y
   ·subst d;simp;omega
   ·simp[d]
variable{I:σ->Prop}
def goes(T:σ->α->Option σ):List α->σ->Option σ
 |[],s=>some s
 |x::u,s=>(T s x).bind (goes T u)
theorem z6(inv:∀{s x t},I s->T s x=some t->I t)(dia:∀{s x y t u},I s->x≠y->T s x=some t->T s y=some u->∃v,T t y=some v/\T u x=some v){x:α}:∀{u:List α}{s s' a:σ},I s->goes T u s=some a->T s x=some s'->x∉u->∃b,T a x=some b/\goes T u s'=some b
 |[],s,s',a,_,e,ex,_=>by
  cases e
  exact⟨s',ex,rfl⟩
 |y::u,s,s',a,hI,e,ex,h=>by
  simp only[goes,QJq]at e
  obtain⟨t,e1,e2⟩:=e
  obtain⟨v,d1,d2⟩:=dia hI (fun z=>h (by rw[z];exact QYz)) ex e1
  obtain⟨b,b1,b2⟩:=z6 inv dia (inv hI e1) e2 d2 fun z=>h (QYq _ z)
  exact⟨b,b1,by simp[goes,d1,b2]⟩
theorem Gq(inv:∀{s x t},I s->T s x=some t->I t)(dia:∀{s x y t u},I s->x≠y->T s x=some t->T s y=some u->∃v,T t y=some v/\T u x=some v){x:α}:∀{u:List α}{s s' a:σ},I s->goes T u s=some a->T s x=some s'->x∈u->goes T (er x u) s'=some a
 |[],_,_,_,_,_,_,h=>by cases h
 |y::u,s,s',a,hI,e,ex,h=>by
  simp only[goes,QJq]at e
  obtain⟨t,e1,e2⟩:=e
  by_cases c:y=x
  ·subst c
   rw[e1]at ex
   cases ex
   simpa[er]using e2
  ·obtain⟨v,d1,d2⟩:=dia hI (fun z=>c z.symm) ex e1
   have hu:x∈u:=by
    rcases QCq.mp h with z|z
    ·exact absurd z.symm c
    ·exact z
   have:=Gq inv dia (inv hI e1) e2 d2 hu
   simp[er,c,goes,d1,this]
theorem xK(inv:∀{s x t},I s->T s x=some t->I t)(dia:∀{s x y t u},I s->x≠y->T s x=some t->T s y=some u->∃v,T t y=some v/\T u x=some v):∀{v u:List α}{s a b:σ},I s->goes T u s=some a->goes T v s=some b->∃c,goes T (res u v) a=some c/\goes T (res v u) b=some c
 |[],u,s,a,b,hI,e,f=>by
  cases f
  exact⟨a,rfl,by rw[EY];exact e⟩
 |x::v,u,s,a,b,hI,e,f=>by
  simp only[goes,QJq]at f
  obtain⟨s',f1,f2⟩:=f
  by_cases c:x∈u
  ·obtain⟨w,g1,g2⟩:=xK inv dia (inv hI f1) (Gq inv dia hI e f1 c) f2
   exact⟨w,by rw[res,if_pos c];exact g1,by rw[Bx c];exact g2⟩
  ·obtain⟨d,d1,d2⟩:=z6 inv dia hI e f1 c
   obtain⟨w,g1,g2⟩:=xK inv dia (inv hI f1) d2 f2
   exact⟨w,by rw[res,if_neg c];simp[goes,d1,g1],by rw[wV c];exact g2⟩
end
@[simp]theorem ahs(c:Cf)(f:Nat)(as:E)(σ:Ev):ex c (.callx f as) σ=(evs c as σ).fl (v9 c f):=rfl
section
variable{C:Cs}
theorem U4(n:Nat)(K:C.Ok)(R:Sl):∀(ws:List D)(s:St)(s4:Sl),(∀w∈ws,∃q,w=.str q)->C.S s->C.run ws s=none->bu s4->∃a b,
  aL (.name 4) (ex (pg.cf (n+5)) JL) ws [.val C.n,.val C.t,R,.val (aq s),s4]=.exc 1 [.val C.n,.val C.t,R,a,b]
 |[]=>fun s s4 _ _ e _=>by cases e
 |w::ws=>fun s s4 hw S e h4=>by
  obtain⟨q,rfl⟩:=hw w QYz
  have tt:aX (.name 4) (.str q) [.val C.n,.val C.t,R,.val (aq s),s4]=some [.val C.n,.val C.t,R,.val (aq s),.val (.str q)]:=by
   rcases h4 with rfl|⟨d,rfl⟩<;>simp[aX,bL]
  have sa:=K.dC n S
  have i:=(eG (q:=q) (K.pW S)).1
  rw[Cs.run]at e
  cases c:aJ _ _ with
  |false=>
   rw[c]at i
   have iw:pg.fn (n+5) 8 [.val (.str q),.val (.lst (C.st s))]=.ok (.val (.bl false)) [.val (.str q),.val (.lst (C.st s))]:=by
    rw[kW]
    simp[gq,i]
   have go:ex (pg.cf (n+5)) JL [.val C.n,.val C.t,R,.val (aq s),.val (.str q)]=.exc 1 [.val C.n,.val C.t,R,.val (aq s),.val (.str q)]:=by
    simp[JL,sa,iw]
   refine⟨.val (aq s),.val (.str q),?_⟩
   rw[aL,tt]
   simp only[go]
   rfl
  |true=>
   rw[c]at i e
   have iw:pg.fn (n+5) 8 [.val (.str q),.val (.lst (C.st s))]=.ok (.val (.bl true)) [.val (.str q),.val (.lst (C.st s))]:=by
    rw[kW]
    simp[gq,i]
   have lt:=K.iy (n+2) S (Mh K S c)
   cases et:C.led s _ with
   |none=>
    rw[et]at lt
    have go:ex (pg.cf (n+5)) JL [.val C.n,.val C.t,R,.val (aq s),.val (.str q)]=.exc 1 [.val C.n,.val C.t,R,.val .non,.val (.str q)]:=by
     simp[JL,sa,iw,lt,fV]
    refine⟨.val .non,.val (.str q),?_⟩
    rw[aL,tt]
    simp only[go]
    rfl
   |some t=>
    rw[et]at lt e
    obtain⟨a,b,z⟩:=U4 n K R ws t _ (fun w hm=>hw w (QYq _ hm)) (K.zK S et) (by simpa using e) (.inr ⟨_,rfl⟩)
    have go:ex (pg.cf (n+5)) JL [.val C.n,.val C.t,R,.val (aq s),.val (.str q)]=.next [.val C.n,.val C.t,R,.val (aq t),.val (.str q)]:=by
     simp[JL,sa,iw,lt,fV,cZ]
    refine⟨a,b,?_⟩
    rw[aL,tt]
    simp only[go]
    exact z
def JC n(K:C.Ok)(hw:∀w∈ws,∃q,w=.str q)(e:C.run ws (sI C.ls)=none):
  pg.fn (n+10) 20 [.val C.n,.val C.t,.val (.lst ws)]=.exc 1 [.val C.n,.val C.t,.val (.lst ws)]:=by
 obtain⟨a,b,z⟩:=U4 (n+4) K (.val (.lst ws)) ws _ .un hw (yS K) e (.inl rfl)
 have hb:gJ=⟨3,5,(.cons ABQ (.cons (.ite (.not (.isi (.var 2) .lst)) ABf .nil) (.cons (.set 3 (.call 21 AAT)) (.cons (.for_ (.name 4) (.var 2) JL) (.cons (.ret (.var 3)) .nil)))))⟩:=by kernel_rfl
 rw[jV,hb]
 simp[K.checked n,tH (n+8) (C:=C),oZ,items,z]
def MJ:S:=(.cons (.ite ABz (.cons (.set 3 (.idx (.lis (.cons AAs AAS)) (.bi .int (.cmp .isin (.var 4) (.call 50 ABY))))) .nil) .nil) (.cons (.ite ABz (.cons (.set 3 (.call 51 ABq)) .nil) .nil) .nil))
theorem CJ n R:∀(ws:List D)(s4:Sl),bu s4->∃s4',aL (.name 4) (ex (pg.cf n) MJ) ws [.val C.n,.val C.t,R,.val .non,s4]=.next [.val C.n,.val C.t,R,.val .non,s4']
 |[]=>fun s4 _=>⟨s4,rfl⟩
 |w::ws=>fun s4 h4=>by
  have tt:aX (.name 4) w [.val C.n,.val C.t,R,.val .non,s4]=some [.val C.n,.val C.t,R,.val .non,.val w]:=by
   rcases h4 with rfl|⟨d,rfl⟩<;>simp[aX,bL]
  obtain⟨s4',z⟩:=CJ n R ws _ (.inr ⟨_,rfl⟩)
  refine⟨s4',?_⟩
  have go:ex (pg.cf n) MJ [.val C.n,.val C.t,R,.val .non,.val w]=.next [.val C.n,.val C.t,R,.val .non,.val w]:=by simp[MJ]
  rw[aL,tt]
  exact z
theorem Vv(n:Nat)(K:C.Ok)(R:Sl):∀(ws:List D)(s:St)(s4:Sl),(∀w∈ws,∃q,w=.str q)->C.S s->bu s4->∃s4',
  aL (.name 4) (ex (pg.cf (n+4)) MJ) ws [.val C.n,.val C.t,R,.val (aq s),s4]=.next [.val C.n,.val C.t,R,.val (fV (C.run ws s)),s4']
 |[]=>fun s s4 _ _ _=>⟨s4,rfl⟩
 |w::ws=>fun s s4 hw S h4=>by
  obtain⟨q,rfl⟩:=hw w QYz
  have tt:aX (.name 4) (.str q) [.val C.n,.val C.t,R,.val (aq s),s4]=some [.val C.n,.val C.t,R,.val (aq s),.val (.str q)]:=by
   rcases h4 with rfl|⟨d,rfl⟩<;>simp[aX,bL]
  have sa:=K.vL n S
  have i:=(eG (q:=q) (K.pW S)).1
  have ld:=K.xu (n+2) S ⟨q,rfl⟩
  rw[Cs.run]
  cases c:aJ _ _ with
  |false=>
   rw[c]at i
   obtain⟨s4',z⟩:=CJ _ R ws _ (.inr ⟨_,rfl⟩)
   refine⟨s4',?_⟩
   have go:ex (pg.cf (n+4)) MJ [.val C.n,.val C.t,R,.val (aq s),.val (.str q)]=.next [.val C.n,.val C.t,R,.val .non,.val (.str q)]:=by
    simp[MJ,sa,i,cZ,b1,b2i,aP]
   rw[aL,tt]
   simp only[go]
   exact z
  |true=>
   rw[c]at i
   cases et:C.led s _ with
   |none=>
    rw[et]at ld
    obtain⟨s4',z⟩:=CJ _ R ws _ (.inr ⟨_,rfl⟩)
    refine⟨s4',?_⟩
    have go:ex (pg.cf (n+4)) MJ [.val C.n,.val C.t,R,.val (aq s),.val (.str q)]=.next [.val C.n,.val C.t,R,.val .non,.val (.str q)]:=by
     simp[MJ,sa,i,cZ,b1,b2i,aP,ld,fV]
    rw[aL,tt]
    simp only[go]
    exact z
   |some t=>
    rw[et]at ld
    obtain⟨s4',z⟩:=Vv n K R ws t _ (fun w hm=>hw w (QYq _ hm)) (K.zK S et) (.inr ⟨_,rfl⟩)
    refine⟨s4',?_⟩
    have go:ex (pg.cf (n+4)) MJ [.val C.n,.val C.t,R,.val (aq s),.val (.str q)]=.next [.val C.n,.val C.t,R,.val (aq t),.val (.str q)]:=by
     simp[MJ,sa,i,cZ,b1,b2i,aP,ld,fV]
    rw[aL,tt]
    simp only[go]
    exact z
theorem zN n(K:C.Ok)(hw:∀w∈ws,∃q,w=.str q):
  pg.fn (n+5) 54 [.val C.n,.val C.t,.val (.lst ws)]=.ok (.val (.bl (C.run ws (sI C.ls)).isSome)) [.val C.n,.val C.t,.val (.lst ws)]:=by
 obtain⟨s4,z⟩:=Vv n K (.val (.lst ws)) ws _ .un hw (yS K) (.inl rfl)
 have n2:=Vq (C:=C)
 have se:D.tup [aK C.ls,.int 0]=aq (sI C.ls):=rfl
 have hb:uh=⟨3,5,(.cons (.set 3 (.tup (.cons AAf ABN))) (.cons (.for_ (.name 4) (.var 2) MJ) (.cons (.ret ABz) .nil)))⟩:=by kernel_rfl
 have q:∀x y,(E.cmp .notN x y).au=none:=fun _ _=>rfl
 rw[Ca,hb]
 cases e:C.run ws _ with
 |none=>
  rw[e]at z
  simp[n2,aP,se,items,z,q,fV]
 |some v=>
  rw[e]at z
  simp[n2,aP,se,items,z,q,fV,cZ]
end
end Tx
end
section
open PySem Mini
namespace Tx
section
abbrev sL(u:List Str):List D:=u.map .str
def qt u:b7 (sL u):=fun x hx=>by
 obtain⟨q,_,rfl⟩:=QDq.mp hx
 exact⟨q,rfl⟩
theorem Fp:∀{ws:List D},b7 ws->∃u,ws=sL u
 |[]=>fun _=>⟨[],rfl⟩
 |w::ws=>fun h=>by
  obtain⟨q,rfl⟩:=h w QYz
  obtain⟨u,rfl⟩:=Fp fun x hx=>h x (QYq _ hx)
  exact⟨q::u,rfl⟩
def eqS p q:cD (.str p) (.str q)=decide (p=q):=rfl
theorem v4 x:∀u:List Str,fH (.str x) (sL u)=cnt x u
 |[]=>rfl
 |y::u=>by
  show(if cD _ _ then 1 else 0)+fH _ (sL u)=(if y=x then 1 else 0)+cnt x u
  rw[v4 x u,eqS]
  simp
theorem Gx:∀u:List Str,(sL u).all flat=true
 |[]=>rfl
 |y::u=>by
  show(flat _&&(sL u).all flat)=true
  rw[Gx u]
  rfl
theorem Fz(q:Str):∀{ks vs:List D},b7 ks->ks.length=vs.length->(bI (.str q) ks vs).isSome=aJ (.str q) ks
 |[],vs=>fun _ _=>by cases vs<;>rfl
 |k::ks,[]=>fun _ h=>by simp at h
 |k::ks,v::vs=>fun t h=>by
  obtain⟨p,rfl⟩:=t k QYz
  have:=Fz q (fun x hx=>t x (QYq _ hx)) (by simpa using h)
  rw[bI,aJ,eqS]
  by_cases c:p=q
  ·simp[c]
  ·simp[c,this]
theorem vH(p q:Str)(v:D):∀{ks vs:List D},b7 ks->ks.length=vs.length->bI (.str q) ks (jw (.str p) v ks vs)=if p=q then(bI (.str q) ks vs).map fun _=>v else bI (.str q) ks vs
 |[],vs=>fun _ _=>by cases vs<;>simp[bI,jw]
 |k::ks,[]=>fun _ h=>by simp at h
 |k::ks,w::vs=>fun t h=>by
  obtain⟨r,rfl⟩:=t k QYz
  have:=vH p q v (fun x hx=>t x (QYq _ hx)) (by simpa using h)
  rw[jw,bI,bI,eqS,eqS,this]
  by_cases c:p=q
  ·subst c
   by_cases d:r=p
   ·subst d;simp
   ·simp[d]
  ·by_cases d:r=q
   ·subst d
    have d':¬r=p:=fun z=>c z.symm
    simp[c,d']
   ·simp[c,d]
theorem vG(p q:Str)(v:D):∀{ks vs:List D},b7 ks->ks.length=vs.length->bI (.str q) (ks++[.str p]) (vs++[v])=(bI (.str q) ks vs).or (if p=q then some v else none)
 |[],vs=>fun _ h=>by
  cases vs with
  |nil=>simp[bI,eqS]
  |cons=>simp at h
 |k::ks,[]=>fun _ h=>by simp at h
 |k::ks,w::vs=>fun t h=>by
  obtain⟨r,rfl⟩:=t k QYz
  have:=vG p q v (fun x hx=>t x (QYq _ hx)) (by simpa using h)
  simp only[QLz]
  rw[bI,bI,eqS,this]
  by_cases d:r=q<;>simp[d]
theorem zJ k v:∀{ks vs:List D},ks.length=vs.length->(jw k v ks vs).length=ks.length
 |[],vs=>fun h=>by cases vs<;>simp_all[jw]
 |k'::ks,[]=>fun h=>by simp at h
 |k'::ks,w::vs=>fun h=>by simp[jw,zJ k v (by simpa using h)]
structure Cd(ks vs:List D)(f:Str->Nat):Prop where
 tx:b7 ks
 len:ks.length=vs.length
 val:∀q,(bI (.str q) ks vs).getD (.int 0)=.int (f q)
def Cd.put{ks vs:List D}(h:Cd ks vs f)p(m:Nat):Cd (putD (.str p) (.int m) ks vs).1 (putD (.str p) (.int m) ks vs).2 (fun q=>if q=p then m else f q)/\(putD (.str p) (.int m) ks vs).1.length<=ks.length+1:=by
 have li:=Fz p h.tx h.len
 unfold putD
 cases c:aJ _ ks with
 |true=>
  rw[c]at li
  simp only[if_true]
  refine⟨⟨h.tx,(zJ _ _ h.len).symm,fun q=>?_⟩,by omega⟩
  rw[vH p q _ h.tx h.len]
  by_cases d:p=q
  ·subst d
   obtain⟨z,e⟩:=Option.isSome_iff_exists.mp li
   simp[e]
  ·have d':¬q=p:=fun z=>d z.symm
   simp[d,d',h.val q]
 |false=>
  rw[c]at li
  simp only[Qxq,if_false]
  refine⟨⟨fun x hx=>?_,by simp[h.len],fun q=>?_⟩,by simp⟩
  ·rcases QXz.mp hx with z|z
   ·exact h.tx x z
   ·rw[QDz]at z
    exact⟨p,z⟩
  ·rw[vG p q _ h.tx h.len]
   by_cases d:p=q
   ·subst d
    simp[(by simpa using li)]
   ·have d':¬q=p:=fun z=>d z.symm
    simp[d,d',h.val q]
def Pa{f:Str->Nat}(h:Cd ks vs f)p:pI (.cH ks vs) (.str p) (.int 0)=some (.int (f p)):=by
 show(if keyOk (.str p)then some _ else none)=_
 rw[if_pos (show keyOk _=true from rfl),h.val]
def O9 p m(hl:ks.length<=200):wY (.str p) (.int m) (.dct ks vs)=some (.dct (putD (.str p) (.int m) ks vs).1 (putD (.str p) (.int m) ks vs).2):=by
 have:(keyOk (.str p)&&fits (ks.length+1))=true:=by simp[keyOk,fits];omega
 show(if keyOk _&&fits _ then some _ else none)=_
 rw[if_pos this]
def fcA:S:=(.cons (.setIx 2 (.var 3) (.op .add (.get2 (.var 2) (.var 3) AAH) AAG)) .nil)
def Zo:S:=(.cons (.set 5 (.get2 (.var 2) (.var 3) AAH)) (.cons (.ite (.cmp .eq (.var 5) AAH) (.cons (.append 4 (.var 3)) .nil) (.cons (.setIx 2 (.var 3) (.op .sub (.var 5) AAG)) .nil)) .nil))
theorem Og(c:Cf)(a0 a1:Sl):∀(us:List Str)(ks vs:List D)(f:Str->Nat)(s3:Sl),Cd ks vs f->ks.length+us.length<=100->bu s3->∃ks' vs' s3',bu s3'/\Cd ks' vs' (fun q=>f q+cnt q us)/\ks'.length<=ks.length+us.length/\
  aL (.name 3) (ex c fcA) (sL us) [a0,a1,.own (.dct ks vs),s3,.un,.un]=.next [a0,a1,.own (.dct ks' vs'),s3',.un,.un]
 |[]=>fun ks vs f s3 h _ h3=>⟨ks,vs,s3,h3,by simpa[cnt]using h,by simp,rfl⟩
 |p::us=>fun ks vs f s3 h hl h3=>by
  have tt:aX (.name 3) (.str p) [a0,a1,.own (.dct ks vs),s3,.un,.un]=some [a0,a1,.own (.dct ks vs),.val (.str p),.un,.un]:=by
   rcases h3 with rfl|⟨d,rfl⟩<;>simp[aX,bL]
  have hl':ks.length<=200:=by simp at hl;omega
  obtain⟨h2,l2⟩:=h.put p _
  have em:((f p+1:Nat))=f p+1:=by omega
  obtain⟨ks',vs',s3',z1,z2,z3,z4⟩:=Og c a0 a1 us _ _ _ _ h2 (by simp at hl;omega) (.inr ⟨_,rfl⟩)
  refine⟨ks',vs',s3',z1,?_,by simp;omega,?_⟩
  ·have:(fun q=>f q+cnt q (p::us))=fun q=>(if q=p then f p+1 else f q)+cnt q us:=by
    funext q
    by_cases d:p=q
    ·subst d;simp[cnt];omega
    ·have d':¬q=p:=fun z=>d z.symm
     simp[cnt,d,d']
   rw[this]
   exact z2
  ·have go:ex c fcA [a0,a1,.own (.dct ks vs),.val (.str p),.un,.un]=.next [a0,a1,.own (.dct (putD (.str p) (.int (f p+1)) ks vs).1 (putD (.str p) (.int (f p+1)) ks vs).2),.val (.str p),.un,.un]:=by
    simp[fcA,Ob.d,lV,gtK,Pa h p,O9 (vs:=vs) p (f p+1) hl']
   rw[show sL _=.str p::sL us from rfl,aL,tt]
   simp only[go]
   exact z4
theorem Dm(c:Cf)(a0 a1:Sl):∀(ws u:List Str)(ks vs:List D)(acc:List Str)(s3 s5:Sl),Cd ks vs (fun q=>cnt q u)->ks.length+ws.length<=100->acc.length+ws.length<=100->bu s3->bu s5->∃ks' vs' s3' s5',
  aL (.name 3) (ex c Zo) (sL ws) [a0,a1,.own (.dct ks vs),s3,.own (.lst (sL acc)),s5]=.next [a0,a1,.own (.dct ks' vs'),s3',.own (.lst (sL (acc++res u ws))),s5']
 |[]=>fun u ks vs acc s3 s5 _ _ _ _ _=>⟨ks,vs,s3,s5,by simp[aL,res]⟩
 |p::ws=>fun u ks vs acc s3 s5 h hl ha h3 h5=>by
  have tt:aX (.name 3) (.str p) [a0,a1,.own (.dct ks vs),s3,.own (.lst (sL acc)),s5]=some [a0,a1,.own (.dct ks vs),.val (.str p),.own (.lst (sL acc)),s5]:=by
   rcases h3 with rfl|⟨d,rfl⟩<;>simp[aX,bL]
  have hl':ks.length<=200:=by simp at hl;omega
  have g:=Pa h p
  have c5:∀v,wO 5 [a0,a1,.own (.dct ks vs),.val (.str p),.own (.lst (sL acc)),s5] (.val v) (some s5)=some [a0,a1,.own (.dct ks vs),.val (.str p),.own (.lst (sL acc)),.val v]:=fun v=>by
   rcases h5 with rfl|⟨d,rfl⟩<;>simp
  by_cases m:p∈u
  ·have m0:=m6.mp m
   have e0:aG .eq (.int (cnt p u)) (.int 0)=some false:=by
    have:¬((cnt p u:Int)=0):=by omega
    show some (decide _)=_
    rw[QEz this]
   obtain⟨h2,l2⟩:=h.put p _
   have em:((cnt p u-1:Nat))=(cnt p u:Int)-1:=by omega
   rw[em]at h2 l2
   have h2':Cd (putD (.str p) (.int (cnt p u-1)) ks vs).1 (putD (.str p) (.int (cnt p u-1)) ks vs).2 (fun q=>cnt q (er p u)):=by
    have:(fun q=>cnt q (er p u))=fun q=>if q=p then cnt p u-1 else cnt q u:=by
     funext q
     rw[yf]
     by_cases d:p=q
     ·subst d;simp
     ·have d':¬q=p:=fun z=>d z.symm
      simp[d,d']
    rw[this]
    exact h2
   obtain⟨ks',vs',s3',s5',z⟩:=Dm c a0 a1 ws _ _ _ acc _ _ h2' (by simp at hl;omega) (by simp at ha;omega) (.inr ⟨_,rfl⟩) (.inr ⟨_,rfl⟩)
   refine⟨ks',vs',s3',s5',?_⟩
   have go:ex c Zo [a0,a1,.own (.dct ks vs),.val (.str p),.own (.lst (sL acc)),s5]=.next [a0,a1,.own (.dct (putD (.str p) (.int (cnt p u-1)) ks vs).1 (putD (.str p) (.int (cnt p u-1)) ks vs).2),.val (.str p),.own (.lst (sL acc)),.val (.int (cnt p u))]:=by
    simp[Zo,Ob.d,lV,gtK,g,O9 (vs:=vs) p (cnt p u-1) hl',c5,e0]
   rw[show sL _=.str p::sL ws from rfl,aL,tt,res,if_pos m]
   simp only[go]
   exact z
  ·have m0:cnt p u=0:=by
    have:¬0<cnt p u:=fun z=>m (m6.mpr z)
    omega
   rw[m0]at g
   have e0:aG .eq (.int 0) (.int 0)=some true:=rfl
   have fa:fits (acc.length+1)=true:=by simp[fits]at*;omega
   obtain⟨ks',vs',s3',s5',z⟩:=Dm c a0 a1 ws u ks vs (acc++[p]) _ (.val (.int 0)) h (by simp at hl;omega) (by simp at ha⊢;omega) (.inr ⟨_,rfl⟩) (.inr ⟨_,rfl⟩)
   refine⟨ks',vs',s3',s5',?_⟩
   have go:ex c Zo [a0,a1,.own (.dct ks vs),.val (.str p),.own (.lst (sL acc)),s5]=.next [a0,a1,.own (.dct ks vs),.val (.str p),.own (.lst (sL (acc++[p]))),.val (.int 0)]:=by
    simp[Zo,Ob.d,lV,dU,gtK,g,c5,e0,fa,yt]
   rw[show sL _=.str p::sL ws from rfl,aL,tt,res,if_neg m]
   simp only[go]
   rw[List.append_cons acc p (res u ws)]
   exact z
def sY n(ha:a.length<=40)(hb:b.length<=40):pg.fn (n+1) 28 [.val (.lst (sL a)),.val (.lst (sL b))]=.ok (.new (.lst (sL (res a b)))) [.val (.lst (sL a)),.val (.lst (sL b))]:=by
 obtain⟨ks,vs,s3,z1,z2,z3,z4⟩:=Og (pg.cf n) (.val (.lst (sL a))) (.val (.lst (sL b))) a [] [] _ .un ⟨fun x hx=>absurd hx QAz,rfl,fun q=>rfl⟩ (by simp;omega) (.inl rfl)
 simp only[Nat.zero_add]at z2
 simp only[List.length_nil]at z3
 obtain⟨ks',vs',s3',s5',y⟩:=Dm _ _ _ b a ks vs [] s3 .un z2 (by omega) (by simp;omega) z1 (.inl rfl)
 have hb:g8=⟨2,6,(.cons (.set 2 .emp) (.cons (.for_ (.name 3) (.var 0) fcA) (.cons (.set 4 AAv) (.cons (.for_ (.name 3) (.var 1) Zo) ABP))))⟩:=by kernel_rfl
 rw[mU,hb]
 have y':aL (.name 3) (ex (pg.cf n) Zo) (sL b) [.val (.lst (sL a)),.val (.lst (sL b)),.own (.dct ks vs),s3,.own (.lst []),.un]=.next [.val (.lst (sL a)),.val (.lst (sL b)),.own (.dct ks' vs'),s3',.own (.lst (sL (res a b))),s5']:=by simpa using y
 simp[items,z4,y',aP]
def Zw xs(n:Nat):cut xs none (some (n:Int))=xs.take n:=by
 have a:clip xs.length n=min n xs.length:=by
  have h0:¬((n:Int)<0):=by omega
  unfold clip
  simp only[h0,if_false]
  split<;>omega
 simp only[cut,a,List.drop_zero]
 exact List.take_eq_take_iff.mpr (by omega)
end
end Tx
end
section
open PySem Mini
namespace Tx
section
def Yk:S:=(.cons (.ite (.cmp .gt (.count (.slc (.var 1) .noneE (.op .add (.var 3) AAG)) (.var 4)) (.count (.var 0) (.var 4))) (.cons (.append 2 (.var 4)) .nil) .nil) .nil)
def Eu(xs:List D)(lo hi:Option Int):ik (.lst xs) lo hi=some (.new (.lst (cut xs lo hi))):=rfl
def O6 x u:Ag (.lst (sL u)) (.str x)=some (.val (.int (cnt x u))):=by
 show(if flat _&&(sL u).all flat then some _ else none)=_
 rw[Gx,v4]
 rfl
def gtI(a b:Nat):aG .gt (.int a) (.int b)=some (decide (b<a)):=by
 have:aG .gt (.int a) (.int b)=some _:=rfl
 congr 1
 simp
theorem MK(c:Cf)(a o:List Str):∀(v pre acc:List Str)(s3 s4:Sl),o=pre++v->acc.length+v.length<=100->bu s3->bu s4->∃s3' s4',
  aL (.tup [3,4]) (ex c Yk) (aR (bw pre.length v.length) (sL v)) [.val (.lst (sL a)),.val (.lst (sL o)),.own (.lst (sL acc)),s3,s4]=.next [.val (.lst (sL a)),.val (.lst (sL o)),.own (.lst (sL (acc++left a pre v))),s3',s4']
 |[]=>fun pre acc s3 s4 _ _ _ _=>⟨s3,s4,by simp[aR,aL,left,bw]⟩
 |x::v=>fun pre acc s3 s4 ho hl h3 h4=>by
  have tt:aX (.tup [3,4]) (.tup [.int pre.length,.str x]) [.val (.lst (sL a)),.val (.lst (sL o)),.own (.lst (sL acc)),s3,s4]=some [.val (.lst (sL a)),.val (.lst (sL o)),.own (.lst (sL acc)),.val (.int pre.length),.val (.str x)]:=by
   rcases h3 with rfl|⟨d,rfl⟩<;>rcases h4 with rfl|⟨d,rfl⟩<;>simp[aX,dI,bL]
  have sl:cut (sL o) none (some (pre.length+1))=sL (pre++[x]):=by
   have:=Zw (sL o) (pre.length+1)
   rw[show((pre.length+1:Nat))=(pre.length:Int)+1 by omega]at this
   rw[this,ho,<-List.map_take,List.append_cons,List.take_left' (by simp)]
  have k1:=O6 x (pre++[x])
  have k2:=O6 x a
  have gt:=gtI (cnt x (pre++[x])) (cnt x a)
  have fa:fits (acc.length+1)=true:=by simp[fits];simp at hl;omega
  have rg:bw pre.length (x::v).length=.int pre.length::bw (((pre++[x]).length:Nat)) v.length:=by
   simp[bw]
  rw[rg,show sL _=.str x::sL v from rfl,aR,aL,tt,left]
  by_cases d:cnt x a<cnt x (pre++[x])
  ·obtain⟨s3',s4',z⟩:=MK c a o v (pre++[x]) (acc++[x]) _ _ (by rw[ho];simp) (by simp at hl⊢;omega) (.inr ⟨_,rfl⟩) (.inr ⟨_,rfl⟩)
   refine⟨s3',s4',?_⟩
   rw[QFq d]at gt
   obtain⟨pw,hpw⟩:∃pw,pw=pre++[x]:=⟨_,rfl⟩
   rw[<-hpw]at sl k1 gt
   have go:ex c Yk [.val (.lst (sL a)),.val (.lst (sL o)),.own (.lst (sL acc)),.val (.int pre.length),.val (.str x)]=.next [.val (.lst (sL a)),.val (.lst (sL o)),.own (.lst (sL (acc++[x]))),.val (.int pre.length),.val (.str x)]:=by
    simp[Yk,Eu,E.jJ,cV,sl,k1,k2,gt,bG,fa,yt,dU,Ob.d]
   rw[if_pos d,List.append_cons acc x _]
   simp only[go]
   exact z
  ·obtain⟨s3',s4',z⟩:=MK c a o v (pre++[x]) acc _ _ (by rw[ho];simp) (by simp at hl⊢;omega) (.inr ⟨_,rfl⟩) (.inr ⟨_,rfl⟩)
   refine⟨s3',s4',?_⟩
   rw[QEz d]at gt
   obtain⟨pw,hpw⟩:∃pw,pw=pre++[x]:=⟨_,rfl⟩
   rw[<-hpw]at sl k1 gt
   have go:ex c Yk [.val (.lst (sL a)),.val (.lst (sL o)),.own (.lst (sL acc)),.val (.int pre.length),.val (.str x)]=.next [.val (.lst (sL a)),.val (.lst (sL o)),.own (.lst (sL acc)),.val (.int pre.length),.val (.str x)]:=by
    simp[Yk,Eu,E.jJ,cV,sl,k1,k2,gt,bG,Ob.d]
   rw[if_neg d]
   simp only[go]
   exact z
def zM n(hb:b.length<=40):pg.fn (n+1) 53 [.val (.lst (sL a)),.val (.lst (sL b))]=.ok (.new (.lst (sL (res a b)))) [.val (.lst (sL a)),.val (.lst (sL b))]:=by
 obtain⟨s3,s4,z⟩:=MK _ a b b [] [] .un .un rfl (by simp;omega) (.inl rfl) (.inl rfl)
 rw[rD a b a [] (fun y=>by simp[cnt])]
 have z':aL (.tup [3,4]) (ex (pg.cf n) Yk) (aR (bw 0 (sL b).length) (sL b)) [.val (.lst (sL a)),.val (.lst (sL b)),.own (.lst []),.un,.un]=.next [.val (.lst (sL a)),.val (.lst (sL b)),.own (.lst (sL (left a [] b))),s3,s4]:=by
  simpa using z
 have hb:ug=⟨2,5,(.cons (.set 2 AAv) (.cons (.for_ (.tup [3,4]) (.enum (.var 1)) Yk) ABr))⟩:=by kernel_rfl
 rw[BZ,hb]
 simp only[QAq]at z'
 simp[items,pF,z',aP]
theorem kO:∀(v u:List Str),(res u v).length<=v.length
 |[]=>fun _=>by simp[res]
 |x::v=>fun u=>by
  have h1:=kO v (er x u)
  have h2:=kO v u
  rw[res]
  split
  ·simp;omega
  ·simp;omega
variable{C:Cs}
def Tc n(K:C.Ok)(ha:a.length<=40)(hb:b.length<=40)(ea:C.run (sL a) (sI C.ls)=some s)(eb:C.run (sL b) (sI C.ls)=some t)(ec:C.run (sL a++sL (res a b)) (sI C.ls)=some u):
  pg.fn (n+11) 27 [.val C.n,.val C.t,.val (.lst (sL a)),.val (.lst (sL b))]=.ok (.val (.lst (sL (res a b)))) [.val C.n,.val C.t,.val (.lst (sL a)),.val (.lst (sL b))]:=by
 have rl:=kO b a
 have ft:fits (a.length+(res a b).length)=true:=by simp[fits];omega
 rw[vf]
 simp[lK,v9,fJ n K ea,fJ n K eb,fJ n K ec,sY (n+9) ha hb,Ob.d,ft]
def Td n(K:C.Ok)(ha:a.length<=40)(hb:b.length<=40)(ea:C.run (sL a) (sI C.ls)=some s)(eb:C.run (sL b) (sI C.ls)=some t)(ec:C.run (sL a++sL (res a b)) (sI C.ls)=none):
  pg.fn (n+11) 27 [.val C.n,.val C.t,.val (.lst (sL a)),.val (.lst (sL b))]=.exc 1 [.val C.n,.val C.t,.val (.lst (sL a)),.val (.lst (sL b))]:=by
 have e3:=JC n K (fun w hw=>by
  rcases QXz.mp hw with z|z
  ·exact qt _ w z
  ·exact qt _ w z) ec
 have rl:=kO b a
 have ft:fits (a.length+(res a b).length)=true:=by simp[fits];omega
 rw[vf]
 simp[lK,v9,fJ n K ea,fJ n K eb,e3,sY (n+9) ha hb,Ob.d,ft]
end
end Tx
end
section
open PySem Mini
namespace Tx
section
variable{C:Cs}
def Av(a b:List Str)(o:Option St):D:=match o with
 |some _=>.lst (sL (res a b))
 |none=>.non
theorem yE n(K:C.Ok)(ha:a.length<=40)(hb:b.length<=40)(ea:C.run (sL a) (sI C.ls)=some s)(eb:C.run (sL b) (sI C.ls)=some t):
  pg.fn (n+12) 55 [.val C.n,.val C.t,.val (.lst (sL a)),.val (.lst (sL b))]=.ok (.val (Av a b (C.run (sL a++sL (res a b)) (sI C.ls)))) [.val C.n,.val C.t,.val (.lst (sL a)),.val (.lst (sL b))]:=by
 rw[BP]
 cases ec:C.run _ _ with
 |some u=>
  simp[jo,jQ,Tc n K ha hb ea eb ec,Av,E.au]
 |none=>
  simp[jo,jQ,Td n K ha hb ea eb ec,Av,E.au]
def Cs.T1(C:Cs)(s:St)(p:Str):Option St:=if aJ (.str p) (C.st s)then C.led s (.str p)else none
theorem oG:∀(u:List Str)(s:St),C.run (sL u) s=goes C.T1 u s
 |[]=>fun s=>rfl
 |p::u=>fun s=>by
  show(if aJ _ _ then(C.led s _).bind _ else none)=(C.T1 s p).bind _
  unfold Cs.T1
  split
  ·cases C.led s _ with
   |none=>rfl
   |some t=>exact oG u t
  ·rfl
def Qf(K:C.Ok)(S:C.S s)(e:C.T1 s p=some t):D.str p∈C.st s/\C.led s (.str p)=some t:=by
 unfold Cs.T1 at e
 cases c:aJ _ _ with
 |false=>rw[c]at e;cases e
 |true=>rw[c]at e;exact⟨Mh K S c,e⟩
def wg(K:C.Ok)(Z:C.Fi F)(hn:∀p∈F,bO (C.flt p.1 p.2)=true)(hs:fM C.sts=true)(ea:C.run (sL a) (sI C.ls)=some s)(eb:C.run (sL b) (sI C.ls)=some t):∃w,C.run (sL a++sL (res a b)) (sI C.ls)=some w/\C.run (sL b++sL (res b a)) (sI C.ls)=some w:=by
 have Sk:∀{s},s∈F.map (·.1)->C.S s:=fun{s}m=>by
  obtain⟨w,hw,ew⟩:=QDq.mp m
  rw[<-ew]
  exact Z.ok.ok _ hw
 have nf:∀{s},s∈F.map (·.1)->bO (C.flt s [])=true:=fun{s}m=>by
  obtain⟨w,hw,ew⟩:=QDq.mp m
  rw[<-ew]
  exact(Tt w.1 [] w.2).trans (hn w hw)
 have inv:∀{s x t},s∈F.map (·.1)->C.T1 s x=some t->t∈F.map (·.1):=fun{s x t}m e=>by
  obtain⟨h1,h2⟩:=Qf K (Sk m) e
  exact Z.clo s m _ h1 t h2
 have dia:∀{s x y t u},s∈F.map (·.1)->x≠y->C.T1 s x=some t->C.T1 s y=some u->∃v,C.T1 t y=some v/\C.T1 u x=some v:=fun{s x y t u}m ne e1 e2=>by
  obtain⟨hx,ex_⟩:=Qf K (Sk m) e1
  obtain⟨hy,ey⟩:=Qf K (Sk m) e2
  have S:=Sk m
  have ht:=stays K hs S (nf m) hx hy (fun z=>ne (by cases z;rfl)) ex_
  have mt:=inv m e1
  obtain⟨v,ev_,_⟩:=uW (nf mt) ht
  refine⟨v,?_,?_⟩
  ·unfold Cs.T1;rw[pG K (Sk mt) ht];exact ev_
  ·unfold Cs.T1;rw[pG K (Sk (inv m e2)) (stays K hs S (nf m) hy hx (fun z=>ne (by cases z;rfl)) ey)];exact either K hs S ne ex_ ey ev_
 rw[oG]at ea eb
 obtain⟨c,c1,c2⟩:=xK inv dia Z.fst ea eb
 refine⟨c,?_,?_⟩
 ·rw[gw,oG,ea]
  show C.run _ s=some c
  rw[oG];exact c1
 ·rw[gw,oG,eb]
  show C.run _ t=some c
  rw[oG];exact c2
def U0(h:∀x∈ws,x∈C.nm):∃u,ws=sL u:=Fp fun x hx=>bj _ _ x (h x hx)
theorem wU:∀(v u:List Str)x,x∈res u v->x∈v
 |[]=>fun u x h=>by simp[res]at h
 |y::v=>fun u x h=>by
  rw[res]at h
  split at h
  ·exact QYq _ (wU v _ x h)
  ·rcases QCq.mp h with z|z
   ·rw[z];exact QYz
   ·exact QYq _ (wU v _ x z)
end
def math(ns:List Int)(hl:ns.length<=63):∃qs,pg.fn 60 56 [.val (.lst (ns.map .int))]=.ok (.val (.bl true)) qs:=by
 obtain⟨C,K,e'⟩:=T4 50 ns 4 (by omega)
 have a:=Oh 49 K
 have sd':pg.fn 59 46 [.val C.t]=.ok (.val (.bl (fM C.sts))) [.val C.t]:=oV 58 (os:=C.os) (K.t.st K.o)
 have Z:=Zn K
 generalize C.wz 1000 0 (R0 C.ls)=F at*
 obtain⟨wa,sa,a1,a2,a3,a4,a5⟩:=Ad 54 ns K (k0:=0) (by omega) (M:=16) (by omega)
 obtain⟨wb,sb,c1,c2,c3,c4,c5⟩:=Ad 54 ns K (k0:=2) (by omega) (M:=16) (by omega)
 obtain⟨p,rfl⟩:=U0 a1
 obtain⟨q,rfl⟩:=U0 c1
 have hp:p.length<=16:=by simpa using a2
 have hq:q.length<=16:=by simpa using c2
 have td:=yE 47 K (a:=p) (b:=q) (by omega) (by omega) a4 c4
 have tb:=yE 47 K (a:=q) (b:=p) (by omega) (by omega) c4 a4
 have lf:=zM 58 (a:=p) (b:=q) (by omega)
 have rn:∀x∈sL (res p q),x∈C.nm:=fun x hx=>by
  obtain⟨y,hy,rfl⟩:=QDq.mp hx
  exact c1 _ (QTz (wU q p y hy))
 have tw:∀w∈sL p++sL (res p q),∃q,w=.str q:=fun w hw=>by
  rcases QXz.mp hw with z|z
  ·exact qt _ w z
  ·exact qt _ w z
 have gs:=zN 54 K tw
 have rl:=kO q p
 have rl2:=kO p q
 have ft:fits (p.length+(res p q).length)=true:=by simp[fits];omega
 have ft2:fits (q.length+(res q p).length)=true:=by simp[fits];omega
 have np:=mZ (C:=C) a1
 have nq:=mZ (C:=C) c1
 have nr:=mZ (C:=C) rn
 have n1:=(Oj (d:=.lst [.lst (sL p),.lst (sL q)]) ⟨by simp[nd,lu,np.1,nq.1],by simp[dep,jl,np.2,nq.2]⟩).2
 have n2:=(Oj (d:=.lst (sL (res p q))) ⟨nr.1,by show jl (sL (res p q))+1<=50;rw[nr.2];omega⟩).2
 have bl:∀u:List Str,Qu .list (sL u)=some (.new (.lst (sL u))):=fun _=>rfl
 refine⟨[.val (.lst (ns.map .int))],?_⟩
 rw[show(60:Nat)=59+1 from rfl,abN]
 have a5':pg.fn 59 52 [.val (.lst (ns.map .int)),.val (.int 0),.val C.n,.val C.t,.val (.int 16)]=.ok (.val (.tup [.lst (sL p),aq sa])) [.val (.lst (ns.map .int)),.val (.int 0),.val C.n,.val C.t,.val (.int 16)]:=a5
 have c5':pg.fn 59 52 [.val (.lst (ns.map .int)),.val (.int 2),.val C.n,.val C.t,.val (.int 16)]=.ok (.val (.tup [.lst (sL q),aq sb])) [.val (.lst (ns.map .int)),.val (.int 2),.val C.n,.val C.t,.val (.int 16)]:=c5
 have n0:aG .ne .non .non=some false:=rfl
 have il:∀xs:List D,bO (.lst xs)=false:=fun _=>rfl
 cases ec:C.run (sL p++sL (res p q)) (sI C.ls)with
 |none=>
  rw[ec]at td gs
  cases cs:fM C.sts with
  |false=>
   rw[cs]at sd'
   simp[ul,e',aX,dI,bL,a5',c5',bl,td,lf,gs,aP,Ob.d,n1,ft,Av,b1,b2i,n0,sd']
  |true=>
   rw[cs]at sd'
   cases c:bO (C.ff F)with
   |false=>simp[ul,e',aX,dI,bL,a5',c5',bl,td,lf,gs,aP,Ob.d,n1,ft,Av,b1,b2i,n0,sd',a,c]
   |true=>
    obtain⟨w,w1,_⟩:=wg K Z (mC c) cs a4 c4
    rw[ec]at w1
    cases w1
 |some u=>
  rw[ec]at td gs
  cases cs:fM C.sts with
  |false=>
   rw[cs]at sd'
   simp[ul,e',aX,dI,bL,a5',c5',bl,td,lf,gs,aP,Ob.d,n1,ft,Av,b1,b2i,n2,sd']
  |true=>
   rw[cs]at sd'
   cases c:bO (C.ff F)with
   |false=>simp[ul,e',aX,dI,bL,a5',c5',bl,td,lf,gs,aP,Ob.d,n1,ft,Av,b1,b2i,n2,sd',a,c]
   |true=>
    obtain⟨w,w1,w2⟩:=wg K Z (mC c) cs a4 c4
    rw[w2]at tb
    simp[ul,e',aX,dI,bL,a5',c5',bl,td,lf,gs,aP,Ob.d,n1,ft,ft2,Av,b1,b2i,n2,sd',a,c,tb,fJ 49 K w1,fJ 49 K w2,(Oj (d:=aq w) ⟨(Kr w).1,by have:=(Kr w).2;omega⟩).1,(fun _ _=>rfl),il]
end Tx
end
namespace Tx
open PySem PySem.W L2 Mini
def Vl{K:QQq}{h:Heap}{N:Addr}{es:Array DictEntry}(ep:Nat)(X:K.In h)(l:K.lookup N=some ⟨.type "dict",none,.dict es ep, #[]⟩)(sk:StrKeys es):h.Ns N (nsFind es):=⟨_,es,ep,X _ _ l,rfl,sk,fun _=>rfl⟩
def aeW(P:Params):StrKeys (e60 P):=fun e he=>by
 simp only[e60,List.mem_toArray,QCq,QAz,or_false]at he
 rcases he with rfl|rfl|rfl|rfl<;>exact⟨_,_,rfl⟩
def q60(P:Params):∀n∈quietNames,nsFind (e60 P) n=none:=fun n hn=>by
 simp only[quietNames,QCq,QAz,or_false]at hn
 rcases hn with rfl|rfl|rfl|rfl<;>kernel_rfl
def aeX(P:Params):StrKeys (e23 P):=fun e he=>by
 simp only[e23,List.mem_toArray,QCq,QAz,or_false]at he
 rcases he with rfl|rfl|rfl|rfl|rfl<;>exact⟨_,_,rfl⟩
def q23(P:Params):∀n∈quietNames,nsFind (e23 P) n=none:=fun n hn=>by
 simp only[quietNames,QCq,QAz,or_false]at hn
 rcases hn with rfl|rfl|rfl|rfl<;>kernel_rfl
def LC{P:Params}{mg:QZz}(hm:mg "NoRun"=some (.ref 61))(h:Heap)(X:(Kf P).In h):Ql "NoRun" 61 mg h:=
 ⟨hm,_,_,_,_,_,_,_,_,_,_,_,_,_,_,_,_,_,X 61 o61 (by kernel_rfl),Vl 2 X (by kernel_rfl) (aeW P),q60 P,.own (X 24 o24 (by kernel_rfl)) (Vl 3 X (by kernel_rfl) (aeX P)) (q23 P) .base⟩
def cls:Nat->Option Addr
 |1=>some 61
 |_=>none
def V1{P:Params}{mg:QZz}(h1:mg "NoRun"=some (.ref 61)):Ay (Kf P) mg cls ["NoRun"]:=⟨rfl,fun k x e=>by
 rcases k with _|k
 ·cases e;exact⟨61,rfl,LC h1⟩
 ·simp at e⟩
def bT:∃(p1 a1 a2 a3 a4 p3 p4 p9 u1 u2 u3 u4:Pos)(uk:Nat),cN G6.st=[.Try [.Return (some (.Call (.Name "gone_on" p1) [.Name "_law_net_here" a1,.Name "_law_talk_here" a2,.Name "_law_one" a3,.Name "_law_other" a4] [] p3)) p4] [.ExceptHandler (some (.Name "NoRun" u1)) none [.Return (some (.Constant .none uk u2)) u3] u4] [] [] p9]:=⟨_,_,_,_,_,_,_,_,_,_,_,_,_,rfl⟩
def R8{X:Cx}{i:Nat}{x:Str}(eN:X.N=G6.N)(eS:X.env.scope=aF G6.st)(h:G6.N[i]? =some x)(l:(aF G6.st).names.lookup x=some .local)(a:(x==("__debug__":Str))=false)(b:(x==("__classdict__":Str))=false):gj X i x:=⟨by rw[eN];exact h,.inl (by rw[eS];exact l),a,b⟩
def told{P:Params}{mg:QZz}(h1:mg "NoRun"=some (.ref 61))(hW:mg "WaitError"=some (.ref 24))(m1:mg "isinstance"=none)(m3:mg "ValueError"=none)(m4:mg "int"=none)(Pr:Program)(w:World)(base:Heap)(fr ft:Addr)(fdr fdt:FuncData)(Dr:lY (Kf P) mg Zv fr fdr)(Dt:lY (Kf P) mg G6 ft fdt)(S:fP G6.N G6.ps (aF G6.st))(c:Cf)(n:Nat)(G:fK Pr w (Kf P) mg base (pA Pr w base) n fr fdr Zv.ps (JK (Kf P) Zv.ps.length cls (c.fn 27)))(hn:∀sl,c.fn 27 sl=.bad\/sl.length=Zv.ps.length):
  fK Pr w (Kf P) mg base Bg (n+1) ft fdt G6.ps (oA (Kf P) G6.ps.length (fU c tf)):=by
 obtain⟨p1,a1,a2,a3,a4,p3,p4,p9,u1,u2,u3,u4,uk,hb⟩:=bT
 refine Mini.QJ (cls:=cls) (ws:=[(1,.non)]) Dt.fu S hb G Dr.at_ Dr.fu.kp Dr.bi (by kernel_rfl) (by decide+kernel) (fun X eN eS=>Tr (R8 eN eS (by kernel_rfl) (by kernel_rfl) (by decide+kernel) (by decide+kernel)) (R8 eN eS (by kernel_rfl) (by kernel_rfl) (by decide+kernel) (by decide+kernel)) (R8 eN eS (by kernel_rfl) (by kernel_rfl) (by decide+kernel) (by decide+kernel)) (R8 eN eS (by kernel_rfl) (by kernel_rfl) (by decide+kernel) (by decide+kernel))) (fun _=>rfl) (fun _=>rfl) hn fun X eK eM eN eS j w hl=>?_
 have gl:∀x:Str,(aF G6.st).names.lookup x=some .globalImplicit->Gl X x:=fun x hx=>by show X.env.scope.names.lookup x=_;rw[eS];exact hx
 obtain⟨rfl,rfl⟩:=Sx hl
 exact⟨61,.non,rfl,fun _=>rfl,⟨_,_,_,_,_,_,rfl,by rw[eK,eM];exact LC h1,gl _ (by kernel_rfl),by decide+kernel,fun a oe hc=>PE.imp Ls fun σ H Q q=>q H (.inl rfl)⟩⟩
def bK{K:QQq}{x:Str}{st:Stmt}(m:Value)(f c:Addr)(a:PySem.W.nsIn K mainGlobals x=some (some (.ref f)):=by kernel_rfl)(l:K.lookup f=some (fO x st m c):=by kernel_rfl)(q:PySem.W.codeIn K (.ref c) x=true:=by kernel_rfl):Qn K x st:=Mini.dIn a l q (by unfold PySem.W.keepIn;dsimp only;rw[l];rfl)
def hRs{P:Params}{mg:QZz}(h1:mg "NoRun"=some (.ref 61))(i:Nat)(d:Df)(hi:i∈Rs_)(e:ds[i]? =some d):i≠55/\Ay (Kf P) mg cls d.exs:=by
 simp only[Rs_,QCq,QAz,or_false]at hi
 rcases hi with rfl|rfl
 ·obtain rfl:=QEq (show some Zv=some d from e);exact⟨by decide,V1 h1⟩
 ·obtain rfl:=QEq (show some d20=some d from e);exact⟨by decide,V1 h1⟩
end Tx
open PySem PySem.W PyProof.Rows
theorem PySem.Challenge.cw_anywait_k10_whole_gone_on_holds : PySem.Challenge.rw_anywait_k10_whole_gone_on.Holds := by
 w_on
 refine PySem.W.holds_law Tx.w0w fun said => ?_
 refine PySem.W.holds_open (q := Tx.qV) (loose := Tx.lo) (Xt := fun s => recOk [] s) (XP := fun _ _ => True) (Yf := Hook.obs Tx.Kh) (Ya := Hook.val Tx.Kh) (YP := Hook.says Tx.Kh) (N := 5492) Tx.hl (Hook.of Tx.Kh) (Hook.keeps Tx.Kh) (fun _ _ => trivial) (fun _ _ _ _ _ => trivial) (by rfl) (by rfl) (by rfl) (fun s e => recFacts_of e) (by rfl) said (by decide +kernel) ⟨rfl, rfl, rfl, rfl, rfl, by decide +kernel⟩ ?hw ?hc
 case hw => w_witness2
 case hc =>
  refine Mini.JX (p := Tx.pg) (L := 56) (y := "_law_script") (l := PySem.Challenge.rw_anywait_k10_whole_gone_on) rfl rfl (fun w h Y => PySem.W.kIn_of Y) Tx.math ?qF
  intro w mg fa h KX G hmg
  refine Mini.PJ (t := 55) (r := 27) (dL := Tx.d56) (dr := Tx.Zv) (dt := Tx.G6) (tf := Tx.tf) (cls := Tx.cls) KX G hmg rfl rfl rfl Tx.bd Tx.scp Tx.nZ ?qA ?qB ?qZ Tx.Rs_ (Tx.hRs (PySem.W.mg_of KX G (by kernel_rfl))) Tx.rzs (by decide) rfl rfl rfl (Tx.told (PySem.W.mg_of KX G (by kernel_rfl)) (PySem.W.mg_of KX G (by kernel_rfl)) (PySem.W.mg_none_of KX G (by kernel_rfl)) (PySem.W.mg_none_of KX G (by kernel_rfl)) (PySem.W.mg_none_of KX G (by kernel_rfl)))
  case qA =>
   show Mini.AllIn _ Tx.nms
   exact ⟨Tx.bK Tx.lA 71 70, Tx.bK Tx.lA 76 75, Tx.bK Tx.lA 81 80, Tx.bK Tx.lA 88 87, Tx.bK Tx.lA 95 94, Tx.bK Tx.lA 100 99, Tx.bK Tx.lA 105 104, Tx.bK Tx.lA 110 109, Tx.bK Tx.lA 117 116, Tx.bK Tx.lA 122 121, Tx.bK Tx.lA 127 126, Tx.bK Tx.lA 134 133, Tx.bK Tx.lA 141 140, Tx.bK Tx.lA 146 145, Tx.bK Tx.lA 151 150, Tx.bK Tx.lA 156 155, Tx.bK Tx.lA 163 162, Tx.bK Tx.mo4 170 169, Tx.bK Tx.mo4 175 174, Tx.bK Tx.mo4 180 179, Tx.bK Tx.Fw 187 186, Tx.bK Tx.Fw 194 193, Tx.bK Tx.Fw 199 198, Tx.bK Tx.Fw 206 205, Tx.bK Tx.Fw 213 212, Tx.bK Tx.Fw 218 217, Tx.bK Tx.Fw 225 224, Tx.bK Tx.mo1 232 231, Tx.bK Tx.mo1 239 238, Tx.bK Tx.Vs 246 245, Tx.bK Tx.Vs 253 252, Tx.bK Tx.Vs 258 257, Tx.bK Tx.Vs 265 264, Tx.bK Tx.gk 272 271, Tx.bK Tx.gk 279 278, Tx.bK Tx.gk 286 285, Tx.bK Tx.gk 293 292, Tx.bK Tx.gk 298 297, Tx.bK Tx.gk 305 304, Tx.bK Tx.gk 310 309, Tx.bK Tx.gk 315 314, Tx.bK Tx.gk 320 319, Tx.bK Tx.gk 327 326, Tx.bK Tx.gk 334 333, Tx.bK Tx.gk 339 338, Tx.bK Tx.gk 346 345, Tx.bK Tx.gk 351 350, Tx.bK Tx.gk 356 355, Tx.bK Tx.gk 361 360, Tx.bK Tx.gk 366 365, Tx.bK Tx.gk 371 370, Tx.bK Tx.gk 376 375, Tx.bK Tx.gk 383 382, Tx.bK Tx.gk 390 389, Tx.bK Tx.gk 397 396, Tx.bK Tx.gk 404 403, Tx.bK Tx.gk 411 410, trivial⟩
  case qB => exact ⟨.v (u := .str "abcdefghijklmnopqrstuvwxyz" 257) (by kernel_rfl) (by decide +kernel), .v (u := .int 6 259) (by kernel_rfl) (by decide +kernel), .t (a := 64) (o := Tx.o64) (by kernel_rfl) (by kernel_rfl) (by decide +kernel), .v (u := .int 3 276) (by kernel_rfl) (by decide +kernel), .v (u := .int 5 278) (by kernel_rfl) (by decide +kernel), .v (u := .int 4 280) (by kernel_rfl) (by decide +kernel), .v (u := .int 8 282) (by kernel_rfl) (by decide +kernel), .v (u := .int 3 284) (by kernel_rfl) (by decide +kernel), .v (u := .int 12 412) (by kernel_rfl) (by decide +kernel), trivial⟩
  case qZ => exact ⟨by kernel_rfl, by kernel_rfl, by kernel_rfl, by kernel_rfl, by kernel_rfl, by kernel_rfl, by kernel_rfl, by kernel_rfl, by kernel_rfl, by kernel_rfl, by kernel_rfl, by kernel_rfl, by kernel_rfl, by kernel_rfl, trivial⟩