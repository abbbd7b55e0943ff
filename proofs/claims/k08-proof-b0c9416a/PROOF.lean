import PyProof.Rows.All
import Wide.All
import OpenK.AllK
import Wide.FinOn
import PySem.Syntax
import Lean
import PyProof.EqAt
import PyProof.EqKinds
import PyProof.TupleCall
import PyProof.TupleKey
import PyProof.DictRoadsH
import Wide.Seal
import KE.KDictList
import KE.KSortAsk
import PyProof.ListMulAny
import PyProof.FactsAll.tuple_2
import PyProof.NeData
import PyProof.P3In
import PyProof.Rows.StrRev
import KE.KSortTup
import PyProof.DictUpdate
import PyProof.DictCopy
import PyProof.CompFree
import PySem.Challenge.RW_anywait_k08_whole_paper
set_option linter.all false
set_option Elab.async false
set_option maxRecDepth 100000
set_option maxHeartbeats 0
set_option compiler.extract_closed false
set_option bootstrap.genMatcherCode false
abbrev QQq:=PySem.W.Frag
abbrev QQz:=List (PySem.Addr×PySem.Obj)
abbrev QZq:=PySem.Value→PySem.Shared→Prop
abbrev QZz:=PySem.Str→Option PySem.Value
def QJq:=@Option.bind_eq_some_iff
def QJz:=@Option.map_eq_some_iff
def QYq:=@List.mem_cons_of_mem
def QYz:=@List.mem_cons_self
def QXq:=@List.getElem?_eq_getElem
def QXz:=@List.mem_append
def QWq:=@PySem.Heap.get?_push_of_some
def QWz:=@List.mem_append_left
def QVq:=@List.mem_append_right
def QVz:=@Nat.le_refl
def QUq:=@Bool.and_eq_true
def QUz:=@decide_eq_true_eq
def QTq:=@List.length_append
def QTz:=@List.mem_map_of_mem
def QKq:=@PySem.wpAny_bind
def QKz:=@PySem.wpAny_pure
def QGq:=@PySem.wpAny_mono
def QGz:=@PySem.wpAny_field
def Qqq:=@PySem.wpAny_holding
def Qqz:=@PySem.Heap.lt_size
def Qzq:=@PySem.Heap.get?_push_size
def Qzz:=@PySem.wpAny_call_entry
def Qjq:=@PySem.wpAny_newObj_type
def Qjz:=@Bool.false_ne_true
def Qyq:=@List.size_toArray
def Qyz:=@List.map_cons
def Qxq:=@Bool.false_eq_true
def Qxz:=@List.getElem?_set_ne
def Qwq:=@List.getElem?_set_self
def Qwz:=@List.getElem?_append_left
def Qvq:=@Nat.lt_of_lt_of_le
def Qvz:=@Nat.ne_of_lt
def QAq:=@List.length_map
def QAz:=@List.not_mem_nil
def QBq:=@List.length_cons
def QBz:=@List.mem_of_getElem?
def QCq:=@List.mem_cons
def QCz:=@List.getElem?_eq_some_iff
def QDq:=@List.mem_map
def QDz:=@List.mem_singleton
def QEq:=@Option.some.inj
def QEz:=@decide_eq_false
def QFq:=@decide_eq_true
def QFz:=@List.getElem?_map
def QHq:=@Option.bind_some
def QHz:=@List.lookup_cons
def QIq:=@Nat.zero_le
def QIz:=@List.getElem?_append_right
def QLq:=@List.append_assoc
def QLz:=@List.cons_append
noncomputable section
section
namespace L2
open PySem
noncomputable def eN(s:Stmt):Arguments:=match s with
 |.FunctionDef _ a _ _ _ _ _ _ _ _=>a
 |_=>{posonlyargs:=[],args:=[],vararg:=none,kwonlyargs:=[],kw_defaults:=[],kwarg:=none,defaults:=[]}
def eG(s:Stmt):List Stmt:=match s with
 |.FunctionDef _ _ b _ _ _ _ _ _ _=>b
 |_=>[]
noncomputable def aY(s:Stmt):Scope:=match s with
 |.FunctionDef _ _ _ _ _ _ sc _ _ _=>sc
 |_=>{kind:=.function,names:=[],isGenerator:=false,isCoroutine:=false}
end L2
end
section
namespace Tx
open PySem PySem.W L2 PyProof.Rows
theorem w0w:PySem.Challenge.rw_anywait_k08_whole_paper.wellSaid=true:=by kernel_rfl
noncomputable def top(i:Nat):Stmt:=PySem.Challenge.pw_anywait_k08_whole_paper.main.body.getD i (.Pass ⟨0,0,0,0⟩)
abbrev s0:Stmt:=top 13
abbrev s1:Stmt:=top 14
abbrev s2:Stmt:=top 15
abbrev s3:Stmt:=top 16
abbrev s4:Stmt:=top 17
abbrev s5:Stmt:=top 18
abbrev s6:Stmt:=top 19
abbrev s7:Stmt:=top 20
abbrev s8:Stmt:=top 21
abbrev s9:Stmt:=top 22
abbrev s10:Stmt:=top 23
abbrev s11:Stmt:=top 24
abbrev s12:Stmt:=top 25
abbrev s13:Stmt:=top 26
abbrev s14:Stmt:=top 27
abbrev s15:Stmt:=top 28
abbrev s16:Stmt:=top 29
abbrev s17:Stmt:=top 32
abbrev s18:Stmt:=top 33
abbrev s19:Stmt:=top 34
abbrev s20:Stmt:=top 36
abbrev s21:Stmt:=top 37
abbrev s22:Stmt:=top 38
abbrev s23:Stmt:=top 39
abbrev s24:Stmt:=top 40
abbrev s25:Stmt:=top 41
abbrev s26:Stmt:=top 42
abbrev s27:Stmt:=top 43
abbrev s28:Stmt:=top 45
abbrev s29:Stmt:=top 46
abbrev s30:Stmt:=top 47
abbrev s31:Stmt:=top 48
abbrev s32:Stmt:=top 49
abbrev s33:Stmt:=top 50
abbrev s34:Stmt:=top 51
abbrev s35:Stmt:=top 53
abbrev s36:Stmt:=top 54
abbrev s37:Stmt:=top 55
abbrev s38:Stmt:=top 56
abbrev s39:Stmt:=top 57
abbrev s40:Stmt:=top 58
abbrev s41:Stmt:=top 59
abbrev s42:Stmt:=top 60
abbrev s43:Stmt:=top 61
abbrev s44:Stmt:=top 62
abbrev s45:Stmt:=top 63
abbrev s46:Stmt:=top 64
abbrev s47:Stmt:=top 65
abbrev s48:Stmt:=top 66
abbrev s49:Stmt:=top 67
abbrev s50:Stmt:=top 68
abbrev s51:Stmt:=top 69
abbrev s52:Stmt:=top 70
abbrev s53:Stmt:=top 71
abbrev s54:Stmt:=top 72
abbrev s55:Stmt:=top 73
abbrev s56:Stmt:=top 74
abbrev s57:Stmt:=top 75
def gE(P:Params)(x:Str)(i:Nat)(v:Value):DictEntry:=⟨PyData.keyHash P x,.str x i,v⟩
noncomputable def fO(x:Str)(st:Stmt)(m:Value)(c:Addr):Obj:=⟨.type "function",none,.func (PySem.W.fnOf x x (eN st) (eG st) (aY st) .none .none .none m none (.ref c) .none), #[]⟩
noncomputable def cO(x:Str)(a:Nat)(l n:Int)(r s:Nat)(u v:Value)(t:Nat)(q:Int)(z:Nat):Obj:=⟨.type "code",none,.fields #[.str x a,.str x (a+1),.str "/claim/cut.py" (a+2),.int l 0,.int n 0,.int 0 0,.int 0 0,.int 3 0,.ref r,.bool true,.int 181 0,.ref s,.none,u,v,.ref t,.int q 0,.int l 0,.str "/claim/cut.py" z], #[]⟩
def Ey:Value:=.str "anywait.faults" 491
def kW:Value:=.str "anywait.nets" 239
def Ae:Value:=.str "anywait.stands" 418
def Zu:Value:=.str "anywait.talks" 394
def gK:Value:=.str "law_anywait_k08_whole_paper" 556
noncomputable def o52:Obj:=⟨.type "tuple",none,.seq #[.str "input" 245,.str "gate" 246,.str "start" 247,.str "out" 248,.str "state" 249,.str "same" 250,.str "not" 251,.str "and" 252,.str "or" 253,.str "both" 254,.str "held" 255,.str "table" 256,.str "on" 257,.str "off" 258], #[]⟩
noncomputable def Kf(P:Params):QQq:=[(3,⟨.type "dict",none,.dict #[gE P "__name__" 165 (.str "law_anywait_k08_whole_paper" 556),gE P "__doc__" 166 .none,gE P "__package__" 167 .none,gE P "__loader__" 168 (.builtin "__main__.__loader__#opaque"),gE P "__spec__" 169 .none,gE P "__annotations__" 170 (.ref 6),gE P "__builtins__" 171 (.ref 4),gE P "__file__" 173 (.str "/claim/cut.py" 172),gE P "__cached__" 174 .none,gE P "WaitError" 206 (.ref 24),gE P "NoNet" 222 (.ref 37),gE P "NoTalk" 238 (.ref 49),gE P "LETTERS" 242 (.str "abcdefghijklmnopqrstuvwxyz" 241),gE P "LONGEST_NAME" 244 (.int 6 243),gE P "WORDS" 259 (.ref 52),gE P "MOST_INPUTS" 261 (.int 3 260),gE P "MOST_GATES" 263 (.int 5 262),gE P "MOST_WIRES" 265 (.int 4 264),gE P "MOST_TABLE_WIRES" 267 (.int 8 266),gE P "DEEPEST_HELD" 269 (.int 3 268),gE P "checked" 276 (.ref 59),gE P "is_net" 282 (.ref 64),gE P "has_parts" 288 (.ref 69),gE P "is_tuple" 297 (.ref 76),gE P "is_number" 306 (.ref 83),gE P "is_name" 312 (.ref 88),gE P "are_unlike" 318 (.ref 93),gE P "is_row" 324 (.ref 98),gE P "is_wire" 332 (.ref 105),gE P "are_wires" 338 (.ref 110),gE P "are_rows" 344 (.ref 115),gE P "is_kind" 355 (.ref 122),gE P "is_held" 364 (.ref 129),gE P "wire_names" 370 (.ref 134),gE P "waiting_gates" 376 (.ref 139),gE P "told" 382 (.ref 144),gE P "told_held" 393 (.ref 151),gE P "MOST_STATES" 397 (.int 12 396),gE P "checked_talk" 405 (.ref 158),gE P "is_talk" 411 (.ref 163),gE P "is_state" 417 (.ref 168),gE P "stands" 429 (.ref 175),gE P "is_stand" 438 (.ref 182),gE P "first_stand" 445 (.ref 189),gE P "steps_at" 451 (.ref 194),gE P "is_unasked" 460 (.ref 201),gE P "led_to" 471 (.ref 208),gE P "changed" 477 (.ref 213),gE P "newly_met" 490 (.ref 220),gE P "fault" 503 (.ref 227),gE P "paper" 511 (.ref 234),gE P "is_paper" 517 (.ref 239),gE P "is_sound" 523 (.ref 244),gE P "fault_at" 536 (.ref 251),gE P "has_out" 542 (.ref 256),gE P "fault_of_step" 555 (.ref 263),gE P "_law_cell_at" 565 (.ref 270),gE P "_law_mixed" 575 (.ref 277),gE P "_law_next" 584 (.ref 284),gE P "_law_some" 596 (.ref 291),gE P "_law_table" 602 (.ref 296),gE P "_law_kind" 614 (.ref 303),gE P "_law_net" 620 (.ref 308),gE P "_law_talk" 626 (.ref 313),gE P "_law_ring" 632 (.ref 318),gE P "_law_chain" 646 (.ref 325),gE P "_law_meeting" 660 (.ref 332),gE P "_law_spoilt_kind" 666 (.ref 337),gE P "_law_case" 678 (.ref 344),gE P "_law_names" 684 (.ref 349),gE P "_law_tells" 690 (.ref 354),gE P "_law_waiting" 696 (.ref 359),gE P "_law_steps" 702 (.ref 364),gE P "_law_led" 708 (.ref 369),gE P "_law_stands" 721 (.ref 376),gE P "_law_fault_at" 727 (.ref 381),gE P "_law_is_paper" 733 (.ref 386),gE P "_law_spoilt" 748 (.ref 393),gE P "law" 754 (.ref 398)] 79, #[]⟩),
 (59,fO "checked" s0 kW 58),
 (58,cO "checked" 270 17 1 53 54 (.ref 55) (.ref 56) 57 274 275),
 (64,fO "is_net" s1 kW 63),
 (63,cO "is_net" 277 21 1 60 61 .none .none 62 280 281),
 (69,fO "has_parts" s2 kW 68),
 (68,cO "has_parts" 283 28 1 65 66 .none .none 67 286 287),
 (76,fO "is_tuple" s3 kW 75),
 (75,cO "is_tuple" 289 32 3 70 71 (.ref 72) (.ref 73) 74 295 296),
 (83,fO "is_number" s4 kW 82),
 (82,cO "is_number" 298 34 3 77 78 (.ref 79) (.ref 80) 81 304 305),
 (88,fO "is_name" s5 kW 87),
 (87,cO "is_name" 307 36 1 84 85 .none .none 86 310 311),
 (93,fO "are_unlike" s6 kW 92),
 (92,cO "are_unlike" 313 40 1 89 90 .none .none 91 316 317),
 (98,fO "is_row" s7 kW 97),
 (97,cO "is_row" 319 42 2 94 95 .none .none 96 322 323),
 (105,fO "is_wire" s8 kW 104),
 (104,cO "is_wire" 325 44 2 99 100 (.ref 101) (.ref 102) 103 330 331),
 (110,fO "are_wires" s9 kW 109),
 (109,cO "are_wires" 333 46 4 106 107 .none .none 108 336 337),
 (115,fO "are_rows" s10 kW 114),
 (114,cO "are_rows" 339 50 2 111 112 .none .none 113 342 343),
 (122,fO "is_kind" s11 kW 121),
 (121,cO "is_kind" 345 54 3 116 117 (.ref 118) (.ref 119) 120 353 354),
 (129,fO "is_held" s12 kW 128),
 (128,cO "is_held" 356 70 3 123 124 (.ref 125) (.ref 126) 127 362 363),
 (134,fO "wire_names" s13 kW 133),
 (133,cO "wire_names" 365 72 1 130 131 .none .none 132 368 369),
 (139,fO "waiting_gates" s14 kW 138),
 (138,cO "waiting_gates" 371 74 2 135 136 .none .none 137 374 375),
 (144,fO "told" s15 kW 143),
 (143,cO "told" 377 77 3 140 141 .none .none 142 380 381),
 (151,fO "told_held" s16 kW 150),
 (150,cO "told_held" 383 93 3 145 146 (.ref 147) (.ref 148) 149 391 392),
 (158,fO "checked_talk" s17 Zu 157),
 (157,cO "checked_talk" 398 99 2 152 153 (.ref 154) (.ref 155) 156 403 404),
 (163,fO "is_talk" s18 Zu 162),
 (162,cO "is_talk" 406 103 2 159 160 .none .none 161 409 410),
 (168,fO "is_state" s19 Zu 167),
 (167,cO "is_state" 412 111 3 164 165 .none .none 166 415 416),
 (175,fO "stands" s20 Ae 174),
 (174,cO "stands" 420 118 2 169 170 (.ref 171) (.ref 172) 173 427 428),
 (182,fO "is_stand" s21 Ae 181),
 (181,cO "is_stand" 430 125 3 176 177 (.ref 178) (.ref 179) 180 436 437),
 (189,fO "first_stand" s22 Ae 188),
 (188,cO "first_stand" 439 129 1 183 184 (.ref 185) (.ref 186) 187 443 444),
 (194,fO "steps_at" s23 Ae 193),
 (193,cO "steps_at" 446 131 3 190 191 .none .none 192 449 450),
 (201,fO "is_unasked" s24 Ae 200),
 (200,cO "is_unasked" 452 134 3 195 196 (.ref 197) (.ref 198) 199 458 459),
 (208,fO "led_to" s25 Ae 207),
 (207,cO "led_to" 461 136 4 202 203 (.ref 204) (.ref 205) 206 469 470),
 (213,fO "changed" s26 Ae 212),
 (212,cO "changed" 472 141 3 209 210 .none .none 211 475 476),
 (220,fO "newly_met" s27 Ae 219),
 (219,cO "newly_met" 478 143 4 214 215 (.ref 216) (.ref 217) 218 488 489),
 (227,fO "fault" s28 Ey 226),
 (226,cO "fault" 493 152 2 221 222 (.ref 223) (.ref 224) 225 501 502),
 (234,fO "paper" s29 Ey 233),
 (233,cO "paper" 504 162 2 228 229 (.ref 230) (.ref 231) 232 509 510),
 (239,fO "is_paper" s30 Ey 238),
 (238,cO "is_paper" 512 164 3 235 236 .none .none 237 515 516),
 (244,fO "is_sound" s31 Ey 243),
 (243,cO "is_sound" 518 172 4 240 241 .none .none 242 521 522),
 (251,fO "fault_at" s32 Ey 250),
 (250,cO "fault_at" 524 176 4 245 246 (.ref 247) (.ref 248) 249 534 535),
 (256,fO "has_out" s33 Ey 255),
 (255,cO "has_out" 537 185 2 252 253 .none .none 254 540 541),
 (263,fO "fault_of_step" s34 Ey 262),
 (262,cO "fault_of_step" 543 187 5 257 258 (.ref 259) (.ref 260) 261 553 554),
 (270,fO "_law_cell_at" s35 gK 269),
 (269,cO "_law_cell_at" 558 196 2 264 265 (.ref 266) (.ref 267) 268 563 564),
 (277,fO "_law_mixed" s36 gK 276),
 (276,cO "_law_mixed" 566 202 3 271 272 (.ref 273) (.ref 274) 275 573 574),
 (284,fO "_law_next" s37 gK 283),
 (283,cO "_law_next" 576 205 3 278 279 (.ref 280) (.ref 281) 282 582 583),
 (291,fO "_law_some" s38 gK 290),
 (290,cO "_law_some" 585 208 5 285 286 (.ref 287) (.ref 288) 289 594 595),
 (296,fO "_law_table" s39 gK 295),
 (295,cO "_law_table" 597 213 3 292 293 .none .none 294 600 601),
 (303,fO "_law_kind" s40 gK 302),
 (302,cO "_law_kind" 603 219 4 297 298 (.ref 299) (.ref 300) 301 612 613),
 (308,fO "_law_net" s41 gK 307),
 (307,cO "_law_net" 615 229 4 304 305 .none .none 306 618 619),
 (313,fO "_law_talk" s42 gK 312),
 (312,cO "_law_talk" 621 235 4 309 310 .none .none 311 624 625),
 (318,fO "_law_ring" s43 gK 317),
 (317,cO "_law_ring" 627 243 2 314 315 .none .none 316 630 631),
 (325,fO "_law_chain" s44 gK 324),
 (324,cO "_law_chain" 633 249 2 319 320 (.ref 321) (.ref 322) 323 644 645),
 (332,fO "_law_meeting" s45 gK 331),
 (331,cO "_law_meeting" 647 260 2 326 327 (.ref 328) (.ref 329) 330 658 659),
 (337,fO "_law_spoilt_kind" s46 gK 336),
 (336,cO "_law_spoilt_kind" 661 274 3 333 334 .none .none 335 664 665),
 (344,fO "_law_case" s47 gK 343),
 (343,cO "_law_case" 667 280 2 338 339 (.ref 340) (.ref 341) 342 676 677),
 (349,fO "_law_names" s48 gK 348),
 (348,cO "_law_names" 679 300 1 345 346 .none .none 347 682 683),
 (354,fO "_law_tells" s49 gK 353),
 (353,cO "_law_tells" 685 302 3 350 351 .none .none 352 688 689),
 (359,fO "_law_waiting" s50 gK 358),
 (358,cO "_law_waiting" 691 320 2 355 356 .none .none 357 694 695),
 (364,fO "_law_steps" s51 gK 363),
 (363,cO "_law_steps" 697 323 3 360 361 .none .none 362 700 701),
 (369,fO "_law_led" s52 gK 368),
 (368,cO "_law_led" 703 327 4 365 366 .none .none 367 706 707),
 (376,fO "_law_stands" s53 gK 375),
 (375,cO "_law_stands" 709 336 2 370 371 (.ref 372) (.ref 373) 374 719 720),
 (381,fO "_law_fault_at" s54 gK 380),
 (380,cO "_law_fault_at" 722 348 4 377 378 .none .none 379 725 726),
 (386,fO "_law_is_paper" s55 gK 385),
 (385,cO "_law_is_paper" 728 363 3 382 383 .none .none 384 731 732),
 (393,fO "_law_spoilt" s56 gK 392),
 (392,cO "_law_spoilt" 734 379 4 387 388 (.ref 389) (.ref 390) 391 746 747),
 (398,fO "law" s57 gK 397),
 (397,cO "law" 749 389 1 394 395 .none .none 396 752 753),
 (52,o52)]
noncomputable def Ka:List Addr:=[3,59,58,64,63,69,68,76,75,83,82,88,87,93,92,98,97,105,104,110,109,115,114,122,121,129,128,134,133,139,138,144,143,151,150,158,157,163,162,168,167,175,174,182,181,189,188,194,193,201,200,208,207,213,212,220,219,227,226,234,233,239,238,244,243,251,250,256,255,263,262,270,269,277,276,284,283,291,290,296,295,303,302,308,307,313,312,318,317,325,324,332,331,337,336,344,343,349,348,354,353,359,358,364,363,369,368,376,375,381,380,386,385,393,392,398,397,52]
def Ke(P:Params):Ka=(Kf P).map (·.1):=rfl
abbrev Kh:PySem.W.Hook:=PySem.W.kHook Kf Ka Ke
noncomputable def lo:List Str:="__name__"::"WaitError"::"NoNet"::"NoTalk"::"LETTERS"::"LONGEST_NAME"::"WORDS"::"MOST_INPUTS"::"MOST_GATES"::"MOST_WIRES"::"MOST_TABLE_WIRES"::"DEEPEST_HELD"::"checked"::"is_net"::"has_parts"::"is_tuple"::"is_number"::"is_name"::"are_unlike"::"is_row"::"is_wire"::"are_wires"::"are_rows"::"is_kind"::"is_held"::"wire_names"::"waiting_gates"::"told"::"told_held"::"MOST_STATES"::"checked_talk"::"is_talk"::"is_state"::"stands"::"is_stand"::"first_stand"::"steps_at"::"is_unasked"::"led_to"::"changed"::"newly_met"::"fault"::"paper"::"is_paper"::"is_sound"::"fault_at"::"has_out"::"fault_of_step"::"_law_cell_at"::"_law_mixed"::"_law_next"::"_law_some"::"_law_table"::"_law_kind"::"_law_net"::"_law_talk"::"_law_ring"::"_law_chain"::"_law_meeting"::"_law_spoilt_kind"::"_law_case"::"_law_names"::"_law_tells"::"_law_waiting"::"_law_steps"::"_law_led"::"_law_stands"::"_law_fault_at"::"_law_is_paper"::"_law_spoilt"::[]
def qV:Program:=view PySem.Challenge.pw_anywait_k08_whole_paper [75]
def hl:LeftO PySem.Challenge.pw_anywait_k08_whole_paper qV lo (fun s=>recOk [] s) (Hook.obs Kh) (Hook.val Kh) 5032:=fun w=>by
 rw[PySem.W.Fast.te4187177175401517315,PySem.W.Fast.te5923862056798008813,PySem.W.Fast.te14364793385576792824]
 kernel_rfl
end Tx
end
section
namespace L2
open PySem PySem.Spec PyProof.Rows
abbrev Key:=Sum Int Str
def vy:Key->Value->Bool
 |.inl k,v=>Value.isInt k v
 |.inr x,v=>Value.isStrOf x v
def afa(w:World):Key->Int
 |.inl k=>hashInt k
 |.inr x=>hashStr w x
theorem cj:∀{k:Key}{v:Value},vy k v=true->(∃i t,k=Sum.inl i/\v=Value.int i t)\/(∃x t,k=Sum.inr x/\v=Value.str x t)
 |.inl i,v,h=>by
  obtain⟨t,e⟩:=Value.isInt_shape h
  exact .inl ⟨i,t,rfl,e⟩
 |.inr x,v,h=>by
  obtain⟨t,e⟩:=Value.isStrOf_shape h
  exact .inr ⟨x,t,rfl,e⟩
def H9 i t:vy (.inl i) (.int i t)=true:=by simp[vy,Value.isInt]
def H8 x t:vy (.inr x) (.str x t)=true:=by simp[vy,Value.isStrOf]
def Xx a b:decide ((Sum.inl a:Key)=Sum.inl b)=(a==b):=by
 by_cases e:a=b
 ·subst e;simp
 ·rw[QEz (fun q=>e (Sum.inl.inj q))]
  exact(beq_eq_false_iff_ne.mpr e).symm
def Xu a b:decide ((Sum.inr a:Key)=Sum.inr b)=decide (a=b):=by
 by_cases e:a=b
 ·subst e;simp
 ·rw[QEz (fun q=>e (Sum.inr.inj q)),QEz e]
def Xw a b:decide ((Sum.inl a:Key)=Sum.inr b)=false:=QEz (fun q=>nomatch q)
def Xv a b:decide ((Sum.inr a:Key)=Sum.inl b)=false:=QEz (fun q=>nomatch q)
noncomputable def fX(prog:Program)(w:World):PySem.KeyKind prog w Key where
 is:=vy
 hash:=afa w
 inj:=fun v a b ha hb=>by
  rcases cj ha with ⟨i,t,rfl,rfl⟩|⟨x,t,rfl,rfl⟩
  ·rcases cj hb with ⟨j,u,rfl,e⟩|⟨y,u,rfl,e⟩
   ·injection e with e1 _;rw[e1]
   ·exact nomatch e
  ·rcases cj hb with ⟨j,u,rfl,e⟩|⟨y,u,rfl,e⟩
   ·exact nomatch e
   ·injection e with e1 _;rw[e1]
 byValue:=fun k v h=>by
  rcases cj h with ⟨i,t,rfl,rfl⟩|⟨x,t,rfl,rfl⟩<;>rfl
 pyHash:=fun hv h=>by
  rcases cj hv with ⟨i,t,rfl,rfl⟩|⟨x,t,rfl,rfl⟩
  ·exact wpAny_pyHash_int h
  ·exact wpAny_pyHash_str h
 eqBool:=fun hu hv h=>by
  rcases cj hu with ⟨i,t,rfl,rfl⟩|⟨x,t,rfl,rfl⟩
  ·rcases cj hv with ⟨j,u,rfl,rfl⟩|⟨y,u,rfl,rfl⟩
   ·rw[Xx]at h;exact wpAny_eqBool_int h
   ·rw[Xw]at h;exact SeqAt.EqAt.int_str i t y u _ _ _ _ h
  ·rcases cj hv with ⟨j,u,rfl,rfl⟩|⟨y,u,rfl,rfl⟩
   ·rw[Xv]at h;exact SeqAt.EqAt.str_int x t j u _ _ _ _ h
   ·rw[Xu]at h;exact wpAny_eqBool_str h
 «strs»:=fun k x t v h=>by
  rcases cj h with ⟨i,u,rfl,e⟩|⟨y,u,rfl,e⟩
  ·exact nomatch e
  ·injection e with e1 _
   subst e1
   cases v<;>rfl
def zg prog w i t:(fX prog w).is (.inl i) (.int i t)=true:=H9 i t
def zf prog w x t:(fX prog w).is (.inr x) (.str x t)=true:=H8 x t
inductive V where
 |non|bl (b:Bool)|int (i:Int)|str (x:Str)|ref (a:Addr)|ty (n:String)
 deriving DecidableEq
noncomputable def RelV:V->Value->Prop
 |.non,u=>u=Value.none
 |.bl b,u=>u=Value.bool b
 |.int i,u=>∃t,u=Value.int i t
 |.str x,u=>∃t,u=Value.str x t
 |.ref a,u=>u=Value.ref a
 |.ty n,u=>u=Value.type n
abbrev Vals:List V->List Value->Prop:=Paired RelV
theorem Vals.length{us:List Value}(r:Vals xs us):xs.length=us.length:=Paired.length r
theorem Vals.get:∀{xs:List V}{us:List Value}{i:Nat}{x:V},Vals xs us->xs[i]? =some x->∃u,us[i]? =some u/\RelV x u
 |_,_,_,_,.nil=>fun e=>by simp at e
 |_,_,0,_,.cons r _=>fun e=>by simp at e;subst e;exact⟨_,rfl,r⟩
 |_,_,i+1,x,.cons _ t=>fun e=>by
  obtain⟨u,h1,h2⟩:=Vals.get t (by simpa using e)
  exact⟨u,by simpa using h1,h2⟩
theorem Vals.set{u:Value}(r:RelV x u):∀{xs:List V}{us:List Value}(i:Nat),Vals xs us->Vals (xs.set i x) (us.set i u)
 |_,_,_,.nil=>.nil
 |_,_,0,.cons _ t=>.cons r t
 |_,_,i+1,.cons q t=>.cons q (Vals.set r i t)
theorem Vals.append:∀{xs ys:List V}{us ws:List Value},Vals xs us->Vals ys ws->Vals (xs++ys) (us++ws)
 |_,_,_,_,.nil=>fun s=>s
 |_,_,_,_,.cons r t=>fun s=>.cons r (Vals.append t s)
theorem Vals.take:∀{xs:List V}{us:List Value}(n:Nat),Vals xs us->Vals (xs.take n) (us.take n)
 |_,_,0,_=>.nil
 |_,_,_+1,.nil=>.nil
 |_,_,n+1,.cons r t=>.cons r (Vals.take n t)
theorem Vals.drop:∀{xs:List V}{us:List Value}(n:Nat),Vals xs us->Vals (xs.drop n) (us.drop n)
 |_,_,0,r=>r
 |_,_,_+1,.nil=>.nil
 |_,_,n+1,.cons _ t=>Vals.drop n t
def ud:Option V->Option Value->Prop
 |some v,some u=>RelV v u
 |none,none=>True
 |_,_=>False
noncomputable def KV{κ:Type}:List (κ×V)->List (κ×Value)->Prop:=Paired fun(p:κ×V)(q:κ×Value)=>p.1=q.1/\RelV p.2 q.2
def kV:Key->V
 |.inl i=>.int i
 |.inr x=>.str x
abbrev SK:=List Bool×Int
abbrev SV:=SK×Addr×V
def bh(b:Bool):Int:=reduceHash (if b then 1 else 0)
noncomputable def stH(k:SK):Int:=reduceHash (Builtin.Tuple.tupleHashOf [reduceHash (Builtin.Tuple.tupleHashOf (k.1.map bh)),hashInt k.2])
abbrev Pq:SV->SK×Addr×Value->Prop:=fun p q=>p.1=q.1/\p.2.1=q.2.1/\RelV p.2.2 q.2.2
inductive HO where
 |lst (xs:List V)
 |tup (xs:List V)
 |dK (kvs:List (Key×V))|dS (xs:List SV)
 |ins (C dx:Addr) (fs:List (Str×V))
 |own (x:Addr)
 |met (f x:Addr)
 |frz (o:Obj) (u:HO)
 |tbl (ps:Array Value)
abbrev Hp:=Addr->Option HO
def upd(H:Hp)(a:Addr)(o:HO):Hp:=fun b=>if b=a then some o else H b
def aP{a:Addr}:upd H a o a=some o:=by unfold upd;rw[if_pos rfl]
def aC{a b:Addr}(h:b≠a):upd H a o b=H b:=by unfold upd;rw[if_neg h]
def gq{H:Hp}{o:HO}(h:H a=some o)(h':H b=none):a≠b:=by
 intro e;subst e;rw[h]at h';cases h'
def TupOk(h:Heap)(a:Addr)(items:Array Value):Prop:=∃o,h.get? a=some o/\o.cls=.type "tuple"/\o.dict=none/\∃n,o.data=.seq items n
def TupOk.is{a:Addr}(x:TupOk h a items):IsTup h a items:=let ⟨o,e,c,_,d⟩:=x;⟨o,e,c,d⟩
def TupOk.new(h:Heap)items:TupOk (h.push {cls:=.type "tuple",data:=.seq items}) h.objs.size items:=⟨_,Qzq _ rfl,rfl,rfl,_,rfl⟩
section
variable(P:Program)(w:World)
noncomputable def cA(H:Hp)(h:Heap)(a:Addr):HO->Prop
 |.lst xs=>xs.length<=sizeLine/\∃(its:List Value)(n:Nat),Vals xs its/\h.get? a=some {cls:=.type "list",data:=.seq its.toArray n}
 |.tup xs=>xs.length<=sizeLine/\∃its:List Value,Vals xs its/\TupOk h a its.toArray
 |.dK kvs=>kvs.length<=sizeLine/\(a==sysModules)=false/\∃vs,KV kvs vs/\h.DictOf (fX P w) a vs
 |.dS xs=>xs.length<=sizeLine/\(a==sysModules)=false/\(xs.map (·.1)).Nodup/\∃(ys:List (SK×Addr×Value))(o:Obj)(es:Array DictEntry)(ep:Nat),Paired Pq xs ys/\h.get? a=some o/\o.ExactDict/\o.data=.dict es ep/\es.toList=ys.map fun y=>⟨stH y.1,.ref y.2.1,y.2.2⟩
 |.ins C dx fs=>H dx=some (.own a)/\fs.length<=1000/\dx≠a/\h.get? a=some (PySem.W.instObj C dx)/\
   ∃mA,h.Ns1 dx mA/\(∀f,ud (fs.lookup f) (mA f))/\PySem.Within mA (fs.map (·.1))
 |.own _=>∃o,h.get? a=some o
 |.frz o u=>h.get? a=some o/\cA H h a u
 |.tbl ps=>h.get? a=some {cls:=.none,data:=.fields ps}
 |.met f x=>h.get? a=some (PySem.W.methodObj (.ref f) (.ref x))
def pG(H:Hp)(h:Heap):Prop:=∀a o,H a=some o->cA P w H h a o
end
section
variable{P:Program}{w:World}{H H':Hp}{h h':Heap}{a:Addr}{o:HO}
theorem cA.lt(x:cA P w H h a o):a<h.objs.size:=by
 cases o with
 |lst xs=>obtain⟨_,_,_,_,e⟩:=x;exact Qqz e
 |tup xs=>obtain⟨_,_,_,p⟩:=x;exact p.is.lt
 |dK kvs=>obtain⟨_,_,_,_,o,_,_,e,_⟩:=x;exact Qqz e
 |dS xs=>obtain⟨_,_,_,_,o,_,_,_,e,_⟩:=x;exact Qqz e
 |ins C dx fs=>obtain⟨_,_,_,e,_⟩:=x;exact Qqz e
 |own y=>obtain⟨_,e⟩:=x;exact Qqz e
 |frz ob u=>obtain⟨e,_⟩:=x;exact Qqz e
 |tbl ps=>exact Qqz (x)
 |met f y=>exact Qqz (x)
theorem cA.stay(x:cA P w H h a o)(k:∀b u,(b=a\/H b=some (.own a))->h.get? b=some u->h'.get? b=some u)
  (ho:∀b,H b=some (.own a)->H' b=some (.own a))(ht:∀b xs,H b=some (.tup xs)->H' b=some (.tup xs)):cA P w H' h' a o:=by
 induction o with
 |lst xs=>obtain⟨z,its,n,r,e⟩:=x;exact⟨z,its,n,r,k _ _ (.inl rfl) e⟩
 |tup xs=>obtain⟨z,its,r,ob,e,c⟩:=x;exact⟨z,its,r,ob,k _ _ (.inl rfl) e,c⟩
 |dK kvs=>obtain⟨z,y,vs,r,ob,es,ep,e,c⟩:=x;exact⟨z,y,vs,r,ob,es,ep,k _ _ (.inl rfl) e,c⟩
 |dS xs=>obtain⟨z,y,nd,ys,ob,es,ep,pr,e,c⟩:=x;exact⟨z,y,nd,ys,ob,es,ep,pr,k _ _ (.inl rfl) e,c⟩
 |ins C dx fs=>
  obtain⟨d,z,ne,e,mA,⟨od,es,ep,e2,c⟩,r⟩:=x
  exact⟨ho _ d,z,ne,k _ _ (.inl rfl) e,mA,⟨od,es,ep,k _ _ (.inr d) e2,c⟩,r⟩
 |own y=>obtain⟨ob,e⟩:=x;exact⟨ob,k _ _ (.inl rfl) e⟩
 |frz ob u ih=>obtain⟨e,q⟩:=x;exact⟨k _ _ (.inl rfl) e,ih q⟩
 |tbl ps=>
  exact k a _ (.inl rfl) x
 |met f y=>
  exact k a _ (.inl rfl) x
theorem pG.lt(x:pG P w H h)(e:H a=some o):a<h.objs.size:=(x a o e).lt
def pG.fresh(x:pG P w H h)(e:h.objs.size<=a):H a=none:=by
 cases q:H a with
 |none=>rfl
 |some u=>exact absurd (Qvq (x.lt q) e) (Nat.lt_irrefl _)
def pG.kept(x:pG P w H h)(k:∀b u,h.get? b=some u->h'.get? b=some u):pG P w H h':=fun a o e=>
 (x a o e).stay (fun b u _ q=>k b u q) (fun _ q=>q) fun _ _ q=>q
def pG.laid(x:pG P w H h)(k:∀b u,h.get? b=some u->h'.get? b=some u)(hp:h.objs.size<=a)(new:cA P w (upd H a o) h' a o):pG P w (upd H a o) h':=fun b u e=>by
 have hn:=x.fresh hp
 by_cases hb:b=a
 ·subst hb;rw[aP]at e;cases e;exact new
 ·rw[aC hb]at e
  exact(x b u e).stay (fun c v _ q=>k c v q) (fun c q=>by rw[aC (gq q hn)];exact q) fun c xs q=>by rw[aC (gq q hn)];exact q
end
def Rd(H:Hp)(a:Addr)(u:HO):Prop:=H a=some u\/∃o,H a=some (.frz o u)
def Rd.ok{w:World}{h:Heap}{u:HO}(r:Rd H a u)(x:pG P w H h):cA P w H h a u:=by
 rcases r with r|⟨o,r⟩
 ·exact x a u r
 ·obtain⟨_,q⟩:=x a _ r
  exact q
noncomputable def Mut:Option HO->Prop
 |some (.lst _)=>True
 |some (.dK _)=>True
 |some (.dS _)=>True
 |some (.ins _ _ _)=>True
 |_=>False
section
variable{P:Program}{w:World}{H:Hp}{h h':Heap}{x e:Addr}{o':HO}
def pG.write(ok:pG P w H h)(mu:Mut (H x))(he:e=x\/H e=some (.own x))(k:∀b u,b≠e->h.get? b=some u->h'.get? b=some u)(heo:∃u,h'.get? e=some u)
  (new:cA P w (upd H x o') h' x o'):pG P w (upd H x o') h':=fun b u q=>by
 have nown:∀c y,H c=some (.own y)->c≠x:=fun c y r z=>by subst z;rw[r]at mu;exact mu
 by_cases hb:b=x
 ·subst hb;rw[aP]at q;cases q;exact new
 ·rw[aC hb]at q
  by_cases hbe:b=e
  ·have q':H b=some (.own x):=by
    rcases he with z|z
    ·exact absurd (hbe.trans z) hb
    ·rw[hbe];exact z
   rw[q]at q';cases q'
   obtain⟨v,hv⟩:=heo
   exact⟨v,by rw[hbe];exact hv⟩
  ·refine(ok b u q).stay (fun c v hc r=>k c v ?_ r) (fun c r=>by rw[aC (nown c b r)];exact r) fun c xs r=>by rw[aC ((fun c xs r z=>by subst z;rw[r]at mu;exact mu) c xs r)];exact r
   rcases hc with rfl|hc
   ·exact hbe
   ·rintro rfl
    rcases he with z|z
    ·exact nown c b hc z
    ·rw[hc]at z;cases z;exact hb rfl
end
structure Un(fs ex:List Addr)(H H':Hp)(h h':Heap):Prop where
 keep:∀b o,h.get? b=some o->H b=none->b∉fs->b∉ex->h'.get? b=some o
 slot:∀b o,h.get? b=some o->H b=none->b∈fs->b∉ex->∃sl,h'.get? b=some {o with slots:=sl}
 free:∀b o,h.get? b=some o->H b=none->b∉ex->H' b=none
 there:∀b o,h.get? b=some o->b∉ex->∃o',h'.get? b=some o'
 tups:∀b xs,H b=some (.tup xs)->H' b=some (.tup xs)
 frzs:∀b o u,H b=some (.frz o u)->H' b=some (.frz o u)
 tbls:∀b ps,H b=some (.tbl ps)->∃more,H' b=some (.tbl (ps++more))
section
variable{fs fs' ex ex':List Addr}{H H1 H2:Hp}{h h1 h2 h':Heap}{a x e:Addr}{o:HO}
def Un.any(u:Un fs ex H H1 h h1){ob:Obj}(q:h.get? b=some ob)(n:H b=none)(hx:b∉ex):∃sl,h1.get? b=some {ob with slots:=sl}:=by
 by_cases hb:b∈fs
 ·exact u.slot b ob q n hb hx
 ·exact⟨ob.slots,u.keep b ob q n hb hx⟩
def Un.kept(k:∀b u,h.get? b=some u->h'.get? b=some u):Un fs ex H H h h':=
 ⟨fun b ob q _ _ _=>k b ob q,fun b ob q _ _ _=>⟨ob.slots,k b ob q⟩,fun _ _ _ n _=>n,fun b ob q _=>⟨ob,k b ob q⟩,fun _ _ q=>q,fun _ _ _ q=>q,fun _ ps q=>⟨#[],by rw[q];simp⟩⟩
def Un.refl:Un fs ex H H h h:=Un.kept fun _ _ q=>q
theorem Un.laid(k:∀b u,h.get? b=some u->h'.get? b=some u)(hp:h.objs.size<=a)(hn:H a=none):Un fs ex H (upd H a o) h h' where
 keep:=fun b u q _ _ _=>k b u q
 slot:=fun b u q _ _ _=>⟨u.slots,k b u q⟩
 free:=fun b u q n _=>by rw[aC (Qvz (Qvq (Qqz q) hp))];exact n
 there:=fun b u q _=>⟨u,k b u q⟩
 tups:=fun b xs q=>by rw[aC (gq q hn)];exact q
 frzs:=fun b u xs q=>by rw[aC (gq q hn)];exact q
 tbls:=fun b ps q=>⟨#[],by rw[aC (gq q hn),q];simp⟩
def Un.write(mu:Mut (H x))(he:e=x\/H e=some (.own x))(k:∀b u,b≠e->h.get? b=some u->h'.get? b=some u)(heo:∃u,h'.get? e=some u):Un fs ex H (upd H x o) h h':=by
 have hx:∀b,H b=none->b≠x:=fun b n z=>by subst z;rw[n]at mu;exact mu
 have hb:∀b,H b=none->b≠e:=fun b n z=>by
  subst z
  rcases he with r|r
  ·exact hx b n r
  ·rw[n]at r;cases r
 have hm:∀b u,H b=some u->¬Mut (some u)->b≠x:=fun b u q nm z=>by subst z;rw[q]at mu;exact nm mu
 refine⟨fun b u q n _ _=>k b u (hb b n) q,fun b u q n _ _=>⟨u.slots,k b u (hb b n) q⟩,fun b u q n _=>by rw[aC (hx b n)];exact n,fun b u q _=>?_,
  fun b xs q=>by rw[aC (hm b _ q fun z=>z)];exact q,fun b u xs q=>by rw[aC (hm b _ q fun z=>z)];exact q,fun b ps q=>⟨#[],by rw[aC (hm b _ q fun z=>z),q];simp⟩⟩
 by_cases hbe:b=e
 ·subst hbe;exact heo
 ·exact⟨u,k b u hbe q⟩
end
def trk(h:Heap)(H:Hp):List Addr:=(List.range h.objs.size).filter fun a=>(H a).isSome
def Ij(h:Heap)(H:Hp):Heap:=PySem.W.hideAll h (trk h H)
def Ii h H:(Ij h H).objs.size=h.objs.size:=PySem.W.hideAll_size _ _
def Mt{H:Hp}{o:Obj}(e:h.get? b=some o)(n:H b=none):(Ij h H).get? b=some o:=
 PySem.W.hideAll_get _ e fun hm=>by
  have q:=(List.mem_filter.mp hm).2
  rw[n]at q;simp at q
def Rn{H:Hp}{o:Obj}(e:(Ij h H).get? b=some o):h.get? b=some o/\H b=none:=by
 have e':=PySem.W.of_hideAll _ e
 refine⟨e',?_⟩
 cases q:H b with
 |none=>rfl
 |some x=>
  have z:(Ij h H).get? b=none:=PySem.W.hideAll_none _ (List.mem_filter.mpr ⟨List.mem_range.mpr (Qqz e'),by simp[q]⟩)
  rw[z]at e;cases e
noncomputable def S6(g h:Heap)(L:Addr):List (Addr×Obj):=(List.range h.objs.size).filterMap fun a=>if a=L\/(g.get? a).isSome=true then none else(h.get? a).map fun o=>(a,o)
def rest(g h:Heap)(L d:Addr):List (Addr×Obj):=(S6 g h L).filter fun p=>decide (p.1≠d)
structure Mod(K:QQq)(mg:QZz)(base:Heap):Prop where
 kin:K.In base
 glob:base.Ns mainGlobals mg
 blt:∃mb,base.Ns builtinsNs mb/\∀x:Str,x≠"__name__"->mb x=bootBuiltins x
 nolimit:base.NoLimit
structure Cx where
 prog:Program
 w:World
 K:QQq
 mg:Str->Option Value
 base:Heap
 A:Around
 N:List Str
 s₀:Shared
 H₀:Hp
 env:Env
 outer:List Env
 stack:List Env
 ex:List Addr
 fn:Str->Bool
 calm:Bool
 pn:List (Addr×Obj)
 xe:Value->Shared->Prop
def frs(l:List Env):List Addr:=l.filterMap (·.frame)
abbrev Cx.fs(X:Cx):List Addr:=frs X.outer
def Vis(sc:Scope)(x:Str):Prop:=sc.names.lookup x=some .local\/sc.names.lookup x=some .cell\/sc.names.lookup x=some .free
def Loc(sc:Scope)(x:Str):Prop:=sc.names.lookup x=some .local\/sc.names.lookup x=some .cell
def Look(env:Env)(h:Heap)(m:QZz)(x:Str)(u:Value):Prop:=
 (env.kindOf x=some .local/\m x=some u)\/((env.kindOf x=some .cell\/env.kindOf x=some .free)/\∃c,env.cells.lookup x=some c/\h.IsCell c (some u))
structure Cx.Ok(X:Cx):Prop where
 mod:Mod X.K X.mg X.base
 kind:X.env.scope.kind=.function
 glob:X.env.globals=mainGlobals
 blt:X.env.builtins=builtinsNs
 above:X.s₀.heap.objs.size<=X.env.locals
 inj:∀x y c,X.env.cells.lookup x=some c->X.env.cells.lookup y=some c->x=y
 has:∀x,(X.env.kindOf x=some .cell\/X.env.kindOf x=some .free)->∃c,X.env.cells.lookup x=some c
 cab:∀x c,X.fn x=true->X.env.cells.lookup x=some c->X.s₀.heap.objs.size<=c
 hd:X.calm=true->X.A.handled=none
 frames:X.A.frames=some X.stack
 stk:X.stack=X.outer\/(X.stack=X.env::X.outer/\X.env.frame=some X.env.locals)
 exf:∀b∈X.ex,b≠X.env.locals/\∀x c,X.env.cells.lookup x=some c->c≠b
 bs:∀b o,X.base.get? b=some o->X.s₀.heap.get? b=some o/\X.H₀ b=none
 bsz:X.base.objs.size<=X.s₀.heap.objs.size
 noex:∀b o,X.base.get? b=some o->b∉X.ex
 exfs:∀b∈X.ex,b∉X.fs
 mj:X.s₀.heap.FunFrames X.base X.outer
 frf:∀b∈X.fs,X.H₀ b=none
structure Inv(X:Cx)(γ:QQz)(σ:List (Option V))(H:Hp)(s:Shared):Prop where
 ok:X.Ok
 os:s.os=X.s₀.os
 bare:AllBare s.gens
 base:Un X.fs X.ex X.H₀ H X.s₀.heap s.heap
 loc:∃m,s.heap.Ns X.env.locals m/\∀(i:Nat)(x:Str)(v:V),X.N[i]? =some x->σ[i]? =some (some v)->Vis X.env.scope x->∃u,RelV v u/\Look X.env s.heap m x u
 cell:∀x c,X.env.cells.lookup x=some c->∃v,s.heap.IsCell c v
 free:H X.env.locals=none
 freeC:∀x c,X.env.cells.lookup x=some c->H c=none
 pin:∀p∈X.pn++γ,s.heap.get? p.1=some p.2/\H p.1=none/\p.1≠X.env.locals/\p.1∉X.fs/\∀v,p.2.data≠ .cell v
 hok:pG X.prog X.w H s.heap
 len:σ.length=X.N.length
section
variable{X:Cx}{γ:QQz}{σ:List (Option V)}{H H':Hp}{s:Shared}{h':Heap}
def Cx.Ok.ae2(ok:X.Ok){o:Obj}(e:X.base.get? b=some o):b∉X.fs:=fun hb=>by
 have:=(ok.mj.mem hb).1
 rw[e]at this;cases this
theorem Inv.bs(I:Inv X γ σ H s):∀b o,X.base.get? b=some o->s.heap.get? b=some o/\H b=none:=fun b o e=>
 ⟨I.base.keep b o (I.ok.bs b o e).1 (I.ok.bs b o e).2 (I.ok.ae2 e) (I.ok.noex b o e),I.base.free b o (I.ok.bs b o e).1 (I.ok.bs b o e).2 (I.ok.noex b o e)⟩
def Inv.bk(I:Inv X γ σ H s):∀b o,X.base.get? b=some o->s.heap.get? b=some o:=fun b o e=>(I.bs b o e).1
theorem Inv.mod(I:Inv X γ σ H s):Mod X.K X.mg X.base:=I.ok.mod
def Inv.ZC(I:Inv X γ σ H s):X.K.In s.heap:=I.ok.mod.kin.keeps I.bk
theorem Inv.lt(I:Inv X γ σ H s):X.env.locals<s.heap.objs.size:=let ⟨_,hn,_⟩:=I.loc;hn.lt
def Inv.sz(I:Inv X γ σ H s):X.s₀.heap.objs.size<=s.heap.objs.size:=Nat.le_trans I.ok.above (Nat.le_of_lt I.lt)
def Inv.ae1(I:Inv X γ σ H s){a:Addr}(h:s.heap.objs.size<=a):a∉X.fs:=fun hb=>by
 obtain⟨_,o,ho,_⟩:=I.ok.mj.mem hb
 exact absurd (Qvq (Qqz ho) (Nat.le_trans I.sz h)) (Nat.lt_irrefl _)
def Inv.YK(I:Inv X γ σ H s):∀x c,X.env.cells.lookup x=some c->c≠X.env.locals:=fun x c e z=>by
 obtain⟨v,o,ho,hd⟩:=I.cell x c e
 obtain⟨m,⟨o',es,ep,ho',hd',_⟩,_⟩:=I.loc
 rw[z,ho']at ho;cases ho;rw[hd']at hd;cases hd
theorem Inv.mj(I:Inv X γ σ H s):s.heap.FunFrames X.base X.outer:=by
 have all:∀l,(∀b∈frs l,b∈X.fs)->X.s₀.heap.FunFrames X.base l->s.heap.FunFrames X.base l:=by
  intro l
  induction l with
  |nil=>intro _ _;trivial
  |cons env r ih=>
   intro hs hl
   obtain⟨hk,⟨L,o,hf,hn,ho,hd⟩,hr⟩:=hl
   have hL:=hs L (by unfold frs;rw[List.filterMap_cons,hf];exact QYz)
   obtain⟨sl,e⟩:=I.base.slot L o ho (I.ok.frf L hL) hL fun z=>I.ok.exfs L z hL
   exact⟨hk,⟨L,_,hf,hn,e,hd⟩,ih (fun b hb=>hs b (by unfold frs;rw[List.filterMap_cons,hf];exact QYq _ hb)) hr⟩
 exact all X.outer (fun _ hb=>hb) I.ok.mj
theorem Inv.stack(I:Inv X γ σ H s):s.heap.FunFrames X.base X.stack:=by
 rcases I.ok.stk with e|⟨e,hf⟩
 ·rw[e];exact I.mj
 ·rw[e]
  obtain⟨m,hn,_⟩:=I.loc
  exact .cons (by rw[I.ok.kind];decide) hf hn (Heap.get?_none_of_le (Nat.le_trans I.ok.bsz I.ok.above)) I.mj
def Inv.Ax(I:Inv X γ σ H s):∀b∈frs X.stack,b∈X.env.locals::X.fs:=fun b hb=>by
 rcases I.ok.stk with e|⟨e,hf⟩
 ·rw[e]at hb;exact QYq _ hb
 ·rw[e]at hb
  unfold frs at hb
  rw[List.filterMap_cons,hf]at hb
  exact hb
def Inv.DX(I:Inv X γ σ H s):∀b∈frs X.stack,H b=none:=fun b hb=>by
 rcases QCq.mp (I.Ax b hb)with e|hb
 ·rw[e];exact I.free
 ·obtain⟨_,o,ho,_⟩:=I.ok.mj.mem hb
  exact I.base.free b o ho (I.ok.frf b hb) fun z=>I.ok.exfs b z hb
def Inv.step{t':Nat}{ch:List Addr}(I:Inv X γ σ H s)
  (hch:∀b∈ch,(b∈X.ex\/X.s₀.heap.objs.size<=b)/\b≠X.env.locals/\(∀x c,X.env.cells.lookup x=some c->c≠b)/\∀p∈X.pn++γ,p.1≠b)
  (keep:∀b o,b≠X.env.locals->b∉X.fs->b∉ch->s.heap.get? b=some o->H b=none->h'.get? b=some o)
  (slot:∀b o,b≠X.env.locals->b∈X.fs->b∉ch->s.heap.get? b=some o->H b=none->∃sl,h'.get? b=some {o with slots:=sl})(free:∀b o,b∉ch->s.heap.get? b=some o->H b=none->H' b=none)
  (there:∀b o,b∉ch->s.heap.get? b=some o->∃o',h'.get? b=some o')
  (tups:∀b xs,H b=some (.tup xs)->H' b=some (.tup xs))(frzs:∀b o u,H b=some (.frz o u)->H' b=some (.frz o u))(tbls:∀b ps,H b=some (.tbl ps)->∃more,H' b=some (.tbl (ps++more)))
  (ns:∀m,s.heap.Ns X.env.locals m->h'.Ns X.env.locals m)(hok:pG X.prog X.w H' h')(hg:AllBare g'):
  Inv X γ σ H' {s with heap:=h',gens:=g',drawn:=d',toks:=t'}:=by
 have neL:∀b o,X.s₀.heap.get? b=some o->b≠X.env.locals:=fun b o e=>Qvz (Qvq (Qqz e) I.ok.above)
 have neC:∀b o,X.s₀.heap.get? b=some o->b∉X.ex->b∉ch:=fun b o e hx hb=>by
  rcases (hch b hb).1 with z|z
  ·exact hx z
  ·exact absurd (Qvq (Qqz e) z) (Nat.lt_irrefl _)
 have cellK:∀x c,X.env.cells.lookup x=some c->∀v,s.heap.IsCell c v->h'.IsCell c v:=fun x c e v⟨o,ho,hd⟩=>by
  have nch:=fun z=>(hch c z).2.2.1 x c e rfl
  by_cases hc:c∈X.fs
  ·obtain⟨sl,q⟩:=slot c o (I.YK x c e) hc nch ho (I.freeC x c e)
   exact⟨_,q,hd⟩
  ·exact⟨o,keep c o (I.YK x c e) hc nch ho (I.freeC x c e),hd⟩
 refine⟨I.ok,I.os,hg,⟨fun b o e n hb hx=>?_,fun b o e n hb hx=>?_,fun b o e n hx=>?_,fun b o e hx=>?_,fun b xs e=>tups b xs (I.base.tups b xs e),fun b o xs e=>frzs b o xs (I.base.frzs b o xs e),fun b ps e=>?_⟩,?_,fun x c e=>?_,?_,fun x c e=>?_,fun p hp=>?_,hok,I.len⟩
 ·exact keep b o (neL b o e) hb (neC b o e hx) (I.base.keep b o e n hb hx) (I.base.free b o e n hx)
 ·obtain⟨sl,e1⟩:=I.base.slot b o e n hb hx
  obtain⟨sl',e2⟩:=slot b _ (neL b o e) hb (neC b o e hx) e1 (I.base.free b o e n hx)
  exact⟨sl',e2⟩
 ·obtain⟨o',e1⟩:=I.base.there b o e hx
  exact free b o' (neC b o e hx) e1 (I.base.free b o e n hx)
 ·obtain⟨o',e1⟩:=I.base.there b o e hx
  exact there b o' (neC b o e hx) e1
 ·obtain⟨m1,e1⟩:=I.base.tbls b ps e
  obtain⟨m2,e2⟩:=tbls b _ e1
  exact⟨m1++m2,by rw[e2,Array.append_assoc]⟩
 ·obtain⟨m,hn,hl⟩:=I.loc
  refine⟨m,ns m hn,fun i x v e1 e2 e3=>?_⟩
  obtain⟨u,r,l⟩:=hl i x v e1 e2 e3
  refine⟨u,r,?_⟩
  rcases l with l|⟨k,c,e,z⟩
  ·exact .inl l
  ·exact .inr ⟨k,c,e,cellK x c e _ z⟩
 ·obtain⟨v,z⟩:=I.cell x c e
  exact⟨v,cellK x c e v z⟩
 ·obtain⟨m,⟨o,_,_,ho,_⟩,_⟩:=I.loc
  exact free _ o (fun z=>(hch _ z).2.1 rfl) ho I.free
 ·obtain⟨v,o,ho,hd⟩:=I.cell x c e
  exact free c o (fun z=>(hch c z).2.2.1 x c e rfl) ho (I.freeC x c e)
 ·obtain⟨e,n,ne,nf,d⟩:=I.pin p hp
  have nch:=fun z=>(hch p.1 z).2.2.2 p hp rfl
  exact⟨keep p.1 p.2 ne nf nch e n,free p.1 p.2 nch e n,ne,nf,d⟩
def Inv.un(I:Inv X γ σ H s)(u:Un X.fs [] H H' s.heap h')(hok:pG X.prog X.w H' h'):Inv X γ σ H' {s with heap:=h',toks:=t'}:=by
 obtain⟨m,⟨o,es,ep,ho,r⟩,_⟩:=id I.loc
 obtain⟨sl,hL⟩:=u.any ho I.free (by simp)
 exact I.step (ch:=[]) (fun _ z=>nomatch z) (fun b o _ hb _ e n=>u.keep b o e n hb (by simp)) (fun b o _ hb _ e n=>u.slot b o e n hb (by simp)) (fun b o _ e n=>u.free b o e n (by simp)) (fun b o _ e=>u.there b o e (by simp)) u.tups u.frzs u.tbls (fun m' hm=>by
  obtain⟨o',es',ep',ho',r'⟩:=hm
  rw[ho]at ho';cases ho'
  exact⟨_,es',ep',hL,r'⟩) hok I.bare
def Inv.call{t':Nat}{ch:List Addr}(I:Inv X γ σ H s)(u:Un (frs X.stack) ch H H' s.heap h')(hok:pG X.prog X.w H' h')(hg:AllBare g')
  (hch:∀b∈ch,(b∈X.ex\/X.s₀.heap.objs.size<=b)/\b≠X.env.locals/\(∀x c,X.env.cells.lookup x=some c->c≠b)/\∀p∈X.pn++γ,p.1≠b):
  Inv X γ σ H' {s with heap:=h',gens:=g',drawn:=d',toks:=t'}:=by
 obtain⟨m,⟨o,es,ep,ho,r⟩,_⟩:=id I.loc
 obtain⟨sl,hL⟩:=u.any ho I.free fun z=>(hch _ z).2.1 rfl
 exact I.step hch (fun b o hL hb hc e n=>u.keep b o e n (fun z=>(QCq.mp (I.Ax b z)).elim hL hb) hc) (fun b o _ _ hc e n=>u.any e n hc) (fun b o hc e n=>u.free b o e n hc) (fun b o hc e=>u.there b o e hc) u.tups u.frzs u.tbls (fun m' hm=>by
  obtain⟨o',es',ep',ho',r'⟩:=hm
  rw[ho]at ho';cases ho'
  exact⟨_,es',ep',hL,r'⟩) hok hg
def Inv.turned{it:Addr}(I:Inv X γ σ H s)(k:∀b o,b≠it->s.heap.get? b=some o->h'.get? b=some o)(hn:H it=none)(hL:it≠X.env.locals)
  (h1:it∈X.ex\/X.s₀.heap.objs.size<=it)(h2:∀x c,X.env.cells.lookup x=some c->c≠it)(h3:∀p∈X.pn++γ,p.1≠it):Inv X γ σ H {s with heap:=h',toks:=t'}:=by
 have nit:∀b u,H b=some u->b≠it:=fun b u e z=>by rw[z,hn]at e;cases e
 refine I.step (ch:=[it]) (fun b hb=>?_) (fun b o _ _ hc e _=>k b o (fun z=>hc (by simp[z])) e) (fun b o _ _ hc e _=>⟨o.slots,k b o (fun z=>hc (by simp[z])) e⟩) (fun _ _ _ _ n=>n)
  (fun b o hc e=>⟨o,k b o (fun z=>hc (by simp[z])) e⟩) (fun _ _ e=>e) (fun _ _ _ e=>e) (fun b ps e=>⟨#[],by rw[e];simp⟩) (fun m hm=>?_) (fun b u e=>?_) I.bare
 ·have e:b=it:=by simpa using hb
  subst e
  exact⟨h1,hL,h2,h3⟩
 ·obtain⟨o,es,ep,ho,r⟩:=hm
  exact⟨o,es,ep,k _ o (Ne.symm hL) ho,r⟩
 ·refine(I.hok b u e).stay (fun c v hc q=>k c v ?_ q) (fun _ q=>q) fun _ _ q=>q
  rcases hc with z|z
  ·rw[z];exact nit b u e
  ·exact nit c _ z
def Inv.tok(I:Inv X γ σ H s)t:Inv X γ σ H {s with toks:=t}:=I.un Un.refl I.hok
theorem Inv.kept(I:Inv X γ σ H s)(k:∀b u,s.heap.get? b=some u->h'.get? b=some u):Inv X γ σ H {s with heap:=h',toks:=t'}:=I.un (Un.kept k) (I.hok.kept k)
theorem Inv.laid{a:Addr}{o:HO}(I:Inv X γ σ H s)(k:∀b u,s.heap.get? b=some u->h'.get? b=some u)(hp:s.heap.objs.size<=a)(new:cA X.prog X.w (upd H a o) h' a o):
  Inv X γ σ (upd H a o) {s with heap:=h',toks:=t'}:=I.un (Un.laid k hp (I.hok.fresh hp)) (I.hok.laid k hp new)
theorem Inv.write{o:HO}(I:Inv X γ σ H s)(mu:Mut (H x))(he:e=x\/H e=some (.own x))(k:∀b u,b≠e->s.heap.get? b=some u->h'.get? b=some u)(heo:∃u,h'.get? e=some u)
  (new:cA X.prog X.w (upd H x o) h' x o):Inv X γ σ (upd H x o) {s with heap:=h',toks:=t'}:=I.un (Un.write mu he k heo) (I.hok.write mu he k heo new)
def Inv.Er(I:Inv X γ σ H s)(h:∀p∈pins',s.heap.get? p.1=some p.2/\H p.1=none/\p.1≠X.env.locals/\p.1∉X.fs/\∀v,p.2.data≠ .cell v):Inv X pins' σ H s:=
 ⟨I.ok,I.os,I.bare,I.base,I.loc,I.cell,I.free,I.freeC,fun p hp=>(QXz.mp hp).elim (fun z=>I.pin p (QWz _ z)) (h p),I.hok,I.len⟩
def yX{N:List Str}(hN:N.Nodup){i j:Nat}(a:N[i]? =some x)(b:N[j]? =some x):i=j:=by
 obtain⟨h1,e1⟩:=QCz.mp a
 obtain⟨h2,e2⟩:=QCz.mp b
 exact(List.getElem_inj hN).mp (e1.trans e2.symm)
def uJ{A:Around}{i:Nat}{v:V}{u:Value}(I:Inv X γ σ H s)(hN:X.N.Nodup)(hi:X.N[i]? =some x)(hx:Loc X.env.scope x)(r:RelV v u)
  (h:∀s',Inv X γ (σ.set i (some v)) H s'->(∃a,Heap.SameBut a s.heap s'.heap/\(a=X.env.locals\/X.env.cells.lookup x=some a))->Q () s')(hf:X.fn x=true\/X.env.scope.names.lookup x=some .local:=by first|exact .inl rfl|exact .inr rfl|assumption):wpAny M A (storeName X.env x u) Q E s:=by
 obtain⟨m,hn,hl⟩:=id I.loc
 have hiσ:i<σ.length:=by rw[I.len];exact(QCz.mp hi).1
 have YK:=I.YK
 have tracked:∀{a:Addr}{h':Heap},(∃o,s.heap.get? a=some o/\H a=none)->Heap.SameBut a s.heap h'->pG X.prog X.w H h':=fun{a h'}ha hs b ob e=>by
  obtain⟨_,_,hfree⟩:=ha
  refine(I.hok b ob e).stay (fun c w' hc q=>(hs.2 c ?_).trans q) (fun _ q=>q) fun _ _ q=>q
  rintro rfl
  rcases hc with rfl|hc
  ·rw[hfree]at e;cases e
  ·rw[hfree]at hc;cases hc
 rcases hx with hk|hk
 ·refine wpAny_storeName_local hk hn (fun h' hn' hs=>?_) (by rw[I.ok.kind];rfl)
  obtain⟨oL,_,_,hoL,_⟩:=id hn
  refine h _ ⟨I.ok,I.os,I.bare,⟨fun b o e n hb hx=>?_,fun b o e n hb hx=>?_,I.base.free,fun b o e hx=>?_,I.base.tups,I.base.frzs,I.base.tbls⟩,⟨_,hn',fun j y v' e1 e2 e3=>?_⟩,fun y c e=>?_,I.free,I.freeC,fun p hp=>?_,tracked ⟨oL,hoL,I.free⟩ hs,by simpa using I.len⟩ ⟨_,hs,.inl rfl⟩
  ·exact(hs.2 b (Qvz (Qvq (Qqz e) I.ok.above))).trans (I.base.keep b o e n hb hx)
  ·obtain⟨sl,e1⟩:=I.base.slot b o e n hb hx
   exact⟨sl,(hs.2 b (Qvz (Qvq (Qqz e) I.ok.above))).trans e1⟩
  ·obtain⟨o',e1⟩:=I.base.there b o e hx
   exact⟨o',(hs.2 b (Qvz (Qvq (Qqz e) I.ok.above))).trans e1⟩
  ·by_cases hj:j=i
   ·subst hj
    rw[hi]at e1;cases e1
    rw[Qwq hiσ]at e2
    cases e2
    exact⟨u,r,.inl ⟨hk,by simp⟩⟩
   ·rw[Qxz (Ne.symm hj)]at e2
    obtain⟨u',r',q⟩:=hl j y v' e1 e2 e3
    refine⟨u',r',?_⟩
    rcases q with ⟨k,e⟩|⟨k,c,e,z⟩
    ·refine .inl ⟨k,?_⟩
     have:y≠x:=fun e=>hj (yX hN e1 (e▸hi))
     simp[this,e]
    ·exact .inr ⟨k,c,e,z.sameBut hs (YK y c e)⟩
  ·obtain⟨w',z⟩:=I.cell y c e
   exact⟨w',z.sameBut hs (YK y c e)⟩
  ·obtain⟨e,n,ne,nf,d⟩:=I.pin p hp
   exact⟨(hs.2 p.1 ne).trans e,n,ne,nf,d⟩
 ·have hfn:X.fn x=true:=by
   rcases hf with z|z
   ·exact z
   ·rw[z]at hk;cases hk
  obtain⟨c,hc⟩:=I.ok.has x (.inl hk)
  obtain⟨w',z⟩:=I.cell x c hc
  refine wpAny_storeName_cell I.ok.kind hk hc z (fun h' hc' hs=>?_)
  obtain⟨oc,hoc,hocd⟩:=id z
  refine h {s with heap:=h'} ⟨I.ok,I.os,I.bare,⟨fun b o e n hb hx=>?_,fun b o e n hb hx=>?_,I.base.free,fun b o e hx=>?_,I.base.tups,I.base.frzs,I.base.tbls⟩,⟨m,hn.sameBut hs (Ne.symm (YK x c hc)),fun j y v' e1 e2 e3=>?_⟩,fun y c' e=>?_,I.free,I.freeC,fun p hp=>?_,tracked ⟨oc,hoc,I.freeC x c hc⟩ hs,by simpa using I.len⟩ ⟨c,hs,.inr hc⟩
  ·exact(hs.2 b (Qvz (Qvq (Qqz e) (I.ok.cab x c hfn hc)))).trans (I.base.keep b o e n hb hx)
  ·obtain⟨sl,e1⟩:=I.base.slot b o e n hb hx
   exact⟨sl,(hs.2 b (Qvz (Qvq (Qqz e) (I.ok.cab x c hfn hc)))).trans e1⟩
  ·obtain⟨o',e1⟩:=I.base.there b o e hx
   exact⟨o',(hs.2 b (Qvz (Qvq (Qqz e) (I.ok.cab x c hfn hc)))).trans e1⟩
  ·by_cases hj:j=i
   ·subst hj
    rw[hi]at e1;cases e1
    rw[Qwq hiσ]at e2
    cases e2
    exact⟨u,r,.inr ⟨.inl hk,c,hc,hc'⟩⟩
   ·rw[Qxz (Ne.symm hj)]at e2
    obtain⟨u',r',q⟩:=hl j y v' e1 e2 e3
    refine⟨u',r',?_⟩
    rcases q with q|⟨k,c',e,z'⟩
    ·exact .inl q
    ·refine .inr ⟨k,c',e,z'.sameBut hs ?_⟩
     rintro rfl
     exact hj (yX hN e1 (I.ok.inj _ _ _ e hc▸hi))
  ·by_cases hcc:c'=c
   ·subst hcc;exact⟨_,hc'⟩
   ·obtain⟨w2,z2⟩:=I.cell y c' e
    exact⟨w2,z2.sameBut hs hcc⟩
  ·obtain⟨e,n,ne,nf,d⟩:=I.pin p hp
   refine⟨(hs.2 p.1 ?_).trans e,n,ne,nf,d⟩
   intro q
   rw[q,hoc]at e
   exact d w' (by rw[<- (QEq e)];exact hocd)
def yw{A:Around}{i:Nat}{v:V}{u:Value}(I:Inv X γ σ H s)(hN:X.N.Nodup)(hi:X.N[i]? =some x)(hx:Loc X.env.scope x)(r:RelV v u)
  (h:∀s',Inv X γ (σ.set i (some v)) H s'->Q () s')(hf:X.fn x=true\/X.env.scope.names.lookup x=some .local:=by first|exact .inl rfl|exact .inr rfl|assumption):wpAny M A (storeName X.env x u) Q E s:=
 uJ I hN hi hx r (fun s' I' _=>h s' I') hf
def Inv.call'{ch:List Addr}(I:Inv X γ σ H s)(ho:s'.os=s.os)(u:Un (frs X.stack) ch H H' s.heap s'.heap)(hok:pG X.prog X.w H' s'.heap)(hg:AllBare s'.gens)
  (hch:∀b∈ch,(b∈X.ex\/X.s₀.heap.objs.size<=b)/\b≠X.env.locals/\(∀x c,X.env.cells.lookup x=some c->c≠b)/\∀p∈X.pn++γ,p.1≠b):Inv X γ σ H' s':=by
 obtain⟨h',g',d',t',o'⟩:=s'
 subst ho
 exact I.call u hok hg hch
end
abbrev XK:=Value->Option Addr->Hp->Prop
abbrev St:=List (Option V)
abbrev VK:=V->Hp->Prop
abbrev TE:=St->Hp->VK->Prop
abbrev TT:=St->Hp->(Bool->Hp->Prop)->Prop
abbrev TA:=St->Hp->(List V->Hp->Prop)->Prop
structure Ends where
 nx:St->Hp->Prop
 rt:VK
 bk:St->Hp->Prop:=fun _ _=>False
 ct:St->Hp->Prop:=fun _ _=>False
abbrev TS:=Ends->St->Hp->Prop
def EP(X:Cx)(γ:QQz)(σ:St)(Q:VK)(u:Value)(s':Shared):Prop:=∃v H',Inv X γ σ H' s'/\RelV v u/\Q v H'
def TP(X:Cx)(γ:QQz)(σ:St)(Q:Bool->Hp->Prop)(b:Bool)(s':Shared):Prop:=∃H',Inv X γ σ H' s'/\Q b H'
def AP(X:Cx)(γ:QQz)(σ:St)(Q:List V->Hp->Prop)(us:List Value)(s':Shared):Prop:=∃vs H',Inv X γ σ H' s'/\Vals vs us/\Q vs H'
def SP(X:Cx)(γ:QQz)(D:Ends)(f:Flow)(s':Shared):Prop:=
 match f with
 |.next=>∃ζ H',Inv X γ ζ H' s'/\D.nx ζ H'
 |.brk=>∃ζ H',Inv X γ ζ H' s'/\D.bk ζ H'
 |.cont=>∃ζ H',Inv X γ ζ H' s'/\D.ct ζ H'
 |.ret u=>∃v ζ H',Inv X γ ζ H' s'/\RelV v u/\D.rt v H'
def PE(X:Cx)(e:Expr)(t:TE):Prop:=
 ∀(γ:QQz)(s:Shared)(σ:St)(H:Hp)(Q:VK),Inv X γ σ H s->t σ H Q->wpAny (model X.prog X.w) X.A (eval e X.env) (EP X γ σ Q) X.xe s
def PT(X:Cx)(e:Expr)(t:TT):Prop:=
 ∀(γ:QQz)(s:Shared)(σ:St)(H:Hp)(Q:Bool->Hp->Prop),Inv X γ σ H s->t σ H Q->wpAny (model X.prog X.w) X.A (isTrue e X.env (eval e X.env)) (TP X γ σ Q) X.xe s
def PW(X:Cx)(e:Expr)(t:TT):Prop:=
 ∀(whole:Sem Value)(γ:QQz)(s:Shared)(σ:St)(H:Hp)(Q:Bool->Hp->Prop),Inv X γ σ H s->t σ H Q->wpAny (model X.prog X.w) X.A (isTrue e X.env whole) (TP X γ σ Q) X.xe s
def PW.pt{e:Expr}(h:PW X e t):PT X e t:=h _
def PA(X:Cx)(es:List Expr)(t:TA):Prop:=
 ∀(pos:Pos)(γ:QQz)(s:Shared)(σ:St)(H:Hp)(Q:List V->Hp->Prop),Inv X γ σ H s->t σ H Q->wpAny (model X.prog X.w) X.A (spliced (backTo pos (starEach es X.env))) (AP X γ σ Q) X.xe s
def PS(X:Cx)(st:Stmt)(t:TS):Prop:=
 ∀(γ:QQz)(s:Shared)(σ:St)(H:Hp)(D:Ends),Inv X γ σ H s->t D σ H->wpAny (model X.prog X.w) X.A (exec st X.env) (SP X γ D) X.xe s
def xW(X:Cx)(st:List Stmt)(t:TS):Prop:=
 ∀(γ:QQz)(s:Shared)(σ:St)(H:Hp)(D:Ends),Inv X γ σ H s->t D σ H->wpAny (model X.prog X.w) X.A (execs st X.env) (SP X γ D) X.xe s
def b7{t:Sem α}{Q Q':α->Shared->Prop}{A:Around}{s:Shared}(h:wpAny M A t Q E s)(hQ:∀a s,Q a s->Q' a s):wpAny M A t Q' E s:=QGq h hQ fun _ _ x=>x
section
variable{X:Cx}
def bin{ta tb:TE}(ha:PE X a ta)(hb:PE X b tb){s:Shared}{σ:St}{R:V->V->Hp->Prop}(I:Inv X γ σ H s)(h:ta σ H fun x H1=>tb σ H1 fun y H2=>R x y H2)
{Q:α->Shared->Prop} {f:Value->Value->Sem α}
  (hf:∀v u s2 x y H2,Inv X γ σ H2 s2->RelV x v->RelV y u->R x y H2->wpAny (model X.prog X.w) X.A (f v u) Q X.xe s2):
  wpAny (model X.prog X.w) X.A (eval a X.env) (fun v ι=>wpAny (model X.prog X.w) X.A (eval b X.env) (fun u s₂=>wpAny (model X.prog X.w) X.A (f v u) Q X.xe s₂) X.xe ι) X.xe s:=by
 refine b7 (ha γ s σ H _ I h) fun v s1⟨x,H1,I1,r1,q1⟩=>?_
 refine b7 (hb γ s1 σ H1 _ I1 q1) fun u s2⟨y,H2,I2,r2,q2⟩=>?_
 exact hf v u s2 x y H2 I2 r1 r2 q2
def JD(i:Nat):TE:=fun σ H Q=>∃v,σ[i]? =some (some v)/\Q v H
def tC(v:V):TE:=fun _ H Q=>Q v H
def KJ{x:Str}{pos:Pos}(hN:X.N[i]? =some x)(hv:Vis X.env.scope x)(hd:(x==("__debug__":Str))=false:=by decide)(hcd:(x==("__classdict__":Str))=false:=by decide):PE X (.Name x pos) (JD i):=by
 intro γ s σ H Q I h
 obtain⟨v,e,h⟩:=h
 obtain⟨m,hn,hl⟩:=I.loc
 obtain⟨u,r,l⟩:=hl i x v hN e hv
 have fin:EP X γ σ Q u s:=⟨v,H,I,r,h⟩
 rcases l with ⟨hk,hm⟩|⟨hk,c,hc,hcell⟩
 ·exact wpAny_Name (wpAny_loadName_local I.ok.kind hk hn hm fin) hd
 ·rcases hk with hk|hk
  ·exact wpAny_Name (wpAny_loadName_cell I.ok.kind hk hc hcell fin) hd
  ·exact wpAny_Name (wpAny_loadName_free I.ok.kind hk hc hcell fin hcd) hd
def WW{i j pos}:PE X (.Constant (.int i) j pos) (tC (.int i)):=fun _ _ _ H _ I h=>wpAny_Constant_int ⟨.int i,H,I.tok _,⟨_,rfl⟩,h⟩
def aby{b j pos}:PE X (.Constant (.bool b) j pos) (tC (.bl b)):=fun _ _ _ H _ I h=>Constant_bool ⟨.bl b,H,I,rfl,h⟩
def WR{j pos}:PE X (.Constant .none j pos) (tC .non):=fun _ _ _ H _ I h=>Constant_none ⟨.non,H,I,rfl,h⟩
def WP{x j pos}:PE X (.Constant (.str x) j pos) (tC (.str x)):=fun _ _ _ H _ I h=>Calls.Constant_str ⟨.str x,H,I.tok _,⟨_,rfl⟩,h⟩
def Gl(X:Cx)(x:Str):Prop:=X.env.kindOf x=some .globalImplicit
def Fv{γ:QQz}{σ:St}{x:Str}{pos:Pos}(I:Inv X γ σ H s)(hg:Gl X x)(hm:X.mg x=some u)(h:Q u s)
  (hd:(x==("__debug__":Str))=false:=by decide):wpAny (model X.prog X.w) X.A (eval (.Name x pos) X.env) Q E s:=
 Calls.Name_function_global I.ok.kind hg (Calls.loadGlobal_global (by rw[I.ok.glob];exact I.mod.glob.keeps I.bk) hm h) hd
def jP{E:QZq}{s:Shared}{σ:St}{x:Str}{pos:Pos}(I:Inv X γ σ H s)(hg:Gl X x)(hm:X.mg x=none)(hv:bootBuiltins x=some u)(h:Q u s)
  (hn:x≠"__name__":=by decide)(hd:(x==("__debug__":Str))=false:=by decide):wpAny (model X.prog X.w) X.A (eval (.Name x pos) X.env) Q E s:=by
 obtain⟨mb,h1,h2⟩:=I.mod.blt
 exact Calls.Name_function_global I.ok.kind hg (Calls.loadGlobal_builtin (by rw[I.ok.glob];exact I.mod.glob.keeps I.bk) hm (by rw[I.ok.blt];exact h1.keeps I.bk) ((h2 x hn).trans hv) h) hd
def Q0{v:V}{pos:Pos}(hg:Gl X x)(hm:X.mg x=some u)(r:RelV v u)(hd:(x==("__debug__":Str))=false:=by decide):PE X (.Name x pos) (tC v):=
 fun _ _ _ H _ I h=>Fv I hg hm ⟨v,H,I,r,h⟩ hd
def Q6{v:V}{pos:Pos}(hg:Gl X x)(hm:X.mg x=none)(hv:bootBuiltins x=some u)(r:RelV v u)(hn:x≠"__name__":=by decide)(hd:(x==("__debug__":Str))=false:=by decide):PE X (.Name x pos) (tC v):=
 fun _ _ _ H _ I h=>jP I hg hm hv ⟨v,H,I,r,h⟩ hn hd
variable{a b:Expr}{ta tb:TE}{pos:Pos}
variable{tA tB':TT}{rest:List Expr}
def ad0(t u:TT):TT:=fun σ H Q=>t σ H fun c H1=>if c=true then u σ H1 Q else Q false H1
def tOr(t u:TT):TT:=fun σ H Q=>t σ H fun c H1=>if c=true then Q true H1 else u σ H1 Q
def adV(t:TT):TT:=fun σ H Q=>t σ H fun c H1=>Q (!c) H1
def QM(ha:PT X a tA):PW X (.BoolOp .And [a] pos) tA:=by
 intro wh γ s σ H Q I h
 refine isTrue_and (b7 (ha γ s σ H Q I h) fun c s1 e=>?_)
 cases c with
 |true=>exact isTrue_and_nil e
 |false=>exact e
def Wx(ha:PT X a tA):PW X (.BoolOp .Or [a] pos) tA:=by
 intro wh γ s σ H Q I h
 refine isTrue_or (b7 (ha γ s σ H Q I h) fun c s1 e=>?_)
 cases c with
 |false=>exact isTrue_or_nil e
 |true=>exact e
def Wy(ha:PT X a tA)(hb:PW X (.BoolOp .And (b::rest) pos) tB'):PW X (.BoolOp .And (a::b::rest) pos) (ad0 tA tB'):=by
 intro wh γ s σ H Q I h
 refine isTrue_and (b7 (ha γ s σ H _ I h) fun c s1⟨H1,I1,q1⟩=>?_)
 cases c with
 |true=>exact hb wh γ s1 σ H1 Q I1 q1
 |false=>exact⟨H1,I1,q1⟩
def abq(ha:PT X a tA)(hb:PW X (.BoolOp .Or (b::rest) pos) tB'):PW X (.BoolOp .Or (a::b::rest) pos) (tOr tA tB'):=by
 intro wh γ s σ H Q I h
 refine isTrue_or (b7 (ha γ s σ H _ I h) fun c s1⟨H1,I1,q1⟩=>?_)
 cases c with
 |true=>exact⟨H1,I1,q1⟩
 |false=>exact hb wh γ s1 σ H1 Q I1 q1
def WD(ha:PT X a tA):PT X (.UnaryOp .Not a pos) (adV tA):=by
 intro γ s σ H Q I h
 exact isTrue_not (ha γ s σ H _ I h)
noncomputable def aaO(ta tb:TE):TE:=fun σ H Q=>ta σ H fun x H1=>∃c,x=.bl c/\if c=true then tb σ H1 Q else Q (.bl false) H1
noncomputable def adU(ta tb:TE):TE:=fun σ H Q=>ta σ H fun x H1=>∃c,x=.bl c/\if c=true then Q (.bl true) H1 else tb σ H1 Q
def KR{op}(h:PE X a t):PE X (.BoolOp op [a] pos) t:=fun γ s σ H Q I hw=>BoolOp_one (h γ s σ H Q I hw)
def WY(ha:PE X a ta)(hb:PE X (.BoolOp .And (b::rest) pos) tb):PE X (.BoolOp .And (a::b::rest) pos) (aaO ta tb):=by
 intro γ s σ H Q I h
 refine BoolOp_and (b7 (ha γ s σ H _ I h) fun v s1⟨x,H1,I1,r1,q1⟩=>?_)
 obtain⟨c,rfl,q1⟩:=q1
 cases r1
 refine wpAny_truthy_bool ?_
 cases c with
 |true=>exact hb γ s1 σ H1 Q I1 q1
 |false=>exact⟨.bl false,H1,I1,rfl,q1⟩
def abw(ha:PE X a ta)(hb:PE X (.BoolOp .Or (b::rest) pos) tb):PE X (.BoolOp .Or (a::b::rest) pos) (adU ta tb):=by
 intro γ s σ H Q I h
 refine BoolOp_or (b7 (ha γ s σ H _ I h) fun v s1⟨x,H1,I1,r1,q1⟩=>?_)
 obtain⟨c,rfl,q1⟩:=q1
 cases r1
 refine wpAny_truthy_bool ?_
 cases c with
 |false=>exact hb γ s1 σ H1 Q I1 q1
 |true=>exact⟨.bl true,H1,I1,rfl,q1⟩
noncomputable def tIf(t:TT)(ta tb:TE):TE:=fun σ H Q=>t σ H fun c H1=>if c=true then ta σ H1 Q else tb σ H1 Q
def KZ(hc:PT X c tA)(ha:PE X a ta)(hb:PE X b tb):PE X (.IfExp c a b pos) (tIf tA ta tb):=by
 intro γ s σ H Q I h
 refine wpAny_IfExp (b7 (hc γ s σ H _ I h) fun d s1⟨H1,I1,q1⟩=>?_)
 cases d with
 |true=>exact ha γ s1 σ H1 Q I1 q1
 |false=>exact hb γ s1 σ H1 Q I1 q1
end
def jA(K:QQq)(H:Hp)(a:Addr)(xs:List V):Prop:=
 Rd H a (.lst xs)\/
  ∃(o:Obj)(its:Array Value)(n:Nat),K.lookup a=some o/\o.cls=.type "list"/\o.dict=none/\o.data=.seq its n/\its.size<=sizeLine/\Vals xs its.toList
def iQ(K:QQq)(H:Hp)(a:Addr)(xs:List V):Prop:=
 Rd H a (.tup xs)\/
  ∃(o:Obj)(its:Array Value)(n:Nat),K.lookup a=some o/\o.cls=.type "tuple"/\o.dict=none/\o.data=.seq its n/\its.size<=sizeLine/\Vals xs its.toList
noncomputable def agi:Value->Option V
 |.none=>some .non
 |.bool b=>some (.bl b)
 |.int i _=>some (.int i)
 |.str x _=>some (.str x)
 |.ref a=>some (.ref a)
 |.type n=>some (.ty n)
 |_=>none
def RelV.abs{u:Value}(r:RelV x u):agi u=some x:=by
 cases x with
 |non=>cases r;rfl
 |bl _=>cases r;rfl
 |int _=>obtain⟨t,rfl⟩:=r;rfl
 |str _=>obtain⟨t,rfl⟩:=r;rfl
 |ref _=>cases r;rfl
 |ty _=>cases r;rfl
def RelV.inj{x y:V}{u:Value}(r:RelV x u)(q:RelV y u):x=y:=QEq (r.abs.symm.trans q.abs)
theorem Vals.inj:∀{xs ys:List V}{us:List Value},Vals xs us->Vals ys us->xs=ys
 |_,_,_,.nil,.nil=>rfl
 |_,_,_,.cons r t,.cons r' t'=>by rw[r.inj r',Vals.inj t t']
section
variable{X:Cx}{γ:QQz}{σ:St}{H:Hp}{s:Shared}{a:Addr}{xs ys:List V}
def Inv.list(I:Inv X γ σ H s)(h:jA X.K H a xs):∃its:List Value,Vals xs its/\PlainL s.heap a its.toArray/\xs.length<=sizeLine:=by
 rcases h with h|⟨o,its,n,hk,hc,hd,hs,hz,r⟩
 ·obtain⟨z,its,n,r,e⟩:=h.ok I.hok
  exact⟨its,r,⟨_,n,e,rfl,rfl,rfl⟩,z⟩
 ·refine⟨its.toList,r,⟨o,n,I.ZC a o hk,hc,hd,by simpa using hs⟩,?_⟩
  have e:=r.length
  simp only[Array.length_toList]at e
  omega
def Inv.Aq(I:Inv X γ σ H s)(h:iQ X.K H a xs):∃its:List Value,Vals xs its/\TupOk s.heap a its.toArray/\xs.length<=sizeLine:=by
 rcases h with h|⟨o,its,n,hk,hc,hn,hs,hz,r⟩
 ·obtain⟨z,its,r,p⟩:=h.ok I.hok
  exact⟨its,r,p,z⟩
 ·refine⟨its.toList,r,⟨o,I.ZC a o hk,hc,hn,n,by simpa using hs⟩,?_⟩
  have e:=r.length
  simp only[Array.length_toList]at e
  omega
def Inv.tuple(I:Inv X γ σ H s)(h:iQ X.K H a xs):∃its:List Value,Vals xs its/\IsTup s.heap a its.toArray/\xs.length<=sizeLine:=by
 obtain⟨its,r,p,z⟩:=I.Aq h
 exact⟨its,r,p.is,z⟩
def Inv.zq(I:Inv X γ σ H s)(h:jA X.K H a xs)(h':jA X.K H a ys):xs=ys:=by
 obtain⟨its,r,⟨o,n,e,_,_,d⟩,_⟩:=I.list h
 obtain⟨its',r',⟨o',n',e',_,_,d'⟩,_⟩:=I.list h'
 rw[e]at e';cases e'
 rw[d]at d'
 injection d' with d1 _
 have:its=its':=by simpa using congrArg Array.toList d1
 subst this
 exact r.inj r'
def Inv.uG(I:Inv X γ σ H s)(h:iQ X.K H a xs)(h':iQ X.K H a ys):xs=ys:=by
 obtain⟨its,r,⟨o,e,_,n,d⟩,_⟩:=I.tuple h
 obtain⟨its',r',⟨o',e',_,n',d'⟩,_⟩:=I.tuple h'
 rw[e]at e';cases e'
 rw[d]at d'
 injection d' with d1 _
 have:its=its':=by simpa using congrArg Array.toList d1
 subst this
 exact r.inj r'
end
abbrev Cx.wish(X:Cx)(E:QZq):Cx:={X with xe:=E}
abbrev Cx.nox(X:Cx):Cx:=X.wish fun _ _=>False
theorem Cx.Ok.wish{X:Cx}(ok:X.Ok)E:(X.wish E).Ok:=
 ⟨ok.mod,ok.kind,ok.glob,ok.blt,ok.above,ok.inj,ok.has,ok.cab,ok.hd,ok.frames,ok.stk,ok.exf,ok.bs,ok.bsz,ok.noex,ok.exfs,ok.mj,ok.frf⟩
def Cx.Ok.jG{X:Cx}(ok:(X.wish E).Ok):X.Ok:=
 ⟨ok.mod,ok.kind,ok.glob,ok.blt,ok.above,ok.inj,ok.has,ok.cab,ok.hd,ok.frames,ok.stk,ok.exf,ok.bs,ok.bsz,ok.noex,ok.exfs,ok.mj,ok.frf⟩
section
variable{X:Cx}{γ:QQz}{σ:St}{H:Hp}{s:Shared}{E:QZq}
theorem Inv.wish(I:Inv X γ σ H s)E:Inv (X.wish E) γ σ H s:=⟨I.ok.wish E,I.os,I.bare,I.base,I.loc,I.cell,I.free,I.freeC,I.pin,I.hok,I.len⟩
theorem Inv.jG(I:Inv (X.wish E) γ σ H s):Inv X γ σ H s:=⟨I.ok.jG,I.os,I.bare,I.base,I.loc,I.cell,I.free,I.freeC,I.pin,I.hok,I.len⟩
theorem SP.jG{f:Flow}(h:SP (X.wish E) γ D f s'):SP X γ D f s':=by
 cases f with
 |next=>obtain⟨ζ,H',I,q⟩:=h;exact⟨ζ,H',I.jG,q⟩
 |brk=>obtain⟨ζ,H',I,q⟩:=h;exact⟨ζ,H',I.jG,q⟩
 |cont=>obtain⟨ζ,H',I,q⟩:=h;exact⟨ζ,H',I.jG,q⟩
 |ret u=>obtain⟨v,ζ,H',I,r,q⟩:=h;exact⟨v,ζ,H',I.jG,r,q⟩
theorem xW.nox{st:List Stmt}(h:xW X.nox st t):xW X st t:=fun γ s σ H D I hw=>
 QGq (h γ s σ H D (I.wish _) hw) (fun _ _ q=>q.jG) fun _ _ z=>False.elim z
end
section
variable{X:Cx}{st:Stmt}{rest:List Stmt}{t u:TS}{e:Expr}{te:TE}{pos:Pos}
def aaI:TS:=fun D σ H=>D.nx σ H
def aaC(t u:TS):TS:=fun D σ H=>t {D with nx:=u D} σ H
def QR:xW X [] aaI:=fun _ _ σ H _ I h=>wpAny_execs_nil ⟨σ,H,I,h⟩
def Kr(h1:PS X st t)(h2:xW X rest u):xW X (st::rest) (aaC t u):=by
 intro γ s σ H D I h
 refine wpAny_execs_cons (b7 (h1 γ s σ H {D with nx:=u D} I h) fun f s1 q=>?_)
 cases f with
 |next=>
  obtain⟨ζ,H',I',q⟩:=q
  exact h2 γ s1 ζ H' D I' q
 |ret v=>exact q
 |brk=>exact q
 |cont=>exact q
def Inv.quiet{σ:St}{H:Hp}(I:Inv X γ σ H s):interactive X.env=false:=by simp[interactive,I.ok.kind]
def aaL(te:TE):TS:=fun D σ H=>te σ H fun _ H1=>D.nx σ H1
def wC(he:PE X e te)(hs:swapsWith e none pos.line X.env=pure false:=by rfl):PS X (.Expr e pos) (aaL te):=by
 intro γ s σ H D I h
 exact wpAny_Expr_any (b7 (he γ s σ H _ I h) fun v s1⟨x,H1,I1,r1,q1⟩=>⟨σ,H1,I1,q1⟩) I.quiet hs
def aaE(te:TE):TS:=fun D σ H=>te σ H D.rt
def oK(he:PE X e te):PS X (.Return (some e) pos) (aaE te):=by
 intro γ s σ H D I h
 exact wpAny_Return_some (b7 (he γ s σ H _ I h) fun v s1⟨x,H1,I1,r1,q1⟩=>⟨x,σ,H1,I1,r1,q1⟩)
def aaD:TS:=fun D _ H=>D.rt .non H
def QS:PS X (.Return none pos) aaD:=fun _ _ σ H _ I h=>wpAny_Return_none ⟨.non,σ,H,I,rfl,h⟩
def adX(c:TT)(t u:TS):TS:=fun D σ H=>c σ H fun b H1=>if b=true then t D σ H1 else u D σ H1
def abt{a b:List Stmt}(hc:PT X c tc)(ha:xW X a t)(hb:xW X b u):PS X (.If c a b pos) (adX tc t u):=by
 intro γ s σ H D I h
 refine wpAny_If (b7 (hc γ s σ H _ I h) fun d s1⟨H1,I1,q1⟩=>?_)
 cases d with
 |true=>exact ha γ s1 σ H1 D I1 q1
 |false=>exact hb γ s1 σ H1 D I1 q1
end
abbrev TG:=V->St->Hp->(St->Hp->Prop)->Prop
abbrev YX:=List V->St->Hp->(St->Hp->Prop)->Prop
def PG(X:Cx)(target:Expr)(t:TG):Prop:=
 ∀(γ:QQz)(s:Shared)(σ:St)(H:Hp)(v:V)(u:Value)(Q:St->Hp->Prop),Inv X γ σ H s->RelV v u->t v σ H Q->
  wpAny (model X.prog X.w) X.A (assign target X.env u) (fun _ s'=>∃ζ H',Inv X γ ζ H' s'/\Q ζ H') X.xe s
def PGs(X:Cx)(ts:List Expr)(t:YX):Prop:=
 ∀(γ:QQz)(s:Shared)(σ:St)(H:Hp)(vs:List V)(us:List Value)(Q:St->Hp->Prop),Inv X γ σ H s->Vals vs us->t vs σ H Q->
  wpAny (model X.prog X.w) X.A (assignInOrder ((assignEach ts X.env).map (·.2)) us) (fun _ s'=>∃ζ H',Inv X γ ζ H' s'/\Q ζ H') X.xe s
abbrev acH:=V->V->V->Hp->(Hp->Prop)->Prop
def O3(X:Cx)(t:acH):Prop:=
 ∀(γ:QQz)(s:Shared)(σ:St)(H:Hp)(o i v:V)(ov iv u:Value)(Q:Hp->Prop),Inv X γ σ H s->RelV o ov->RelV i iv->RelV v u->t o i v H Q->
  wpAny (model X.prog X.w) X.A (setItem ov iv u) (fun _ s'=>∃H',Inv X γ σ H' s'/\Q H') X.xe s
section
variable{X:Cx}{pos:Pos}
def U6(i:Nat):TG:=fun v σ H Q=>Q (σ.set i (some v)) H
def QX{x:Str}(hN:X.N.Nodup)(hi:X.N[i]? =some x)(hx:Loc X.env.scope x)(hf:X.fn x=true\/X.env.scope.names.lookup x=some .local:=by first|exact .inl rfl|exact .inr rfl|assumption):PG X (.Name x pos) (U6 i):=by
 intro γ s σ H v u Q I r h
 exact wpAny_assign_Name (yw I hN hi hx r (fun s' I'=>⟨_,H,I',h⟩) hf)
def afS:YX:=fun vs σ H Q=>vs=[]/\Q σ H
def acg(t:TG)(u:YX):YX:=fun vs σ H Q=>∃v r,vs=v::r/\t v σ H fun ζ H'=>u r ζ H' Q
def QW:PGs X [] afS:=by
 intro γ s σ H vs us Q I r h
 obtain⟨e,h⟩:=h
 subst e
 cases r
 exact assignInOrder_nil ⟨σ,H,I,h⟩
theorem KD{es:List Expr}{u:YX}(h1:PG X e t)(h2:PGs X es u)
  (hs:(assignEach (e::es) X.env).map (·.2)=assign e X.env::(assignEach es X.env).map (·.2):=by rfl):PGs X (e::es) (acg t u):=by
 intro γ s σ H vs us Q I r h
 obtain⟨v,vr,e1,h⟩:=h
 subst e1
 cases r with
 |cons r rr=>
  rw[hs]
  exact assignInOrder_cons (b7 (h1 γ s σ H _ _ _ I r h) fun _ s1⟨ξ,H1,I1,q1⟩=>h2 γ s1 ξ H1 _ _ Q I1 rr q1)
noncomputable def afQ(K:QQq)(n:Nat)(t:YX):TG:=fun v σ H Q=>∃a xs,v=.ref a/\iQ K H a xs/\xs.length=n/\t xs σ H Q
def WL{k:Nat}{t:YX}(hc:X.calm=true)(h:PGs X es t)
  (hn:(assignEach es X.env).length=n:=by rfl)(hst:(assignEach es X.env).findIdx? (·.1)=none:=by rfl):PG X (.Tuple es k pos) (afQ X.K n t):=by
 intro γ s σ H v u Q I r hw
 obtain⟨a,xs,e1,hq,hl,hw⟩:=hw
 subst e1
 cases r
 obtain⟨its,rv,ht,hz⟩:=I.tuple hq
 exact assign_Tuple_tuple (I.ok.hd hc) ht (by simp[hn,<-hl,rv.length]) hst fun h' hx=>h γ _ σ H xs _ Q (I.kept (t':=s.toks) fun b o e=>hx b o (Qvz (Qqz e)) e) (by simpa using rv) hw
noncomputable def afR(to ti:TE)(t:acH):TG:=fun v σ H Q=>to σ H fun o H1=>ti σ H1 fun i H2=>t o i v H2 fun H3=>Q σ H3
def WM{to ti:TE}(ho:PE X o to)(hi:PE X i ti)(hs:O3 X t)
  (ha:∀v,assign (.Subscript o i pos) X.env v=(do
   let ov<-holding [v] (eval o X.env)
   let iv<-holding [v,ov] (eval i X.env)
   standAt pos
   holding [v,ov,iv] (setItem ov iv v)
   release [v,ov,iv] []):=by intro _;rfl):PG X (.Subscript o i pos) (afR to ti t):=by
 intro γ s σ H v u Q I r h
 refine QKq (Qqq (b7 (ho γ s σ H _ I h) fun ov s1⟨x,H1,I1,r1,q1⟩=>?_))
 exact QKq (Qqq (b7 (hi γ s1 σ H1 _ I1 q1) fun iv s2⟨y,H2,I2,r2,q2⟩=>QKq (wpAny_standAt (QKq (Qqq (b7 (hs γ s2 σ H2 x y v ov iv u _ I2 r1 r2 r q2) fun _ s3⟨H3,I3,q3⟩=>wpAny_release ⟨σ,H3,I3,q3⟩))))))
def aaN(te:TE)(g:TG):TS:=fun D σ H=>te σ H fun x H1=>g x σ H1 D.nx
def Ku{te:TE}(he:PE X e te)(hg:PG X tg g)(hs:swapsWithSole [tg] e pos.line X.env=pure false:=by rfl)(hw:swappedStores [tg] e X.env=pure none:=by rfl)
  (h1:(assignEach [tg] X.env).map (·.2)=[assign tg X.env]:=by rfl):PS X (.Assign [tg] e pos) (aaN te g):=by
 intro γ s σ H D I h
 refine wpAny_Assign_stores (b7 (he γ s σ H _ I h) fun v s1⟨x,H1,I1,r1,q1⟩=>?_) hs hw
 rw[h1]
 exact b7 (hg γ s1 σ H1 x v _ I1 r1 q1) fun _ s2 q=>q
def WF{x:Str}{te:TE}(hN:X.N.Nodup)(hi:X.N[i]? =some x)(hx:Loc X.env.scope x)(he:PE X e te)(hs:swapsWith e (some (.Name x pos')) pos.line X.env=pure false:=by rfl)(hf:X.fn x=true\/X.env.scope.names.lookup x=some .local:=by first|exact .inl rfl|exact .inr rfl|assumption):
  PS X (.Assign [.Name x pos'] e pos) (aaN te (U6 i)):=by
 intro γ s σ H D I h
 exact wpAny_Assign_Name (b7 (he γ s σ H _ I h) fun v s1⟨y,H1,I1,r1,q1⟩=>yw I1 hN hi hx r1 (fun s2 I2=>⟨_,H1,I2,q1⟩) hf) hs
end
section
variable{X:Cx}{pos:Pos}
noncomputable def V2(c:TT)(tb:TS):TS:=fun D σ H=>∃W:Nat->St->Hp->Prop,(∃m,W m σ H)/\∀m σ H,W m σ H->
 c σ H fun b H1=>if b=true then∃N:St->Hp->Prop,(∀ζ H',N ζ H'->∃m',m'<m/\W m' ζ H')/\tb {D with nx:=N,ct:=N,bk:=D.nx} σ H1 else D.nx σ H1
def Ks{body:List Stmt}{tb:TS}(hp:PassesOwn (model X.prog X.w) X.A X.env X.xe)(hc:PT X c tc)(hb:xW X body tb):PS X (.While c body [] pos) (V2 tc tb):=by
 intro γ s σ H D I h
 obtain⟨W,⟨m0,w0⟩,turn⟩:=h
 refine wpAny_While (codeAny_whileLoop (fun n s'=>∃ζ H',Inv X γ ζ H' s'/\W n ζ H') ?_ m0 ⟨σ,H,I,w0⟩)
 rintro n s1 ⟨ξ,H1,I1,w1⟩
 refine wpAny_passesOwn hp (b7 (hc γ s1 ξ H1 _ I1 (turn n ξ H1 w1)) fun b s2⟨H2,I2,q2⟩=>?_)
 cases b with
 |true=>
  obtain⟨N,hN,q2⟩:=q2
  refine wpAny_passesOwn hp (b7 (hb γ s2 ξ H2 _ I2 q2) fun f s3 q3=>?_)
  cases f with
  |next=>
   obtain⟨σ3,H3,I3,n3⟩:=q3
   obtain⟨m',hm,w3⟩:=hN σ3 H3 n3
   exact⟨m',hm,σ3,H3,I3,w3⟩
  |cont=>
   obtain⟨σ3,H3,I3,n3⟩:=q3
   obtain⟨m',hm,w3⟩:=hN σ3 H3 n3
   exact⟨m',hm,σ3,H3,I3,w3⟩
  |brk=>exact q3
  |ret v=>exact q3
 |false=>
  exact wpAny_execs_nil ⟨ξ,H2,I2,q2⟩
end
structure It where
 go:Nat->Hp->Prop
 yld:Nat->Hp->V->Hp->Prop
 stop:Nat->Hp->Prop
def fZ(X:Cx)(γ:QQz)(H:Hp)(b:Addr):Prop:=
 H b=none/\b≠X.env.locals/\b∉X.fs/\(b∈X.ex\/X.s₀.heap.objs.size<=b)/\(∀x c,X.env.cells.lookup x=some c->c≠b)/\∀p∈X.pn++γ,p.1≠b
def Inv.Cr{X:Cx}{σ:St}{H H':Hp}{b:Addr}(I:Inv X γ σ H s)(hb:s.heap.objs.size<=b)(hn:H' b=none):fZ X γ H' b:=by
 refine⟨hn,Nat.ne_of_gt (Qvq I.lt hb),I.ae1 hb,.inr (Nat.le_trans I.sz hb),fun x c e z=>?_,fun p hp z=>?_⟩
 ·obtain⟨v,q⟩:=I.cell x c e
  exact absurd (Qvq q.lt (by rw[z];exact hb)) (Nat.lt_irrefl _)
 ·exact absurd (Qvq (Qqz (I.pin p hp).1) (by rw[z];exact hb)) (Nat.lt_irrefl _)
structure Turn(P:Program)(w:World)(K:QQq)(tg:Expr)(J:It)(fp:List Addr)(it:Addr)(tn:Nat->Heap->Prop):Prop where
 mem:it∈fp
 obj:∀i h,tn i h->∀b∈fp,∃o,h.get? b=some o/\∀v,o.data≠ .cell v
 keep:∀i h h',tn i h->(∀b∈fp,∀o,h.get? b=some o->h'.get? b=some o)->tn i h'
 item:∀(X:Cx),X.prog=P->X.w=w->X.K=K->X.calm=true->∀(i:Nat)(γ:QQz)(s:Shared)(σ:St)(H:Hp)(E:QZq),Inv X γ σ H s->(∀b∈fp,fZ X γ H b)->tn i s.heap->J.go i H->
  wpAny (model P w) X.A (pyNext (.ref it)) (fun r s1=>∃u,r=some u/\
   wpAny (model P w) X.A (letOwnedTupleGo tg (.ref it) u) (fun _ s2=>∃x H',Inv X γ σ H' s2/\RelV x u/\J.yld i H x H'/\tn (i+1) s2.heap/\∀b∈fp,H' b=none) E s1) E s
 done:∀(X:Cx),X.prog=P->X.w=w->X.K=K->X.calm=true->∀(i:Nat)(γ:QQz)(s:Shared)(σ:St)(H:Hp)(E:QZq),Inv X γ σ H s->(∀b∈fp,fZ X γ H b)->tn i s.heap->J.stop i H->
  wpAny (model P w) X.A (pyNext (.ref it)) (fun r s1=>r=none/\Inv X γ σ H s1) E s
 self:∀(A:Around)(i:Nat)(s:Shared)(Q:QZq)(E:QZq),tn i s.heap->Q (.ref it) s->wpAny (model P w) A (pyIter (.ref it)) Q E s
abbrev TI:=St->Hp->(It->Hp->Prop)->Prop
def PIE(X:Cx)(γ:QQz)(σ:St)(tg:Expr)(R:It->Hp->Prop)(itv:Value)(s2:Shared):Prop:=
 ∃(it:Addr)(fp:List Addr)(tn:Nat->Heap->Prop)(J:It)(H':Hp),itv=.ref it/\Inv X γ σ H' s2/\Turn X.prog X.w X.K tg J fp it tn/\tn 0 s2.heap/\(∀b∈fp,fZ X γ H' b)/\R J H'
def PI(X:Cx)(tg iter:Expr)(wi:TI):Prop:=
 ∀(γ:QQz)(s:Shared)(σ:St)(H:Hp)(R:It->Hp->Prop),Inv X γ σ H s->wi σ H R->
  wpAny (model X.prog X.w) X.A (eval iter X.env) (fun v s1=>wpAny (model X.prog X.w) X.A (pyIter v) (PIE X γ σ tg R) X.xe s1) X.xe s
def FQ {A : Around} {s : Shared} {it : Addr} {o : Obj} {vs : Array Value} (ho : s.heap.get? it = some o) (hc : o.cls = .type n) (hd : o.data = .fields vs)
    (hn : ["enumerate", "zip", "dict_itemiterator", "dict_reverseitemiterator", "odict_iterator", "itertools.zip_longest", "itertools.pairwise"].contains n = false) (hQ : Q () s) : wpAny M A (letOwnedTupleGo tg (.ref it) u) Q E s := by
  cases tg <;> first
    | exact QKz hQ
    | (cases u <;> first
        | exact QKz hQ
        | (refine QKq (wpAny_load ho ?_)
           rw [hc, hd]
           show wpAny M A (if _ = true then _ else _) Q E s
           rw [if_neg (by intro h; rw [hn, Bool.false_and] at h; cases h)]
           exact QKz hQ))
noncomputable def Itl(K:QQq)(a:Addr):It:=
 ⟨fun i H=>∃xs x,jA K H a xs/\xs[i]? =some x,fun i H x H'=>H'=H/\∀xs,jA K H a xs->xs[i]? =some x,fun i H=>∃xs,jA K H a xs/\xs.length<=i⟩
noncomputable def Itt(K:QQq)(a:Addr):It:=
 ⟨fun i H=>∃xs x,iQ K H a xs/\xs[i]? =some x,fun i H x H'=>H'=H/\∀xs,iQ K H a xs->xs[i]? =some x,fun i H=>∃xs,iQ K H a xs/\xs.length<=i⟩
noncomputable def Itr(lo:Int)(n:Nat):It:=⟨fun i _=>i<n,fun i H x H'=>H'=H/\x=.int (lo+i),fun i _=>n<=i⟩
theorem GJ{w:World}{K:QQq}a it:Turn P w K tg (Itl K a) [it] it (fun i h=>h.IsListIter it a i) where
 mem:=by simp
 obj:=fun i h st b hb=>by
  have e:b=it:=by simpa using hb
  subst e
  obtain⟨o,e,c,d⟩:=st
  exact⟨o,e,fun v z=>by rw[d]at z;cases z⟩
 keep:=fun i h h' st k=>st.at fun o e=>k it (by simp) o e
 item:=by
  intro X hP hw hK hc i γ s σ H E I hf st hg
  subst hP hw hK
  obtain⟨xs,x,hq,hx⟩:=hg
  obtain⟨its,rv,p,hz⟩:=I.list hq
  obtain⟨u,hu,ru⟩:=rv.get hx
  obtain⟨f0,f1,f2,f3,f4,f5⟩:=hf it (by simp)
  refine wpAny_pyNext_list_item st p.isList (by simpa using hu) fun h' st' sb=>?_
  obtain⟨o,e,c,d⟩:=id st'
  exact⟨u,rfl,FQ e c d (by decide) ⟨x,H,I.turned (t':=s.toks) (fun b o hb e=>(sb.2 b hb).trans e) f0 f1 f3 f4 f5,ru,⟨rfl,fun ys hy=>by rw[I.zq hy hq];exact hx⟩,st',fun b hb=>(hf b hb).1⟩⟩
 done:=by
  intro X hP hw hK hc i γ s σ H E I hf st hg
  subst hP hw hK
  obtain⟨xs,hq,hx⟩:=hg
  obtain⟨its,rv,p,hz⟩:=I.list hq
  obtain⟨f0,f1,f2,f3,f4,f5⟩:=hf it (by simp)
  have hl:=rv.length
  exact wpAny_pyNext_list_end (I.ok.hd hc) st p.isList (by simp;omega) fun h' eb=>⟨rfl,I.turned (fun b o hb e=>eb b o hb e) f0 f1 f3 f4 f5⟩
 self:=fun _ _ _ _ _ st h=>wpAny_pyIter_listiter st h
theorem Ak{w:World}{K:QQq}a it:Turn P w K tg (Itt K a) [it] it (fun i h=>h.IsTupleIter it a i) where
 mem:=by simp
 obj:=fun i h st b hb=>by
  have e:b=it:=by simpa using hb
  subst e
  obtain⟨o,e,c,d⟩:=st
  exact⟨o,e,fun v z=>by rw[d]at z;cases z⟩
 keep:=fun i h h' st k=>st.at fun o e=>k it (by simp) o e
 item:=by
  intro X hP hw hK hc i γ s σ H E I hf st hg
  subst hP hw hK
  obtain⟨xs,x,hq,hx⟩:=hg
  obtain⟨its,rv,p,hz⟩:=I.tuple hq
  obtain⟨u,hu,ru⟩:=rv.get hx
  obtain⟨f0,f1,f2,f3,f4,f5⟩:=hf it (by simp)
  refine wpAny_pyNext_tuple_item st (p) (by simpa using hu) fun h' st' sb=>?_
  obtain⟨o,e,c,d⟩:=id st'
  exact⟨u,rfl,FQ e c d (by decide) ⟨x,H,I.turned (t':=s.toks) (fun b o hb e=>(sb.2 b hb).trans e) f0 f1 f3 f4 f5,ru,⟨rfl,fun ys hy=>by rw[I.uG hy hq];exact hx⟩,st',fun b hb=>(hf b hb).1⟩⟩
 done:=by
  intro X hP hw hK hc i γ s σ H E I hf st hg
  subst hP hw hK
  obtain⟨xs,hq,hx⟩:=hg
  obtain⟨its,rv,p,hz⟩:=I.tuple hq
  obtain⟨f0,f1,f2,f3,f4,f5⟩:=hf it (by simp)
  have hl:=rv.length
  exact wpAny_pyNext_tuple_end (I.ok.hd hc) st (p) (by simp;omega) fun h' eb=>⟨rfl,I.turned (fun b o hb e=>eb b o hb e) f0 f1 f3 f4 f5⟩
 self:=fun _ _ _ _ _ st h=>wpAny_pyIter_tupleiter st h
theorem Am{w:World}{K:QQq}it lo n:Turn P w K tg (Itr lo n) [it] it (fun i h=>IsRangeIter h it (lo+(i:Nat)*1) ((n:Int)- (i:Nat)) 1) where
 mem:=by simp
 obj:=fun i h st b hb=>by
  have e:b=it:=by simpa using hb
  subst e
  exact⟨_,st,fun v z=>by
   cases z⟩
 keep:=fun i h h' st k=>k it (by simp) _ st
 item:=by
  intro X hP hw hK hc i γ s σ H E I hf st hg
  subst hP hw hK
  obtain⟨f0,f1,f2,f3,f4,f5⟩:=hf it (by simp)
  refine(Walks.range (prog:=X.prog) (w:=X.w) (I.ok.hd hc) it lo 1 n).item i s _ _ hg st fun v h' tk hv st' kk=>?_
  obtain⟨t,rfl⟩:=hv
  refine⟨_,rfl,FQ st' rfl rfl (by decide) ⟨.int _,H,(I.turned (fun b o hb e=>kk b o (by simpa using hb) e) f0 f1 f3 f4 f5),⟨t,?_⟩,⟨rfl,rfl⟩,st',fun b hb=>(hf b hb).1⟩⟩
  rw[Int.mul_one]
 done:=by
  intro X hP hw hK hc i γ s σ H E I hf st hg
  obtain⟨f0,f1,f2,f3,f4,f5⟩:=hf it (by simp)
  exact wpAny_pyNext_range_end (I.ok.hd hc) st (by have:n<=i:=hg;omega) fun h' eb=>⟨rfl,I.turned (fun b o hb e=>eb b o hb e) f0 f1 f3 f4 f5⟩
 self:=fun _ _ _ _ _ st h=>wpAny_pyIter_rangeiter st h
section
variable{X:Cx}{tg:Expr}
def J6{σ:St}{H:Hp}{R:It->Hp->Prop}{lo hi:Int}{tk:Nat}(I:Inv X γ σ H s)(h1: -(2 ^62)<=lo)(h2:lo<2 ^62)(h3: -(2 ^62)<=hi)(h4:hi<2 ^62)
  (q:R (Itr lo (hi-lo).toNat) H):wpAny (model X.prog X.w) X.A (pyIter (.ref s.heap.objs.size)) (PIE X γ σ tg R) E {s with heap:=s.heap.push {cls:=.type "range",data:=.fields #[.int lo t,.int hi u,.int 1 v]},toks:=tk}:=by
 refine wpAny_pyIter_range (IsRange.new ..) (small_one h1 h2 h3 h4) ?_
 have I1:Inv X γ σ H {s with heap:=s.heap.push {cls:=.type "range",data:=.fields #[.int lo t,.int hi u,.int 1 v]},toks:=tk}:=I.kept fun b o e=>QWq _ e
 refine⟨(s.heap.push {cls:=.type "range",data:=.fields #[.int lo t,.int hi u,.int 1 v]}).objs.size,[(s.heap.push {cls:=.type "range",data:=.fields #[.int lo t,.int hi u,.int 1 v]}).objs.size],_,_,H,rfl,
  I1.kept fun b o e=>QWq _ e,Am _ lo (hi-lo).toNat,?_,fun b hb=>?_,q⟩
 ·have e1:lo+((0:Nat))*1=lo:=by simp
  have e2:(((hi-lo).toNat:Nat))- ((0:Nat))=Builtin.Range.rangeSize lo hi 1:=by rw[rangeSize_one];split<;>omega
  rw[e1,e2]
  exact Qzq _ rfl
 ·have e:b=(s.heap.push {cls:=.type "range",data:=.fields #[.int lo t,.int hi u,.int 1 v]}).objs.size:=by simpa using hb
  subst e
  exact I1.Cr (QVz _) (I1.hok.fresh (QVz _))
noncomputable def ab8(ta:TA):TI:=fun σ H R=>ta σ H fun vs H1=>∃j:Int,vs=[.int j]/\ -(2 ^62)<=j/\j<2 ^62/\R (Itr 0 j.toNat) H1
def Hr{ta:TA}(hg:Gl X "range")(hm:X.mg "range"=none)(ha:PA X [a] ta)(hs:starEach [a] X.env=[(false,eval a X.env)]:=by rfl):PI X tg (.Call (.Name "range" p) [a] [] pos) (ab8 ta):=by
 intro γ s σ H R I h
 refine Call_ (jP I hg hm boot_range (PyProof.Rows.callWith_type1 (b7 (ha pos γ s σ H _ I h) fun us s1⟨vs,H1,I1,r1,q1⟩=>?_) hs rfl))
 obtain⟨j,e,q1,q2,q⟩:=q1
 subst e
 cases r1 with
 |cons r rr=>
  cases rr
  obtain⟨t,rfl⟩:=r
  exact call_range_1 (J6 I1 (by omega) (by omega) q1 q2 (by simpa using q))
noncomputable def adY(wi:TI)(g:TG)(tb:TS):TS:=fun D σ H=>wi σ H fun J H1=>∃W:Nat->Nat->St->Hp->Prop,(∃m,W 0 m σ H1)/\∀i m σ H,W i m σ H->
 (J.stop i H/\D.nx σ H)\/(J.go i H/\∃N:St->Hp->Prop,(∀ζ H',N ζ H'->∃m',m'<m/\W (i+1) m' ζ H')/\∀x H',J.yld i H x H'->g x σ H' fun ρ H2=>tb {D with nx:=N,ct:=N,bk:=D.nx} ρ H2)
noncomputable def rG(fp:List Addr)(h:Heap):List (Addr×Obj):=fp.filterMap fun b=>(h.get? b).map fun o=>(b,o)
def jc{h:Heap}{o:Obj}(hb:b∈fp)(e:h.get? b=some o):(b,o)∈rG fp h:=List.mem_filterMap.mpr ⟨b,hb,by rw[e];rfl⟩
def Hw{h:Heap}(hp:p∈rG fp h):p.1∈fp/\h.get? p.1=some p.2:=by
 obtain⟨b,hb,e⟩:=List.mem_filterMap.mp hp
 cases q:h.get? b with
 |none=>rw[q]at e;cases e
 |some o=>
  rw[q]at e
  have e':=QEq e
  subst e'
  exact⟨hb,q⟩
def Inv.pinned{σ:St}{s:Shared}(I:Inv X γ σ H s)(hf:∀b∈fp,fZ X γ H b)(ho:∀b∈fp,∃o,s.heap.get? b=some o/\∀v,o.data≠ .cell v):Inv X (γ++rG fp s.heap) σ H s:=
 I.Er fun p hp=>(QXz.mp hp).elim (fun z=>I.pin p (QVq _ z)) fun z=>by
  obtain⟨hb,e⟩:=Hw z
  obtain⟨f0,f1,f2,_⟩:=hf p.1 hb
  obtain⟨o,e',d⟩:=ho p.1 hb
  rw[e]at e';cases e'
  exact⟨e,f0,f1,f2,d⟩
def Inv.mV{σ:St}{H:Hp}(I:Inv X (γ++pl) σ H s):Inv X γ σ H s:=I.Er fun p hp=>I.pin p (QVq _ (QWz _ hp))
theorem WK{body:List Stmt}{g:TG}{pos:Pos}(hp:PassesOwn (model X.prog X.w) X.A X.env X.xe)(hc:X.calm=true)(hi:PI X tg iter wi)(hg:PG X tg g)(hb:xW X body tb)
  (hs:∀x,foldedSetIterable iter X.env x=pure x:=by intro _;rfl):PS X (.For tg iter body [] pos) (adY wi g tb):=by
 intro γ s σ H D I h
 refine wpAny_For (b7 (hi γ s σ H _ I h) fun v s1 h1=>b7 h1 fun itv s2 h2=>?_) hs
 obtain⟨it,fp,tn,J,H2,e,I2,T,st2,f2,W,⟨m0,w0⟩,turn⟩:=h2
 subst e
 have stat:∀{H':Hp},(∀b∈fp,H' b=none)->∀b∈fp,fZ X γ H' b:=fun hn b hb=>⟨hn b hb,(f2 b hb).2⟩
 refine codeAny_forLoop_any (fun n s'=>∃i ζ H',Inv X γ ζ H' s'/\tn i s'.heap/\(∀b∈fp,H' b=none)/\W i n ζ H') ?_ m0 ⟨0,σ,H2,I2,st2,fun b hb=>(f2 b hb).1,w0⟩
 rintro n s3 ⟨i,σ3,H3,I3,st3,fr3,w3⟩
 rcases turn i n σ3 H3 w3 with ⟨stop,qn⟩|⟨go,N,hN,step⟩
 ·refine wpAny_passesOwn hp (b7 (T.done X rfl rfl rfl hc i γ s3 σ3 H3 X.xe I3 (stat fr3) st3 stop) fun r s4⟨hr,I4⟩=>?_)
  subst hr
  exact wpAny_execs_nil ⟨σ3,H3,I4,qn⟩
 ·refine wpAny_passesOwn hp (b7 (T.item X rfl rfl rfl hc i γ s3 σ3 H3 X.xe I3 (stat fr3) st3 go) fun r s4⟨u,hr,h4⟩=>?_)
  subst hr
  refine wpAny_passesOwn hp (b7 h4 fun _ s5⟨x,H5,I5,r5,y5,st5,fr5⟩=>?_)
  refine wpAny_passesOwn hp (b7 (hg _ s5 σ3 H5 x u _ (I5.pinned (stat fr5) (T.obj _ _ st5)) r5 (step x H5 y5)) fun _ s6⟨σ6,H6,I6,q6⟩=>?_)
  refine wpAny_passesOwn hp (b7 (hb _ s6 σ6 H6 _ I6 q6) fun f s7 q7=>?_)
  have again:∀{σ7:St}{H7:Hp},Inv X _ σ7 H7 s7->N σ7 H7->∃m,m<n/\∃i ζ H',Inv X γ ζ H' s7/\tn i s7.heap/\(∀b∈fp,H' b=none)/\W i m ζ H':=fun{σ7 H7}I7 n7=>by
   obtain⟨m',hm,w7⟩:=hN σ7 H7 n7
   refine⟨m',hm,i+1,σ7,H7,I7.mV,T.keep _ _ _ st5 fun b hb o e=>(I7.pin (b,o) (QVq _ (QVq _ (jc hb e)))).1,fun b hb=>?_,w7⟩
   obtain⟨o,e,d⟩:=T.obj _ _ st5 b hb
   exact(I7.pin (b,o) (QVq _ (QVq _ (jc hb e)))).2.1
  cases f with
  |next=>obtain⟨σ7,H7,I7,n7⟩:=q7;exact again I7 n7
  |cont=>obtain⟨σ7,H7,I7,n7⟩:=q7;exact again I7 n7
  |brk=>obtain⟨σ7,H7,I7,q7⟩:=q7;exact⟨σ7,H7,I7.mV,q7⟩
  |ret v=>obtain⟨x7,σ7,H7,I7,r7,q7⟩:=q7;exact⟨x7,σ7,H7,I7.mV,r7,q7⟩
end
abbrev R2:=V->V->Hp->VK->Prop
def fG(X:Cx)(f:Value->Value->Sem Value)(r:R2):Prop:=
 ∀(γ:QQz)(s:Shared)(σ:St)(H:Hp)(x y:V)(v u:Value)(Q:VK),Inv X γ σ H s->RelV x v->RelV y u->r x y H Q->
  wpAny (model X.prog X.w) X.A (f v u) (EP X γ σ Q) X.xe s
def UnR(X:Cx)(f:Value->Sem Value)(r:V->Hp->VK->Prop):Prop:=
 ∀(γ:QQz)(s:Shared)(σ:St)(H:Hp)(x:V)(v:Value)(Q:VK),Inv X γ σ H s->RelV x v->r x H Q->
  wpAny (model X.prog X.w) X.A (f v) (EP X γ σ Q) X.xe s
def fV(X:Cx)(f:Value)(r:List V->Hp->VK->Prop):Prop:=
 ∀(γ:QQz)(s:Shared)(σ:St)(H:Hp)(xs:List V)(us:List Value)(Q:VK),Inv X γ σ H s->Vals xs us->r xs H Q->
  wpAny (model X.prog X.w) X.A (call f us) (EP X γ σ Q) X.xe s
def agl(X:Cx)(r:V->Hp->(Bool->Hp->Prop)->Prop):Prop:=
 ∀(γ:QQz)(s:Shared)(σ:St)(H:Hp)(x:V)(v:Value)(Q:Bool->Hp->Prop),Inv X γ σ H s->RelV x v->r x H Q->
  wpAny (model X.prog X.w) X.A (truthy v) (TP X γ σ Q) X.xe s
def Zo(r:R2)(ta tb:TE):TE:=fun σ H Q=>ta σ H fun x H1=>tb σ H1 fun y H2=>r x y H2 Q
def tUn(r:V->Hp->VK->Prop)(ta:TE):TE:=fun σ H Q=>ta σ H fun x H1=>r x H1 Q
noncomputable def rI(C:Int->Int->Prop)(g:Int->Int->V):R2:=fun x y H Q=>∃i j,x=.int i/\y=.int j/\C i j/\Q (g i j) H
def Kl(g:Int->Int->V):R2:=fun x y H Q=>∃i j,x=.int i/\y=.int j/\Q (g i j) H
def rU(g:Int->V):V->Hp->VK->Prop:=fun x H Q=>∃i,x=.int i/\Q (g i) H
section
variable{X:Cx}{a b c:Expr}{ta tb tc:TE}{pos:Pos}
def YL(ha:PE X a ta)(hb:PE X b tb){s:Shared}{σ:St}{R:V->V->Hp->Prop}(I:Inv X γ σ H s)
  (h:ta σ H fun x H1=>tb σ H1 fun y H2=>R x y H2){f:Value->Value->Sem Value}
  (hf:∀v u s2 x y H2,Inv X γ σ H2 s2->RelV x v->RelV y u->R x y H2->wpAny (model X.prog X.w) X.A (f v u) Q X.xe s2):
  wpAny (model X.prog X.w) X.A (eval a X.env) (fun v ι=>wpAny (model X.prog X.w) X.A (eval b X.env) (fun u s₂=>wpAny (model X.prog X.w) X.A (f v u) Q X.xe s₂) X.xe ι) X.xe s:=by
 exact b7 (ha γ s σ H _ I h) fun v s1⟨x,H1,I1,r1,q1⟩=>b7 (hb γ s1 σ H1 _ I1 q1) fun u s2⟨y,H2,I2,r2,q2⟩=>hf v u s2 x y H2 I2 r1 r2 q2
def uX{r:R2}(ho:fG X (binaryOp op) r)(ha:PE X a ta)(hb:PE X b tb):PE X (.BinOp a op b pos) (Zo r ta tb):=by
 intro γ s σ H Q I h
 exact wpAny_BinOp (YL ha hb I h fun v u s2 x y H2 I2 rx ry q=>ho γ s2 σ H2 x y v u Q I2 rx ry q)
def abv{r:V->Hp->VK->Prop}(ho:UnR X (unaryOp op) r)(ha:PE X a ta):PE X (.UnaryOp op a pos) (tUn r ta):=by
 intro γ s σ H Q I h
 exact UnaryOp_ (b7 (ha γ s σ H _ I h) fun v s1⟨x,H1,I1,r1,q1⟩=>ho γ s1 σ H1 x v Q I1 r1 q1)
def opI{C:Int->Int->Prop}{g:Int->Int->Int}
  (rule:∀(i j:Int)(t u:Tok)(s:Shared)(Q:QZq)(E:QZq),C i j->Q (.int (g i j) s.toks) {s with toks:=s.toks+1}->wpAny (model X.prog X.w) X.A (f (.int i t) (.int j u)) Q E s):
  fG X f (rI C fun i j=>.int (g i j)):=by
 intro γ s σ H x y v u Q I rx ry h
 obtain⟨i,j,rfl,rfl,hc,q⟩:=h
 obtain⟨t,rfl⟩:=rx
 obtain⟨t',rfl⟩:=ry
 exact rule i j t t' s _ _ hc ⟨.int _,H,I.tok _,⟨_,rfl⟩,q⟩
def abH{g:Int->Int->Int}
  (rule:∀(i j:Int)(t u:Tok)(s:Shared)(Q:QZq)(E:QZq),Q (.int (g i j) s.toks) {s with toks:=s.toks+1}->wpAny (model X.prog X.w) X.A (f (.int i t) (.int j u)) Q E s):
  fG X f (Kl fun i j=>.int (g i j)):=by
 intro γ s σ H x y v u Q I rx ry h
 obtain⟨i,j,rfl,rfl,q⟩:=h
 obtain⟨t,rfl⟩:=rx
 obtain⟨t',rfl⟩:=ry
 exact rule i j t t' s _ _ ⟨.int _,H,I.tok _,⟨_,rfl⟩,q⟩
def Rm{g:Int->Int->Bool}
  (rule:∀(i j:Int)(t u:Tok)(s:Shared)(Q:QZq)(E:QZq),Q (.bool (g i j)) s->wpAny (model X.prog X.w) X.A (f (.int i t) (.int j u)) Q E s):
  fG X f (Kl fun i j=>.bl (g i j)):=by
 intro γ s σ H x y v u Q I rx ry h
 obtain⟨i,j,rfl,rfl,q⟩:=h
 obtain⟨t,rfl⟩:=rx
 obtain⟨t',rfl⟩:=ry
 exact rule i j t t' s _ _ ⟨.bl _,H,I,rfl,q⟩
def acO(i j:Int):Prop:=0<j/\j<1073741824
def acN(i j:Int):Prop:=0<=j/\j<=1000000/\i.natAbs<2 ^64
def Td(i j:Int):Prop:=(-(2 ^64)<i/\i<2 ^64)\/(-(2 ^64)<j/\j<2 ^64)
def Td.ok(h:Td i j):IntMulOk i j:=by
 rcases h with ⟨h1,h2⟩|⟨h1,h2⟩
 ·exact .of_left (intBits_le_64 h1 h2)
 ·exact .of_right (intBits_le_64 h1 h2)
def Xe:fG X (binaryOp .Add) (Kl fun i j=>.int (i+j)):=abH fun _ _ _ _ _ _ _ q=>add_int q
def W4:fG X (binaryOp .Sub) (Kl fun i j=>.int (i-j)):=abH fun _ _ _ _ _ _ _ q=>sub_int q
def W7:fG X (binaryOp .Mult) (rI Td fun i j=>.int (i*j)):=opI fun _ _ _ _ _ _ _ hc q=>mul_int q hc.ok
def Rg:fG X (binaryOp .FloorDiv) (rI acO fun i j=>.int (i/j)):=opI fun i j _ _ _ _ _ hc q=>by
 have h1:=hc.1
 have h2:=hc.2
 exact floordiv_int (by omega) (by rw[Int.fdiv_eq_ediv_of_nonneg i (by omega)];exact q) (.inl (PyProof.noPylong_small (by omega)))
def W8:fG X (binaryOp .Mod) (rI (fun _ j=>0<j) fun i j=>.int (i%j)):=opI fun i j _ _ _ _ _ hc q=>by
 have h1:=hc
 exact mod_int' (by omega) (by rw[Int.fmod_eq_emod_of_nonneg i (by omega)];exact q)
def W5:fG X (binaryOp .Pow) (rI acN fun i j=>.int (i ^j.toNat)):=opI fun _ _ _ _ _ _ _ hc q=>pow_int_small hc.1 hc.2.1 hc.2.2 q
def unI{g:Int->Int}
  (rule:∀(i:Int)(t:Tok)(s:Shared)(Q:QZq)(E:QZq),Q (.int (g i) s.toks) {s with toks:=s.toks+1}->wpAny (model X.prog X.w) X.A (f (.int i t)) Q E s):
  UnR X f (rU fun i=>.int (g i)):=by
 intro γ s σ H x v Q I rx h
 obtain⟨i,rfl,q⟩:=h
 obtain⟨t,rfl⟩:=rx
 exact rule i t s _ _ ⟨.int (g i),H,I.tok _,⟨_,rfl⟩,q⟩
def VP:UnR X (unaryOp .USub) (rU fun i=>.int (-i)):=unI fun _ _ _ _ _ q=>neg_int q
end
noncomputable def Qm:V->V->Bool
 |.non,.non=>true|.non,.int _=>true|.int _,.non=>true|.non,.bl _=>true|.bl _,.non=>true|.non,.str _=>true|.str _,.non=>true
 |.int _,.int _=>true|.bl _,.bl _=>true|.str _,.str _=>true
 |.int _,.str _=>true|.str _,.int _=>true|.bl _,.str _=>true|.str _,.bl _=>true
 |_,_=>false
def rEq:R2:=fun x y H Q=>Qm x y=true/\Q (.bl (decide (x=y))) H
def rNe:R2:=fun x y H Q=>Qm x y=true/\Q (.bl (!decide (x=y))) H
def Gk:decide (V.int i=V.int j)=(i==j):=by
 rw[Bool.eq_iff_iff]
 simp
def Nq:decide (V.bl i=V.bl j)=(i==j):=by
 rw[Bool.eq_iff_iff]
 simp
def Gj:decide (V.str i=V.str j)=(i==j):=by
 rw[Bool.eq_iff_iff]
 simp
section
variable{X:Cx}{a b c:Expr}{ta tb tc:TE}{pos:Pos}
def bz{σ:St}{H:Hp}{Q:VK}(I:Inv X γ σ H s)(q:Q (.bl k) H)(e:k=k'):EP X γ σ Q (.bool k') s:=by
 subst e
 exact⟨.bl k,H,I,rfl,q⟩
def abF:fG X (compareOp .Eq) rEq:=by
 intro γ s σ H x y v u Q I rx ry h
 obtain⟨hs,q⟩:=h
 cases x with
 |non=>
  cases rx
  cases y with
  |non=>cases ry;exact PySem.EqNone.eq_none_none (bz I q (by simp))
  |bl j=>cases ry;exact PySem.EqNone.eq_none_bool (bz I q (by simp))
  |int j=>obtain⟨t',rfl⟩:=ry;exact PySem.EqNone.eq_none_int (bz I q (by simp))
  |str j=>obtain⟨t',rfl⟩:=ry;exact PySem.EqNone.eq_none_str (bz I q (by simp))
  |_=>exact absurd (hs) Qjz
 |bl i=>
  cases rx
  cases y with
  |non=>cases ry;exact PySem.EqNone.eq_bool_none (bz I q (by simp))
  |bl j=>cases ry;exact eq_bool (bz I q Nq)
  |str j=>obtain⟨t',rfl⟩:=ry;exact PySem.EqMixed.eq_bool_str (bz I q (by simp))
  |_=>exact absurd (hs) Qjz
 |int i=>
  obtain⟨t,rfl⟩:=rx
  cases y with
  |non=>cases ry;exact PySem.EqNone.eq_int_none (bz I q (by simp))
  |int j=>obtain⟨t',rfl⟩:=ry;exact eq_int (bz I q Gk)
  |str j=>obtain⟨t',rfl⟩:=ry;exact PySem.EqMixed.eq_int_str (bz I q (by simp))
  |_=>exact absurd (hs) Qjz
 |str i=>
  obtain⟨t,rfl⟩:=rx
  cases y with
  |non=>cases ry;exact PySem.EqNone.eq_str_none (bz I q (by simp))
  |bl j=>cases ry;exact PySem.EqMixed.eq_str_bool (bz I q (by simp))
  |int j=>obtain⟨t',rfl⟩:=ry;exact PySem.EqMixed.eq_str_int (bz I q (by simp))
  |str j=>obtain⟨t',rfl⟩:=ry;exact eq_str (bz I q Gj)
  |_=>exact absurd (hs) Qjz
 |_=>cases y<;>exact absurd (hs) Qjz
def abA:fG X (compareOp .NotEq) rNe:=by
 intro γ s σ H x y v u Q I rx ry h
 obtain⟨hs,q⟩:=h
 cases x with
 |non=>
  cases rx
  cases y with
  |non=>cases ry;exact PySem.EqNone.ne_none_none (bz I q (by simp))
  |bl j=>cases ry;exact PySem.EqNone.ne_none_bool (bz I q (by simp))
  |int j=>obtain⟨t',rfl⟩:=ry;exact PySem.EqNone.ne_none_int (bz I q (by simp))
  |str j=>obtain⟨t',rfl⟩:=ry;exact PySem.EqNone.ne_none_str (bz I q (by simp))
  |_=>exact absurd (hs) Qjz
 |bl i=>
  cases rx
  cases y with
  |non=>cases ry;exact PySem.EqNone.ne_bool_none (bz I q (by simp))
  |bl j=>cases ry;exact ne_bool (bz I q (congrArg not Nq))
  |str j=>obtain⟨t',rfl⟩:=ry;exact PySem.EqMixed.ne_bool_str (bz I q (by simp))
  |_=>exact absurd (hs) Qjz
 |int i=>
  obtain⟨t,rfl⟩:=rx
  cases y with
  |non=>cases ry;exact PySem.EqNone.ne_int_none (bz I q (by simp))
  |int j=>obtain⟨t',rfl⟩:=ry;exact ne_int (bz I q (congrArg not Gk))
  |str j=>obtain⟨t',rfl⟩:=ry;exact PySem.EqMixed.ne_int_str (bz I q (by simp))
  |_=>exact absurd (hs) Qjz
 |str i=>
  obtain⟨t,rfl⟩:=rx
  cases y with
  |non=>cases ry;exact PySem.EqNone.ne_str_none (bz I q (by simp))
  |bl j=>cases ry;exact PySem.EqMixed.ne_str_bool (bz I q (by simp))
  |int j=>obtain⟨t',rfl⟩:=ry;exact PySem.EqMixed.ne_str_int (bz I q (by simp))
  |str j=>obtain⟨t',rfl⟩:=ry;exact ne_str (bz I q (congrArg not Gj))
  |_=>exact absurd (hs) Qjz
 |_=>cases y<;>exact absurd (hs) Qjz
def abB:fG X (compareOp .Lt) (Kl fun i j=>.bl (decide (i<j))):=Rm fun _ _ _ _ _ _ _ q=>lt_int q
def abC:fG X (compareOp .LtE) (Kl fun i j=>.bl (decide (i<=j))):=Rm fun _ _ _ _ _ _ _ q=>le_int q
def abD:fG X (compareOp .Gt) (Kl fun i j=>.bl (decide (j<i))):=Rm fun _ _ _ _ _ _ _ q=>gt_int q
def abE:fG X (compareOp .GtE) (Kl fun i j=>.bl (decide (j<=i))):=Rm fun _ _ _ _ _ _ _ q=>ge_int q
def Hu:fG X (compareOp .In) (fun x y H Q=>∃i j,x=.str i/\y=.str j/\Q (.bl (!(Builtin.Str.occurrences j i 0 j.length 1).isEmpty)) H):=by
 intro γ s σ H x y v u Q I rx ry h
 obtain⟨i,j,rfl,rfl,q⟩:=h
 obtain⟨t,rfl⟩:=rx
 obtain⟨t',rfl⟩:=ry
 exact in_str (bz I q rfl)
def Xa:fG X (compareOp .Is) (fun x y H Q=>y=.non/\Q (.bl (decide (x=.non))) H):=by
 intro γ s σ H x y v u Q I rx ry h
 obtain⟨rfl,q⟩:=h
 cases ry
 refine is_none_gen (bz I q ?_)
 cases x<;>first
  |(cases rx;rfl)
  |(obtain⟨t,rfl⟩:=rx;rfl)
def Rb:fG X (compareOp .IsNot) (fun x y H Q=>y=.non/\Q (.bl (!decide (x=.non))) H):=by
 intro γ s σ H x y v u Q I rx ry h
 obtain⟨rfl,q⟩:=h
 cases ry
 refine isnot_none_gen (bz I q ?_)
 cases x<;>first
  |(cases rx;rfl)
  |(obtain⟨t,rfl⟩:=rx;rfl)
def fG.or{f:Value->Value->Sem Value}{r r':R2}(h:fG X f r)(h':fG X f r'):fG X f (fun x y H Q=>r x y H Q\/r' x y H Q):=by
 intro γ s σ H x y v u Q I rx ry q
 rcases q with q|q
 ·exact h γ s σ H x y v u Q I rx ry q
 ·exact h' γ s σ H x y v u Q I rx ry q
def Q4{r:R2}(ho:fG X (compareOp op) r)(ha:PE X a ta)(hb:PE X b tb)(hm:behindInMarks op b=false):PE X (.Compare a [op] [b] pos) (Zo r ta tb):=by
 intro γ s σ H Q I h
 exact wpAny_Compare1 (YL ha hb I h fun v u s2 x y H2 I2 rx ry q=>ho γ s2 σ H2 x y v u Q I2 rx ry q) hm
def TV(t:TE):TT:=fun σ H Q=>t σ H fun x H'=>∃k,x=.bl k/\Q k H'
def QQ{r:R2}(ho:fG X (compareOp op) r)(ha:PE X a ta)(hb:PE X b tb)(hm:behindInMarks op b=false):PT X (.Compare a [op] [b] pos) (TV (Zo r ta tb)):=by
 intro γ s σ H Q I h
 refine wpAny_isTrue_Compare1 (b7 (ha γ s σ H _ I h) fun v s1⟨x,H1,I1,r1,q1⟩=>b7 (hb γ s1 σ H1 _ I1 q1) fun u s2⟨y,H2,I2,r2,q2⟩=>
  b7 (ho γ s2 σ H2 x y v u _ I2 r1 r2 q2) fun c s3⟨z,H3,I3,r3,k,e,q3⟩=>?_) hm
 subst e
 cases r3
 exact wpAny_truthy_bool ⟨H3,I3,q3⟩
noncomputable def Av(r r':R2)(ta tb tc:TE):TE:=fun σ H Q=>ta σ H fun x H1=>tb σ H1 fun y H2=>r x y H2 fun z H3=>∃k,z=.bl k/\
 (if k=true then tc σ H3 fun w' H4=>r' y w' H4 Q else Q (.bl false) H3)
theorem K3{r r':R2}(ho:fG X (compareOp op) r)(ho':fG X (compareOp op') r')(ha:PE X a ta)(hb:PE X b tb)(hc:PE X c tc)
  (hm:lastMarks [op,op'] [b,c]=false:=by with_unfolding_all rfl):PE X (.Compare a [op,op'] [b,c] pos) (Av r r' ta tb tc):=by
 intro γ s σ H Q I h
 refine Compare_chain (b7 (ha γ s σ H _ I h) fun v s1⟨x,H1,I1,r1,q1⟩=>chain_link (b7 (hb γ s1 σ H1 _ I1 q1) fun u s2⟨y,H2,I2,r2,q2⟩=>
  b7 (ho γ s2 σ H2 x y v u _ I2 r1 r2 q2) fun d s3⟨z,H3,I3,r3,k,e,q3⟩=>?_)) hm
 subst e
 cases r3
 refine wpAny_truthy_bool ?_
 cases k with
 |false=>exact ite_ff ⟨.bl false,H3,I3,rfl,q3⟩
 |true=>exact ite_tt (chain_last (b7 (hc γ s3 σ H3 _ I3 q3) fun w' s4⟨z',H4,I4,r4,q4⟩=>ho' γ s4 σ H4 y z' u w' Q I4 r2 r4 q4))
theorem Kq{r r':R2}(ho:fG X (compareOp op) r)(ho':fG X (compareOp op') r')(ha:PE X a ta)(hb:PE X b tb)(hc:PE X c tc)
  (hm:lastMarks [op,op'] [b,c]=false:=by with_unfolding_all rfl):PT X (.Compare a [op,op'] [b,c] pos) (TV (Av r r' ta tb tc)):=by
 intro γ s σ H Q I h
 refine isTrue_chain (b7 (ha γ s σ H _ I h) fun v s1⟨x,H1,I1,r1,q1⟩=>test_link (b7 (hb γ s1 σ H1 _ I1 q1) fun u s2⟨y,H2,I2,r2,q2⟩=>
  b7 (ho γ s2 σ H2 x y v u _ I2 r1 r2 q2) fun d s3⟨z,H3,I3,r3,k,e,q3⟩=>?_)) hm
 subst e
 cases r3
 refine wpAny_truthy_bool ?_
 cases k with
 |false=>
  obtain⟨k',e',q'⟩:=q3
  cases e'
  exact ite_ff ⟨H3,I3,q'⟩
 |true=>
  refine ite_tt (test_last (b7 (hc γ s3 σ H3 _ I3 q3) fun w' s4⟨z',H4,I4,r4,q4⟩=>b7 (ho' γ s4 σ H4 y z' u w' _ I4 r2 r4 q4) fun d' s5⟨z2,H5,I5,r5,k2,e2,q5⟩=>?_))
  subst e2
  cases r5
  exact wpAny_truthy_bool ⟨H5,I5,q5⟩
def OD(K:QQq)(x:V)(H:Hp)(k:Bool):Prop:=
 match x with
 |.non=>k=false
 |.bl b=>k=b
 |.int i=>k=(i !=0)
 |.str y=>y.length<=sizeLine/\k=((y.length:Int) !=0)
 |.ref p=>(∃xs,jA K H p xs/\k= !xs.isEmpty)\/(∃xs,iQ K H p xs/\k= !xs.isEmpty)\/∃kvs,H p=some (.dK kvs)/\k= !kvs.isEmpty
 |_=>False
def Ce{kvs:List (κ×V)}{vs:List (κ×Value)}(r:KV kvs vs):(!vs.isEmpty)= !kvs.isEmpty:=by
 cases r<;>rfl
def su{its:List Value}(r:Vals xs its):(!its.toArray.isEmpty)= !xs.isEmpty:=by
 cases r<;>simp
def wN:(sizeLine:Nat)<2 ^63:=by rw[sizeLine_eq];decide
def Jw:agl X (fun x H Q=>∃k,OD X.K x H k/\Q k H):=by
 intro γ s σ H x v Q I rx h
 obtain⟨k,e,q⟩:=h
 have hs:=sizeLine_eq
 cases x with
 |non=>
  cases rx
  subst e
  exact truthy_none ⟨H,I,q⟩
 |bl b=>
  cases rx
  subst e
  exact wpAny_truthy_bool ⟨H,I,q⟩
 |int i=>
  obtain⟨t,rfl⟩:=rx
  subst e
  exact PySem.P.truthy_int ⟨H,I,q⟩
 |str y=>
  obtain⟨t,rfl⟩:=rx
  obtain⟨hy,e'⟩:y.length<=sizeLine/\k=((y.length:Int) !=0):=e
  subst e'
  exact PySem.P.truthy_str (by omega) ⟨H,I.tok _,q⟩
 |ref p=>
  cases rx
  have e':=e
  rcases e' with ⟨xs,hx,e'⟩|⟨xs,hx,e'⟩|⟨kvs,hx,e'⟩
  ·subst e'
   obtain⟨its,r,pl,hz⟩:=I.list hx
   have hlen:=r.length
   exact wpAny_truthy_list pl.isList (by simp only[Qyq];omega) ⟨H,I.tok _,by rw[su r];exact q⟩
  ·subst e'
   obtain⟨its,r,pl,hz⟩:=I.tuple hx
   have hlen:=r.length
   exact truthy_tuple pl (by simp only[Qyq];omega) ⟨H,I.tok _,by rw[su r];exact q⟩
  ·subst e'
   obtain⟨hz,hS,vs,r,m⟩:kvs.length<=sizeLine/\(p==sysModules)=false/\∃vs,KV kvs vs/\s.heap.DictOf _ p vs:=I.hok p _ hx
   have hlen:=Paired.length r
   exact wpAny_truthy_dict hS m (by omega) ⟨H,I.tok _,by rw[Ce r];exact q⟩
 |_=>exact(e).elim
def Kp(ha:PE X a ta)(he:∀whole,isTrue a X.env whole=(do let v<-whole;standAt a.pos;holding [v] (truthy v))):
  PT X a (fun σ H Q=>ta σ H fun x H'=>∃k,OD X.K x H' k/\Q k H'):=by
 intro γ s σ H Q I h
 exact isTrue_plain (b7 (ha γ s σ H _ I h) fun v s1⟨x,H1,I1,r1,q1⟩=>Jw γ s1 σ H1 x v Q I1 r1 q1) (he _)
def vals1{us:List Value}(r:Vals [x] us):∃u,us=[u]/\RelV x u:=by
 cases r with
 |cons r1 r2=>cases r2;exact⟨_,rfl,r1⟩
def I8:fV X (.type "int") (fun xs H Q=>(∃i,xs=[.int i]/\Q (.int i) H)\/∃k,xs=[.bl k]/\Q (.int (if k then 1 else 0)) H):=by
 intro γ s σ H xs us Q I r h
 rcases h with ⟨i,rfl,q⟩|⟨k,rfl,q⟩
 ·obtain⟨u,rfl,t,rfl⟩:=vals1 r
  exact call_int_int ⟨.int i,H,I,⟨_,rfl⟩,q⟩
 ·obtain⟨u,rfl,r1⟩:=vals1 r
  cases r1
  exact call_int_bool ⟨.int _,H,I.tok _,⟨_,rfl⟩,q⟩
def Y0(K:QQq)(x:V)(H:Hp)(n:Nat):Prop:=
 match x with
 |.str y=>y.length<=sizeLine/\n=y.length
 |.ref p=>(∃xs,jA K H p xs/\n=xs.length)\/∃xs,iQ K H p xs/\n=xs.length
 |_=>False
def N8:fV X (.builtin "len") (fun xs H Q=>∃x n,xs=[x]/\Y0 X.K x H n/\Q (.int n) H):=by
 intro γ s σ H xs us Q I r h
 obtain⟨x,n,rfl,e,q⟩:=h
 obtain⟨u,rfl,rx⟩:=vals1 r
 have hs:=sizeLine_eq
 cases x with
 |str y=>
  obtain⟨t,rfl⟩:=rx
  obtain⟨hy,e'⟩:y.length<=sizeLine/\n=y.length:=e
  subst e'
  exact len_str (by omega) ⟨.int _,H,I.tok _,⟨_,rfl⟩,q⟩
 |ref p=>
  cases rx
  have e':=e
  rcases e' with ⟨xs,hx,e'⟩|⟨xs,hx,e'⟩
  ·subst e'
   obtain⟨its,r',pl,hz⟩:=I.list hx
   have hlen:=r'.length
   exact Calls.call_len_list pl.isList (by simp only[Qyq];omega) ⟨.int xs.length,H,I.tok _,⟨_,by simp only[Qyq];rw[hlen]⟩,q⟩
  ·subst e'
   obtain⟨its,r',pl,hz⟩:=I.tuple hx
   have hlen:=r'.length
   exact len_tuple pl (by simp only[Qyq];omega) ⟨.int xs.length,H,I.tok _,⟨_,by simp only[Qyq];rw[hlen]⟩,q⟩
 |_=>exact(e).elim
end
section
variable{prog:Program}{w:World}{A:Around}{E:QZq}{s:Shared}{K:QQq}{x dx C f:Addr}{mA:QZz}{name:Str}{v:Value}
end
def ud.some_of{o:Option Value}(r:ud (some v) o):∃u,o=some u/\RelV v u:=by
 cases o with
 |none=>exact(r).elim
 |some u=>exact⟨u,rfl,r⟩
section
variable{P:Program}{w:World}{H H':Hp}{h h':Heap}{a C dx:Addr}{fs fs':List (Str×V)}
end
section
variable{X:Cx}{γ:QQz}{σ:St}{H:Hp}{s:Shared}{a C dx:Addr}{fs:List (Str×V)}{f:Str}{v:V}{A:Around}{E:QZq}
end
section
variable{X:Cx}{o e value:Expr}{f:Str}{pos pos' tpos:Pos}{ta tv:TE}
end
section
variable{X:Cx}{γ:QQz}{σ:St}{H:Hp}{s:Shared}{A:Around}{E:QZq}{Q:QZq}{c:Value}{b:Bool}
end
structure jD(k:Nat)(A:Around):Prop where
 hd:A.handled=none
 dp:A.depth+3*k+5<recursionLimit
 un:A.units+16*k+200<cLine
theorem jD.deeper{A:Around}(r:jD (k+1) A)env:jD k (A.deeper env):=
 ⟨r.hd,by have:=r.dp;show A.depth+1+3*k+5<_;omega,by have:=r.un;show A.units+3+16*k+200<_;omega⟩
theorem jD.in1{k:Nat}{A:Around}(r:jD (k+1) A):jD k A.in1:=
 ⟨r.hd,by have:=r.dp;show A.depth+3*k+5<_;omega,by have:=r.un;show A.units+1+16*k+200<_;omega⟩
theorem jD.depth{A:Around}(r:jD k A):A.depth<recursionLimit:=by have:=r.dp;omega
def aaH:TA:=fun _ H Q=>Q [] H
def JH(ta:TE)(tr:TA):TA:=fun σ H Q=>ta σ H fun x H1=>tr σ H1 fun xs H2=>Q (x::xs) H2
section
variable{X:Cx}{e:Expr}{es:List Expr}{te:TE}{t:TA}{pos:Pos}
def fJ:PA X [] aaH:=fun _ _ _ _ H Q I h=>Calls.spliced_nil ⟨[],H,I,.nil,h⟩
def cI(ha:PE X e te)(hr:PA X es t)(hs:starEach (e::es) X.env=(false,eval e X.env)::starEach es X.env:=by rfl):PA X (e::es) (JH te t):=by
 intro pos γ s σ H Q I h
 rw[hs]
 exact Calls.spliced_cons (b7 (ha γ s σ H _ I h) fun u s1⟨x,H1,I1,r1,q1⟩=>b7 (hr pos γ s1 σ H1 _ I1 q1) fun us s2⟨xs,H2,I2,r2,q2⟩=>⟨x::xs,H2,I2,.cons r1 r2,q2⟩)
noncomputable def adS(t:TA):TE:=fun σ H Q=>t σ H fun xs H1=>xs.length<=sizeLine/\∀p,H1 p=none->Q (.ref p) (upd H1 p (.tup xs))
noncomputable def adW(t:TA):TE:=fun σ H Q=>t σ H fun xs H1=>xs.length<=sizeLine/\∀p,H1 p=none->Q (.ref p) (upd H1 p (.lst xs))
def WN{x1}(h:PA X es t):PE X (.Tuple es x1 pos) (adS t):=by
 intro γ s σ H Q I hq
 refine wpAny_Tuple_spliced (b7 (h pos γ s σ H _ I hq) fun us s1⟨xs,H1,I1,r,z,q⟩=>⟨by rw[<-r.length];exact z,?_⟩)
 refine⟨.ref s1.heap.objs.size,upd H1 s1.heap.objs.size _,I1.laid (fun b u e=>QWq _ e) (QVz _) ?_,rfl,q _ (I1.hok.fresh (QVz _))⟩
 exact⟨z,us,r,TupOk.new _ _⟩
def WT(h:PA X es t):PE X (.List es pos) (adW t):=by
 intro γ s σ H Q I hq
 refine wpAny_List_spliced (b7 (h pos γ s σ H _ I hq) fun us s1⟨xs,H1,I1,r,z,q⟩=>⟨by rw[<-r.length];exact z,?_⟩)
 refine⟨.ref s1.heap.objs.size,upd H1 s1.heap.objs.size _,I1.laid (fun b u e=>QWq _ e) (QVz _) ?_,rfl,q _ (I1.hok.fresh (QVz _))⟩
 exact⟨z,us,0,r,Qzq _ rfl⟩
end
abbrev Sp:=List V->Hp->VK->XK->Prop
abbrev Pa:=List Env->Hp->Shared->XK->Value->Shared->Prop
structure Jf(P:Program)(w:World)(K:QQq)(mg:QZz)(base:Heap)(A:Around)(outer:List Env)(s:Shared)(H:Hp):Prop where
 frames:A.frames=some outer
 mod:Mod K mg base
 bs:∀b o,base.get? b=some o->s.heap.get? b=some o/\H b=none
 bsz:base.objs.size<=s.heap.objs.size
 mj:s.heap.FunFrames base outer
 frf:∀b∈frs outer,H b=none
 hok:pG P w H s.heap
 bare:AllBare s.gens
def CE(outer:List Env)(P:Program)(w:World)(H:Hp)(s:Shared)(Q:VK)(u:Value)(s':Shared):Prop:=
 ∃v H',s'.os=s.os/\AllBare s'.gens/\Un (frs outer) [] H H' s.heap s'.heap/\pG P w H' s'.heap/\RelV v u/\Q v H'
def CR(CX:Pa)(outer:List Env)(P:Program)(w:World)(H:Hp)(s:Shared)(Q:VK)(E:XK)(r:Result)(s':Shared):Prop:=
 match r with
 |.ok (.ret u)=>CE outer P w H s Q u s'
 |.ok _=>False
 |.error e=>CX outer H s E e s'
structure pH(P:Program)(w:World)(K:QQq)(mg:QZz)(base:Heap)(CX:Pa)(k:Nat)(f:Addr)(fd:FuncData)(ps:List Str)(sp:Sp):Prop where
 len:∀vs H Q E,sp vs H Q E->vs.length=ps.length
 run:∀(A:Around)(outer:List Env)(s:Shared)(H:Hp)(args:Args)(us:List Value)(vs:List V)(Q:VK)(E:XK),jD k A->Jf P w K mg base A outer s H->BindsTo s fd args (ps.zip us)->Vals vs us->sp vs H Q E->
  codeAny (model P w) A (.call (.ref f) args) (CR CX outer P w H s Q E) s
theorem Jf.in1{P:Program}{w:World}{K:QQq}{mg:QZz}{base:Heap}{A:Around}{outer:List Env}{s:Shared}{H:Hp}(e:Jf P w K mg base A outer s H):
  Jf P w K mg base A.in1 outer s H:=⟨e.frames,e.mod,e.bs,e.bsz,e.mj,e.frf,e.hok,e.bare⟩
section
variable{X:Cx}{γ:QQz}{σ:St}{H:Hp}{s s':Shared}
def Inv.env0(I:Inv X γ σ H s):Jf X.prog X.w X.K X.mg X.base X.A X.stack s H:=
 ⟨I.ok.frames,I.ok.mod,I.bs,Nat.le_trans I.ok.bsz I.sz,I.stack,I.DX,I.hok,I.bare⟩
def Inv.after{u:Value}(I:Inv X γ σ H s)(h:CE X.stack X.prog X.w H s Q u s'):EP X γ σ Q u s':=by
 obtain⟨v,H',os,bare,un,hok,r,q⟩:=h
 obtain⟨hh,g,d,t,os'⟩:=s'
 obtain rfl:os'=s.os:=os
 exact⟨v,H',I.call un hok bare (fun b z=>absurd z (by simp)),r,q⟩
end
noncomputable def aaM(sp:Sp)(dvs:List V)(E:XK)(t:TA):TE:=fun σ H Q=>t σ H fun vs H1=>sp (vs++dvs) H1 Q E
def Binds(K:QQq)(fd:FuncData)(ps:List Str)(ds:List Value):Prop:=
 ∀(s:Shared)(us:List Value),K.In s.heap->(us++ds).length=ps.length->BindsTo s fd ⟨us,[]⟩ (ps.zip (us++ds))
def Binds.all{K:QQq}{fd:FuncData}(h:∀us:List Value,us.length=ps.length->bindArgs fd ⟨us,[]⟩=pure (ps.zip us)):Binds K fd ps []:=fun s us _ hl=>by
 rw[List.append_nil]at hl⊢
 exact .of_eq (h us hl)
def DG(CX:Pa)(X:Cx)(E:XK):Prop:=∀(γ:QQz)(σ:St)(H:Hp)(s:Shared)(e:Value)(s':Shared),Inv X γ σ H s->CX X.stack H s E e s'->X.xe e s'
section
variable{X:Cx}{CX:Pa}{k:Nat}{f C:Addr}{fd:FuncData}{ps:List Str}{sp:Sp}{dvs:List V}{ds:List Value}{E:XK}{x m:Str}{p pos apos:Pos}{e o:Expr}{es:List Expr}{ta:TE}{t:TA}
theorem Wm{σ:St}{H:Hp}{Q:VK}{vs:List V}(F:pH X.prog X.w X.K X.mg X.base CX k f fd ps sp)(hr:jD k X.A)(hb:Binds X.K fd ps ds)(hd:Vals dvs ds)(hx:DG CX X E)
  (I:Inv X γ σ H s)(r:Vals vs us)(h:sp (vs++dvs) H Q E):wpAny (model X.prog X.w) X.A (call (.ref f) us) (EP X γ σ Q) X.xe s:=by
 have r2:=r.append hd
 refine wpAny_call (codeAny_mono (F.run X.A X.stack s H ⟨us,[]⟩ _ _ Q E hr I.env0 (hb s us I.ZC (by rw[<-r2.length];exact F.len _ _ _ _ h)) r2 h) fun r s' hq=>?_)
 cases r with
 |error e=>exact hx γ σ H s e s' I hq
 |ok fl=>
  cases fl with
  |ret u=>exact I.after hq
  |next=>exact False.elim hq
  |brk=>exact False.elim hq
  |cont=>exact False.elim hq
def Q5(F:pH X.prog X.w X.K X.mg X.base CX k f fd ps sp)(hr:jD k X.A)(hg:Gl X x)(hm:X.mg x=some (.ref f))(hk:PySem.W.keepIn X.K (.ref f)=true)(hb:Binds X.K fd ps ds)(hd:Vals dvs ds)(hx:DG CX X E)
  (ha:PA X (e::es) t)(hdb:(x==("__debug__":Str))=false:=by decide)(he:starEach (e::es) X.env=(false,eval e X.env)::starEach es X.env:=by rfl)(hpl:(backTo pos (starEach es X.env)).any (·.1)=false:=by rfl):
  PE X (.Call (.Name x p) (e::es) [] pos) (aaM sp dvs E t):=by
 intro γ s σ H Q I h
 exact wpAny_Call_Name_kw (Fv I hg hm (PySem.W.callWith_K I.ok.mod.kin hk (b7 (ha pos γ s σ H _ I h) fun us s1⟨vs,H1,I1,r,q⟩=>⟨I1.ZC,Wm F hr hb hd hx I1 r q⟩) he hpl) hdb)
end
section
variable{X:Cx}{CX:Pa}{k:Nat}{f C:Addr}{fd:FuncData}{ps ks:List Str}{sp:Sp}{E:XK}{x m:Str}{p pos apos kpos:Pos}{e o:Expr}{es:List Expr}{kws:List Keyword}{te ta:TE}{t tk:TA}{nm:Option Str}
variable{g:List Value->List Value->List Value}{gV:List V->List V->List V}
end
structure lJ(N P:List Str)(sc:Scope):Prop where
 kind:sc.kind=.function
 co:sc.isCoroutine=false
 gen:sc.isGenerator=false
 nd:N.Nodup
 pre:N.take P.length=P
 par:∀x∈P,sc.names.lookup x=some .local\/sc.names.lookup x=some .cell
 nofree:∀y∈sc.names,y.2≠ .free
theorem vR{kindOf:Str->Option NameKind}:∀{binds:List (Str×Value)}{m:QZz},(∀v,(x,v)∉binds)->bindL kindOf binds m x=m x
 |[],_,_=>rfl
 |(n,v)::r,m,h=>by
  unfold bindL
  rw[vR fun w hw=>h w (QYq _ hw)]
  split
  ·have:x≠n:=by rintro rfl;exact h v QYz
   simp[this]
  ·rfl
theorem vV{kindOf:Str->Option NameKind}:∀{binds:List (Str×Value)}{m:QZz},(∀v,(x,v)∉binds)->bindC kindOf binds m x=m x
 |[],_,_=>rfl
 |(n,v)::r,m,h=>by
  unfold bindC
  rw[vV fun w hw=>h w (QYq _ hw)]
  split
  ·rfl
  ·have:x≠n:=by rintro rfl;exact h v QYz
   simp[this]
theorem vU{kindOf:Str->Option NameKind}{x:Str}{v:Value}:∀{P:List Str}{vs:List Value}{i:Nat}{m:QZz},P.Nodup->P[i]? =some x->vs[i]? =some v->kindOf x=some .local->
  bindL kindOf (P.zip vs) m x=some v
 |[],_,_,_,_,h,_,_=>by simp at h
 |_::_,[],_,_,_,_,h,_=>by simp at h
 |p::P,w::vs,0,m,nd,h1,h2,hk=>by
  simp at h1 h2;subst h1;subst h2
  show bindL kindOf ((p,w)::P.zip vs) m p=_
  unfold bindL
  rw[vR fun v hv=>(List.nodup_cons.mp nd).1 (List.of_mem_zip hv).1,if_pos hk]
  simp
 |p::P,w::vs,i+1,m,nd,h1,h2,hk=>by
  unfold bindL
  exact vU (List.nodup_cons.mp nd).2 (by simpa using h1) (by simpa using h2) hk
theorem vW{kindOf:Str->Option NameKind}{x:Str}{v:Value}:∀{P:List Str}{vs:List Value}{i:Nat}{m:QZz},P.Nodup->P[i]? =some x->vs[i]? =some v->kindOf x≠some .local->
  bindC kindOf (P.zip vs) m x=some v
 |[],_,_,_,_,h,_,_=>by simp at h
 |_::_,[],_,_,_,_,h,_=>by simp at h
 |p::P,w::vs,0,m,nd,h1,h2,hk=>by
  simp at h1 h2;subst h1;subst h2
  show bindC kindOf ((p,w)::P.zip vs) m p=_
  unfold bindC
  rw[vV fun v hv=>(List.nodup_cons.mp nd).1 (List.of_mem_zip hv).1,if_neg hk]
  simp
 |p::P,w::vs,i+1,m,nd,h1,h2,hk=>by
  unfold bindC
  exact vW (List.nodup_cons.mp nd).2 (by simpa using h1) (by simpa using h2) hk
def start(N:List Str)(vs:List V):St:=vs.map some++List.replicate (N.length-vs.length) none
noncomputable def CQ(CX:Pa)(P:Program)(w:World)(K:QQq)(mg:QZz)(base:Heap)(N:List Str)(qual:Str)(scope:Scope)(f:Addr)(cd:Value)(A:Around)(outer:List Env)(s:Shared)(H:Hp)(E:XK):Cx where
 prog:=P
 w:=w
 K:=K
 mg:=mg
 base:=base
 A:=A.deeper (envOfC qual scope s.heap.objs.size f cd)
 N:=N
 s₀:=s
 H₀:=H
 env:=envOfC qual scope s.heap.objs.size f cd
 outer:=outer
 stack:=envOfC qual scope s.heap.objs.size f cd::outer
 ex:=[]
 calm:=true
 fn:=fun _=>true
 pn:=[]
 xe:=fun e s'=>wpAny (model P w) (A.deeper (envOfC qual scope s.heap.objs.size f cd)) (leaving (envOfC qual scope s.heap.objs.size f cd) e) (fun _ s''=>CX outer H s E e s'') (fun e' s''=>CX outer H s E e' s'') s'
def zV{sc:Scope}{n:Nat}(h:sc.names.lookup x=some .cell):∃c,(cellsFrom n sc.names []).lookup x=some c:=by
 exact Option.isSome_iff_exists.mp (PySem.W.cellsFrom_some sc.names n [] (.inl h))
def Ie{CX:Pa}{w:World}{K:QQq}{base:Heap}{qual:Str}{f:Addr}{A:Around}{s s1:Shared}{E:XK}
  (S:lJ N ps scope)(hd:A.handled=none)(e0:Jf P w K mg base A outer s H)(hl:vs.length=ps.length)(r:Vals vs us)
  (x:InCallC s s.heap.objs.size (bindL (envOfC qual scope s.heap.objs.size f cd).kindOf (ps.zip us) fun _=>none) (cellsFrom (s.heap.objs.size+1) scope.names []) (bindC (envOfC qual scope s.heap.objs.size f cd).kindOf (ps.zip us) fun _=>none) s1):
  Inv (CQ CX P w K mg base N qual scope f cd A outer s H E) [] (start N vs) H s1:=by
 have hpl:ps.length<=N.length:=by have:=congrArg List.length S.pre;rw[List.length_take]at this;omega
 obtain⟨h1,tk,rfl,hk⟩:=x.done
 have noA:∀b:Addr,b∉(CQ CX P w K mg base N qual scope f cd A outer s H E).ex:=fun b z=>absurd (show b∈([])from z) (by simp)
 refine⟨⟨e0.mod,S.kind,rfl,rfl,QVz _,fun y z c h1 h2=>?_,fun y hy=>?_,fun y c _ h=>?_,fun _=>hd,Around.frames_deeper e0.frames,.inr ⟨rfl,rfl⟩,fun b z=>absurd z (noA b),e0.bs,e0.bsz,fun b _ _=>noA b,fun b z=>absurd z (noA b),e0.mj,e0.frf⟩,
  rfl,e0.bare,Un.kept hk,⟨_,x.toInCall.ns,fun i y v h1 h2 h3=>?_⟩,fun y c h=>⟨_,x.cell y c h⟩,e0.hok.fresh (QVz _),fun y c h=>?_,fun p hp=>absurd (show p∈([])from hp) (by simp),e0.hok.kept hk,?_⟩
 ·exact name_of_addr x.apart (PySem.mem_of_lookup h1) (PySem.mem_of_lookup h2)
 ·have hy:=hy
  rcases hy with hy|hy
  ·exact zV hy
  ·exact absurd rfl (S.nofree _ (PySem.mem_of_lookup hy))
 ·exact Nat.le_of_lt (x.above y c (PySem.mem_of_lookup h))
 ·have hi:i<vs.length:=by
   unfold start at h2
   by_cases hi:i<vs.length
   ·exact hi
   ·rw[QIz (by simpa using hi)]at h2
    rw[List.getElem?_replicate]at h2
    split at h2<;>cases h2
  have ha:vs[i]? =some v:=by
   unfold start at h2
   rw[Qwz (by simpa using hi),QFz]at h2
   cases e:vs[i]? with
   |none=>rw[e]at h2;cases h2
   |some a=>rw[e]at h2;cases h2;rfl
  obtain⟨u,hu,rv⟩:=r.get ha
  have hp:ps[i]? =some y:=by
   rw[<-S.pre,List.getElem?_take_of_lt (by omega)];exact h1
  have ndP:ps.Nodup:=by rw[<-S.pre];exact S.nd.sublist (List.take_sublist _ _)
  refine⟨u,rv,?_⟩
  rcases S.par y (QBz hp)with k|k
  ·exact .inl ⟨k,vU ndP hp hu k⟩
  ·obtain⟨c,e⟩:=zV k
   refine .inr ⟨.inl k,c,e,?_⟩
   have q:=x.cell y c e
   rw[vW ndP hp hu (by show scope.names.lookup y≠_;rw[k];decide)]at q
   exact q
 ·exact e0.hok.fresh (Nat.le_of_lt (x.above y c (PySem.mem_of_lookup h)))
 ·unfold start
  show _=N.length
  rw[QTq,QAq,List.length_replicate]
  omega
def ach{CX:Pa}{w:World}{K:QQq}{base:Heap}{k:Nat}{name qual:Str}{body:List Stmt}{dV kV doc pm cdv ct oc:Value}
{N ps:List Str} (lk:K.lookup f=some ⟨oc,od,.func (PySem.W.fnOf name qual params body scope dV kV doc pm an cdv ct),osl⟩) (hcd:PySem.W.codeIn K cdv qual=true) (S:lJ N ps scope)
  (len:∀vs H Q E,sp vs H Q E->vs.length=ps.length)
  (hbody:∀(A:Around)(outer:List Env)(s:Shared)(H:Hp)(vs:List V)(Q:VK)(E:XK),jD k (A.deeper (envOfC qual scope s.heap.objs.size f cdv))->sp vs H Q E->
   ∃t,xW (CQ CX P w K mg base N qual scope f cdv A outer s H E) body t/\t {nx:=fun _ H'=>Q .non H',rt:=Q} (start N vs) H):
  pH P w K mg base CX (k+1) f (PySem.W.fnOf name qual params body scope dV kV doc pm an cdv ct) ps sp:=by
 refine⟨len,fun A outer s H args us vs Q E hr e0 hb r hsp=>?_⟩
 have hl:=len _ _ _ _ hsp
 have KX:=e0.mod.kin.keeps fun b o e=>(e0.bs b o e).1
 have lim:=e0.mod.nolimit.keeps fun b o e=>(e0.bs b o e).1
 have hkind:∀y∈ps.zip us,scope.names.lookup y.1=some .local\/(scope.names.lookup y.1=some .cell/\((cellsFrom (s.heap.objs.size+1) scope.names []).lookup y.1).isSome=true):=fun⟨n,v⟩hy=>by
  rcases S.par n (List.of_mem_zip hy).1 with q|q
  ·exact .inl q
  ·exact .inr ⟨q,PySem.W.cellsFrom_some _ _ _ (.inl q)⟩
 refine codeAny_call_function hr.depth (KX _ _ lk) rfl S.co S.gen rfl (PySem.W.codeRec_of KX hcd) (hb _ _ _ _ ?_)
 refine wpAny_newFunctionEnv_cells S.kind hkind fun env he s1 x=>?_
 subst he
 refine⟨lim.keeps x.toInCall.keep,codeAny_func ?_⟩
 obtain⟨t,ht,hq⟩:=hbody A outer s H vs Q E (hr.deeper _) hsp
 have I:Inv (CQ CX P w K mg base N qual scope f cdv A outer s H E) [] _ H s1:=Ie S hr.hd e0 hl r x
 refine QGq (ht [] s1 _ H _ I hq) (fun fl s' hs=>?_) fun e s' hs=>hs
 have fin:∀{ζ:St}{H':Hp}{v:V}{u:Value},Inv (CQ CX P w K mg base N qual scope f cdv A outer s H E) [] ζ H' s'->RelV v u->Q v H'->CE outer P w H s Q u s':=
  fun{ζ H' v u}J rv q=>⟨v,H',J.os,J.bare,J.base,J.hok,rv,q⟩
 cases fl with
 |ret u=>
  obtain⟨v,ζ,H',J,rv,q⟩:=hs
  exact fin J rv q
 |next=>
  obtain⟨ζ,H',J,q⟩:=hs
  exact fin (v:=V.non) J rfl q
 |brk=>
  obtain⟨_,_,_,q⟩:=hs
  exact False.elim q
 |cont=>
  obtain⟨_,_,_,q⟩:=hs
  exact False.elim q
section
variable{X:Cx}{x:Str}{p pos:Pos}{e:Expr}{es:List Expr}{t:TA}{id T:String}{r:List V->Hp->VK->Prop}
def tCB(r:List V->Hp->VK->Prop)(t:TA):TE:=fun σ H Q=>t σ H fun vs H1=>r vs H1 Q
def rH(hc:fV X (.builtin id) r)(hg:Gl X x)(hm:X.mg x=none)(hv:bootBuiltins x=some (.builtin id))(ha:PA X (e::es) t)(hn:x≠"__name__":=by decide)(hdb:(x==("__debug__":Str))=false:=by decide)
  (he:starEach (e::es) X.env=(false,eval e X.env)::starEach es X.env:=by rfl)(hpl:(backTo pos (starEach es X.env)).any (·.1)=false:=by rfl):PE X (.Call (.Name x p) (e::es) [] pos) (tCB r t):=by
 intro γ s σ H Q I h
 exact wpAny_Call_Name_kw (jP I hg hm hv (PyProof.Rows.callWith_builtin1 (b7 (ha pos γ s σ H _ I h) fun us s1⟨vs,H1,I1,r1,q1⟩=>hc γ s1 σ H1 vs us Q I1 r1 q1) he hpl) hn hdb)
def oM(hc:fV X (.type T) r)(hg:Gl X x)(hm:X.mg x=none)(hv:bootBuiltins x=some (.type T))(ha:PA X (e::es) t)(hn:x≠"__name__":=by decide)(hdb:(x==("__debug__":Str))=false:=by decide)
  (he:starEach (e::es) X.env=(false,eval e X.env)::starEach es X.env:=by rfl)(hpl:(backTo pos (starEach es X.env)).any (·.1)=false:=by rfl):PE X (.Call (.Name x p) (e::es) [] pos) (tCB r t):=by
 intro γ s σ H Q I h
 exact wpAny_Call_Name_kw (jP I hg hm hv (PyProof.Rows.callWith_type1 (b7 (ha pos γ s σ H _ I h) fun us s1⟨vs,H1,I1,r1,q1⟩=>hc γ s1 σ H1 vs us Q I1 r1 q1) he hpl) hn hdb)
end
end L2
namespace HT
open PySem PyProof.Rows
section
open PySem.SeqAt
open PySem.AutoSeq1 (wpAny_loadPart')
open PySem.MeetsSeq PySem.MeetsSeq2 PySem.MeetsSeq3
end
section
variable{prog:Program}{w:World}{A:Around}{E:QZq}{s:Shared}
def Su{vs ws:List Value}(ht:IsTup s.heap t vs.toArray)(hb:IsTup s.heap b ws.toArray)(hv:vs≠[])
  (h1:ws=[]->Q (.ref t) s)(h2:ws≠[]->Q (.ref s.heap.objs.size) {s with heap:=s.heap.push {cls:=.type "tuple",data:=.seq (vs++ws).toArray}})
  (hsz:vs.length+ws.length<=sizeLine):wpAny (model prog w) A (binaryOp .Add (.ref t) (.ref b)) Q E s:=by
 obtain⟨⟨cls,dd,data,sl⟩,ho,hc,n,hd⟩:=id ht
 obtain⟨⟨cls2,dd2,data2,sl2⟩,ho2,hc2,n2,hd2⟩:=id hb
 subst hc hd hc2 hd2
 have e:vs.toArray++ws.toArray=(vs++ws).toArray:=by simp
 by_cases hw:ws=[]
 ·exact concat_meets ⟨_,ho,rfl⟩ ⟨_,ho2,rfl⟩ noFill_tuple_add seq_tuple_add PySem.F.slot_tuple_add PySem.F.entry_tuple_add (PySem.F.args_tuple_add_2 _ _)
   (tuple_addW1 t b vs.toArray ws.toArray n n2 dd dd2 sl sl2 (by simpa using hv) (by simp[hw])) ⟨ho,ho2,h1 hw⟩
 ·refine concat_meets ⟨_,ho,rfl⟩ ⟨_,ho2,rfl⟩ noFill_tuple_add seq_tuple_add PySem.F.slot_tuple_add PySem.F.entry_tuple_add (PySem.F.args_tuple_add_2 _ _)
   (tuple_addW2 t b vs.toArray ws.toArray n n2 dd dd2 sl sl2 (by simpa using hv) (by simpa using hw) (by rw[Qyq,Qyq];exact hsz)) ⟨ho,ho2,?_⟩
  rw[e]
  exact h2 hw
noncomputable def fU(n d:Nat):Option Int->Nat
 |none=>d
 |some v=>if v<0 then(v+(n:Int)).toNat else min v.toNat n
def mX n d:fU n d none=d:=rfl
def Gq v(n d:Nat):(if v<0 then max (v+(n:Int)) 0 else min v (n:Int))=((fU n d (some v):Nat):Int):=by
 show(if v<0 then max (v+n) 0 else min v n)=(((if v<0 then(v+(n:Int)).toNat else min v.toNat n):Nat))
 by_cases hv:v<0
 ·simp only[if_pos hv];omega
 ·simp only[if_neg hv];omega
def Dz lo hi(n:Nat):Builtin.Slice.sliceAdjust lo hi 1 (n:Int)=(((fU n 0 lo:Nat):Int),((fU n n hi:Nat):Int)):=by
 have h1:¬(1<0):=by omega
 unfold Builtin.Slice.sliceAdjust
 refine Prod.ext ?_ ?_
 ·cases lo with
  |none=>rfl
  |some v=>exact Gq v n 0
 ·cases hi with
  |none=>rfl
  |some v=>exact Gq v n n
def Bw(i j:Nat):Builtin.Slice.slicePlaces (i:Int) (j:Int) 1=j-i:=by
 unfold Builtin.Slice.slicePlaces
 split<;>omega
def qW{o:Option Int}(p:IsPart v o)(h:Q o s):wpAny (model prog w) A (Builtin.Slice.slicePartIndex v) Q E s:=by
 cases p with
 |none=>exact slicePart_none h
 |int i t=>exact slicePart_int h
def iB{sl:Addr}{lo hi:Option Int}{n:Nat}(hs:s.heap.IsSliceOf sl vl vu .none)(pl:IsPart vl lo)(pu:IsPart vu hi)
  (h:Q (((fU n 0 lo:Nat):Int),1,fU n n hi-fU n 0 lo) s):wpAny (model prog w) A (Builtin.Slice.sliceApplied (.ref sl) (pure (n:Int))) Q E s:=by
 obtain⟨os,hos,hcs,hds⟩:=id hs
 refine QKq (QKq (QGz hos hds rfl (QKq (QGz hos hds rfl (QKq (QGz hos hds rfl (QKz ?_)))))))
 refine QKq (slicePart_none ?_)
 refine QKq (qW pl (QKq (qW pu (QKq (QKz ?_)))))
 show wpAny _ _ (match Builtin.Slice.sliceAdjust lo hi 1 n with|(lo,hi)=>pure (lo,(1:Int),Builtin.Slice.slicePlaces lo hi 1)) _ _ s
 rw[Dz lo hi n]
 show wpAny _ _ (pure ((fU n 0 lo:Int),1,Builtin.Slice.slicePlaces ((fU n 0 lo:Nat)) ((fU n n hi:Nat)) 1)) _ _ s
 rw[Bw]
 exact QKz h
def KC(xs:Array Value)(i k:Nat):((List.range k).filterMap fun(m:Nat)=>xs[((i:Int)+(m:Int)*1).toNat]?).toArray=((xs.toList.drop i).take k).toArray:=by
 have e:(fun(m:Nat)=>xs[(i+(m:Int)*1).toNat]?)=fun m=>xs[i+m]? :=by
  funext m
  have:(i+(m:Int)*1).toNat=i+m:=by omega
  rw[this]
 rw[e]
 have:=pick_run xs i k
 rw[List.filterMap_map]at this
 have e2:((fun x=>xs[x]?)∘fun x=>i+x)=fun m=>xs[i+m]? :=rfl
 rw[e2]at this
 rw[this]
theorem nC{t sl:Addr}{vl vu:Value}{lo hi:Option Int}(ht:IsTup s.heap t items)(hs:s.heap.IsSliceOf sl vl vu .none)(pl:IsPart vl lo)(pu:IsPart vu hi)
  (hw:¬(fU items.size 0 lo=0/\fU items.size items.size hi=items.size))
  (h:Q (.ref s.heap.objs.size) {s with heap:=s.heap.push {cls:=.type "tuple",data:=.seq ((items.toList.drop (fU items.size 0 lo)).take (fU items.size items.size hi-fU items.size 0 lo)).toArray}})
  (hsz:items.size<=sizeLine):wpAny (model prog w) A (getItem (.ref t) (.ref sl)) Q E s:=by
 have htake:sizeOk (.seq ((items.toList.drop (fU items.size 0 lo)).take (fU items.size items.size hi-fU items.size 0 lo)).toArray):=by
  show((items.toList.drop _).take _).toArray.size<=sizeLine
  rw[Qyq,List.length_take,List.length_drop,Array.length_toList]
  omega
 obtain⟨os,hos,hcs,hds⟩:=id hs
 unfold getItem
 try with_reducible refine Qqq ?_
 first|refine QKq _|skip
 refine QKq (wpAny_sequenceKey ht.typeIs (by decide) ?_)
 refine QKq (wpAny_callSpecial?_slot ht.typeIs PyProof.Rows.slot_tuple_getitem
  (Qzz PyProof.Rows.slot_tuple_getitem ht.typeIs entry_tuple_getitem ?_ (args_tuple_getitem _ _)))
 show wpAny _ _ (Builtin.Tuple.tupleItemsOf _>>=_) _ _ s
 refine QKq (tupleItemsOf_ ht ?_)
 refine QKq (wpAny_typeOf ⟨os,hos,hcs⟩ ?_)
 refine QKq (iB hs pl pu ?_)
 have hno:¬((((fU items.size 0 lo):Int)==0&&(1:Int)==1&&(fU items.size items.size hi-fU items.size 0 lo)==items.size)=true):=by
  intro q
  rw[QUq,QUq]at q
  have q1:=eq_of_beq q.1.1
  have q2:=eq_of_beq q.2
  exact hw ⟨by omega,by omega⟩
 show wpAny _ _ (if (((fU items.size 0 lo):Int)==0&&1==1&&_==items.size)=true then _ else _) _ _ s
 rw[if_neg hno,KC]
 first
  |exact QKq (Qjq (QKz ⟨_,rfl,QKz h⟩) htake)
  |exact QKq _
  |exact QKq (QKq _)
  |exact QKq (QKq _)
end
end HT
namespace L2
open PySem PySem.Spec PyProof.Rows
abbrev TO:=St->Hp->(Option Int->Hp->Prop)->Prop
def PO(X:Cx)(e:Option Expr)(t:TO):Prop:=
 ∀(γ:QQz)(s:Shared)(σ:St)(H:Hp)(Q:Option Int->Hp->Prop),Inv X γ σ H s->t σ H Q->
  wpAny (model X.prog X.w) X.A (evalPart e X.env) (fun u s'=>∃o H',Inv X γ σ H' s'/\IsPart u o/\Q o H') X.xe s
def Qc:TO:=fun _ H Q=>Q none H
def aaF(t:TE):TO:=fun σ H Q=>t σ H fun x H1=>∃i,x=.int i/\Q (some i) H1
section
variable{X:Cx}{e:Expr}{te:TE}{lo hi:Option Expr}{tl th:TO}{pos p2:Pos}
def QV:PO X none Qc:=by
 intro γ s σ H Q I h
 exact QKz ⟨none,H,I,.none,h⟩
def Ep(h:PE X e te):PO X (some e) (aaF te):=by
 intro γ s σ H Q I hw
 refine b7 (h γ s σ H _ I hw) fun u s1⟨x,H1,I1,r1,q1⟩=>?_
 obtain⟨i,rfl,q⟩:=q1
 obtain⟨t,rfl⟩:=r1
 exact⟨some i,H1,I1,.int i t,q⟩
def S8(X:Cx)(r:V->Option Int->Option Int->Hp->VK->Prop):Prop:=
 ∀(γ:QQz)(s:Shared)(σ:St)(H:Hp)(x:V)(v vl vu:Value)(lo hi:Option Int)(sl:Addr)(Q:VK),Inv X γ σ H s->RelV x v->s.heap.IsSliceOf sl vl vu .none->IsPart vl lo->IsPart vu hi->r x lo hi H Q->
  ∃T id,typeLookup (.type T) "__getitem__"=pure (some (.builtin id))/\s.TypeIs v T/\wpAny (model X.prog X.w) X.A (getItem v (.ref sl)) (EP X γ σ Q) X.xe s
def S8.or{r r':V->Option Int->Option Int->Hp->VK->Prop}(h:S8 X r)(h':S8 X r'):S8 X (fun x lo hi H Q=>r x lo hi H Q\/r' x lo hi H Q):=by
 intro γ s σ H x v vl vu lo hi sl Q I rx hs pl pu q
 rcases q with q|q
 ·exact h γ s σ H x v vl vu lo hi sl Q I rx hs pl pu q
 ·exact h' γ s σ H x v vl vu lo hi sl Q I rx hs pl pu q
noncomputable def tSl(r:V->Option Int->Option Int->Hp->VK->Prop)(te:TE)(tl th:TO):TE:=fun σ H Q=>te σ H fun x H1=>tl σ H1 fun l H2=>th σ H2 fun u H3=>r x l u H3 Q
def KQ(hr:S8 X r)(he:PE X e te)(hl:PO X lo tl)(hu:PO X hi th):PE X (.Subscript e (.Slice lo hi none p2) pos) (tSl r te tl th):=by
 intro γ s σ H Q I h
 refine Subscript_ (b7 (he γ s σ H _ I h) fun v s1⟨x,H1,I1,r1,q1⟩=>?_)
 refine wpAny_Slice (b7 (hl γ s1 σ H1 _ I1 q1) fun vl s2⟨l,H2,I2,pl,q2⟩=>b7 (hu γ s2 σ H2 _ I2 q2) fun vu s3⟨u,H3,I3,pu,q3⟩=>?_)
 refine QKz ?_
 obtain⟨T,id,hT,ht,hg⟩:=hr γ {s3 with heap:=s3.heap.push {cls:=.type "slice",data:=.fields #[vl,vu,.none]}} σ H3 x v vl vu l u s3.heap.objs.size Q (I3.kept fun b ob q=>QWq _ q) r1 (Heap.IsSliceOf.new ..) pl pu q3
 exact tail_any ht hT hg (by with_unfolding_all rfl)
noncomputable def xF(xs:List V)(lo hi:Option Int):List V:=(xs.drop (HT.fU xs.length 0 lo)).take (HT.fU xs.length xs.length hi-HT.fU xs.length 0 lo)
def pW xs lo hi:(xF xs lo hi).length<=xs.length:=by
 unfold xF
 rw[List.length_take,List.length_drop]
 omega
noncomputable def abf(K:QQq):V->Option Int->Option Int->Hp->VK->Prop:=fun x lo hi H Q=>∃a xs,x=.ref a/\iQ K H a xs/\
 ¬(HT.fU xs.length 0 lo=0/\HT.fU xs.length xs.length hi=xs.length)/\∀p,H p=none->Q (.ref p) (upd H p (.tup (xF xs lo hi)))
def Wf:S8 X (abf X.K):=by
 intro γ s σ H x v vl vu lo hi sl Q I rx hs pl pu h
 obtain⟨a,xs,rfl,hx,hw,q⟩:=h
 cases rx
 obtain⟨its,r,ht,hz⟩:=I.tuple hx
 have hlen:its.toArray.size=xs.length:=by rw[Qyq];exact r.length.symm
 refine⟨"tuple",_,PyProof.Rows.slot_tuple_getitem.lookup,ht.typeIs,?_⟩
 refine HT.nC ht hs pl pu (by rw[hlen];exact hw) ?_ (by rw[hlen];exact hz)
 rw[hlen]
 refine⟨.ref s.heap.objs.size,_,I.laid (fun b ob q=>QWq _ q) (QVz _) ?_,rfl,q _ (I.hok.fresh (QVz _))⟩
 exact⟨Nat.le_trans (pW xs lo hi) hz,_,(r.drop _).take _,TupOk.new _ _⟩
noncomputable def abp(K:QQq):R2:=fun x y H Q=>∃a b xs ys,x=.ref a/\y=.ref b/\iQ K H a xs/\iQ K H b ys/\xs≠[]/\xs.length+ys.length<=sizeLine/\
 (ys=[]->Q (.ref a) H)/\(ys≠[]->∀p,H p=none->Q (.ref p) (upd H p (.tup (xs++ys))))
def Vals.bj{us:List Value}(r:Vals xs us):us=[]↔xs=[]:=by
 cases r with
 |nil=>simp
 |cons _ _=>simp
def Rh:fG X (binaryOp .Add) (abp X.K):=by
 intro γ s σ H x y v u Q I rx ry h
 obtain⟨a,b,xs,ys,rfl,rfl,ha,hb,hx,hz,q1,q2⟩:=h
 cases rx
 cases ry
 obtain⟨its,r1,p1,_⟩:=I.tuple ha
 obtain⟨its2,r2,p2,_⟩:=I.tuple hb
 refine HT.Su p1 p2 (fun z=>hx (r1.bj.mp z)) (fun z=>⟨.ref a,H,I,rfl,q1 (r2.bj.mp z)⟩) (fun z=>?_) (by rw[<-r1.length,<-r2.length];exact hz)
 refine⟨.ref s.heap.objs.size,_,I.laid (fun b ob q=>QWq _ q) (QVz _) ?_,rfl,q2 (fun w=>z (r2.bj.mpr w)) _ (I.hok.fresh (QVz _))⟩
 exact⟨by rw[QTq];exact hz,_,r1.append r2,TupOk.new _ _⟩
end
noncomputable def RD(n:Nat)(i:Int):Option Nat:=if 0<=i then(if i<n then some i.toNat else none)else if-(n:Int)<=i then some (i+n).toNat else none
def YQ{α:Type}(xs:List α)(i:Int):Option α:=(RD xs.length i).bind fun j=>xs[j]?
def FJ{i:Int}(h:RD n i=some j):seqIndex? i n=some j/\j<n/\ -(n:Int)<=i/\i<n:=by
 unfold RD at h
 by_cases h0:0<=i
 ·rw[if_pos h0]at h
  by_cases h1:i<n
  ·rw[if_pos h1]at h
   have e:=QEq h
   exact⟨by rw[seqIndex_of h0 h1,e],by omega,by omega,h1⟩
  ·rw[if_neg h1]at h;cases h
 ·rw[if_neg h0]at h
  by_cases h1: -n<=i
  ·rw[if_pos h1]at h
   have e:=QEq h
   exact⟨by rw[seqIndex_neg (by omega) h1,e],by omega,h1,by omega⟩
  ·rw[if_neg h1]at h;cases h
def xT{xs:List α}{v:α}(h:YQ xs i=some v):∃j,seqIndex? i xs.length=some j/\xs[j]? =some v/\j<xs.length/\ -(xs.length:Int)<=i/\i<xs.length:=by
 unfold YQ at h
 cases e:RD xs.length i with
 |none=>rw[e]at h;cases h
 |some j=>
  rw[e]at h
  obtain⟨h1,h2,h3,h4⟩:=FJ e
  exact⟨j,h1,h,h2,h3,h4⟩
def xV(b:Expr):Prop:=∀o i,subscripted b false o i=operate [o,i] (getItem o i)
def Ji(X:Cx)(r:R2):Prop:=
 ∀(value slice:Expr)(γ:QQz)(s:Shared)(σ:St)(H:Hp)(x y:V)(v u:Value)(Q:VK),Inv X γ σ H s->RelV x v->RelV y u->r x y H Q->
  subscripted slice false v u=operate [v,u] (getItem v u)->wpAny (model X.prog X.w) X.A (subscriptTail value slice v u) (EP X γ σ Q) X.xe s
def Vm(X:Cx)(id:String)(r:V->List V->Hp->VK->Prop):Prop:=
 ∀(γ:QQz)(s:Shared)(σ:St)(H:Hp)(x:V)(xs:List V)(v:Value)(us:List Value)(Q:VK),Inv X γ σ H s->RelV x v->Vals xs us->r x xs H Q->
  wpAny (model X.prog X.w) X.A (call (.builtin id) (v::us)) (EP X γ σ Q) X.xe s
section
variable{X:Cx}{a b:Expr}{ta tb:TE}{pos:Pos}
def Ji.or{r r':R2}(h:Ji X r)(h':Ji X r'):Ji X (fun x y H Q=>r x y H Q\/r' x y H Q):=by
 intro value slice γ s σ H x y v u Q I rx ry q hs
 rcases q with q|q
 ·exact h value slice γ s σ H x y v u Q I rx ry q hs
 ·exact h' value slice γ s σ H x y v u Q I rx ry q hs
def Uq(hr:Ji X r)(ha:PE X a ta)(hb:PE X b tb)(hs:xV b):PE X (.Subscript a b pos) (Zo r ta tb):=by
 intro γ s σ H Q I h
 exact Subscript_ (YL ha hb I h fun v u s2 x y H2 I2 rx ry q=>hr a b γ s2 σ H2 x y v u Q I2 rx ry q (hs _ _))
noncomputable def Wv(K:QQq):R2:=fun x y H Q=>∃p xs i v,x=.ref p/\y=.int i/\jA K H p xs/\YQ xs i=some v/\Q v H
noncomputable def Wu(K:QQq):R2:=fun x y H Q=>∃p xs i v,x=.ref p/\y=.int i/\iQ K H p xs/\YQ xs i=some v/\Q v H
noncomputable def Kd:R2:=fun x y H Q=>∃z i c,x=.str z/\y=.int i/\z.length<=sizeLine/\YQ z.cps.toList i=some c/\Q (.str ⟨#[c]⟩) H
def Fz:Ji X (Wv X.K):=by
 intro value slice γ s σ H x y v u Q I rx ry h hs
 obtain⟨p,xs,i,z,rfl,rfl,hq,he,q⟩:=h
 cases rx
 obtain⟨t,rfl⟩:=ry
 obtain⟨its,r,pl,hz⟩:=I.list hq
 obtain⟨j,h1,h2,h3,h4,h5⟩:=xT he
 obtain⟨w,ew,rw'⟩:=r.get h2
 have hl:=r.length
 have hn:=wN
 have fin:EP X γ σ Q w s:=⟨z,H,I,rw',q⟩
 by_cases h0:0<=i
 ·have hj:i.toNat=j:=by
   rw[seqIndex_of h0 h5]at h1
   exact QEq h1
  exact item_listR pl.isList h0 (by omega) (by rw[hj];simpa using ew) fin hs
 ·have hj:(i+its.toArray.size).toNat=j:=by
   rw[seqIndex_neg (by omega) h4]at h1
   rw[Qyq,<-hl]
   exact QEq h1
  exact subscriptTail_builtinR pl.isList.typeIs slot_list_getitem.lookup
   (wpAny_getItem_list_neg pl.isList (by omega) (by rw[Qyq]<;>omega) (by omega) (by rw[hj];simpa using ew) ⟨rfl,fin⟩) hs
def LK:Ji X (Wu X.K):=by
 intro value slice γ s σ H x y v u Q I rx ry h hs
 obtain⟨p,xs,i,z,rfl,rfl,hq,he,q⟩:=h
 cases rx
 obtain⟨t,rfl⟩:=ry
 obtain⟨its,r,pl,hz⟩:=I.tuple hq
 obtain⟨j,h1,h2,h3,h4,h5⟩:=xT he
 obtain⟨w,ew,rw'⟩:=r.get h2
 have hn:=wN
 exact subscriptTail_builtinR pl.typeIs slot_tuple_getitem.lookup
  (getItem_tuple pl (by omega) (by omega) (by rw[Qyq,<-r.length];exact h1) (by simpa using ew) ⟨rfl,⟨z,H,I,rw',q⟩⟩) hs
def XF:Ji X Kd:=by
 intro value slice γ s σ H x y v u Q I rx ry h hs
 obtain⟨z,i,c,rfl,rfl,hz,he,q⟩:=h
 obtain⟨t,rfl⟩:=rx
 obtain⟨t',rfl⟩:=ry
 obtain⟨j,h1,h2,h3,h4,h5⟩:=xT he
 have hl:z.cps.toList.length=z.length:=by simp[Str.length]
 rw[hl]at h1 h4 h5
 have hn:=wN
 exact tail_any (typeIs_str s z t) slot_str_getitem.lookup (getItem_str (c:=c) (by
  have e1:decide (i< -(2 ^63:Int))=false:=QEz (by omega)
  have e2:decide (i>=2 ^63)=false:=QEz (by omega)
  rw[e1,e2,Bool.or_false]) (by rw[h1];simpa using h2) ⟨.str ⟨#[c]⟩,H,I.tok _,⟨_,rfl⟩,q⟩) hs
def rIx(K:QQq):R2:=fun x y H Q=>Wv K x y H Q\/Wu K x y H Q\/Kd x y H Q
def LQ:Ji X (rIx X.K):=Fz.or (LK.or XF)
def BW(its:List Value)n j u:Obj.mapSeq (·.setIfInBounds j u) {cls:=.type "list",data:=.seq its.toArray n}={cls:=.type "list",data:=.seq (its.set j u).toArray n}:=by
 simp[Obj.mapSeq]
theorem Inv.lst{γ:QQz}{σ:St}{H:Hp}{s:Shared}{p:Addr}{xs:List V}(I:Inv X γ σ H s)(h:H p=some (.lst xs)):
  ∃(its:List Value)(n:Nat),Vals xs its/\s.heap.get? p=some {cls:=.type "list",data:=.seq its.toArray n}/\xs.length<=sizeLine:=by
 obtain⟨z,its,n,r,e⟩:=I.hok p _ h
 exact⟨its,n,r,e,z⟩
def Inv.Xm{σ:St}{H:Hp}{p:Addr}{its its':List Value}{n n':Nat}(I:Inv X γ σ H s)(h:H p=some (.lst xs))
  (ho:s.heap.get? p=some {cls:=.type "list",data:=.seq its.toArray n})(hf:f {cls:=.type "list",data:=.seq its.toArray n}={cls:=.type "list",data:=.seq its'.toArray n'})(r:Vals ys its')(hz:ys.length<=sizeLine)t:
  Inv X γ σ (upd H p (.lst ys)) {s with heap:=s.heap.update p f,toks:=t}:=by
 have e:(s.heap.update p f).get? p=some {cls:=.type "list",data:=.seq its'.toArray n'}:=by
  rw[Heap.get?_update_self f ho (by rw[hf]<;>rfl),hf]
 refine I.write (by rw[h];trivial) (.inl rfl) (fun b u hb q=>(Heap.get?_update_other _ _ (Ne.symm hb)).trans q) ⟨_,e⟩ ?_
 exact⟨hz,its',n',r,e⟩
noncomputable def Ud:V->V->V->Hp->(Hp->Prop)->Prop:=fun o i v H Q=>∃p xs k j,o=.ref p/\i=.int k/\H p=some (.lst xs)/\RD xs.length k=some j/\Q (upd H p (.lst (xs.set j v)))
def set_list:O3 X Ud:=by
 intro γ s σ H o i v ov iv u Q I ro ri rv h
 obtain⟨p,xs,k,j,rfl,rfl,hp,hj,q⟩:=h
 cases ro
 obtain⟨t,rfl⟩:=ri
 obtain⟨its,n,r,ho,hz⟩:=I.lst hp
 obtain⟨h1,h2,h3,h4⟩:=FJ hj
 have hl:=r.length
 have hn:=wN
 have I':=
  I.Xm hp ho (BW its n j u) (r.set rv j) (by rw[List.length_set];exact hz) s.toks
 by_cases h0:0<=k
 ·have hk:k.toNat=j:=by
   rw[seqIndex_of h0 h4]at h1
   exact QEq h1
  exact PySem.W.ki_setAt ho h0 (by omega) (by rw[Qyq,<-hl];exact h4) (by rw[hk];exact⟨_,I',q⟩)
 ·have hk:(k+its.toArray.size).toNat=j:=by
   rw[seqIndex_neg (by omega) h3]at h1
   rw[Qyq,<-hl]
   exact QEq h1
  exact PySem.W.ki_setBack ho (by omega) (by rw[Qyq,<-hl];exact h3) (by omega) (by rw[hk];exact⟨_,I',q⟩)
def wk lo hi n:(sliceBounds lo hi none n).1=((HT.fU n 0 lo:Nat):Int)/\(sliceBounds lo hi none n).2.1=((HT.fU n n hi:Nat):Int)/\(sliceBounds lo hi none n).2.2=1:=by
 refine⟨?_,?_,rfl⟩
 ·cases lo with
  |none=>simp[sliceBounds,HT.fU]
  |some i=>
   simp only[sliceBounds,HT.fU,Option.getD_none,show 1>0 by decide,if_true]
   by_cases h:i<0
   ·simp only[h,if_true]<;>omega
   ·simp only[h,if_false]<;>omega
 ·cases hi with
  |none=>simp[sliceBounds,HT.fU]
  |some i=>
   simp only[sliceBounds,HT.fU,Option.getD_none,show 1>0 by decide,if_true]
   by_cases h:i<0
   ·simp only[h,if_true]<;>omega
   ·simp only[h,if_false]<;>omega
def uh(its:List Value)lo hi:slicePick its.toArray lo hi none=((its.drop (HT.fU its.length 0 lo)).take (HT.fU its.length its.length hi-HT.fU its.length 0 lo)).toArray:=by
 obtain⟨h1,h2,h3⟩:=wk lo hi its.toArray.size
 unfold slicePick
 rw[h1,h2,h3]
 simp only[sliceRange_one,pick_run,Qyq]<;>rfl
noncomputable def abg(K:QQq):V->Option Int->Option Int->Hp->VK->Prop:=fun x lo hi H Q=>∃a xs,x=.ref a/\jA K H a xs/\∀p,H p=none->Q (.ref p) (upd H p (.lst (xF xs lo hi)))
def Qg:S8 X (abg X.K):=by
 intro γ s σ H x v vl vu lo hi sl Q I rx hs pl pu h
 obtain⟨a,xs,rfl,hx,q⟩:=h
 cases rx
 obtain⟨its,r,ht,hz⟩:=I.list hx
 have hlen:=r.length
 refine⟨"list",_,slot_list_getitem.lookup,ht.isList.typeIs,?_⟩
 refine wpAny_getItem_list_slice ht.isList hs pl pu .none (by simp) ?_ (by rw[Qyq]<;>omega)
 rw[uh,<-hlen]
 refine⟨.ref s.heap.objs.size,_,I.laid (fun b ob q=>QWq _ q) (QVz _) ?_,rfl,q _ (I.hok.fresh (QVz _))⟩
 exact⟨Nat.le_trans (pW xs lo hi) hz,_,0,(r.drop _).take _,Qzq _ rfl⟩
def jy:V->Bool
 |.non=>true
 |.bl _=>true
 |.int _=>true
 |.str _=>true
 |_=>false
noncomputable def Nf:V->V->Bool
 |.non,.non=>true
 |.bl a,.bl b=>a==b
 |.bl a,.int b=>(if a then 1 else 0)==b
 |.int a,.bl b=>a==(if b then 1 else 0)
 |.int a,.int b=>a==b
 |.str a,.str b=>a==b
 |_,_=>false
def Yz{s:Shared}{u v:Value}(ry:RelV y u)(rx:RelV x v)(fy:jy y=true)(fx:jy x=true):SeqAt.EqAt A s u v (Nf y x):=by
 cases y with
 |non=>
  cases ry
  cases x with
  |non=>cases rx;exact SeqAt.EqAt.same _
  |bl b=>cases rx;exact SeqAt.EqAt.none_bool b
  |int b=>obtain⟨t,rfl⟩:=rx;exact SeqAt.EqAt.none_int b t
  |str b=>obtain⟨t,rfl⟩:=rx;exact SeqAt.EqAt.none_str b t
  |_=>exact absurd (fx) Qjz
 |bl a=>
  cases ry
  cases x with
  |non=>cases rx;exact SeqAt.EqAt.bool_none a
  |bl b=>cases rx;exact SeqAt.EqAt.bool_bool a b
  |int b=>obtain⟨t,rfl⟩:=rx;exact SeqAt.EqAt.bool_int a b t
  |str b=>obtain⟨t,rfl⟩:=rx;exact SeqAt.EqAt.bool_str a b t
  |_=>exact absurd (fx) Qjz
 |int a=>
  obtain⟨t',rfl⟩:=ry
  cases x with
  |non=>cases rx;exact SeqAt.EqAt.int_none a t'
  |bl b=>cases rx;exact SeqAt.EqAt.int_bool a t' b
  |int b=>obtain⟨t,rfl⟩:=rx;exact SeqAt.EqAt.int_int a t' b t
  |str b=>obtain⟨t,rfl⟩:=rx;exact SeqAt.EqAt.int_str a t' b t
  |_=>exact absurd (fx) Qjz
 |str a=>
  obtain⟨t',rfl⟩:=ry
  cases x with
  |non=>cases rx;exact SeqAt.EqAt.str_none a t'
  |bl b=>cases rx;exact SeqAt.EqAt.str_bool a t' b
  |int b=>obtain⟨t,rfl⟩:=rx;exact SeqAt.EqAt.str_int a t' b t
  |str b=>obtain⟨t,rfl⟩:=rx;exact SeqAt.EqAt.str_str a t' b t
  |_=>exact absurd (fx) Qjz
 |_=>exact absurd (fy) Qjz
noncomputable def Vc(x:V)(u:Value):Bool:=match u with
 |.none=>Nf .non x
 |.bool b=>Nf (.bl b) x
 |.int i _=>Nf (.int i) x
 |.str z _=>Nf (.str z) x
 |_=>false
def Cy{u:Value}(r:RelV y u)(f:jy y=true):Vc x u=Nf y x:=by
 cases y with
 |non=>cases r;rfl
 |bl b=>cases r;rfl
 |int i=>obtain⟨t,rfl⟩:=r;rfl
 |str z=>obtain⟨t,rfl⟩:=r;rfl
 |_=>exact absurd (f) Qjz
theorem nR{x:V}:∀{xs:List V}{us:List Value},Vals xs us->xs.all jy=true->us.any (Vc x)=xs.any fun y=>Nf y x
 |_,_,.nil=>fun _=>rfl
 |y::xs,u::us,.cons r t=>fun f=>by
  rw[List.all_cons,QUq]at f
  rw[List.any_cons,List.any_cons,Cy r f.1,nR t f.2]
theorem gr{A:Around}{s:Shared}{x:V}{v:Value}(rx:RelV x v)(fx:jy x=true):∀{xs:List V}{us:List Value},Vals xs us->xs.all jy=true->∀u∈us,SeqAt.EqAt A s u v (Vc x u)
 |_,_,.nil=>fun _=>fun u hu=>by cases hu
 |y::xs,u::us,.cons r t=>fun f=>fun u' hu=>by
  rw[List.all_cons,QUq]at f
  rcases QCq.mp hu with rfl|hu
  ·rw[Cy r f.1];exact Yz r rx f.1 fx
  ·exact gr rx fx t f.2 u' hu
def inV(x:V)(xs:List V):Bool:=xs.any fun y=>Nf y x
noncomputable def rIn(K:QQq)(neg:Bool):R2:=fun x y H Q=>∃p xs,y=.ref p/\(jA K H p xs\/iQ K H p xs)/\jy x=true/\xs.all jy=true/\Q (.bl (if neg then !inV x xs else inV x xs)) H
def Hv:fG X (compareOp .In) (rIn X.K false):=by
 intro γ s σ H x y v u Q I rx ry h
 obtain⟨p,xs,rfl,hq,fx,fs,q⟩:=h
 cases ry
 rcases hq with hq|hq
 ·obtain⟨its,r,pl,hz⟩:=I.list hq
  refine SeqAt.in_listAt _ pl.isList (fun w hw=>gr rx fx r fs w (by simpa using hw)) ⟨.bl _,H,I,rfl,?_⟩
  rw[show its.toArray.any _=its.any (Vc x) by simp,nR r fs]
  exact q
 ·obtain⟨its,r,pl,hz⟩:=I.tuple hq
  refine SeqAt.in_tupleAt _ pl (fun w hw=>gr rx fx r fs w (by simpa using hw)) ⟨.bl _,H,I,rfl,?_⟩
  rw[show its.toArray.any _=its.any (Vc x) by simp,nR r fs]
  exact q
def wH:fG X (compareOp .NotIn) (rIn X.K true):=by
 intro γ s σ H x y v u Q I rx ry h
 obtain⟨p,xs,rfl,hq,fx,fs,q⟩:=h
 cases ry
 rcases hq with hq|hq
 ·obtain⟨its,r,pl,hz⟩:=I.list hq
  refine SeqAt.notIn_listAt _ pl.isList (fun w hw=>gr rx fx r fs w (by simpa using hw)) ⟨.bl _,H,I,rfl,?_⟩
  rw[show its.toArray.any _=its.any (Vc x) by simp,nR r fs]
  exact q
 ·obtain⟨its,r,pl,hz⟩:=I.tuple hq
  refine SeqAt.notIn_tupleAt _ pl (fun w hw=>gr rx fx r fs w (by simpa using hw)) ⟨.bl _,H,I,rfl,?_⟩
  rw[show its.toArray.any _=its.any (Vc x) by simp,nR r fs]
  exact q
def xM:fV X (.type "list") (fun xs H Q=>∃p ys,xs=[.ref p]/\(jA X.K H p ys\/iQ X.K H p ys)/\∀l,H l=none->Q (.ref l) (upd H l (.lst ys))):=by
 intro γ s σ H xs us Q I r h
 obtain⟨p,ys,rfl,hq,q⟩:=h
 obtain⟨u,rfl,rx⟩:=vals1 r
 cases rx
 have fin:∀its,Vals ys its->ys.length<=sizeLine->∀h' c',_->
   h'.get? s.heap.objs.size=some {cls:=.type "list",dict:=none,data:=.seq its.toArray c',slots:= #[]}->EP X γ σ Q _ {s with heap:=h'}:=fun its r' hz h' c' kp e=>
  ⟨.ref s.heap.objs.size,_,I.laid kp (QVz _) (show cA X.prog X.w _ h' _ (.lst ys)from⟨hz,its,c',r',e⟩),rfl,q _ (I.hok.fresh (QVz _))⟩
 rcases hq with hq|hq
 ·obtain⟨its,r',pl,hz⟩:=I.list hq
  have hlen:=r'.length
  obtain⟨o,ho,hc,n,hd⟩:=pl.isList
  exact call_list_seq p (.inl rfl) ho hc hd (fun h' c' kp e=>fin its r' hz h' c' kp e) (by simp only[Qyq]<;>omega)
 ·obtain⟨its,r',pl,hz⟩:=I.tuple hq
  have hlen:=r'.length
  obtain⟨o,ho,hc,n,hd⟩:=pl
  exact call_list_seq p (.inr rfl) ho hc hd (fun h' c' kp e=>fin its r' hz h' c' kp e) (by simp only[Qyq]<;>omega)
def uB:fV X (.type "tuple") (fun xs H Q=>∃p ys,xs=[.ref p]/\((jA X.K H p ys/\∀l,H l=none->Q (.ref l) (upd H l (.tup ys)))\/(iQ X.K H p ys/\Q (.ref p) H))):=by
 intro γ s σ H xs us Q I r h
 obtain⟨p,ys,rfl,h⟩:=h
 obtain⟨u,rfl,rx⟩:=vals1 r
 cases rx
 rcases h with ⟨hq,q⟩|⟨hq,q⟩
 ·obtain⟨its,r',pl,hz⟩:=I.list hq
  have hlen:=r'.length
  refine call_tuple_list pl.isList (fun h' kp=>?_) (by simp only[Qyq]<;>omega)
  have I1:=I.kept (t':=s.toks) kp
  have I2:=
   I1.laid (t':=s.toks) (fun b o e=>QWq _ e) (QVz _) (show cA X.prog X.w _ _ _ (.tup ys)from⟨hz,its,r',TupOk.new _ _⟩)
  exact⟨.ref h'.objs.size,_,I2,rfl,q _ (I1.hok.fresh (QVz _))⟩
 ·obtain⟨its,r',pl,hz⟩:=I.tuple hq
  exact call_tuple_same pl ⟨.ref p,H,I,rfl,q⟩
def tyV(K:QQq)(T:String)(x:V)(H:Hp):Prop:=match x with
 |.str _=>T="str"
 |.int _=>T="int"
 |.ref p=>(T="list"/\∃xs,jA K H p xs)\/(T="tuple"/\∃o,K.lookup p=some o/\o.cls=.type "tuple"/\o.dict=none)
 |_=>False
theorem VR{σ:St}{H:Hp}{T:String}{x:V}(I:Inv X γ σ H s)(r:RelV x v)(ty:tyV X.K T x H):
  s.TypeIs v T/\∀a,v=.ref a->∃ob,s.heap.get? a=some ob/\ob.dict=none:=by
 cases x with
 |str z=>
  obtain⟨t,rfl⟩:=r
  cases (ty)
  exact⟨typeIs_str s z t,fun _ e=>nomatch e⟩
 |int i=>
  obtain⟨t,rfl⟩:=r
  cases (ty)
  exact⟨typeIs_int s i t,fun _ e=>nomatch e⟩
 |ref p=>
  cases r
  rcases ty with ⟨rfl,xs,hq⟩|⟨rfl,o,hk,hc,hd⟩
  ·obtain⟨its,_,pl,_⟩:=I.list hq
   refine⟨pl.isList.typeIs,fun a e=>?_⟩
   cases e
   obtain⟨o,n,e,c,hd,_⟩:=pl
   exact⟨o,e,hd⟩
  ·refine⟨⟨o,I.ZC p o hk,hc⟩,fun a e=>?_⟩
   cases e
   exact⟨o,I.ZC _ o hk,hd⟩
 |_=>exact False.elim ty
noncomputable def tBM(K:QQq)(T:String)(r:V->List V->Hp->VK->Prop)(to:TE)(t:TA):TE:=fun σ H Q=>to σ H fun x H1=>tyV K T x H1/\t σ H1 fun xs H2=>r x xs H2 Q
variable{o e:Expr}{es:List Expr}{to:TE}{t:TA}{name:Str}{apos cpos:Pos}{T id:String}{r:V->List V->Hp->VK->Prop}
def abx(pa:PlainAttrs T)(slot:Slot T name id)(hty:typeOf (.builtin id)=pure (.type "method_descriptor"))(hm:Vm X id r)(ho:PE X o to)(ha:PA X (e::es) t)
  (hbase:attributeBase o name X.env (eval o X.env)=eval o X.env:=by rfl)
  (hfew:((backTo cpos (starEach (e::es) X.env)).all (fun x=> !x.1)&&(backToKw cpos (keywordEach [] X.env)).all (fun x=>x.1.isSome)
   &&decide ((e::es).length+([]:List Keyword).length+(if ([]:List Keyword).isEmpty then 0 else 1)<30))=true:=by rfl)
  (hline:(apos.endLine==cpos.line)=true:=by rfl)(hs:starEach (e::es) X.env=(false,eval e X.env)::starEach es X.env:=by rfl)(hplain:(backTo cpos (starEach es X.env)).any (·.1)=false:=by rfl):
  PE X (.Call (.Attribute o name apos) (e::es) [] cpos) (tBM X.K T r to t):=by
 intro γ s σ H Q I h
 refine wpAny_Call_method_late hbase hfew hline rfl (b7 (ho γ s σ H _ I h) fun v s1⟨x,H1,I1,r1,ty,q1⟩=>?_)
 obtain⟨h1,h2⟩:=VR I1 r1 ty
 refine⟨T,id,pa,slot,hty,h1,h2,?_⟩
 have hA:=ha cpos γ s1 σ H1 _ I1 q1
 rw[hs]at hA⊢
 exact Calls.callWith_builtin (by show(false||(backTo cpos _).any (·.1))=false;rw[hplain]<;>rfl) (Calls.evalArgs_plain (b7 hA fun us s2⟨vs,H2,I2,r2,q2⟩=>hm γ s2 σ H2 x vs v us Q I2 r1 r2 q2))
end
def MtM(X:Cx)(id:String)(r:V->List V->Hp->VK->Prop):Prop:=
 ∀(γ:QQz)(s:Shared)(σ:St)(H:Hp)(x:V)(xs:List V)(v:Value)(us:List Value)(Q:VK),Inv X γ σ H s->RelV x v->Vals xs us->r x xs H Q->
  wpAny (model X.prog X.w) X.A (call (.builtin id) (v::us)) (EP X γ σ Q) X.xe s
theorem Vals.one:∀{x:V}{us:List Value},Vals [x] us->∃u,us=[u]/\RelV x u
 |_,_,.cons r .nil=>⟨_,rfl,r⟩
theorem Vals.two:∀{x y:V}{us:List Value},Vals [x,y] us->∃u v,us=[u,v]/\RelV x u/\RelV y v
 |_,_,_,.cons r (.cons q .nil)=>⟨_,_,rfl,r,q⟩
theorem Vals.eraseIdx:∀{xs:List V}{us:List Value}(i:Nat),Vals xs us->Vals (xs.eraseIdx i) (us.eraseIdx i)
 |_,_,_,.nil=>.nil
 |_,_,0,.cons _ t=>t
 |_,_,i+1,.cons r t=>.cons r (Vals.eraseIdx i t)
theorem vo{α:Type}:∀(l:List α)(i:Nat),(l.eraseIdx i).length<=l.length
 |[],_=>QVz _
 |_::_,0=>Nat.le_succ _
 |_::r,i+1=>Nat.succ_le_succ (vo r i)
section
variable{X:Cx}{γ:QQz}{σ:St}{H:Hp}{s:Shared}{l b:Addr}{xs ys zs:List V}
def Inv.Xo{its its':List Value}{n:Nat}{t':Nat}(I:Inv X γ σ H s)(hH:H l=some (.lst xs))
  (e:s.heap.get? l=some {cls:=.type "list",data:=.seq its.toArray n})(hf:f its.toArray=its'.toArray)(hv:Vals ys its')(hz:ys.length<=sizeLine):
  Inv X γ σ (upd H l (.lst ys)) {s with heap:=s.heap.update l (Obj.mapSeq f),toks:=t'}:=by
 have q:=PySem.IsL.update e f
 rw[hf]at q
 refine I.write (by rw[hH];exact trivial) (.inl rfl) (fun b' u hb hu=>(Heap.get?_update_other s.heap _ (Ne.symm hb)).trans hu) ⟨_,q⟩ ?_
 exact⟨hz,its',_,hv,q⟩
def Inv.ae7{t':Nat}(I:Inv X γ σ H s)(hv:Vals ys its)(hz:ys.length<=sizeLine):
  Inv X γ σ (upd H s.heap.objs.size (.lst ys)) {s with heap:=s.heap.push {cls:=.type "list",data:=.seq its.toArray},toks:=t'}:=
 I.laid (fun _ _ q=>QWq _ q) (QVz _) ⟨hz,its,0,hv,Qzq _ rfl⟩
theorem Inv.fresh(I:Inv X γ σ H s):H s.heap.objs.size=none:=I.hok.fresh (QVz _)
def Inv.Xn(I:Inv X γ σ H s)(hH:H l=some (.lst xs)):xs.length<=sizeLine/\∃(its:List Value)(n:Nat),Vals xs its/\xs.length=its.length/\s.heap.get? l=some {cls:=.type "list",data:=.seq its.toArray n}:=by
 obtain⟨z,its,n,r,e⟩:=I.hok l _ hH
 exact⟨z,its,n,r,r.length,e⟩
def K9{n:Nat}(h:n<=sizeLine):Builtin.List.listTooLong n=false:=by
 unfold Builtin.List.listTooLong
 exact QEz (by omega)
end
section
variable{X:Cx}
noncomputable def QL:V->List V->Hp->VK->Prop:=fun x vs H Q=>∃l xs y,x=.ref l/\vs=[y]/\H l=some (.lst xs)/\xs.length<sizeLine/\Q .non (upd H l (.lst (xs++[y])))
def vd:MtM X "list.append" QL:=by
 intro γ s σ H x vs v us Q I rx rv h
 obtain⟨l,xs,y,rfl,rfl,hH,hz,q⟩:=h
 cases rx
 obtain⟨u,rfl,ru⟩:=rv.one
 obtain⟨z,its,n,r,hl,e⟩:=I.Xn hH
 refine call_meets F.slot_list_append ⟨_,e,rfl⟩ F.entry_list_append (F.args_list_append_2 _ _) (PySem.list_append l its.toArray n u (by rw[Qyq];omega)) ⟨e,?_⟩
 refine⟨.non,_,I.Xo hH e (by simp) (r.append (.cons ru .nil)) ?_,rfl,q⟩
 rw[QTq,List.length_singleton]
 omega
noncomputable def Wr:V->List V->Hp->VK->Prop:=fun x vs H Q=>∃l xs i k y,x=.ref l/\vs=[.int i]/\H l=some (.lst xs)/\ -(2 ^63)<=i/\i<2 ^63/\seqIndex? i xs.length=some k/\xs[k]? =some y/\Q y (upd H l (.lst (xs.eraseIdx k)))
def Lh:MtM X "list.pop" Wr:=by
 intro γ s σ H x vs v us Q I rx rv h
 obtain⟨l,xs,i,k,y,rfl,rfl,hH,h1,h2,hk,hy,q⟩:=h
 cases rx
 obtain⟨u,rfl,ru⟩:=rv.one
 obtain⟨t,rfl⟩:=ru
 obtain⟨z,its,n,r,hl,e⟩:=I.Xn hH
 obtain⟨w,hw,rw'⟩:=r.get hy
 refine call_meets F.slot_list_pop ⟨_,e,rfl⟩ F.entry_list_pop (F.args_list_pop_2 _ _)
  (MeetsSeq.list_pop_at l its.toArray n i t k w (fitsIndex_both h1 h2) (by rw[Qyq,<-hl];exact hk) (by rw[<-Array.getElem?_toList];exact hw) (by rw[Qyq];omega)) ⟨e,?_⟩
 refine⟨y,_,I.Xo hH e ?_ (r.eraseIdx k) ?_,rw',q⟩
 ·show its.toArray.eraseIdxIfInBounds k=(its.eraseIdx k).toArray
  rw[List.eraseIdxIfInBounds_toArray]
 ·have:=vo xs k
  omega
end
section
variable{prog:Program}{w:World}{A:Around}{E:QZq}{s:Shared}
end
section
variable{X:Cx}
end
section
variable{κ:Type}[DecidableEq κ]
def jF(kvs:List (κ×V))(k:κ):Option V:=(kvs.find? fun kv=>decide (kv.1=k)).map (·.2)
noncomputable def putK(kvs:List (κ×V))(k:κ)(v:V):List (κ×V):=
 if (kvs.any fun kv=>decide (kv.1=k))=true then kvs.map (fun kv=>if kv.1=k then(kv.1,v)else kv)else kvs++[(k,v)]
def mQ{p:κ×V}{k:κ}(e:p.1=k):jF (p::r) k=some p.2:=by simp[jF,List.find?_cons,e]
def mR{p:κ×V}{k:κ}(e:¬p.1=k):jF (p::r) k=jF r k:=by simp[jF,List.find?_cons,e]
theorem yf(k:κ):∀kvs:List (κ×V),(kvs.any fun kv=>decide (kv.1=k))=(jF kvs k).isSome
 |[]=>rfl
 |p::r=>by
  rw[List.any_cons]
  by_cases e:p.1=k
  ·simp only[mQ e,QFq e,Bool.true_or,Option.isSome_some]
  ·rw[mR e,QEz e,Bool.false_or];exact yf k r
def pO(kvs:List (κ×V))(k:κ)v:(putK kvs k v).length<=kvs.length+1:=by
 unfold putK
 split
 ·rw[QAq];omega
 ·rw[QTq,QBq,List.length_nil];omega
def ud.iJ{u:Option Value}(r:ud o u):o.isSome=u.isSome:=by
 cases o with
 |none=>cases u with
  |none=>rfl
  |some _=>exact(r).elim
 |some _=>cases u with
  |none=>exact(r).elim
  |some _=>rfl
theorem ud.getD{u:Option Value}{d':Value}(r:ud o u)(rd:RelV d d'):RelV (o.getD d) (u.getD d'):=by
 cases o with
 |none=>cases u with
  |none=>exact rd
  |some _=>exact(r).elim
 |some _=>cases u with
  |none=>exact(r).elim
  |some _=>exact r
def KV.val{vs:List (κ×Value)}(r:KV kvs vs)(k:κ):ud (jF kvs k) (valueAt vs k):=by
 induction r with
 |nil=>exact True.intro
 | @cons p q ps qs h t ih=>
  obtain⟨h1,h2⟩:=h
  by_cases e:p.1=k
  ·have b:valueAt (q::qs) k=some q.2:=by simp[valueAt,List.find?_cons,h1.symm.trans e]
   rw[mQ e,b];exact h2
  ·have e':¬q.1=k:=fun z=>e (h1.trans z)
   have b:valueAt (q::qs) k=valueAt qs k:=by simp[valueAt,List.find?_cons,e']
   rw[mR e,b];exact ih
theorem KV.any{vs:List (κ×Value)}(r:KV kvs vs)(k:κ):(kvs.any fun kv=>decide (kv.1=k))=vs.any fun kv=>decide (kv.1=k):=by
 induction r with
 |nil=>rfl
 |cons h t ih=>rw[List.any_cons,List.any_cons,ih,h.1]
theorem KV.repl{vs:List (κ×Value)}(r:KV kvs vs)(k:κ){u:Value}(ry:RelV y u):
  KV (kvs.map fun kv=>if kv.1=k then(kv.1,y)else kv) (vs.map fun kv=>if kv.1=k then(kv.1,u)else kv):=by
 induction r with
 |nil=>exact .nil
 | @cons p q ps qs h t ih=>
  rw[Qyz,Qyz]
  refine .cons ?_ ih
  obtain⟨h1,h2⟩:=h
  by_cases e:p.1=k
  ·rw[if_pos e,if_pos (h1.symm.trans e)];exact⟨h1,ry⟩
  ·rw[if_neg e,if_neg (fun z=>e (h1.trans z))];exact⟨h1,h2⟩
def KV.put{vs:List (κ×Value)}(r:KV kvs vs)(k:κ){u:Value}(ry:RelV y u):KV (putK kvs k y) (stored vs k u):=by
 unfold putK stored
 rw[r.any k]
 by_cases e:(vs.any fun kv=>decide (kv.1=k))=true
 ·rw[if_pos e,if_pos e];exact r.repl k ry
 ·rw[if_neg e,if_neg e];exact Paired.snoc r ⟨rfl,ry⟩
theorem KV.length{kvs:List (κ×V)}(r:KV kvs vs):kvs.length=vs.length:=Paired.length r
end
def vA{w:World}{u:Value}(r:RelV (kV k) u):(fX P w).is k u=true:=by
 cases k with
 |inl i=>obtain⟨t,e⟩:=(r);subst e;exact zg P w i t
 |inr x=>obtain⟨t,e⟩:=(r);subst e;exact zf P w x t
section
variable{P:Program}{w:World}{H:Hp}{h:Heap}{a:Addr}
def Ek(ok:pG P w H h)(e:Rd H a u):cA P w H h a u:=e.ok ok
def nG(ok:pG P w H h)(e:Rd H a (.dK kvs)):kvs.length<=sizeLine/\(a==sysModules)=false/\∃vs,KV kvs vs/\h.DictOf (fX P w) a vs:=
 show cA P w H h a _ from Ek ok e
def Nj(ok:pG P w H h)(e:H a=some (.dK kvs)):kvs.length<=sizeLine/\(a==sysModules)=false/\∃vs,KV kvs vs/\h.DictOf (fX P w) a vs:=nG ok (.inl e)
end
def uC(H:Hp)(a:Addr)(y:V)(r:Option V):Prop:=
 ∃kvs k,Rd H a (.dK kvs)/\y=kV k/\r=jF kvs k
def O7(H:Hp)(a:Addr)(y v:V)(H':Hp):Prop:=
 ∃kvs k,H a=some (.dK kvs)/\y=kV k/\kvs.length<sizeLine/\H'=upd H a (.dK (putK kvs k v))
theorem uC.k{a:Addr}{k:Key}(e:H a=some (.dK kvs)):uC H a (kV k) (jF kvs k):=⟨kvs,k,.inl e,rfl,rfl⟩
theorem O7.k{a:Addr}{k:Key}(e:H a=some (.dK kvs))(hl:kvs.length<sizeLine):O7 H a (kV k) v (upd H a (.dK (putK kvs k v))):=⟨kvs,k,e,rfl,hl,rfl⟩
section
variable{X:Cx}{γ:QQz}{σ:St}{H:Hp}{s:Shared}{a:Addr}{y v:V}{u r:Value}{o:Option V}{A:Around}{E:QZq}
def Inv.big(I:Inv X γ σ H s):sysModules<s.heap.objs.size:=by
 exact Nat.lt_trans (by decide) ((I.mod.glob.keeps I.bk).lt)
def IK(hu:A.units+1<cLine)(I:Inv X γ σ H s)(g:uC H a y (some v))(ry:RelV y u)(h:∀w' s',Inv X γ σ H s'->RelV v w'->Q w' s'):
  wpAny (model X.prog X.w) A (getItem (.ref a) u) Q E s:=by
 obtain⟨kvs,k,e,ey,l⟩:=g
 subst ey
 obtain⟨z,hd,vs,rel,dd⟩:=nG I.hok e
 obtain⟨w',hw,rw'⟩:=ud.some_of (by rw[l];exact rel.val k)
 exact wpAny_getItem_of (vA ry) dd.mapOf hw (h w' _ (I.tok _) rw')
def aga(hu:A.units+1<cLine)(I:Inv X γ σ H s)(g:uC H a y o)(ry:RelV y u)(h:∀s',Inv X γ σ H s'->Q (.bool o.isSome) s'):
  wpAny (model X.prog X.w) A (compareOp .In u (.ref a)) Q E s:=by
 obtain⟨kvs,k,e,ey,l⟩:=g
 subst ey
 obtain⟨z,hd,vs,rel,dd⟩:=nG I.hok e
 refine wpAny_in_of (vA ry) hd dd.mapOf ?_
 rw[<- (rel.val k).iJ,<-l]
 exact h _ (I.tok _)
def Sq(hu:A.units+1<cLine)(I:Inv X γ σ H s)(g:uC H a y o)(ry:RelV y u)(h:∀s',Inv X γ σ H s'->Q (.bool (!o.isSome)) s'):
  wpAny (model X.prog X.w) A (compareOp .NotIn u (.ref a)) Q E s:=by
 obtain⟨kvs,k,e,ey,l⟩:=g
 subst ey
 obtain⟨z,hd,vs,rel,dd⟩:=nG I.hok e
 refine wpAny_notIn_of (vA ry) hd dd.mapOf ?_
 rw[<- (rel.val k).iJ,<-l]
 exact h _ (I.tok _)
def nH{t':Nat}(I:Inv X γ σ H s)(mu:Mut (H a))(hs:Heap.SameBut a s.heap h')(he:∃q,h'.get? a=some q)(new:cA X.prog X.w (upd H a ob) h' a ob):
  Inv X γ σ (upd H a ob) {s with heap:=h',toks:=t'}:=
 I.write mu (.inl rfl) (fun b q hb z=>(hs.2 b hb).trans z) he new
def Nk{w:World}{h':Heap}{vs:List (Key×Value)}(z:kvs.length<=sizeLine)(hd:(a==sysModules)=false)(rel:KV kvs vs)(dd:h'.DictOf (fX P w) a vs):
  cA P w H' h' a (.dK kvs):=⟨z,hd,vs,rel,dd⟩
def Iz{Q:Unit->Shared->Prop}(hu:A.units+1<cLine)(I:Inv X γ σ H s)(g:O7 H a y v H')(ry:RelV y u)(rv:RelV v r)(h:∀s',Inv X γ σ H' s'->Q () s'):
  wpAny (model X.prog X.w) A (setItem (.ref a) u r) Q E s:=by
 obtain⟨kvs,k,e,ey,l,eH⟩:=g
 subst ey eH
 obtain⟨z,hd,vs,rel,dd⟩:=Nj I.hok e
 have hz:vs.length<=sizeLine:=by rw[<-rel.length];exact z
 refine wpAny_setItem_pairs (vA ry) dd fun h' dd' hs=>h _ ?_
 exact nH I (by rw[e];exact True.intro) hs (let ⟨q,_,_,hq,_⟩:=dd';⟨q,hq⟩) (Nk (by have:=pO kvs k v;omega) hd (rel.put k rv) dd')
end
section
variable{X:Cx}{γ:QQz}{σ:St}{H:Hp}{s:Shared}{a:Addr}{kvs:List (Key×V)}{k:Key}{u:Value}{A:Around}{E:QZq}
def ack(I:Inv X γ σ H s)(e:Rd H a (.dK kvs))(h:∀t s',Inv X γ σ H s'->Q (.int kvs.length t) s'):wpAny (model X.prog X.w) A (call (.builtin "len") [.ref a]) Q E s:=by
 obtain⟨z,hd,vs,rel,dd⟩:=nG I.hok e
 refine call_len_dict hd dd (by rw[<-rel.length];rw[sizeLine_eq]at z;omega) ?_
 rw[<-rel.length]
 exact h _ _ (I.tok _)
end
def zP{X:Cx}{σ:St}{H:Hp}{a:Addr}{y:V}(I:Inv X γ σ H s)(g:uC H a y o):s.TypeIs (.ref a) "dict":=by
 obtain⟨kvs,k,e,_,_⟩:=g
 obtain⟨_,_,vs,_,dd⟩:=nG I.hok e
 exact dd.typeIs
section
variable{X:Cx}{o i e value:Expr}{pos pos' tpos:Pos}{td ty tv:TE}
end
def zO{w:World}(h:Heap)(hb:sysModules<h.objs.size):cA P w H (h.push {cls:=.type "dict",data:=.dict #[]}) h.objs.size (.dK []):=
 ⟨QIq _,beq_eq_false_iff_ne.mpr (Ne.symm (Qvz hb)),[],.nil,Heap.DictOf.new h⟩
section
variable{X:Cx}{pos:Pos}
end
noncomputable def v8:List (TE×TE)->St->Hp->(List (V×V)->Hp->Prop)->Prop
 |[],_,H,Q=>Q [] H
 |(tk,tv)::r,σ,H,Q=>tk σ H fun x H1=>tv σ H1 fun y H2=>v8 r σ H2 fun ps H3=>Q ((x,y)::ps) H3
abbrev VV:List (V×V)->List (Value×Value)->Prop:=Paired fun p q=>RelV p.1 q.1/\RelV p.2 q.2
def PPs(X:Cx)(pos:Pos)(keys:List (Option Expr))(values:List Expr)(nT:List (TE×TE)):Prop:=
 ∀(γ:QQz)(s:Shared)(σ:St)(H:Hp)(Q:List (V×V)->Hp->Prop),Inv X γ σ H s->v8 nT σ H Q->
  wpAny (model X.prog X.w) X.A (evalPairs (pairTrees keys values X.env pos)) (fun vs s'=>∃ps H',Inv X γ σ H' s'/\VV ps vs/\Q ps H') X.xe s
def QT{pos:Pos}:PPs X pos [] [] []:=fun γ s σ H Q I h=>pairTrees_nil_walk ⟨[],H,I,.nil,h⟩
def Kw{pos:Pos}{ks:List (Option Expr)}{tk tv:TE}(hk:PE X k tk)(hv:PE X v tv)(hr:PPs X pos ks vs nT):
  PPs X pos (some k::ks) (v::vs) ((tk,tv)::nT):=fun γ s σ H Q I h=>
 pairTrees_cons_walk (b7 (hk γ s σ H _ I h) fun u s1⟨x,H1,I1,rx,q1⟩=>b7 (hv γ s1 σ H1 _ I1 q1) fun w2 s2⟨y,H2,I2,ry,q2⟩=>
  b7 (hr γ s2 σ H2 _ I2 q2) fun ws s3⟨ps,H3,I3,rel,q3⟩=>⟨(x,y)::ps,H3,I3,.cons ⟨rx,ry⟩ rel,q3⟩)
structure M2(X:Cx)(o:Expr)(m:Str)(apos:Pos)(e f:Expr)(cpos:Pos):Prop where
 base:attributeBase o m X.env (eval o X.env)=eval o X.env
 few:((backTo cpos (starEach [e,f] X.env)).all (fun x=> !x.1)&&(backToKw cpos (keywordEach [] X.env)).all (fun x=>x.1.isSome)
  &&decide (([e,f]:List Expr).length+([]:List Keyword).length+(if ([]:List Keyword).isEmpty then 0 else 1)<30))=true
 line:(apos.endLine==cpos.line)=true
 trees:backTo cpos (starEach [e,f] X.env)=[(false,eval e X.env),(false,eval f X.env)]
def IsD(H:Hp)(a:Addr):Prop:=∃kvs,Rd H a (.dK kvs)
def XM{X:Cx}{σ:St}{H:Hp}{a:Addr}(I:Inv X γ σ H s)(d:IsD H a):
  s.TypeIs (.ref a) "dict"/\(∀b,Value.ref a=.ref b->∃ob,s.heap.get? b=some ob/\ob.dict=none)/\(a==sysModules)=false:=by
 obtain⟨kvs,e⟩:=d
 obtain⟨_,hd,vs,_,dd⟩:=nG I.hok e
 refine⟨dd.typeIs,fun b q=>?_,hd⟩
 cases q
 obtain⟨ob,_,_,h1,h2,_⟩:=dd
 exact⟨ob,h1,h2.2.1⟩
section
variable{X:Cx}{γ:QQz}{σ:St}{H:Hp}{s:Shared}{a:Addr}{y d:V}{u r:Value}{o:Option V}{A:Around}{E:QZq}
def YD(hu:A.units+1<cLine)(I:Inv X γ σ H s)(g:uC H a y o)(ry:RelV y u)(rd:RelV d r)(h:∀w' s',Inv X γ σ H s'->RelV (o.getD d) w'->Q w' s'):
  wpAny (model X.prog X.w) A (call (.builtin "dict.get") [.ref a,u,r]) Q E s:=by
 obtain⟨kvs,k,e,ey,l⟩:=g
 subst ey
 obtain⟨z,hd,vs,rel,dd⟩:=nG I.hok e
 refine call_meetsIn PySem.F.slot_dict_get dd.typeIs PySem.F.entry_dict_get (PySem.F.args_dict_get_3 _ _ _) (meets_dict_get_default _ a (vA ry) hd r) ⟨_,dd.mapOf,h _ _ (I.tok _) ?_⟩
 rw[l]
 exact(rel.val k).getD rd
end
noncomputable def V3(td ty tx:TE):TE:=fun σ H Q=>td σ H fun x H1=>∃a,x=.ref a/\IsD H1 a/\ty σ H1 fun y H2=>tx σ H2 fun z H3=>∃o,uC H3 a y o/\Q (o.getD z) H3
section
variable{X:Cx}{o e f:Expr}{apos cpos:Pos}{td ty tx:TE}
def K1(hu:X.A.units+1<cLine)(ho:PE X o td)(he:PE X e ty)(hf:PE X f tx)(m:M2 X o "get" apos e f cpos):PE X (.Call (.Attribute o "get" apos) [e,f] [] cpos) (V3 td ty tx):=by
 intro γ s σ H Q I h
 refine wpAny_Call_method m.base m.few m.line PySem.F.plainAttrs_dict PySem.F.slot_dict_get PySem.F.type_dict_get (b7 (ho γ s σ H _ I h) fun u s1⟨x,H1,I1,rx,a,ex,d,q1⟩=>?_)
 subst ex
 obtain rfl:u=Value.ref a:=rx
 obtain⟨t1,t2,_⟩:=XM I1 d
 refine⟨t1,t2,?_⟩
 rw[m.trees]
 refine Calls.callWith_builtin rfl (Calls.evalArgs_plain (Calls.spliced_cons (b7 (he γ s1 σ H1 _ I1 q1) fun iv s2⟨y,H2,I2,ry,q2⟩=>
  Calls.spliced_cons (b7 (hf γ s2 σ H2 _ I2 q2) fun fv s3⟨z,H3,I3,rz,ov,g,q3⟩=>Calls.spliced_nil ?_))))
 exact YD hu I3 g ry rz fun w' s4 I4 rw'=>⟨_,H3,I4,rw',q3⟩
end
section
variable{X:Cx}{γ:QQz}{σ:St}{H:Hp}{s:Shared}{a:Addr}{kvs:List (Key×V)}{A:Around}{E:QZq}
end
section
variable{X:Cx}{γ:QQz}{σ:St}{H:Hp}{s:Shared}{a:Addr}{y:V}{u:Value}{A:Around}{E:QZq}
end
end L2
namespace Att
open PySem PySem.W PySem.Calls PyProof.Rows
def ql{h:Heap}:∀(ns:List Int)(vs:List Value),WellAll P h vs (ns.map WData.int)->IntsAre vs ns:=by
 intro ns
 induction ns with
 |nil=>
  intro vs w
  cases w
  exact .nil
 |cons n ns ih=>
  intro vs w
  cases w with
  |cons a b=>
   cases a
   exact .cons _ _ (ih _ b)
theorem G9{l:OpenLaw}(hn:l.most=some n){h:Heap}
  (hpre:l.row.toRowW.claim.pre args=true)(hwl:WellAll P h vals args):
  ∃a vs ns,vals=[Value.ref a]/\args=[WData.list (ns.map WData.int)]/\h.get? a=some {cls:=.type "list",data:=.seq vs.toArray}/\IntsAre vs ns/\ns.length<=n:=by
 obtain⟨d,r,rfl,h1,h2⟩:=hasAllW_cons ((pre_splitW hpre).1)
 obtain rfl:=hasAllW_nil h2
 obtain⟨xs,rfl,h3⟩:=hasW_list h1
 obtain⟨ns,rfl⟩:=items_int h3
 have hlen:ns.length<=n:=by
  have h4:(WTm.not (.lt (.lit (.int n)) (.len (.arg 0)))).holds [] {args:=[.list (ns.map .int)]}=true:=by
   have h4:=(holds_andW ((pre_splitW hpre).2)).1
   rw[hn]at h4
   exact h4
  have h5:=condW_of h4 (w_not (w_lt w_lit (w_len_list (w_arg rfl))))
  refine Nat.le_of_not_lt fun q=>?_
  first
   |(rw[QFq q']at h5;exact absurd h5 (by decide))
   |(simp at h5;omega)
 cases hwl with
 |cons w1 w2=>
  cases w2
  cases w1 with
  |list ho hall=>exact⟨_,_,ns,rfl,rfl,ho,ql ns _ hall,hlen⟩
def Hq(l:OpenLaw)args:l.row.toRowW.claim.post args (.bool true) args=true:=
 postW_of
  (show WShape.has [] _ .bool=true by first|rfl|decide|simp[WShape.has,WShape.arms,WShape.armsAll])
  (w_eq_bool (w_res rfl) w_lit) rfl
def zZ{l:OpenLaw}{n:Nat}{loose:List Str}{YP:World->Heap->Prop}
  (hn:l.most=some n)(hdf:d.params.defaults=[])
  (call:∀(w:World)(s₀ ι:Shared)(mg mb:QZz)(fa:Addr)(o:Obj)(pm cd doc:Value)(a:Addr)(vs:List Value)(ns:List Int),
   Ground q loose [] XP w s₀ mg mb ι.heap->YP w ι.heap->
   ι.heap.get? fa=some o->o.data=.func (docDef d.name d.params d.body d.scope pm cd doc)->ι.heap.CodeRec cd d.name->mg d.name=some (.ref fa)->
   ι.heap.get? a=some {cls:=.type "list",data:=.seq vs.toArray}->IntsAre vs ns->ns.length<=n->ι.gens= #[]->
   codeAny (model l.prog w) callerA (.call (.ref fa) ⟨[.ref a],[]⟩) (fun r s'=>r=.ok (.ret (.bool true))/\OldK ι.heap s'.heap/\s'.os=ι.os/\AllBare s'.gens) ι):
  WalkO q loose XP YP l.row.toRowW d [] (fun f vs=>PySem.call f vs):=by
 intro w s₀ ι mg mb G Y fa o pm cd doc dV kV ho hd hcd hD hmg hg args vals as hpre hlay hrd hwl hlo
 obtain rfl:dV=.none:=Dflts.none hD hdf
 obtain rfl:kV=.none:=Dflts.noKw hD
 obtain⟨a,vs,ns,rfl,rfl,hobj,hints,hlen⟩:=G9 hn hpre hwl
 refine enter_call (codeAny_mono (call w s₀ ι mg mb fa o pm cd doc a vs ns G Y ho (fd_plain hd) hcd hmg hobj hints hlen hg) fun r s' hq=>?_)
 obtain⟨rfl,h2,h3,h4⟩:=hq
 exact⟨.inl ⟨.bool true,.bool true,[],rfl,fun _=>rfl,.bool true,Hq l _,fun _=>⟨List.Pairwise.nil,fun _ hm=>(nomatch hm)⟩⟩,h2,h3,h4⟩
section
variable{prog:Program}{w:World}{A:Around}{E:QZq}{s:Shared}{K:Frag}
end
end Att
namespace L2
open PySem PySem.Spec PyProof.Rows
theorem uF:∀{vs:List Value}{ns:List Int},IntsAre vs ns->Vals (ns.map V.int) vs
 |_,_,.nil=>.nil
 |_,_,.cons n t h=>.cons ⟨t,rfl⟩ (uF h)
def Only(H:Hp):Prop:=∀b,H b=none\/∃o xs,H b=some (.frz o (.lst xs))
theorem Lw{w:World}{K:QQq}{CX:Pa}{fa a:Addr}{x:Str}{ι:Shared}
  (KX:K.In ι.heap)(hns:ι.heap.Ns mainGlobals mg)(hb:ι.heap.Ns builtinsNs mb)(hbb:∀x:Str,x≠"__name__"->mb x=bootBuiltins x)(hlim:ι.heap.NoLimit)(hg:ι.gens= #[])
  (ha:ι.heap.get? a=some {cls:=.type "list",data:=.seq vs.toArray})(hi:IntsAre vs ns)(hl:ns.length<=sizeLine)(hr:jD k callerA)
  (F:∀base:Heap,K.In base->base.Ns mainGlobals mg->pH P w K mg base CX k fa fd [x] sp)(hbind:∀(s:Shared)(u:Value),BindsTo s fd ⟨[u],[]⟩ [(x,u)])
  (hsp:∀H:Hp,Only H->jA K H a (ns.map V.int)->sp [.ref a] H (fun v _=>v=.bl true) fun _ _ _=>False)
  (hCX:∀H e s',CX [] H ι (fun _ _ _=>False) e s'->False):
  codeAny (model P w) callerA (.call (.ref fa) ⟨[.ref a],[]⟩) (fun r s'=>r=.ok (.ret (.bool true))/\OldK ι.heap s'.heap/\s'.os=ι.os/\AllBare s'.gens) ι:=by
 have rv:=uF hi
 have core:∀H:Hp,Only H->jA K H a (ns.map V.int)->pG P w H ι.heap->(∀b,H b≠none->b=a)->(H a≠none->K.lookup a=none)->
   codeAny (model P w) callerA (.call (.ref fa) ⟨[.ref a],[]⟩) (fun r s'=>r=.ok (.ret (.bool true))/\OldK ι.heap s'.heap/\s'.os=ι.os/\AllBare s'.gens) ι:=by
  intro H hO hS hok hA hK
  have nP:∀{b:Addr}{o:Obj},ι.heap.get? b=some o->H b=none->(Ij ι.heap H).get? b=some o:=fun e n=>Mt e n
  have noA:∀{b:Addr}{o:Obj}{es:Array DictEntry}{ep:Nat},ι.heap.get? b=some o->o.data=.dict es ep->H b=none:=fun{b o es ep}e d=>by
   cases q:H b with
   |none=>rfl
   |some u=>
    have e':=hA b (by rw[q];simp)
    subst e'
    rw[ha]at e;cases e
    cases d
  have nsK:∀{b:Addr}{m:QZz},ι.heap.Ns b m->(Ij ι.heap H).Ns b m:=fun{b m}⟨o,es,ep,e,d,r⟩=>⟨o,es,ep,nP e (noA e d),d,r⟩
  have hKb:=fun b o e=>nP (KX b o e) (by
   cases q:H b with
   |none=>rfl
   |some u=>
    have e':=hA b (by rw[q];simp)
    subst e'
    rw[hK (by rw[q];simp)]at e;cases e)
  have hM:Mod K mg _:=⟨hKb,nsK hns,⟨mb,nsK hb,hbb⟩,let ⟨mc,h1,h2⟩:=hlim;⟨mc,nsK h1,h2⟩⟩
  refine codeAny_mono ((F _ hKb (nsK hns)).run callerA [] ι H ⟨[.ref a],[]⟩ [.ref a] [.ref a] _ _ hr ⟨rfl,hM,fun b o e=>Rn e,Nat.le_of_eq (Ii _ _),trivial,fun b hb=>absurd (show b∈([])from hb) (by simp),hok,.of_eq hg⟩ (hbind ι _) (.cons rfl .nil) (hsp H hO hS)) fun r s' h=>?_
  cases r with
  |error e=>exact(hCX H e s' h).elim
  |ok fl=>
   cases fl with
   |next=>exact False.elim h
   |brk=>exact False.elim h
   |cont=>exact False.elim h
   |ret u=>
    obtain⟨v,H',os,bare,un,hok',r',q⟩:=h
    subst q
    obtain rfl:u=Value.bool true:=r'
    refine⟨rfl,OldK.of_keep fun b o e=>?_,os,bare⟩
    cases q:H b with
    |none=>exact un.keep b o e q (by intro z;exact absurd (show b∈([])from z) (by simp)) (by simp)
    |some u=>
     rcases hO b with z|⟨ob,xs,z⟩
     ·rw[q]at z;cases z
     ·obtain⟨e1,_⟩:=hok b _ z
      obtain⟨e2,_⟩:=hok' b _ (un.frzs b ob _ z)
      rw[e]at e1;cases e1
      exact e2
 cases hk:K.lookup a with
 |some o=>
  have e:=KX a o hk
  rw[ha]at e
  cases e
  refine core _ (fun _=>.inl rfl) (.inr ⟨_,vs.toArray,_,hk,rfl,rfl,rfl,by rw[Qyq,hi.length];exact hl,by simpa using rv⟩) (fun b u z=>by have z':=z;cases z') (fun b z=>absurd rfl z) fun z=>absurd rfl z
 |none=>
  refine core (fun b=>if b=a then some _ else none) (fun b=>?_) (.inl (.inr ⟨{cls:=.type "list",data:=.seq vs.toArray},if_pos rfl⟩)) (fun b u z=>?_) (fun b z=>?_) fun _=>hk
  ·by_cases hb:b=a
   ·exact .inr ⟨_,_,if_pos hb⟩
   ·exact .inl (if_neg hb)
  ·by_cases hb:b=a
   ·cases ((if_pos hb).symm.trans z)
    subst hb
    exact⟨ha,by rw[QAq];exact hl,vs,_,rv,ha⟩
   ·cases ((if_neg hb).symm.trans z)
  ·by_cases hb:b=a
   ·exact hb
   ·exact absurd (if_neg hb) z
def Pu{l:PySem.W.OpenLaw}{n k:Nat}{loose:List Str}{YP:World->Heap->Prop}{K:Params->QQq}{CX:World->Pa}{sp:World->Sp}
  (hn:l.most=some n)(hn2:n<=sizeLine)(hdf:d.params.defaults=[])(hr:jD k callerA)
  (hY:∀(w:World)(h:Heap),YP w h->(K w.params).In h)
  (F:∀(w:World)(mg:QZz)(fa:Addr)(h:Heap),(K w.params).In h->h.Ns mainGlobals mg->mg d.name=some (.ref fa)->
   ∃fd:FuncData,(∀(s:Shared)(u:Value),BindsTo s fd ⟨[u],[]⟩ [(x,u)])/\
    ∀base:Heap,(K w.params).In base->base.Ns mainGlobals mg->pH l.prog w (K w.params) mg base (CX w) k fa fd [x] (sp w))
  (hsp:∀(w:World)(H:Hp)(a:Addr)(ns:List Int),ns.length<=n->Only H->jA (K w.params) H a (ns.map V.int)->sp w [.ref a] H (fun v _=>v=.bl true) fun _ _ _=>False)
  (hCX:∀(w:World)(H:Hp)(s:Shared)(e:Value)(s':Shared),CX w [] H s (fun _ _ _=>False) e s'->False):
  PySem.W.WalkO q loose XP YP l.row.toRowW d [] (fun f vs=>PySem.call f vs):=by
 refine Att.zZ hn hdf fun w s₀ ι mg mb fa o pm cd doc a vs ns G Y ho hd hcd hmg hobj hints hlen hg=>?_
 have KX:=hY w _ Y
 obtain⟨fd,hb,hF⟩:=F w mg fa _ KX G.T.g hmg
 exact Lw KX G.T.g G.T.b G.T.builtins G.T.nolimit hg hobj hints (Nat.le_trans hlen hn2) hr hF hb (fun H hO hS=>hsp w H a ns hlen hO hS) fun H e s'=>hCX w H ι e s'
abbrev Pb:Pa:=fun _ _ _ _ _ _=>False
abbrev E0:XK:=fun _ _ _=>False
def abz:DG Pb X E0:=fun _ _ _ _ _ _ _ h=>h.elim
structure Y5(K:QQq)(x qual:Str)(st:Stmt)(f:Addr)(fd:FuncData):Prop where
 ex:∃(oc:Value)(od:Option Addr)(kV doc pm:Value)(an:Option Addr)(cdv ct:Value)(osl:Array (Option Value)),
  fd=PySem.W.fnOf x qual (eN st) (eG st) (aY st) .none kV doc pm an cdv ct/\K.lookup f=some ⟨oc,od,.func fd,osl⟩/\PySem.W.codeIn K cdv qual=true
 kp:PySem.W.keepIn K (.ref f)=true
section
variable{P:Program}{w:World}{K:QQq}{mg:QZz}{base:Heap}
def Y5.ok{st:Stmt}{fd:FuncData}{k:Nat}(F:Y5 K x qual st f fd)(S:lJ N ps (aY st))(len:∀vs H Q E,sp vs H Q E->vs.length=ps.length)
  (hbody:∀(cdv:Value)(A:Around)(outer:List Env)(s:Shared)(H:Hp)(vs:List V)(Q:VK)(E:XK),jD k (A.deeper (envOfC qual (aY st) s.heap.objs.size f cdv))->sp vs H Q E->
   ∃t,xW (CQ Pb P w K mg base N qual (aY st) f cdv A outer s H E).nox (eG st) t/\t {nx:=fun _ H'=>Q .non H',rt:=Q} (start N vs) H):pH P w K mg base Pb (k+1) f fd ps sp:=by
 obtain⟨oc,od,kV,doc,pm,an,cdv,ct,osl,rfl,lk,hcd⟩:=F.ex
 refine ach lk hcd S len fun A outer s H vs Q E hr hsp=>?_
 obtain⟨t,h,q⟩:=hbody cdv A outer s H vs Q E hr hsp
 exact⟨t,h.nox,q⟩
def Y5.binds{st:Stmt}{f:Addr}{ps:List Str}(F:Y5 K x qual st f fd)
  (h:∀(kV doc pm:Value)(an:Option Addr)(cdv ct:Value)(us:List Value),us.length=ps.length->bindArgs (PySem.W.fnOf x qual (eN st) (eG st) (aY st) .none kV doc pm an cdv ct) ⟨us,[]⟩=pure (ps.zip us)):Binds K fd ps []:=by
 obtain⟨oc,od,kV,doc,pm,an,cdv,ct,osl,rfl,lk,hcd⟩:=F.ex
 exact .all (h kV doc pm an cdv ct)
def Yw{st:Stmt}{f:Addr}{od an:Option Addr}{kV doc pm cdv ct:Value}(l:K.lookup f=some ⟨oc,od,.func (PySem.W.fnOf x qual (eN st) (eG st) (aY st) .none kV doc pm an cdv ct),osl⟩)
  (c:PySem.W.codeIn K cdv qual=true)(k:PySem.W.keepIn K (.ref f)=true):Y5 K x qual st f (PySem.W.fnOf x qual (eN st) (eG st) (aY st) .none kV doc pm an cdv ct):=⟨⟨oc,od,kV,doc,pm,an,cdv,ct,osl,rfl,l,c⟩,k⟩
end
def G8(h:n<=1000):n<sizeLine:=Nat.lt_of_le_of_lt h (by decide)
section
variable{X:Cx}
end
end L2
end
section
namespace Mini
open PySem L2 PySem.SeqAt
def qj:Bool->Value->Bool
 |b,.bool c=>c==b
 |_,_=>false
def lu{v:Value}(h:qj b v=true):v=.bool b:=by
 cases v<;>simp_all[qj]
section
def Ik{Q:Int->Shared->Prop}(h:Q (bh b) {s with toks:=s.toks+1}):wpAny (model prog w) A (pyHash (.bool b)) Q E s:=by
 refine PySem.W.pyHash_slot rfl F.slot_bool_hash entry_int_hash (args_int_hash _) (beq_builtin_none _) (.inl rfl) ?_
 cases b
 ·exact(show wpAny _ _ (mkInt 0>>=fun x=>ret x) _ _ s from QKq (wpAny_mkInt (QKz ⟨_,_,rfl,h⟩)))
 ·exact(show wpAny _ _ (mkInt 1>>=fun x=>ret x) _ _ s from QKq (wpAny_mkInt (QKz ⟨_,_,rfl,h⟩)))
def Nb{u v:Value}(h:qj a u=true)(g:qj b v=true)(q:Q (decide (a=b)) s):wpAny (model prog w) A (eqBool u v) Q E s:=by
 rw[lu h,lu g]
 refine EqAt.bool_bool a b _ _ _ _ ?_
 have e:(a==b)=decide (a=b):=by cases a<;>cases b<;>rfl
 exact q
def Mp v a b(h:qj a v=true)(g:qj b v=true):a=b:=by
 have:=lu h
 rw[lu g]at this
 cases this
 rfl
def Mm k x t v(h:qj k (.str x t)=true):qj k v=v.isStr x:=by cases h
def Ml k v(h:qj k v=true):carriedByValue v=true:=by rw[lu h];rfl
noncomputable def gD(prog:Program)(w:World):KeyKind prog w Bool:=⟨qj,bh,Mp,Ml,fun h q=>by rw[lu h];exact Ik q,fun h g q=>Nb h g q,Mm⟩
def pF(prog:Program)(w:World)(h:Heap)(k:SK)(a:Addr):Prop:=∃b t,h.IsTuple a #[.ref b,.int k.2 t]/\IsTupleKey (gD prog w) h k.1 b
noncomputable def Ay(prog:Program)(w:World)(k:SK):Int:=reduceHash (Builtin.Tuple.tupleHashOf [tupleKeyHash (gD prog w) k.1,hashInt k.2])
def RN{a:Addr}(hu:A.units+1<cLine)(x:pF prog w s.heap k a)(h:Q (Ay prog w k) {s with toks:=s.toks+(k.1.length+3)}):wpAny (model prog w) A (pyHash (.ref a)) Q E s:=by
 obtain⟨b,t,⟨o,ho,hc,n,hd⟩,kb⟩:=x
 refine PySem.W.pyHash_slot ⟨o,ho,hc⟩ F.slot_tuple_hash F.entry_tuple_hash (F.args_tuple_hash_1 _) (beq_builtin_none _) (.inr (by omega)) ?_
 show wpAny _ A.in1 (Builtin.Tuple.tupleItemsOf _>>=_) _ _ s
 refine QKq (wpAny_tupleItemsOf ho hd (QKq ?_))
 rw[<-Array.forIn_toList,List.forIn_cons]
 refine QKq (QKq (wpAny_pyHash_tuple (hu) kb ?_))
 refine QKz ?_
 show wpAny _ A.in1 (forIn [Value.int k.2 t] _ _) _ E _
 rw[List.forIn_cons]
 refine QKq (QKq (wpAny_pyHash_int (QKz ?_)))
 show wpAny _ A.in1 (forIn ([]) _ _) _ E _
 refine QKz (QKq (wpAny_mkInt (QKz ⟨_,_,rfl,?_⟩)))
 unfold Ay at h
 simpa[Nat.add_assoc]using h
def zy{W W':World}{vs:List Value}(x:ItemsAre (gD P W) ks vs):ItemsAre (gD P' W') ks vs:=by
 induction x with
 |nil=>exact .nil
 |cons a _ ih=>exact .cons a ih
theorem pF.inj{h:Heap}{a:Addr}{x y:SK}(g:pF prog w h x a)(f:pF prog w h y a):x=y:=by
 obtain⟨b,t,⟨o,ho,hc,n,hd⟩,kb⟩:=g
 obtain⟨b',t',⟨o',ho',hc',n',hd'⟩,kb'⟩:=f
 rw[ho]at ho'
 cases ho'
 rw[hd]at hd'
 simp only[Data.seq.injEq,Array.mk.injEq,List.cons.injEq,Value.ref.injEq,Value.int.injEq,and_true]at hd'
 obtain⟨⟨rfl,e,_⟩,_⟩:=hd'
 exact Prod.ext (kb.inj kb') e
def IsTuple.keep{a d:Addr}{o:Obj}{ep:Nat}(x:h.IsTuple a its)(ho:h.get? d=some o)(hd:o.data=.dict es ep)(hs:Heap.SameBut d h h'):h'.IsTuple a its:=by
 obtain⟨o',ho',hc,n,hd'⟩:=x
 have ne:a≠d:=fun z=>by
  subst z
  rw[ho]at ho'
  cases ho'
  rw[hd]at hd'
  cases hd'
 exact⟨o',(hs.2 a ne).trans ho',hc,n,hd'⟩
theorem pF.keep{k:SK}{o:Obj}{ep:Nat}(x:pF prog w h k a)(ho:h.get? d=some o)(hd:o.data=.dict es ep)(hs:Heap.SameBut d h h'):pF prog w h' k a:=by
 obtain⟨b,t,g,kb⟩:=x
 exact⟨b,t,IsTuple.keep g ho hd hs,kb.keeps ho hd hs⟩
def acj{a b:Addr}(hu:A.units+1<cLine)(g:pF prog w s.heap x a)(f:pF prog w s.heap y b)(q:Q (decide (x=y)) s):wpAny (model prog w) A (eqBool (.ref a) (.ref b)) Q E s:=by
 by_cases c:a=b
 ·subst c
  have:=g.inj f
  subst this
  exact EqAt.same _ _ _ _ _ (by simpa using q)
 ·obtain⟨a1,t,ga,ka⟩:=g
  obtain⟨b1,u,gb,kb⟩:=f
  have e0:EqAt A.in1 s _ _ _:=fun P W E' Q' q'=>by
   have mv:∀{ks:List Bool}{c:Addr},IsTupleKey (gD prog w) s.heap ks c->IsTupleKey (gD P W) s.heap ks c:=fun z=>let ⟨o,its,n,h1,h2,h3,h4⟩:=z;⟨o,its,n,h1,h2,h3,zy h4⟩
   exact wpAny_eqBool_tuple (hu) (mv ka) (mv kb) q'
  have rc:=RcAt.tuples (A:=A) (e:=fun j=>if j=0 then decide _ else x.2==y.2) ga gb (by omega) fun j h1 h2=>by
   match j,h1,h2 with
   |0,_,_=>exact e0
   |1,_,_=>exact EqAt.int_int _ _ _ _
  refine EqAt.of_refs c rc _ _ _ _ ?_
  have:((List.range (min 2 2)).all (fun j=>if j=0 then decide (x.1=y.1)else x.2==y.2)&&2==2)=decide (x=y):=by
   obtain⟨x1,x2⟩:=x
   obtain⟨y1,y2⟩:=y
   by_cases p:x1=y1<;>by_cases r:x2=y2<;>simp[List.range,List.range.loop,p,r]
  show Q ((List.range (min 2 2)).all _&&2==2) s
  rw[this]
  exact q
def uW{a:Addr}{Q:Bool->Shared->Prop}(x:s.heap.IsTuple a its)(hq:∀v∈its.toList,∀R:Bool->Shared->Prop,R true s->wpAny (model prog w) A (eqIsQuiet d v) R E s)(q:Q true s):
  wpAny (model prog w) A (eqIsQuiet (d+1) (.ref a)) Q E s:=by
 obtain⟨o,ho,hc,n,hd⟩:=x
 have hT:s.TypeIs (.ref a) "tuple":=⟨o,ho,hc⟩
 unfold eqIsQuiet
 refine QKq (wpAny_specialOf hT F.slot_tuple_eq.lookup (QKq (wpAny_isInstance hT isSubtype_tuple_tuple ?_)))
 refine QKq (wpAny_seqItems ho hd (QKq ?_))
 rw[<-Array.forIn_toList]
 refine wpAny_forIn_list _ (fun rest r s'=>s'=s/\r=(none,())/\∀v∈rest,v∈its.toList) _ (fun v rest r s'=>?_) (fun r s'=>?_) _ _ ⟨rfl,rfl,fun v hv=>hv⟩
 ·rintro ⟨rfl,rfl,hm⟩
  exact QKq (hq v (hm v QYz) _ (QKz ⟨rfl,rfl,fun u hu=>hm u (QYq _ hu)⟩))
 ·rintro ⟨rfl,rfl,_⟩
  exact QKz q
def uV d(hv:carriedByValue v=true)(r:R true s):wpAny (model prog w) A (eqIsQuiet d v) R E s:=by
 rw[eqIsQuiet_byValue d hv]
 exact QKz r
def Km{a:Addr}(x:pF prog w s.heap k a)(q:Q true s):wpAny (model prog w) A (eqIsQuiet 8 (.ref a)) Q E s:=by
 obtain⟨b,t,g,o,its,n,h1,h2,h3,h4⟩:=x
 refine uW g (fun v hv R r=>?_) q
 simp only[QCq,QAz,or_false]at hv
 rcases hv with rfl|rfl
 ·exact uW ⟨o,h1,h2,n,h3⟩ (fun v hv R r=>uV _ (h4.byValue v hv) r) r
 ·exact uV _ rfl r
noncomputable def oA(prog:Program)(w:World):HeapKind prog w SK where
 is:=pF prog w
 hash:=Ay prog w
 draws:=fun k=>k.1.length+3
 room:=fun A=>A.units+1<cLine
 inj:=fun g f=>g.inj f
 keeps:=fun x ho hd hs=>x.keep ho hd hs
 pyHash:=fun hu x q=>RN hu x q
 eqBool:=fun hu g f q=>acj hu g f q
 quiet:=fun x q=>Km x q
end
end Mini
end
section
namespace Mini
open PySem L2
abbrev sD(xs:List SV):HO:=.dS xs
def bU(K:QQq)(H:Hp)(k:SK)(a:Addr):Prop:=∃b,iQ K H a [.ref b,.int k.2]/\iQ K H b (k.1.map .bl)
def zp(k:SK):List SV->Option V
 |[]=>none
 |x::xs=>if x.1=k then some x.2.2 else zp k xs
noncomputable def lY(k:SK)(a:Addr)(v:V)(xs:List SV):List SV:=if (zp k xs).isSome then xs.map (fun x=>if x.1=k then(x.1,x.2.1,v)else x)else xs++[(k,a,v)]
theorem kZ:∀{xs:List SV}{ys:List (SK×Addr×Value)},Paired Pq xs ys->ys.map (·.1)=xs.map (·.1)
 |_,_,.nil=>rfl
 |_,_,.cons h t=>by simp[kZ t,h.1]
theorem zm:∀{xs:List SV}{ys:List (SK×Addr×Value)},Paired Pq xs ys->ud (zp k xs) ((atKey ys k).map (·.2))
 |_,_,.nil=>trivial
 |x::xs,y::ys,.cons h t=>by
  simp only[zp,atKey,List.find?_cons]
  rw[h.1]
  by_cases c:y.1=k
  ·simp only[c,if_true,decide_true,Option.map_some]
   exact h.2.2
  ·simp only[c,if_false,decide_false]
   exact zm (k:=k) t
section
theorem zA{W:World}:∀{bs:List Bool}{us:List Value},Vals (bs.map V.bl) us->ItemsAre (gD P W) bs us
 |[],_,r=>by cases r;exact .nil
 |b::bs,_,r=>by
  cases r with
  |cons h t=>
   cases h
   exact .cons (by show qj b (.bool b)=true;simp[qj]) (zA t)
def jQ(I:L2.Inv X γ σ H s)(h:bU X.K H k a):pF X.prog X.w s.heap k a:=by
 obtain⟨b,h1,h2⟩:=h
 obtain⟨its,r,p,_⟩:=I.tuple h1
 obtain⟨its2,r2,p2,_⟩:=I.tuple h2
 obtain⟨u,v,rfl,ru,rv⟩:=Vals.two r
 cases ru
 obtain⟨t,rfl⟩:=rv
 obtain⟨o,q1,q2,n,q3⟩:=p2
 exact⟨b,t,p,o,its2.toArray,n,q1,q2,q3,zA r2⟩
def lE(I:L2.Inv X γ σ H s)(hd:Rd H d (sD xs))(hk:∀x∈xs,bU X.K H x.1 x.2.1):∃ys,Paired Pq xs ys/\s.heap.DictOfH (oA X.prog X.w) d ys/\(d==sysModules)=false/\xs.length<=sizeLine:=by
 obtain⟨z,y,nd,ys,o,es,ep,pr,h1,h2,h3,h4⟩:=(Ek I.hok hd)
 refine⟨ys,pr,⟨o,es,ep,h1,h2,h3,h4,?_,by rw[kZ pr];exact nd⟩,y,z⟩
 have go:∀{xs:List SV}{ys:List _},Paired Pq xs ys->(∀x∈xs,bU X.K H x.1 x.2.1)->∀y∈ys,pF X.prog X.w s.heap y.1 y.2.1:=by
  intro xs ys pr
  induction pr with
  |nil=>intro _ y hy;cases hy
  | @cons x y xs ys h t ih=>
   intro hk q hq
   rcases QCq.mp hq with rfl|hq
   ·rw[<-h.1,<-h.2.1];exact jQ I (hk x QYz)
   ·exact ih (fun z hz=>hk z (QYq _ hz)) q hq
 exact go pr hk
def ad6(hu:A.units+2<cLine)(I:L2.Inv X γ σ H s)(hd:Rd H d (sD xs))(hk:∀x∈xs,bU X.K H x.1 x.2.1)(ha:bU X.K H k a)(h:∀s',L2.Inv X γ σ H s'->Q (.bool (zp k xs).isSome) s'):
  wpAny (model X.prog X.w) A (compareOp .In (.ref a) (.ref d)) Q E s:=by
 obtain⟨ys,pr,dd,y,z⟩:=lE I hd hk
 refine wpAny_in_heap (hu) (jQ I ha) y dd ?_
 have e:(atKey ys k).isSome=(zp k xs).isSome:=by rw[(zm pr).iJ];simp
 rw[e]
 exact h _ (I.tok _)
def Qo(hu:A.units+2<cLine)(I:L2.Inv X γ σ H s)(hd:Rd H d (sD xs))(hk:∀x∈xs,bU X.K H x.1 x.2.1)(ha:bU X.K H k a)(h:∀s',L2.Inv X γ σ H s'->Q (.bool (!(zp k xs).isSome)) s'):
  wpAny (model X.prog X.w) A (compareOp .NotIn (.ref a) (.ref d)) Q E s:=by
 obtain⟨ys,pr,dd,y,z⟩:=lE I hd hk
 refine PyProof.Rows.wpAny_notIn_heap (hu) (jQ I ha) y dd ?_
 have e:(atKey ys k).isSome=(zp k xs).isSome:=by rw[(zm pr).iJ];simp
 rw[e]
 exact h _ (I.tok _)
def Hb{Q:QZq}(hu:A.units+2<cLine)(I:L2.Inv X γ σ H s)(hd:Rd H d (sD xs))(hk:∀x∈xs,bU X.K H x.1 x.2.1)(ha:bU X.K H k a)(hv:zp k xs=some v)(h:∀u s',L2.Inv X γ σ H s'->RelV v u->Q u s'):
  wpAny (model X.prog X.w) A (getItem (.ref d) (.ref a)) Q E s:=by
 obtain⟨ys,pr,dd,y,z⟩:=lE I hd hk
 obtain⟨u,hw,ru⟩:=ud.some_of (by rw[<-hv];exact zm pr)
 obtain⟨p,hp,rfl⟩:=QJz.mp hw
 exact wpAny_getItem_heap (hu) (jQ I ha) dd hp (h _ _ (I.tok _) ru)
def rE{r:Value}(rv:RelV v r)(pr:Paired Pq xs ys):Paired Pq (lY k a v xs) (storedH ys k a r):=by
 have e:(atKey ys k).isSome=(zp k xs).isSome:=by rw[(zm pr).iJ];simp
 unfold lY storedH
 rw[e]
 split
 ·rename_i z
  clear e z
  induction pr with
  |nil=>exact .nil
  | @cons x y xs ys h t ih=>
   refine .cons ?_ ih
   show Pq (if x.1=k then(x.1,x.2.1,v)else x) _
   unfold putAt
   by_cases c:y.1=k
   ·rw[if_pos c,if_pos (h.1.trans c)];exact⟨h.1,h.2.1,rv⟩
   ·rw[if_neg c,if_neg fun q=>c (h.1.symm.trans q)];exact h
 ·exact Paired.snoc pr ⟨rfl,rfl,rv⟩
def El v:(lY k a v xs).length<=xs.length+1:=by
 unfold lY
 split<;>simp
def J0{w:World}{h':Heap}(z:xs.length<=sizeLine)(y:(d==sysModules)=false)(pr:Paired Pq xs ys)(dd:h'.DictOfH (oA P w) d ys):cA P w H' h' d (sD xs):=by
 obtain⟨o,es,ep,h1,h2,h3,h4,h5,h6⟩:=dd
 exact⟨z,y,by rw[<-kZ pr];exact h6,ys,o,es,ep,pr,h1,h2,h3,h4⟩
def Ha{r:Value}(hu:A.units+2<cLine)(I:L2.Inv X γ σ H s)(hd:H d=some (sD xs))(hk:∀x∈xs,bU X.K H x.1 x.2.1)(ha:bU X.K H k a)(hl:xs.length<sizeLine)(rv:RelV v r)
  (h:∀s',L2.Inv X γ σ (upd H d (sD (lY k a v xs))) s'->Q () s'):wpAny (model X.prog X.w) A (setItem (.ref d) (.ref a) r) Q E s:=by
 obtain⟨ys,pr,dd,y,z⟩:=lE I (.inl hd) hk
 have hz:ys.length<=sizeLine:=by
  have:=congrArg List.length (kZ pr)
  simp at this
  omega
 refine wpAny_setItem_heap (hu) (jQ I ha) dd fun h' dd' hs=>h _ ?_
 have pl:=El (k:=k) (a:=a) (xs:=xs) v
 exact nH I (by rw[hd];exact True.intro) hs (let ⟨q,_,_,hq,_⟩:=dd';⟨q,hq⟩) (J0 (by omega) y (rE rv pr) dd')
end
section
variable{X:Cx}{γ:QQz}{σ:L2.St}{H:Hp}{s:Shared}{A:Around}{E:QZq}{d:Addr}{xs:List SV}
def aa1(I:L2.Inv X γ σ H s)(e:Rd H d (sD xs))(h:∀t s',L2.Inv X γ σ H s'->Q (.int xs.length t) s'):wpAny (model X.prog X.w) A (call (.builtin "len") [.ref d]) Q E s:=by
 obtain⟨z,y,_,ys,o,es,ep,pr,h1,h2,h3,h4⟩:=(Ek I.hok e)
 have hn:es.size=xs.length:=by
  have q1:=congrArg List.length h4
  have q2:=congrArg List.length (kZ pr)
  simp at q1 q2
  omega
 have hl:=sizeLine_eq
 have t:s.TypeIs (.ref d) "dict":=⟨o,h1,h2.1⟩
 refine Calls.call_function_entry kind_len plain_len entry_len (args_len1 _) ?_
 refine QKq (QKz ?_)
 refine QKq (wpAny_callSpecial?_slot t F.slot_dict_len (Qzz F.slot_dict_len t F.entry_dict_len ?_ (F.args_dict_len_1 _)))
 show wpAny _ _ (dictSize d>>=_) _ _ s
 refine QKq (QKq (wpAny_dictEntries h1 h3 (QKz ?_)))
 refine QKq (wpAny_pendingCount_other y ?_)
 refine wpAny_ret_mkInt ?_
 rw[hn]
 refine QKq (Qqq (QKz ?_))
 refine QKq (wpAny_letGo ?_)
 rw[if_neg (by omega)]
 rw[if_neg (by omega)]
 exact QKq (wpAny_mkInt (QKz ⟨_,rfl,h _ _ (I.tok _)⟩))
theorem JZ{a:Addr}(hu:A.units+2<cLine)(I:L2.Inv X γ σ H s)(e:Rd H d (.dK []))(ha:bU X.K H k a)(h:∀s',L2.Inv X γ σ H s'->Q (.bool true) s'):
  wpAny (model X.prog X.w) A (compareOp .NotIn (.ref a) (.ref d)) Q E s:=by
 obtain⟨z,hd,vs,rel,o,es,ep,q1,q2,q3,q4,q5,q6⟩:=nG I.hok e
 cases rel
 have e0:es.toList=[]:=by cases hq:es.toList with
  |nil=>rfl
  |cons=>rw[hq]at q5;cases q5
 have dd:s.heap.DictOfH (oA X.prog X.w) d []:=⟨o,es,ep,q1,q2,q3,by rw[e0];rfl,fun x hx=>(nomatch hx),List.nodup_nil⟩
 exact PyProof.Rows.wpAny_notIn_heap (hu) (jQ I ha) hd dd (h _ (I.tok _))
end
def GX{x y:Value}{W:World}{E:QZq}{Q:PUnit->Shared->Prop}(h:wpAny (model P W) A (dictSet d x y) (fun _ s'=>Q PUnit.unit s') E s):wpAny (model P W) A (storeAll d [(x,y)]) Q E s:=by
 unfold storeAll
 rw[List.forIn_cons]
 refine QKq (QKq (b7 h fun _ s' q=>QKz ?_))
 show wpAny _ _ (forIn ([]) PUnit.unit _) _ _ _
 exact QKz q
noncomputable def aaK(K:QQq)(nT:List (TE×TE)):TE:=fun σ H Q=>∀p,H p=none->v8 nT σ (upd H p (.dK [])) fun ps H2=>H2 p=some (.dK [])/\∃k a v,ps=[(.ref a,v)]/\bU K H2 k a/\Q (.ref p) (upd H2 p (sD [(k,a,v)]))
def bare{w:World}{h:Heap}(d:h.DictOf (fX P w) a []):h.DictOfH (oA P w) a []:=by
 obtain⟨o,es,ep,h1,h2,h3,h4,h5,h6⟩:=d
 have e:es.toList=[]:=by
  cases q:es.toList with
  |nil=>rfl
  |cons x y=>rw[q]at h5;cases h5
 exact⟨o,es,ep,h1,h2,h3,by simp[e],fun x hx=>(nomatch hx),List.nodup_nil⟩
theorem Q3{pos:Pos}{values:List Expr}(hu:X.A.units+2<cLine)(h:PPs X pos keys values nT)(hall:keys.all (·.isSome)=true)(hl:keys.length=values.length)(h0:keys≠[])
  (h15:keys.length<=15):PE X (.Dict keys values pos) (aaK X.K nT):=by
 intro γ s σ H Q I q
 refine wpAny_Dict_any hall hl h0 h15 (b7 (h γ _ σ _ _ (I.laid (t':=s.toks) (fun _ _ q=>QWq _ q) (QVz _) (zO s.heap I.big)) (q _ (I.hok.fresh (QVz s.heap.objs.size)))) fun ws s2⟨ps,H2,I2,rel,e,z⟩=>?_)
 obtain⟨_,hd,vs0,r0,dd⟩:=Nj I2.hok e
 cases r0
 obtain⟨k,a,v,ep,ka,q2⟩:=z
 ·subst ep
  cases rel with
  | @cons _ b _ bs rv t=>
   cases t
   obtain⟨b1,b2⟩:=b
   obtain⟨r1,r2⟩:=rv
   cases r1
   refine GX (wpAny_dictSet_heap (show X.A.units+1<cLine by omega) (jQ I2 ka) (bare dd) fun h' dd' hs=>?_)
   refine⟨.ref s.heap.objs.size,_,nH I2 (by rw[e];exact True.intro) hs (let ⟨q,_,_,hq,_⟩:=dd';⟨q,hq⟩) (J0 (by rw[sizeLine_eq];show 1<=_;decide) hd (rE r2 .nil) dd'),rfl,q2⟩
def qu(h:Heap)(d:Addr)(es:Array DictEntry)(ep:Nat):Prop:=∃o,h.get? d=some o/\o.ExactDict/\o.data=.dict es ep
section
def Jc(y:(d==sysModules)=false)(B:qu s.heap d es ep)
  (q:Q (.ref s.heap.objs.size) {s with heap:=s.heap.push {cls:=.type "dict_keyiterator",data:=.fields #[.ref d,.int 0 0,.int es.size 0,.int ep 0]}}):wpAny (model prog w) A (pyIter (.ref d)) Q E s:=by
 obtain⟨o,h1,h2,h3⟩:=B
 have t:s.TypeIs (.ref d) "dict":=⟨o,h1,h2.1⟩
 refine wpAny_pyIter_slot t F.slot_dict_iter (Qzz F.slot_dict_iter t F.entry_dict_iter ?_ (F.args_dict_iter_1 _))
 refine QKq (QKq (wpAny_notOrdered_dict t (QKz ?_)))
 show wpAny _ _ (Builtin.Dict.showsAll d>>=_) _ _ s;unfold Builtin.Dict.showsAll;rw[if_neg (by rw[y];decide)]
 refine QKq (QKz (QKq (wpAny_dictEntries h1 h3 (QKq (wpAny_dictEpoch h1 h3 ?_)))))
 refine QKq (Qjq (QKz ⟨_,rfl,"dict_keyiterator",_,⟨_,Qzq _ rfl,rfl⟩,F.slot_dict_keyiterator_next.lookup,q⟩))
def Jd{Q:Option Value->Shared->Prop}(st:s.heap.IsKeyIter it d i es.size ep)(B:qu s.heap d es ep)(x:es[i]? =some e)
  (q:∀h',h'.IsKeyIter it d (i+1) es.size ep->Heap.SameBut it s.heap h'->Q (some e.key) {s with heap:=h'}):wpAny (model prog w) A (pyNext (.ref it)) Q E s:=by
 obtain⟨o,g1,g2,g3⟩:=id st
 obtain⟨od,h1,h2,h3⟩:=B
 refine QKq (wpAny_attempt (wpAny_callSpecial?_slot st.typeIs F.slot_dict_keyiterator_next (Qzz F.slot_dict_keyiterator_next st.typeIs F.entry_dict_keyiterator_next ?_ (F.args_dict_keyiterator_next_1 _))))
 refine QKq (QKz (QKq (QKq ?_)))
 first|refine QKq (wpAny_typeNameOfWhole_keyiter st.typeIs (QKz ?_))|refine QKq _
 refine QKq (wpAny_fieldsOf g1 g3 ?_)
 refine QKq (QKz (QKq (wpAny_dictEntries h1 h3 ?_)))
 rw[if_neg (by simp)]
 refine QKq (QKz (QKq (wpAny_dictEpoch h1 h3 ?_)))
 rw[if_neg (by simp)]
 refine QKz ?_
 simp only[show¬(i<0) by omega,if_false,Int.toNat_natCast,x]
 refine QKq ?_
 first|refine QKq (wpAny_typeNameOfWhole_keyiter st.typeIs (QKz ?_))|refine QKq _
 refine QKq (wpAny_isOneOf_keyiter st.typeIs ?_)
 show wpAny _ _ (setField _ 1 (rawInt (i+1))>>=_) _ _ s;refine QKq (wpAny_setField g1 g3 (by simp) ?_)
 have st':(s.heap.update it (Obj.mapFields (·.setIfInBounds 1 (rawInt (i+1))))).IsKeyIter it d (i+1) es.size ep:=⟨_,Heap.get?_update_self _ g1 (Obj.isFreed_of_fields (Obj.data_mapFields g3 _)),(Obj.cls_mapFields ..).trans g2,by rw[Obj.data_mapFields g3];simp[rawInt]⟩
 exact QKq (Qqq (QKq (wpAny_isOneOf_keyiter (s:={s with heap:=s.heap.update it (Obj.mapFields (·.setIfInBounds 1 (rawInt (i+1))))}) st'.typeIs (QKz (QKz ⟨_,rfl,QKz (q _ st' (Heap.SameBut.update ..))⟩)))))
def Og(hh:A.handled=none)(st:s.heap.IsKeyIter it d i es.size ep)(B:qu s.heap d es ep)(x:es.size<=i)
  (q:∀h',Heap.ExtBut it s.heap h'->Q none {s with heap:=h'}):wpAny (model prog w) A (pyNext (.ref it)) Q E s:=by
 obtain⟨o,g1,g2,g3⟩:=id st
 obtain⟨od,h1,h2,h3⟩:=B
 refine QKq (wpAny_attempt (wpAny_callSpecial?_slot st.typeIs F.slot_dict_keyiterator_next (Qzz F.slot_dict_keyiterator_next st.typeIs F.entry_dict_keyiterator_next ?_ (F.args_dict_keyiterator_next_1 _))))
 refine QKq (QKz (QKq (QKq ?_)))
 first|refine QKq (wpAny_typeNameOfWhole_keyiter st.typeIs (QKz ?_))|refine QKq _
 refine QKq (wpAny_fieldsOf g1 g3 ?_)
 refine QKq (QKz (QKq (wpAny_dictEntries h1 h3 ?_)))
 rw[if_neg (by simp)]
 refine QKq (QKz (QKq (wpAny_dictEpoch h1 h3 ?_)))
 rw[if_neg (by simp)]
 refine QKz ?_
 simp only[show¬(i<0) by omega,if_false,Int.toNat_natCast,Array.getElem?_eq_none x]
 refine QKq ?_
 first|refine QKq (wpAny_typeNameOfWhole_keyiter st.typeIs (QKz ?_))|refine QKq _
 show wpAny _ _ (setField _ 0 .none>>=_) _ _ s;refine QKq (wpAny_setField g1 g3 (by simp) ?_)
 show wpAny _ _ _ _ _ _;refine QKq ?_
 refine QKq (Qjq (QKq (wpAny_of_eq (by first|rfl|(simp only[firstArgMember];rfl)) ?_)) (by size_fits))
 refine Qjq ?_ (by size_fits);simp only[raiseNew]
 refine QKq (wpAny_handled ?_);rw[show A.in1.handled=none from hh]
 refine QKq (QKz (wpAny_throw ?_));refine QKq (wpAny_isInstance ⟨_,Qzq _ rfl,rfl⟩ isSubtype_stop ?_)
 exact QKz (q _ (((Heap.SameBut.update ..).extBut.push _).push _))
end
section
variable{s:Shared}
def qu.stay(B:qu h d es ep)(k:∀o,h.get? d=some o->h'.get? d=some o):qu h' d es ep:=let ⟨o,e,r⟩:=B;⟨o,k _ e,r⟩
def qu.lt(B:qu h d es ep):d<h.objs.size:=let ⟨_,e,_⟩:=B;Qqz e
def qu.type(B:qu s.heap d es ep):s.TypeIs (.ref d) "dict":=let ⟨o,e,c,_⟩:=B;⟨o,e,c.1⟩
theorem Dn(hh:A.handled=none)(ne:d≠it):Walks prog w A it [it,d] [it] es.size (fun i v=>∃e,es[i]? =some e/\v=e.key) (fun i h=>h.IsKeyIter it d i es.size ep/\qu h d es ep) where
 sub:=fun b hb=>QCq.mpr (.inl (QDz.mp hb))
 frame:=fun _ _ _ st k=>⟨st.1.at fun o e=>k it QYz o e,st.2.stay fun o e=>k d (QYq _ QYz) o e⟩
 item:=fun i s Q E hi st q=>Jd st.1 st.2 (Array.getElem?_eq_getElem hi) fun h' st' sb=>q _ h' s.toks ⟨es[i],Array.getElem?_eq_getElem hi,rfl⟩ ⟨st',st.2.stay fun o e=>(sb.2 d ne).trans e⟩ fun b o hb e=>(sb.2 b fun z=>hb (QDz.mpr z)).trans e
 done:=fun s Q E st q=>Og hh st.1 st.2 (QVz _) fun h' eb=>q h' s.toks fun b o hb e=>eb b o (fun z=>hb (QDz.mpr z)) e
 self:=fun _ _ _ _ st q=>wpAny_pyIter_keyiter st.1 q
theorem Oe(y:(d==sysModules)=false):PySem.W.KdlSrc prog w "dict" d d es.size (fun i v=>∃e,es[i]? =some e/\v=e.key) (fun h=>qu h d es ep) where
 type:=fun _ B=>B.type
 there:=fun _ B=>⟨B.lt,B.lt⟩
 keep:=fun _ _ B k=>B.stay fun o e=>k d (.inl rfl) o e
 notList:=by decide
 notTuple:=by decide
 hint:=fun _ _ _ _ B q=>PySem.W.kdl_hint_dict B.type q
 iter:=fun _ _ hh B=>⟨_,_,(fun _ _ q=>Jc y B q),Dn hh (Qvz B.lt),⟨⟨_,Qzq _ rfl,rfl,rfl⟩,B.stay fun o e=>QWq _ e⟩⟩
end
section
def QD{P:Program}{w:World}:∀{xs:List SV}{ys:List (SK×Addr×Value)}{vs:List Value},Paired Pq xs ys->vs=ys.map (fun y=>Value.ref y.2.1)->Vals (xs.map fun x=>V.ref x.2.1) vs:=by
 intro xs ys vs pr e
 subst e
 induction pr with
 |nil=>exact .nil
 |cons h t ih=>exact .cons (by show Value.ref _=Value.ref _;rw[h.2.1]) ih
def Dh(hc:X.calm=true):fV X (.type "list") (fun xs H Q=>(∃p ys,xs=[.ref p]/\(jA X.K H p ys\/iQ X.K H p ys)/\∀l,H l=none->Q (.ref l) (upd H l (.lst ys)))\/
  ∃a ks,xs=[.ref a]/\Rd H a (sD ks)/\∀l,H l=none->Q (.ref l) (upd H l (.lst (ks.map fun x=>.ref x.2.1)))):=by
 intro γ s σ H xs us Q I r h
 rcases h with h|⟨a,ks,rfl,e,q⟩
 ·exact xM γ s σ H xs us Q I r h
 obtain⟨u,rfl,rx⟩:=vals1 r
 cases rx
 obtain⟨z,y,nd,ys,o,es,ep,pr,h1,h2,h3,h4⟩:=(Ek I.hok e)
 have le:es.size=ys.length:=by rw[<-Array.length_toList,h4,QAq]
 have lk:=Paired.length pr
 refine PySem.W.kdl_call (Oe y) (I.ok.hd hc) ⟨o,h1,h2,h3⟩ (by omega) fun h' tk acc c' kp g it=>?_
 have ev:acc.toList=ys.map fun y=>Value.ref y.2.1:=by
  refine List.ext_getElem? fun i=>?_
  rw[Array.getElem?_toList,QFz]
  by_cases hi:i<acc.size
  ·obtain⟨e,e1,e2⟩:=it.2 i acc[i] (Array.getElem?_eq_getElem hi)
   rw[<-Array.getElem?_toList,h4,QFz]at e1
   obtain⟨p,p1,p2⟩:=QJz.mp e1
   rw[Array.getElem?_eq_getElem hi,p1,e2,<-p2]
   rfl
  ·have:acc.size=ys.length:=by rw[it.1,le]
   rw[Array.getElem?_eq_none (by omega),List.getElem?_eq_none (by omega)]
   rfl
 refine⟨.ref s.heap.objs.size,_,I.laid kp (QVz _) (show cA X.prog X.w _ h' _ (.lst _)from⟨by rw[QAq];omega,acc.toList,c',QD (P:=X.prog) (w:=X.w) pr ev,by simpa using g⟩),rfl,q _ (I.hok.fresh (QVz _))⟩
end
end Mini
end
section
namespace Mini
open PySem L2 PyProof.Rows
def uf(b:Bool)(h:Heap)(it l:Addr)(k:Nat):Prop:=match b with|true=>h.IsListIter it l k|false=>h.IsTupleIter it l k
def xZ(b:Bool)(h:Heap)(l:Addr)(xs:Array Value):Prop:=match b with|true=>h.IsList l xs|false=>h.IsTuple l xs
def uf.at{h h':Heap}{k:Nat}(x:uf b h it l k)(e:∀o,h.get? it=some o->h'.get? it=some o):uf b h' it l k:=by
 cases b<;>exact Exists.elim x fun o⟨h1,h2⟩=>⟨o,e o h1,h2⟩
def xZ.at{h h':Heap}{xs:Array Value}(x:xZ b h l xs)(e:∀o,h.get? l=some o->h'.get? l=some o):xZ b h' l xs:=by
 cases b<;>exact Exists.elim x fun o⟨h1,h2⟩=>⟨o,e o h1,h2⟩
def uf.obj{h:Heap}{k:Nat}(x:uf b h it l k):∃o,h.get? it=some o/\∀v,o.data≠ .cell v:=by
 cases b<;>exact Exists.elim x fun o⟨h1,_,h2⟩=>⟨o,h1,fun v z=>by rw[h2]at z;cases z⟩
def uf.lt{h:Heap}{k:Nat}(x:uf b h it l k):it<h.objs.size:=let ⟨_,e,_⟩:=x.obj;Qqz e
section
def m6{i:Nat}{items}{Q:QZq}(hit:s.heap.IsTupleIter it l i)
  (hl:s.heap.IsTuple l items)(hx:items[i]? =some x)
  (hQ:∀h',h'.IsTupleIter it l (i+1)->Heap.SameBut it s.heap h'->Q x {s with heap:=h'}):
  wpAny (model prog w) A (Builtin.SmallTypes.nextOf (.ref it)) Q E s:=by
 obtain⟨o,ho,hc,hd⟩:=id hit
 obtain⟨ol,hol,_,nl,hdl⟩:=hl
 refine QKq (wpAny_callSpecial?_slot hit.typeIs PySem.F.slot_tuple_iterator_next
  (Qzz PySem.F.slot_tuple_iterator_next hit.typeIs PySem.F.entry_tuple_iterator_next ?_ (PySem.F.args_tuple_iterator_next_1 _)))
 show wpAny _ _ (field _ 0>>=_) _ _ s
 refine QKq (QGz ho hd rfl ?_)
 refine QKq (QGz ho hd rfl ?_)
 refine QKq (wpAny_seqItems hol hdl ?_)
 simp only[Int.toNat_natCast,hx]
 refine QKq (wpAny_setField ho hd (by simp) (QKz ⟨x,rfl,QKz (hQ _ ?_ (Heap.SameBut.update ..))⟩))
 exact⟨_,Heap.get?_update_self _ ho (Obj.isFreed_of_fields (Obj.data_mapFields hd _)),(Obj.cls_mapFields ..).trans hc,by
  rw[Obj.data_mapFields hd];simp[rawInt]⟩
def oO{i:Nat}{items}(hh:A.handled=none)
  (hit:s.heap.IsTupleIter it l i)(hl:s.heap.IsTuple l items)(hx:items[i]? =none)
  (hE:∀h' e,Heap.ExtBut it s.heap h'->(∃o,h'.get? e=some o/\o.cls=.type "StopIteration")->E (.ref e) {s with heap:=h'}):
  wpAny (model prog w) A (Builtin.SmallTypes.nextOf (.ref it)) Q E s:=by
 obtain⟨o,ho,hc,hd⟩:=id hit
 obtain⟨ol,hol,_,nl,hdl⟩:=hl
 refine QKq (wpAny_callSpecial?_slot hit.typeIs PySem.F.slot_tuple_iterator_next
  (Qzz PySem.F.slot_tuple_iterator_next hit.typeIs PySem.F.entry_tuple_iterator_next ?_ (PySem.F.args_tuple_iterator_next_1 _)))
 show wpAny _ _ (field _ 0>>=_) _ _ s
 refine QKq (QGz ho hd rfl ?_)
 refine QKq (QGz ho hd rfl ?_)
 refine QKq (wpAny_seqItems hol hdl ?_)
 simp only[Int.toNat_natCast,hx]
 refine QKq (wpAny_rule (QKq (wpAny_setField ho hd (by simp) ?_)))
 refine QKq ?_
 refine QKq (Qjq ?_ (by size_fits))
 refine QKq (wpAny_of_eq (by first|rfl|(simp only[firstArgMember];rfl)) ?_)
 refine Qjq ?_ (by size_fits)
 refine QKq (wpAny_handled ?_)
 first|rw[show A.in1.handled=none from hh]|rw[hh]
 refine QKq (QKz (wpAny_throw (hE _ _ (((Heap.SameBut.update ..).extBut.push _).push _) ⟨_,Qzq _ rfl,rfl⟩)))
theorem eZ{it l:Addr}{items}{Q:QZq}(hit:uf b s.heap it l i)
  (hl:xZ b s.heap l items)(hx:items[i]? =some x)(hQ:∀h',uf b h' it l (i+1)->Heap.SameBut it s.heap h'->Q x {s with heap:=h'}):
  wpAny (model prog w) A (Builtin.SmallTypes.nextOf (.ref it)) Q E s:=by
 cases b with
 |true=>exact wpAny_nextOf_list_item hit hl hx hQ
 |false=>exact m6 hit hl hx hQ
theorem kJ{it l:Addr}{items}(hh:A.handled=none)
  (hit:uf b s.heap it l i)(hl:xZ b s.heap l items)(hx:items[i]? =none)
  (hE:∀h' e,Heap.ExtBut it s.heap h'->(∃o,h'.get? e=some o/\o.cls=.type "StopIteration")->E (.ref e) {s with heap:=h'}):
  wpAny (model prog w) A (Builtin.SmallTypes.nextOf (.ref it)) Q E s:=by
 cases b with
 |true=>exact wpAny_nextOf_list_end hh hit hl hx hE
 |false=>exact oO hh hit hl hx hE
end
def jt(h:Heap)(z TI TO:Addr)(f0 f1:Value):Prop:=
 h.get? z=some {cls:=.type "zip",dict:=none,data:=.fields #[f0,f1,.bool false,.ref TI,.ref TO],slots:= #[]}
def F0(f0:Value):Prop:=f0=.none\/∃T:Nat,f0=rawInt T
section
def mO{a:Addr}(h:Q (s.heap.get? a) s):wpAny M A (loadIfAlive a) Q E s:=fun Γ p hΓ=>by
 show Sem.wp M Γ _ _ _ p s
 exact(QKz (M:=M) (E:=E) h) Γ p hΓ
theorem ye{z TI TO:Addr}{f0 f1:Value}(hz:jt s.heap z TI TO f0 f1)(h0:F0 f0)(hQ1:Q true s)
  (hQ2:∀h' g1,jt h' z TI TO f0 g1->Heap.SameBut z s.heap h'->Q false {s with heap:=h'}):wpAny (model prog w) A (Builtin.SmallTypes.ownedTupleIsFree (.ref z)) Q E s:=by
 rcases h0 with rfl|⟨T,rfl⟩
 ·exact QKq (QGz hz rfl rfl (QKz hQ1))
 ·refine QKq (QGz hz rfl rfl ?_)
  refine QKq (mO ?_)
  cases hT:s.heap.get? _ with
  |none=>exact QKz hQ1
  |some o=>
   refine QKq (QGz hz rfl (x:=f1) rfl ?_)
   by_cases hf:(f1 != .bool true)=true
   ·rw[if_pos hf]
    refine QKq (wpAny_setField_rec hz (by simp) fun h' hz' hs'=>QKz (hQ2 h' _ hz' hs'))
   ·rw[if_neg hf]
    exact QKz (hQ2 s.heap f1 hz (Heap.SameBut.refl ..))
structure Oz(z TI TO i1 i2:Addr)(b1 b2:Bool)(l1 l2:Addr)(k1 k2:Nat)(T:Addr)(x y:Value)(h h':Heap):Prop where
 zr:∃f0 f1,jt h' z TI TO f0 f1/\F0 f0
 ti:IsPair h' TI (.ref i1) (.ref i2)
 to:∃a b,IsPair h' TO a b
 it1:uf b1 h' i1 l1 k1
 it2:uf b2 h' i2 l2 k2
 new:IsPair h' T x y
 size:h'.objs.size=T+1
 keep:∀c o,c≠z->c≠TO->c≠i1->c≠i2->h.get? c=some o->h'.get? c=some o
def Gz{z TI TO i1 i2 l1 l2:Addr}{k1 k2:Nat}{xs ys:Array Value}{Q:QZq}(D:ZipApart z TI TO i1 i2 l1 l2)
  (hz:jt s.heap z TI TO f0 f1)(h0:F0 f0)(hTI:IsPair s.heap TI (.ref i1) (.ref i2))(hTO:IsPair s.heap TO a b)
  (h1:uf b1 s.heap i1 l1 k1)(h2:uf b2 s.heap i2 l2 k2)(hl1:xZ b1 s.heap l1 xs)(hl2:xZ b2 s.heap l2 ys)(hx:xs[k1]? =some x)(hy:ys[k2]? =some y)
  (hQ:∀h',Oz z TI TO i1 i2 b1 b2 l1 l2 (k1+1) (k2+1) s.heap.objs.size x y s.heap h'->Q (.ref s.heap.objs.size) {s with heap:=h'}):
  wpAny (model prog w) A (Builtin.«zip.__next__» ⟨[.ref z],[]⟩) (fun fin s'=>∃v,fin=.done (.ret v)/\Q v s') E s:=by
 show wpAny _ _ (field (.ref z) 2>>=_) _ _ _
 refine QKq (QGz hz rfl rfl ?_)
 refine QKq (QGz hz rfl rfl ?_)
 refine QKq (wpAny_seqItems hTI rfl ?_)
 refine QKq (ye hz h0 ?_ ?_)
 ·--the tuple of its own is used again
  refine QKq (wpAny_rule ?_)
  refine QKq (QGz hz rfl rfl ?_)
  refine QKq (wpAny_setField_rec hz (by simp) fun ω ψ θ=>?_)
  replace ψ:jt ω z TI TO .ellipsis f1:=ψ
  refine QKq ?_
  refine QKq (QKq (wpAny_onRaise ?_))
  refine QKq (eZ (h1.at fun o e=>θ.extBut _ _ D.i1z e) (hl1.at fun o e=>θ.extBut _ _ D.l1z e) hx fun h₂ h1₂ μ=>QKz ?_)
  have Ω:=μ.extBut _ _ D.TOi1 (θ.extBut _ _ D.TOz hTO)
  refine QKq (wpAny_seqItems Ω rfl ?_)
  refine QKq (wpAny_updateSeq_pair Ω fun h₃ hTO₃ χ=>?_)
  replace hTO₃:IsPair h₃ TO x b:=hTO₃
  refine QKq (wpAny_letGo (QKz ?_))
  refine QKq (QKq (wpAny_onRaise ?_))
  refine QKq (eZ (h2.at fun o e=>χ.extBut _ _ D.TOi2.symm (μ.extBut _ _ D.i12.symm (θ.extBut _ _ D.i2z e)))
   (hl2.at fun o e=>χ.extBut _ _ D.l2TO (μ.extBut _ _ D.l2i1 (θ.extBut _ _ D.l2z e))) hy fun h₄ h2₄ φ=>QKz ?_)
  have hTO₄:=φ.extBut _ _ D.TOi2 hTO₃
  refine QKq (wpAny_seqItems hTO₄ rfl ?_)
  refine QKq (wpAny_updateSeq_pair hTO₄ fun Ψ hTO₅ Θ=>?_)
  replace hTO₅:IsPair Ψ TO x y:=hTO₅
  refine QKq (wpAny_letGo (QKz (QKz ?_)))
  refine QKq (wpAny_seqItems hTO₅ rfl ?_)
  refine QKq (wpAny_newTuple ?_)
  have hsz:Ψ.objs.size=s.heap.objs.size:=by rw[Θ.1,φ.1,χ.1,μ.1,θ.1]
  have hz₅:=Θ.extBut _ _ D.TOz.symm (φ.extBut _ _ D.i2z.symm (χ.extBut _ _ D.TOz.symm (μ.extBut _ _ D.i1z.symm ψ)))
  have hk₅:∀c o,c≠z->c≠TO->c≠i1->c≠i2->s.heap.get? c=some o->Ψ.get? c=some o:=fun c o c1 c2 c3 c4 e=>
   Θ.extBut _ _ c2 (φ.extBut _ _ c4 (χ.extBut _ _ c2 (μ.extBut _ _ c3 (θ.extBut _ _ c1 e))))
  have hzlt:=Qqz hz₅
  refine QKq ?_
  refine QKq (wpAny_setField_rec (QWq _ hz₅) (by simp) fun h₇ hz₇ hs₇=>?_)
  replace hz₇:jt h₇ z TI TO (rawInt Ψ.objs.size) f1:=hz₇
  refine wpAny_setField_rec hz₇ (by simp) fun h₈ hz₈ hs₈=>?_
  replace hz₈:jt h₈ z TI TO (rawInt Ψ.objs.size) (.bool false):=hz₈
  have up:∀c o,c≠z->Ψ.get? c=some o->h₈.get? c=some o:=fun c o c1 e=>hs₈.extBut _ _ c1 (hs₇.extBut _ _ c1 (QWq _ e))
  have hT₈:=hs₈.extBut _ _ (Nat.ne_of_gt hzlt) (hs₇.extBut _ _ (Nat.ne_of_gt hzlt) (Qzq _ rfl))
  have hz8:h₈.objs.size=Ψ.objs.size+1:=by rw[hs₈.1,hs₇.1,Heap.size_push]
  rw[hsz]at hz₈ hT₈ hz8
  refine QKz ⟨_,rfl,?_⟩
  rw[hsz]
  exact hQ h₈ ⟨⟨_,_,hz₈,.inr ⟨_,rfl⟩⟩,up _ _ D.TIz (hk₅ _ _ D.TIz D.TITO D.TIi1 D.TIi2 hTI),⟨_,_,up _ _ D.TOz hTO₅⟩,(h1₂.at fun o e=>Θ.extBut _ _ D.TOi1.symm (φ.extBut _ _ D.i12 (χ.extBut _ _ D.TOi1.symm e))).at fun o e=>up _ o D.i1z e,(h2₄.at fun o e=>Θ.extBut _ _ D.TOi2.symm e).at fun o e=>up _ o D.i2z e,hT₈,hz8,fun c o c1 c2 c3 c4 e=>up c o c1 (hk₅ c o c1 c2 c3 c4 e)⟩
 ·--it was kept:a new one
  intro ω g1 ψ θ
  refine QKq ?_
  refine QKq (QKq (Qqq ?_))
  refine QKq (eZ (h1.at fun o e=>θ.extBut _ _ D.i1z e) (hl1.at fun o e=>θ.extBut _ _ D.l1z e) hx fun h₂ h1₂ μ=>QKz ?_)
  refine QKz ?_
  refine QKq (QKq (Qqq ?_))
  refine QKq (eZ (h2.at fun o e=>μ.extBut _ _ D.i12.symm (θ.extBut _ _ D.i2z e))
   (hl2.at fun o e=>μ.extBut _ _ D.l2i1 (θ.extBut _ _ D.l2z e)) hy fun h₄ h2₄ φ=>QKz ?_)
  refine QKz (QKz ?_)
  have hsz:h₄.objs.size=s.heap.objs.size:=by rw[φ.1,μ.1,θ.1]
  have hk:∀c o,c≠z->c≠i1->c≠i2->s.heap.get? c=some o->h₄.get? c=some o:=fun c o c1 c3 c4 e=>φ.extBut _ _ c4 (μ.extBut _ _ c3 (θ.extBut _ _ c1 e))
  refine QKq (wpAny_newTuple (QKz ⟨_,rfl,?_⟩) (by show 2<=sizeLine;rw[sizeLine_eq];decide))
  have T:Oz z TI TO i1 i2 b1 b2 l1 l2 (k1+1) (k2+1) s.heap.objs.size x y s.heap (h₄.push {cls:=.type "tuple",data:=.seq #[x,y]}):=by
   refine⟨⟨f0,g1,QWq _ (φ.extBut _ _ D.i2z.symm (μ.extBut _ _ D.i1z.symm ψ)),h0⟩,QWq _ (hk _ _ D.TIz D.TIi1 D.TIi2 hTI),⟨a,b,QWq _ (hk _ _ D.TOz D.TOi1 D.TOi2 hTO)⟩,
    h1₂.at fun o e=>QWq _ (φ.extBut _ _ D.i12 e),h2₄.at fun o e=>QWq _ e,?_,by rw[Heap.size_push,hsz],fun c o c1 c2 c3 c4 e=>QWq _ (hk c o c1 c3 c4 e)⟩
   rw[<-hsz]
   exact Qzq _ rfl
  rw[hsz]
  exact hQ _ T
theorem Jk{z TI TO i1 i2 l1 l2:Addr}{k1 k2:Nat}{a b f0 f1:Value}(hh:A.handled=none)(D:ZipApart z TI TO i1 i2 l1 l2)
  (hz:jt s.heap z TI TO f0 f1)(h0:F0 f0)(hTI:IsPair s.heap TI (.ref i1) (.ref i2))(hTO:IsPair s.heap TO a b)
  (h1:uf b1 s.heap i1 l1 k1)(h2:uf b2 s.heap i2 l2 k2)(hl1:xZ b1 s.heap l1 xs)(hl2:xZ b2 s.heap l2 ys)(hend:xs[k1]? =none\/ys[k2]? =none)
  (hE:∀h' e,(∀c o,c≠z->c≠TO->c≠i1->c≠i2->s.heap.get? c=some o->h'.get? c=some o)->(∃o,h'.get? e=some o/\o.cls=.type "StopIteration")->E (.ref e) {s with heap:=h'}):
  wpAny (model prog w) A (Builtin.«zip.__next__» ⟨[.ref z],[]⟩) Q E s:=by
 show wpAny _ _ (field _ 2>>=_) _ _ _
 refine QKq (QGz hz rfl rfl ?_)
 refine QKq (QGz hz rfl rfl ?_)
 refine QKq (wpAny_seqItems hTI rfl ?_)
 refine QKq (ye hz h0 ?_ ?_)
 ·simp only[if_true]
  refine QKq (wpAny_rule ?_)
  refine QKq (QGz hz rfl rfl ?_)
  refine QKq (wpAny_setField_rec hz (by simp) fun ω ψ θ=>?_)
  replace ψ:jt ω z TI TO .ellipsis f1:=ψ
  refine QKq ?_
  refine QKq (QKq (wpAny_onRaise ?_))
  cases hx:xs[k1]? with
  |none=>
   refine QKq (kJ hh (h1.at fun o e=>θ.extBut _ _ D.i1z e) (hl1.at fun o e=>θ.extBut _ _ D.l1z e) hx fun h₂ e μ he=>?_)
   obtain⟨oe,hoe,hce⟩:=he
   have hz₂:jt h₂ z TI TO .ellipsis f1:=μ _ _ D.i1z.symm ψ
   refine wpAny_setField_rec hz₂ (by simp) fun h₃ _ χ=>hE h₃ e (fun c o c1 _ c3 _ x=>χ.extBut _ _ c1 (μ _ _ c3 (θ.extBut _ _ c1 x))) ⟨oe,χ.extBut _ _ (fun x=>by subst x;unfold jt at hz₂;rw[hz₂]at hoe;cases hoe;simp at hce) hoe,hce⟩
  |some x=>
   have hy:ys[k2]? =none:=by
    rcases hend with h|h
    ·rw[hx]at h;cases h
    ·exact h
   refine QKq (eZ (h1.at fun o e=>θ.extBut _ _ D.i1z e) (hl1.at fun o e=>θ.extBut _ _ D.l1z e) hx fun h₂ h1₂ μ=>QKz ?_)
   have Ω:=μ.extBut _ _ D.TOi1 (θ.extBut _ _ D.TOz hTO)
   refine QKq (wpAny_seqItems Ω rfl ?_)
   refine QKq (wpAny_updateSeq_pair Ω fun h₃ hTO₃ χ=>?_)
   refine QKq (wpAny_letGo (QKz ?_))
   refine QKq (QKq (wpAny_onRaise ?_))
   refine QKq (kJ hh (h2.at fun o e=>χ.extBut _ _ D.TOi2.symm (μ.extBut _ _ D.i12.symm (θ.extBut _ _ D.i2z e)))
    (hl2.at fun o e=>χ.extBut _ _ D.l2TO (μ.extBut _ _ D.l2i1 (θ.extBut _ _ D.l2z e))) hy fun h₄ e φ he=>?_)
   obtain⟨oe,hoe,hce⟩:=he
   have hz₄:jt h₄ z TI TO .ellipsis f1:=φ _ _ D.i2z.symm (χ.extBut _ _ D.TOz.symm (μ.extBut _ _ D.i1z.symm ψ))
   refine wpAny_setField_rec hz₄ (by simp) fun Ψ _ Θ=>hE Ψ e (fun c o c1 c2 c3 c4 x=>Θ.extBut _ _ c1 (φ _ _ c4 (χ.extBut _ _ c2 (μ.extBut _ _ c3 (θ.extBut _ _ c1 x))))) ⟨oe,Θ.extBut _ _ (fun x=>by subst x;unfold jt at hz₄;rw[hz₄]at hoe;cases hoe;simp at hce) hoe,hce⟩
 ·intro ω g1 ψ θ
  refine QKq ?_
  refine QKq (QKq (Qqq ?_))
  cases hx:xs[k1]? with
  |none=>
   exact QKq (kJ hh (h1.at fun o e=>θ.extBut _ _ D.i1z e) (hl1.at fun o e=>θ.extBut _ _ D.l1z e) hx fun h₂ e μ he=>hE h₂ e (fun c o c1 _ c3 _ x=>μ _ _ c3 (θ.extBut _ _ c1 x)) he)
  |some x=>
   have hy:ys[k2]? =none:=by
    rcases hend with h|h
    ·rw[hx]at h;cases h
    ·exact h
   refine QKq (eZ (h1.at fun o e=>θ.extBut _ _ D.i1z e) (hl1.at fun o e=>θ.extBut _ _ D.l1z e) hx fun h₂ h1₂ μ=>QKz ?_)
   refine QKz ?_
   refine QKq (QKq (Qqq ?_))
   exact QKq (kJ hh (h2.at fun o e=>μ.extBut _ _ D.i12.symm (θ.extBut _ _ D.i2z e))
    (hl2.at fun o e=>μ.extBut _ _ D.l2i1 (θ.extBut _ _ D.l2z e)) hy fun h₄ e φ he=>hE h₄ e (fun c o c1 _ c3 c4 x=>φ _ _ c4 (μ.extBut _ _ c3 (θ.extBut _ _ c1 x))) he)
def qd{z TI TO i1 i2 l1 l2:Addr}{k1 k2:Nat}{x y a b f0 f1:Value}(D:ZipApart z TI TO i1 i2 l1 l2)
  (hz:jt s.heap z TI TO f0 f1)(h0:F0 f0)(hTI:IsPair s.heap TI (.ref i1) (.ref i2))(hTO:IsPair s.heap TO a b)
  (h1:uf b1 s.heap i1 l1 k1)(h2:uf b2 s.heap i2 l2 k2)(hl1:xZ b1 s.heap l1 xs)(hl2:xZ b2 s.heap l2 ys)(hx:xs[k1]? =some x)(hy:ys[k2]? =some y)
  (hQ:∀h',Oz z TI TO i1 i2 b1 b2 l1 l2 (k1+1) (k2+1) s.heap.objs.size x y s.heap h'->Q (some (.ref s.heap.objs.size)) {s with heap:=h'}):
  wpAny (model prog w) A (pyNext (.ref z)) Q E s:=by
 have hT:s.TypeIs (.ref z) "zip":=⟨_,hz,rfl⟩
 exact QKq (wpAny_attempt (wpAny_callSpecial?_slot hT PySem.F.slot_zip_next
  (Qzz PySem.F.slot_zip_next hT PySem.F.entry_zip_next
   (Gz D hz h0 hTI hTO h1 h2 hl1 hl2 hx hy fun h' T=>QKz (hQ h' T)) (PySem.F.args_zip_next_1 _))))
def rD{z TI TO i1 i2 l1 l2:Addr}{k1 k2:Nat}{a b f0 f1:Value}(hh:A.handled=none)(D:ZipApart z TI TO i1 i2 l1 l2)
  (hz:jt s.heap z TI TO f0 f1)(h0:F0 f0)(hTI:IsPair s.heap TI (.ref i1) (.ref i2))(hTO:IsPair s.heap TO a b)
  (h1:uf b1 s.heap i1 l1 k1)(h2:uf b2 s.heap i2 l2 k2)(hl1:xZ b1 s.heap l1 xs)(hl2:xZ b2 s.heap l2 ys)(hend:xs[k1]? =none\/ys[k2]? =none)
  (hQ:∀h',(∀c o,c≠z->c≠TO->c≠i1->c≠i2->s.heap.get? c=some o->h'.get? c=some o)->Q none {s with heap:=h'}):wpAny (model prog w) A (pyNext (.ref z)) Q E s:=by
 have hT:s.TypeIs (.ref z) "zip":=⟨_,hz,rfl⟩
 refine QKq (wpAny_attempt (wpAny_callSpecial?_slot hT PySem.F.slot_zip_next
  (Qzz PySem.F.slot_zip_next hT PySem.F.entry_zip_next (Jk hh D hz h0 hTI hTO h1 h2 hl1 hl2 hend fun h' e hk he=>?_) (PySem.F.args_zip_next_1 _))))
 obtain⟨o,ho,hc⟩:=he
 exact QKq (wpAny_isInstance ⟨o,ho,hc⟩ isSubtype_stop (QKz (hQ _ hk)))
end
section
theorem HN{z TI TO T:Addr}{f0 f1:Value}(hz:jt s.heap z TI TO f0 f1)(h0:F0 f0)
  (hQ:∀h' g0,jt h' z TI TO g0 f1->F0 g0->Heap.SameBut z s.heap h'->Q () {s with heap:=h'}):wpAny (model prog w) A (letOwnedTupleGo tg (.ref z) (.ref T)) Q E s:=by
 have same:=hQ s.heap f0 hz h0 (Heap.SameBut.refl ..)
 have go:wpAny (model prog w) A (do
   let o<-load z
   match o.cls,o.data with
   |.type n,.fields vs=>
    if ["enumerate","zip","dict_itemiterator","dict_reverseitemiterator","odict_iterator","itertools.zip_longest","itertools.pairwise"].contains n&&vs[0]? ==some (rawInt T)then
     rule "for.unpacks-the-owned-tuple"
     updateField z 0 .none
   |_,_=>pure ()) Q E s:=by
  refine QKq (wpAny_load hz ?_)
  show wpAny _ _ (if (["enumerate","zip","dict_itemiterator","dict_reverseitemiterator","odict_iterator","itertools.zip_longest","itertools.pairwise"].contains "zip"&&
   (#[f0,f1,.bool false,.ref TI,.ref TO])[0]? ==some _)=true then _ else _) Q E s
  split
  ·exact QKq (wpAny_rule (wpAny_setField_rec hz (by simp) fun h' hz' hs'=>hQ h' .none hz' (.inl rfl) hs'))
  ·exact QKz same
 cases tg<;>first
  |exact QKz same
  |exact go
def iY{z TI TO:Addr}{f0 f1:Value}(hz:jt s.heap z TI TO f0 f1)(h:Q (.ref z) s):wpAny (model prog w) A (pyIter (.ref z)) Q E s:=by
 have hT:s.TypeIs (.ref z) "zip":=⟨_,hz,rfl⟩
 exact wpAny_pyIter_slot hT PySem.F.slot_zip_iter (Qzz PySem.F.slot_zip_iter hT PySem.F.entry_zip_iter (QKz ⟨_,rfl,"zip",_,hT,PySem.F.slot_zip_next.lookup,h⟩) (PySem.F.args_zip_iter_1 _))
end
def itN(b:Bool):String:=if b then "list_iterator" else "tuple_iterator"
abbrev zH1(b1:Bool)(h:Heap)(l1:Addr):Heap:=h.push {cls:=.type (itN b1),data:=.fields #[.ref l1,.int 0 0]}
abbrev zH2(b1 b2:Bool)(h:Heap)(l1 l2:Addr):Heap:=(zH1 b1 h l1).push {cls:=.type (itN b2),data:=.fields #[.ref l2,.int 0 0]}
abbrev zH3(b1 b2:Bool)(h:Heap)(l1 l2:Addr):Heap:=(zH2 b1 b2 h l1 l2).push {cls:=.type "tuple",data:=.seq #[.ref h.objs.size,.ref (zH1 b1 h l1).objs.size]}
abbrev zH4(b1 b2:Bool)(h:Heap)(l1 l2:Addr):Heap:=(zH3 b1 b2 h l1 l2).push {cls:=.type "tuple",data:=.seq #[.none,.none]}
abbrev Y7(b1 b2:Bool)(h:Heap)(l1 l2:Addr):Heap:=(zH4 b1 b2 h l1 l2).push {cls:=.type "zip",data:=.fields #[.none,.bool false,.bool false,.ref (zH2 b1 b2 h l1 l2).objs.size,.ref (zH3 b1 b2 h l1 l2).objs.size]}
def Jj b1 b2 l1 l2 xs ys:
  Meets (Builtin.«zip.__new__» ⟨[.type "zip",.ref l1,.ref l2],[]⟩) (fun _ R s=>xZ b1 s.heap l1 xs/\xZ b2 s.heap l2 ys/\
   R (.ok (.ret (.ref (zH4 b1 b2 s.heap l1 l2).objs.size))) {s with heap:=Y7 b1 b2 s.heap l1 l2}):=
 .of_wp fun prog w A R s h=>by
  obtain⟨hp,g,d,tk,os⟩:=s;obtain⟨hl1,hl2,h⟩:=h
  have hsub:=sub_zip
  cases b1<;>cases b2
  ·have hL1:Heap.IsTuple (Shared.heap ⟨hp,g,d,tk,os⟩) l1 xs:=hl1
   have hL2:Heap.IsTuple (Shared.heap ⟨hp.push {cls:=.type "tuple_iterator",data:=.fields #[.ref l1,.int 0 0]},g,d,tk,os⟩) l2 ys:=hl2.at (b:=false) fun o e=>QWq _ e
   wp_walk using wpAny_pyIter_tuple hL1,wpAny_pyIter_tuple hL2
   exact⟨_,rfl,h⟩
  ·have hL1:Heap.IsTuple (Shared.heap ⟨hp,g,d,tk,os⟩) l1 xs:=hl1
   have hL2:Heap.IsList (Shared.heap ⟨hp.push {cls:=.type "tuple_iterator",data:=.fields #[.ref l1,.int 0 0]},g,d,tk,os⟩) l2 ys:=hl2.at (b:=true) fun o e=>QWq _ e
   wp_walk using wpAny_pyIter_tuple hL1,wpAny_pyIter_list hL2
   exact⟨_,rfl,h⟩
  ·have hL1:Heap.IsList (Shared.heap ⟨hp,g,d,tk,os⟩) l1 xs:=hl1
   have hL2:Heap.IsTuple (Shared.heap ⟨hp.push {cls:=.type "list_iterator",data:=.fields #[.ref l1,.int 0 0]},g,d,tk,os⟩) l2 ys:=hl2.at (b:=false) fun o e=>QWq _ e
   wp_walk using wpAny_pyIter_list hL1,wpAny_pyIter_tuple hL2
   exact⟨_,rfl,h⟩
  ·have hL1:Heap.IsList (Shared.heap ⟨hp,g,d,tk,os⟩) l1 xs:=hl1
   have hL2:Heap.IsList (Shared.heap ⟨hp.push {cls:=.type "list_iterator",data:=.fields #[.ref l1,.int 0 0]},g,d,tk,os⟩) l2 ys:=hl2.at (b:=true) fun o e=>QWq _ e
   wp_walk using wpAny_pyIter_list hL1,wpAny_pyIter_list hL2
   exact⟨_,rfl,h⟩
end Mini
end
section
namespace Mini
open PySem
def rZ{w:World}{E:QZq}{a:Addr}{k:Nat}
  (hx:s.heap.get? a=some {cls:=.type "list",dict:=none,data:=.seq xs k,slots:=sl})(hA:A.handled=none)
  (h:∀h' tk,(∀b o,s.heap.get? b=some o->h'.get? b=some o)->Q none {s with heap:=h',toks:=tk}):
  wpAny (model prog w) A (getAttr? (.ref a) "keys") Q E s:=by
 obtain⟨hp,g,d,tk,os⟩:=s
 have hT:∀tk',(⟨hp,g,d,tk',os⟩:Shared).TypeIs (.ref a) "list":=fun _=>⟨_,hx,rfl⟩
 have f1:=sub_AttributeError
 have f3:=F.slot_list_getattribute.lookup
 have f4:=F.slot_list_getattribute.bind (.ref a)
 have f5:=am_list_getattr_none
 repeat (any_goals (first|assumption|exact hT _|((with_reducible show wpAny _ _ (call (Value.builtin "list.__getattribute__") _ _) _ _ _);refine call_meets F.slot_list_getattribute (hT _) am_entry_list_getattribute (F.args_list_getattribute_2 _ _) (meets_getattribute_miss_list a xs k sl "keys" _ (am_miss_of_fast (by kernel_rfl)) (by decide+kernel) (by size_fits)) ⟨hx,hA,fun h' tk' e hx'=>?_⟩)|wp_step))
 obtain⟨t',u',he⟩:=hx'.there
 unfold getattributeRaised
 repeat (any_goals (first|assumption|wp_step))
 all_goals exact h _ _ hx'.keeps
def qi{w:World}{E:QZq}{a:Addr}{k:Nat}
  (hx:s.heap.get? a=some {cls:=.type "tuple",dict:=none,data:=.seq xs k,slots:=sl})(hA:A.handled=none)
  (h:∀h' tk,(∀b o,s.heap.get? b=some o->h'.get? b=some o)->Q none {s with heap:=h',toks:=tk}):
  wpAny (model prog w) A (getAttr? (.ref a) "keys") Q E s:=by
 obtain⟨hp,g,d,tk,os⟩:=s
 have hT:∀tk',(⟨hp,g,d,tk',os⟩:Shared).TypeIs (.ref a) "tuple":=fun _=>⟨_,hx,rfl⟩
 have f1:=sub_AttributeError
 have f3:=F.slot_tuple_getattribute.lookup
 have f4:=F.slot_tuple_getattribute.bind (.ref a)
 have f5:=am_tuple_getattr_none
 repeat (any_goals (first|assumption|exact hT _|((with_reducible show wpAny _ _ (call (Value.builtin "tuple.__getattribute__") _ _) _ _ _);refine call_meets F.slot_tuple_getattribute (hT _) am_entry_tuple_getattribute (F.args_tuple_getattribute_2 _ _) (meets_getattribute_miss_tuple a xs k sl "keys" _ (am_miss_of_fast (by kernel_rfl)) (by decide+kernel) (by size_fits)) ⟨hx,hA,fun h' tk' e hx'=>?_⟩)|wp_step))
 obtain⟨t',u',he⟩:=hx'.there
 unfold getattributeRaised
 repeat (any_goals (first|assumption|wp_step))
 all_goals exact h _ _ hx'.keeps
def lM:typeLookup (.type "zip") "__getattr__"=pure none:=by rw[typeLookup_type,builtinLookup_eq_fast];kernel_rfl
def cC:Slot "zip" "__getattribute__" "zip.__getattribute__":=
 .of (owner:="zip") (n:="__getattribute__") (by rw[typeLookup_type,builtinLookup_eq_fast];kernel_rfl) (by decide+kernel) (by decide+kernel) (by decide+kernel)
  (by first|exact .inl (by decide+kernel)|exact .inr (by decide+kernel)) (by rw[isSubtype_type];kernel_rfl)
def gM:entryFor table "zip.__getattribute__"=some Builtin.«object.__getattribute__»:=
 entryFor_alias (id':="object.__getattribute__") (by kernel_rfl) (by decide+kernel) (by decide+kernel) (by kernel_rfl)
def iy a b:argsOk "zip.__getattribute__" ⟨[a,b],[]⟩:=by
 unfold argsOk;kernel_rfl
def fY(a:Addr)(xs:Array Value)(sl:Array (Option Value))(name:Str)(u:Tok)(hmiss:typeLookup (.type "zip") name=pure none)(hname:(["__module__","__name__","__qualname__","__doc__","__annotations__"]:List Str).contains name=false)(hsz:name.length+100<=sizeLine:=by size_fits):
  Meets (Builtin.«object.__getattribute__» ⟨[.ref a,.str name u],[]⟩) (fun A R s=>s.heap.get? a=some {cls:=.type "zip",dict:=none,data:=.fields xs,slots:=sl}/\raisesAttr (.ref a) name A R s):=
 Meets.of_wp fun prog w A R s hs=>by
  obtain⟨hp,g,d,tk,os⟩:=s
  obtain⟨hx,hs⟩:=hs
  repeat (any_goals (first|assumption|wp_step))
  simp only[hname,Qxq,if_false]
  repeat (any_goals (first|assumption|wp_step))
  exact wpAny_raiseAttrError hs.1 hs.2 (attrMsg_fits (by decide+kernel) hsz)
def uy{w:World}{E:QZq}{a:Addr}{sl:Array (Option Value)}
  (hx:s.heap.get? a=some {cls:=.type "zip",dict:=none,data:=.fields xs,slots:=sl})(hA:A.handled=none)
  (h:∀h' tk,(∀b o,s.heap.get? b=some o->h'.get? b=some o)->Q none {s with heap:=h',toks:=tk}):
  wpAny (model prog w) A (getAttr? (.ref a) "keys") Q E s:=by
 obtain⟨hp,g,d,tk,os⟩:=s
 have hT:∀tk',(⟨hp,g,d,tk',os⟩:Shared).TypeIs (.ref a) "zip":=fun _=>⟨_,hx,rfl⟩
 have f1:=sub_AttributeError
 have f3:=cC.lookup
 have f4:=cC.bind (.ref a)
 have f5:=lM
 repeat (any_goals (first|assumption|exact hT _|((with_reducible show wpAny _ _ (call (Value.builtin "zip.__getattribute__") _ _) _ _ _);refine call_meets cC (hT _) gM (iy _ _) (fY a xs sl "keys" _ (am_miss_of_fast (by kernel_rfl)) (by decide+kernel) (by size_fits)) ⟨hx,hA,fun h' tk' e hx'=>?_⟩)|wp_step))
 obtain⟨t',u',he⟩:=hx'.there
 unfold getattributeRaised
 repeat (any_goals (first|assumption|wp_step))
 all_goals exact h _ _ hx'.keeps
inductive D where
 |non|bl (b:Bool)|int (i:Int)|str (x:Str)
 |tup (xs:List D)|lst (xs:List D)|cG (ks:List D) (vs:List D)|fQ (ks:List D) (vs:List D)
 deriving Inhabited
inductive Ob where
 |lst (xs:List D)|dct (ks vs:List D)|sdt (ks vs:List D)
 deriving Inhabited
noncomputable def Ob.d:Ob->D
 |.lst xs=>.lst xs
 |.dct ks vs=>.cG ks vs
 |.sdt ks vs=>.fQ ks vs
inductive Sl where
 |un|val (d:D)|own (o:Ob)|bor (o:Ob)
 deriving Inhabited
abbrev Ev:=List Sl
inductive Rv where
 |val (d:D)|new (o:Ob)|ref (i:Nat)
noncomputable def Rv.jj:Rv->Option D
 |.val d=>some d
 |.new o=>some o.d
 |_=>none
noncomputable def Rv.Ba:Rv->Option Sl
 |.val d=>some (.val d)
 |.new o=>some (.own o)
 |_=>none
def aO:List Rv->Option (List D)
 |[]=>some []
 |r::rs=>r.jj.bind fun d=>(aO rs).map (d:: ·)
inductive Out(α:Type)where
 |ok (a:α) (σ:Ev)|exc (c:Nat) (σ:Ev)|bad
noncomputable def Out.bind{α β:Type}:Out α->(α->Ev->Out β)->Out β
 |.ok a σ,f=>f a σ
 |.exc c σ,_=>.exc c σ
 |.bad,_=>.bad
noncomputable def Out.au{β:Type}:Out Rv->(D->Ev->Out β)->Out β
 |.ok (.val d) σ,f=>f d σ
 |.ok (.new o) σ,f=>f o.d σ
 |.ok _ _,_=>.bad
 |.exc c σ,_=>.exc c σ
 |.bad,_=>.bad
noncomputable def Out.cu{β:Type}(tr:D->Option Bool)(r:Out Rv)(f:Bool->Ev->Out β):Out β:=
 r.au fun d σ=>match tr d with|some b=>f b σ|none=>.bad
noncomputable def Out.map{α β:Type}(g:α->β):Out α->Out β
 |.ok a σ=>.ok (g a) σ
 |.exc c σ=>.exc c σ
 |.bad=>.bad
def lift{α:Type}(σ:Ev):Option α->Out α
 |some a=>.ok a σ
 |none=>.bad
inductive YZ where
 |add|sub|mul|mod|fdiv|pow
 deriving DecidableEq
inductive Cm where
 |eq|ne|lt|le|gt|ge|isin|notin|jx|notN
 deriving DecidableEq
inductive Ty where
 |tup|lst|str|bool|int|cG
 deriving DecidableEq
inductive Bi where
 |all|any|tuple|list|sorted|int|dict|len
 deriving DecidableEq
inductive Tg where
 |name (i:Nat)|tup (is:List Nat)
inductive E where
 |var (i:Nat)|con (d:D)|glob (k:Nat)
 |nil|cons (h t:E)
 |tup (es:E)|lis (es:E)
 |op (o:YZ) (a b:E)|neg (a:E)|cmp (o:Cm) (a b:E)|chain (π υ:Cm) (a b c:E)
 |and (es:E)|or (es:E)|not (a:E)|ite (c a b:E)
 |idx (a i:E)|slc (a lo hi:E)|noneE
 |call (f:Nat) (args:E)|ref (i:Nat)|rd (e:E)
 |isi (a:E) (t:Ty)|bi (b:Bi) (a:E)
 |range1 (a:E)|zip (a b:E)
 |count (a b:E)|popAt (i:Nat) (a:E)|index (a b:E)
 |get2 (d k x:E)|dsp (es:E)|rev (a:E)
 |comp (nl:Nat) (tg:Tg) (it:E) (cond:E) (elt:E)
inductive S where
 |nil|cons (h t:S)
 |set (i:Nat) (e:E)|setT (is:List Nat) (e:E)|setIx (i:Nat) (ix e:E)
 |expr (e:E)|append (i:Nat) (e:E)|extend (i:Nat) (e:E)
 |ret (e:E)|ite (c:E) (a b:S)|callx (f:Nat) (args:E)
 |for_ (tg:Tg) (it:E) (b:S)|while_ (c:E) (b:S)
 |raise (c:Nat)|brk|cont
abbrev AAG:E:=.con (.int 1)
abbrev AAH:E:=.con (.int 0)
abbrev AAL:E:=.con (.bl true)
abbrev AAP:S:=.cons (.ret (.con (.bl false))) .nil
abbrev AAQ:E:=.con (.int 2)
abbrev AAR:E:=.cons (.var 1) (.cons (.var 2) .nil)
abbrev AAS:E:=.cons (.var 0) .nil
abbrev AAT:E:=.cons (.var 3) .nil
abbrev AAV:E:=.cons (.var 5) .nil
abbrev AAX:S:=.cons (.set 8 (.call 30 (.cons (.var 1) (.cons (.var 2) (.cons (.var 7) .nil))))) (.cons (.ret (.and (.cons (.isi (.var 8) .bool) (.cons (.cmp .eq (.var 8) (.call 55 (.cons (.var 1) (.cons (.var 2) (.cons (.var 7) .nil))))) .nil)))) .nil)
abbrev AAZ:E:=.cons (.con (.str "same")) (.cons (.con (.str "not")) .nil)
abbrev AAa:E:=.cmp .ne (.call 15 (.cons (.var 1) (.cons (.idx (.var 4) (.var 0)) (.cons (.var 4) .nil)))) (.idx (.var 4) (.var 0))
abbrev AAb:E:=.idx (.var 0) AAH
abbrev AAc:E:=.idx (.var 0) AAG
abbrev AAd:E:=.call 37 (.cons (.var 0) (.cons (.ref 1) (.cons AAQ .nil)))
abbrev AAe:S:=.cons (.set 3 (.op .add (.slc (.var 3) AAG .noneE) (.call 27 (.cons (.var 0) (.cons (.var 1) (.cons (.idx (.var 3) AAH) (.cons (.ref 2) .nil))))))) .nil
abbrev AAf:E:=.idx (.var 2) AAG
abbrev AAg:S:=.cons (.append 3 (.tup (.cons (.idx (.var 2) (.var 4)) (.cons (.tup (.cons (.con (.str "held")) (.cons (.tup (.cons (.con (.str "same")) (.cons (.idx (.var 2) (.op .sub (.var 4) AAG)) .nil))) (.cons (.idx (.var 2) (.op .mod (.op .add (.var 4) AAG) (.bi .len (.var 2)))) (.cons (.con (.bl false)) .nil))))) .nil)))) .nil
abbrev AAh:E:=.cmp .eq (.call 37 (.cons (.var 1) (.cons (.ref 2) (.cons AAQ .nil)))) AAG
abbrev AAi:E:=.idx (.var 2) AAH
abbrev AAj:E:=.idx (.var 1) AAG
abbrev AAk:E:=.idx (.var 0) AAQ
abbrev AAl:E:=.cons (.var 1) .nil
abbrev AAm:E:=.slc (.var 3) (.op .add (.var 5) AAG) .noneE
abbrev AAn:S:=.cons (.set 7 AAd) (.cons (.append 5 (.tup (.cons (.var 6) (.cons (.tup (.cons (.idx (.lis AAZ) (.var 7)) AAT)) .nil)))) (.cons (.append 4 (.cmp .eq (.idx (.var 4) (.neg AAG)) (.cmp .eq (.var 7) AAH))) (.cons (.set 3 (.var 6)) .nil)))
abbrev AAo:E:=.cons (.lis .nil) .nil
abbrev AAp:E:=.con (.int 3)
abbrev AAq:E:=.cmp .ne (.call 49 (.cons AAc (.cons (.var 3) (.cons (.idx (.var 3) AAb) .nil)))) (.idx (.var 3) AAb)
abbrev AAr:E:=.idx (.var 3) AAH
abbrev AAs:E:=.cons (.var 0) (.cons AAi .nil)
abbrev AAt:E:=.or (.cons (.not (.isi (.var 3) .tup)) (.cons (.cmp .ne (.bi .len (.var 3)) AAQ) (.cons (.cmp .gt (.count (.var 2) (.var 3)) AAG) (.cons (.isi (.idx (.var 3) AAG) .bool) .nil))))
abbrev AAu:S:=.cons (.ret (.con .non)) .nil
abbrev AAv:E:=.idx (.var 1) AAH
abbrev AAw:E:=.call 3 (.cons (.var 0) (.cons AAQ (.cons AAQ .nil)))
abbrev AAx:E:=.cons (.var 2) AAT
abbrev AAy:E:=.cons (.var 0) (.cons (.var 1) (.cons (.var 2) AAV))
abbrev AAz:S:=.cons (.set 3 (.call 49 (.cons AAc AAR))) (.cons (.ret (.idx (.lis AAx) (.bi .int (.cmp .eq (.idx (.var 1) AAk) (.cmp .eq (.var 3) (.idx (.var 0) AAp)))))) .nil)
abbrev ABG:E:=.or (.cons (.not (.isi (.idx (.var 3) AAG) .int)) (.cons (.not (.chain .le .lt AAH (.idx (.var 3) AAG) (.bi .len AAj))) (.cons (.not (.isi AAr .tup)) .nil)))
abbrev ABH:E:=.cons (.con (.int 4)) .nil
abbrev ABI:E:=.and (.cons (.cmp .gt (.bi .len (.var 5)) (.var 3)) (.cons (.or (.cons (.cmp .gt (.bi .len (.var 5)) (.var 4)) (.cons (.cmp .eq AAd AAG) .nil))) .nil))
abbrev ABJ:E:=.cmp .gt (.call 37 (.cons (.var 1) (.cons (.ref 2) (.cons AAp .nil)))) AAH
abbrev ABK:E:=.slc (.var 3) .noneE (.var 5)
abbrev ABL:E:=.comp 1 (.name 0) (.call 23 (.cons (.var 0) AAR)) AAL (.cmp .isin (.call 25 (.cons (.var 1) (.cons (.var 2) (.cons (.var 3) AAS)))) (.var 4))
abbrev ABM:E:=.cons (.con (.str "p")) (.cons (.con (.str "q")) (.cons (.con (.str "rr")) (.cons (.con (.str "go")) (.cons (.con (.str "abcdef")) .nil))))
abbrev ABN:E:=.op .add (.var 3) (.lis AAV)
abbrev ABO:E:=.bi .len (.var 2)
abbrev ABP:E:=.cons (.var 6) .nil
abbrev ABQ:E:=.call 54 (.cons (.var 2) (.cons (.var 3) (.cons (.var 0) AAo)))
abbrev ABR:E:=.cons (.cmp .notin (.var 6) (.var 3)) .nil
abbrev ABS:S:=.cons (.setIx 3 (.var 6) (.op .add (.idx (.var 3) (.idx (.var 2) (.var 4))) (.lis AAV))) (.cons (.append 2 (.var 6)) .nil)
abbrev ABT:S:=.cons (.ret (.or (.cons (.bi .all (.var 4)) (.cons (.and (.cons (.var 1) (.cons (.bi .any (.var 4)) .nil))) .nil)))) .nil
abbrev ABU:S:=.cons (.ret (.tup (.cons (.con (.str "stuck")) AAT))) .nil
abbrev ABV:E:=.comp 1 (.name 0) (.var 2) AAL (.call 31 (.cons (.var 1) (.cons (.var 2) (.cons (.var 0) (.cons (.var 4) .nil)))))
abbrev ABW:E:=.lis .nil
abbrev ABX:E:=.con .non
abbrev ABY:E:=.con (.str "a")
abbrev ABZ:S:=.expr (.call 17 (.cons (.var 0) AAl))
abbrev ABa:S:=.cons (.expr (.popAt 5 (.call 37 (.cons (.var 0) (.cons (.ref 1) (.cons (.bi .len (.var 5)) .nil)))))) .nil
abbrev ABb:E:=.cons (.var 0) (.cons (.var 2) .nil)
abbrev ABc:E:=.cons (.var 0) (.cons (.call 40 (.cons (.var 1) (.cons (.ref 2) (.cons (.var 7) (.cons AAG .nil))))) .nil)
abbrev ABd:S:=.cons (.setIx 3 (.var 6) (.op .add (.idx (.var 3) (.var 2)) (.lis AAV))) (.cons (.append 4 (.var 6)) .nil)
abbrev ABe:E:=.cons AAH .nil
abbrev ABf:E:=.cmp .notin (.call 52 (.cons (.var 0) (.cons (.var 1) (.cons (.var 3) (.cons (.var 4) .nil))))) (.var 2)
abbrev ABg:E:=.cons (.and (.cons (.var 5) (.cons (.not (.call 30 (.cons (.var 1) (.cons (.var 2) ABP)))) .nil))) .nil
abbrev ABh:E:=.con (.str "held")
abbrev ABi:S:=.set 6 (.call 34 (.cons (.var 0) (.cons (.var 1) (.cons (.var 2) (.cons (.var 5) (.cons ABN .nil))))))
abbrev ABj:E:=.con (.non)
abbrev ABk:E:=.comp 1 (.name 0) (.var 0) AAL (.call 4 (.cons AAc (.cons AAH (.cons (.op .sub (.var 3) AAG) .nil))))
abbrev ABl:S:=.cons (.ret (.tup (.cons (.con (.str "taken")) (.cons ABN (.cons (.idx (.var 8) AAH) .nil))))) .nil
abbrev ABm:E:=.comp 1 (.name 0) AAj AAL (.call 19 (.cons (.var 0) (.cons (.var 4) (.cons (.bi .len AAf) .nil))))
abbrev ABn:E:=.or (.cons (.cmp .lt (.bi .len (.var 3)) ABO) (.cons (.cmp .notin (.call 22 AAS) (.var 3)) .nil))
abbrev ABo:E:=.con (.str "and")
abbrev ABp:E:=.comp 2 (.tup [0,1]) (.zip (.var 0) (.slc (.var 0) AAG .noneE)) AAL (.cmp .lt (.var 0) (.var 1))
abbrev ABq:S:=.set 4 (.call 32 (.cons (.var 0) (.cons (.var 1) (.cons AAr (.cons (.idx (.var 2) AAr) .nil)))))
abbrev ABr:E:=.and (.cons (.cmp .isin AAL (.var 4)) (.cons (.cmp .isin (.con (.bl false)) (.var 4)) .nil))
abbrev ABs:E:=.isi (.var 0) .bool
abbrev ABt:E:=.con (.str "table")
abbrev ABu:E:=.con (.str "or")
abbrev ABv:S:=.set 7 (.op .add (.call 50 (.cons (.var 0) (.cons (.idx (.var 6) AAH) .nil))) (.lis AAV))
abbrev ABw:S:=.set 6 (.call 52 (.cons (.var 0) (.cons (.var 1) (.cons (.idx (.var 2) (.var 4)) AAV))))
abbrev ABx:E:=.cons (.var 0) AAR
abbrev ABy:E:=.con (.str "same")
abbrev ABz:E:=.con (.str "both")
abbrev ACG:E:=.and (.cons (.cmp .ne (.var 6) (.var 3)) (.cons (.cmp .notin (.var 6) (.var 5)) .nil))
abbrev ACH:E:=.cmp .eq (.idx (.var 5) (.var 0)) (.var 4)
abbrev ACI:E:=.cmp .isin (.var 0) (.var 4)
abbrev ACJ:E:=.call 51 (.cons (.var 0) (.cons (.var 1) (.cons (.idx (.var 2) (.var 4)) .nil)))
abbrev ACL:E:=.cons AAL .nil
abbrev ACM:E:=.comp 1 (.name 0) (.var 2) AAL (.call 21 (.cons (.var 1) (.cons (.var 2) AAS)))
abbrev ACN:E:=.comp 2 (.tup [0,1]) AAc AAL (.call 11 (.cons (.var 1) (.cons (.var 3) ABe)))
abbrev ACO:E:=.cons (.var 0) (.cons (.call 37 (.cons (.var 1) (.cons (.ref 2) ABP))) .nil)
abbrev ACP:S:=.cons (.ret (.op .add (.bi .list AAb) (.comp 1 (.name 0) AAc AAL AAb))) .nil
abbrev ACQ:E:=.idx (.var 2) (.call 37 (.cons (.var 0) (.cons (.ref 1) (.cons ABO .nil))))
abbrev ACR:S:=.cons (.ret (.tup (.cons (.con (.str "taken")) (.cons (.var 4) ABP)))) .nil
abbrev ACS:E:=.cmp .eq (.call 37 (.cons (.var 0) (.cons (.ref 2) (.cons AAQ .nil)))) AAG
abbrev ACT:S:=.cons (.ret (.tup (.cons (.con (.str "unasked")) (.cons ABN .nil)))) .nil
abbrev ACU:E:=.comp 1 (.name 0) (.var 0) AAL (.cmp .eq (.count (.var 1) (.var 0)) AAG)
abbrev ACV:E:=.cons (.var 0) (.cons (.ref 2) .nil)
abbrev ACW:E:=.con (.str "b")
abbrev ACX:E:=.cons (.var 1) AAx
abbrev ACY:E:=.idx AAj AAf
abbrev ACZ:E:=.cons AAp .nil
abbrev ACa:S:=.cons (.ret (.tup (.cons (.var 5) (.cons (.var 7) .nil)))) .nil
abbrev ACb:E:=.call 54 (.cons (.var 0) (.cons (.var 1) (.cons (.var 3) AAo)))
abbrev ACc:E:=.op .add AAG (.call 37 (.cons (.var 0) (.cons (.ref 1) AAT)))
abbrev ACd:S:=.cons (.ret (.cmp .notin (.con (.bl false)) (.var 4))) .nil
abbrev ACe:E:=.cons (.bi .len (.var 1)) .nil
abbrev ACf:E:=.con (.str "q")
abbrev ACg:E:=.con (.str "p")
abbrev ACh:S:=.cons (.ret (.cmp .isin (.bi .tuple (.var 4)) AAk)) .nil
abbrev ACi:E:=.zip (.call 13 AAS) (.var 1)
abbrev ACj:E:=.bi .tuple (.var 5)
abbrev ACk:E:=.cons AAG .nil
abbrev ACl:E:=.cmp .isin AAb AAv
abbrev ACm:E:=.bi .list (.var 2)
abbrev ACn:S:=.cons (.ret (.var 4)) .nil
abbrev ACo:E:=.cmp .eq (.var 0) (.var 4)
abbrev ACp:S:=.cons (.set 7 (.call 56 (.cons (.var 0) ACX))) AAX
abbrev ACq:S:=.set 2 (.lis (.cons (.tup (.cons AAk ABe)) .nil))
abbrev ACr:E:=.not (.isi (.var 2) .lst)
abbrev ACs:E:=.idx (.var 2) AAc
abbrev ACt:E:=.idx (.var 1) AAc
abbrev ACu:E:=.con (.str "not")
abbrev ACv:E:=.bi .len (.var 0)
abbrev ACw:E:=.cmp .eq AAd AAG
abbrev ACx:E:=.call 51 (.cons (.var 0) (.cons (.var 1) AAT))
abbrev ACy:E:=.cmp .notN (.var 6) ABj
abbrev ACz:E:=.cmp .notN (.var 6) ABX
abbrev ADG:S:=.setT [1,2] (.call 47 (.cons (.var 0) ABH))
abbrev ADH:E:=.comp 1 (.name 0) (.var 1) AAL (.call 5 AAS)
abbrev ADJ:E:=.comp 1 (.name 0) (.var 0) AAL (.call 8 ABb)
abbrev ADK:E:=.comp 1 (.name 0) (.var 0) AAL (.call 7 ABb)
abbrev ADL:E:=.idx (.var 3) (.var 5)
abbrev ADM:S:=.cons (.set 4 (.op .add (.var 4) AAG)) .nil
abbrev ADN:S:=.cons (.ret (.cmp .isin AAL (.var 4))) .nil
abbrev ADP:S:=.cons (.ret (.cmp .isin (.var 4) AAk)) .nil
abbrev ADQ:S:=.set 3 (.op .add (.var 3) (.call 50 AAs))
abbrev ADR:E:=.op .add AAi (.var 4)
abbrev ADS:E:=.cmp .eq (.var 4) AAQ
abbrev ADT:E:=.cmp .eq (.var 3) ABt
abbrev ADU:E:=.cmp .eq (.var 3) ABh
abbrev ADV:S:=.set 2 (.dsp (.cons (.call 22 AAS) AAo))
abbrev ADW:E:=.cmp .ne (.bi .len AAr) (.bi .len AAk)
abbrev ADX:E:=.cons (.var 4) .nil
abbrev ADY:S:=.cons (.ret (.idx (.var 4) AAH)) .nil
abbrev ADZ:S:=.cons (.ret (.bi .any (.var 4))) .nil
abbrev ADa:S:=.cons (.ret (.bi .all (.var 4))) .nil
abbrev ADb:S:=.set 6 (.op .add (.var 4) (.var 5))
abbrev ADc:E:=.cons (.var 0) ACL
abbrev ADd:E:=.cons (.var 0) AAl
abbrev ADe:E:=.cons (.op .add (.var 2) AAG) .nil
abbrev ADf:E:=.comp 1 (.name 0) (.var 0) AAL ABs
abbrev ADg:E:=.comp 1 (.name 0) (.var 0) AAL AAw
abbrev ADh:E:=.call 48 AAS
abbrev ADi:E:=.idx AAr (.var 0)
abbrev ADj:E:=.bi .len (.var 6)
abbrev ADk:E:=.bi .len (.var 4)
abbrev ADl:S:=.cons (.ret (.call 16 ABx)) .nil
def small(i:Int):Bool:=decide (-18446744073709551616<i/\i<18446744073709551616)
def Ez(i:Int):Bool:=decide (-4611686018427387904<=i/\i<4611686018427387904)
def fits(n:Nat):Bool:=decide (n<=16777216)
def b2i(b:Bool):Int:=if b then 1 else 0
noncomputable def ix?(n:Nat)(i:Int):Option Nat:=
 let j:=if i<0 then i+n else i
 if 0<=j/\j<n then some j.toNat else none
def at?(xs:List D)(i:Int):Option D:=(ix? xs.length i).bind fun k=>xs[k]?
noncomputable def clip(n:Nat)(i:Int):Nat:=
 let j:=if i<0 then i+n else i
 if j<0 then 0 else if j>n then n else j.toNat
noncomputable def cut(xs:List D)(lo hi:Option Int):List D:=
 let a:=match lo with|some i=>clip xs.length i|none=>0
 let b:=match hi with|some i=>clip xs.length i|none=>xs.length
 (xs.take b).drop a
mutual
def dR:D->D->Bool
 |.non,.non=>true
 |.bl a,.bl b=>a==b
 |.bl a,.int j=>b2i a==j
 |.int i,.bl b=>i==b2i b
 |.int i,.int j=>i==j
 |.str x,.str y=>decide (x=y)
 |.tup xs,.tup ys=>jR xs ys
 |.lst xs,.lst ys=>jR xs ys
 |_,_=>false
def jR:List D->List D->Bool
 |[],[]=>true
 |x::xs,y::ys=>dR x y&&jR xs ys
 |_,_=>false
end
mutual
def dep:D->Nat
 |.tup xs=>eU xs+1
 |.lst xs=>eU xs+1
 |_=>0
def eU:List D->Nat
 |[]=>0
 |x::xs=>max (dep x) (eU xs)
end
def sOk(x:Str):Bool:=x.cps.all fun c=>decide (c<128)
mutual
def nd:D->Bool
 |.str x=>sOk x
 |.tup xs=>fK xs
 |.lst xs=>fK xs
 |.cG _ _=>false
 |.fQ _ _=>false
 |_=>true
def fK:List D->Bool
 |[]=>true
 |x::xs=>nd x&&fK xs
end
noncomputable def flat:D->Bool
 |.non=>true
 |.bl _=>true
 |.int _=>true
 |.str _=>true
 |_=>false
def mq(a b:D):Bool:=(flat a&&flat b)||(nd a&&decide (dep a<=50)&&nd b)
def dO(a:D)(xs:List D):Bool:=(flat a&&xs.all flat)||(nd a&&decide (dep a<=50)&&fK xs)
def aL(x:D):List D->Bool
 |[]=>false
 |y::ys=>dR y x||aL x ys
def Mq(x:D):List D->Nat
 |[]=>0
 |y::ys=>if dR y x then 0 else Mq x ys+1
def bW(x:D):List D->Nat
 |[]=>0
 |y::ys=>(if dR y x then 1 else 0)+bW x ys
noncomputable def lK:List Bool->List Bool->Bool
 |[],[]=>false
 |[],_::_=>true
 |_::_,[]=>false
 |x::xs,y::ys=>if x=y then lK xs ys else(!x&&y)
noncomputable def bools:List D->Option (List Bool)
 |[]=>some []
 |.bl b::r=>(bools r).map (b:: ·)
 |_=>none
def ik:D->Bool
 |.tup [.tup bs,.int _]=>(bools bs).isSome
 |_=>false
noncomputable def ltD:D->D->Option Bool
 |.int i,.int j=>some (decide (i<j))
 |.tup xs,.tup ys=>(bools xs).bind fun a=>(bools ys).map fun b=>lK a b
 |_,_=>none
noncomputable def gY:D->Option Bool
 |.non=>some false
 |.bl b=>some b
 |.int i=>some (i !=0)
 |.tup xs=>some (!xs.isEmpty)
 |.lst xs=>some (!xs.isEmpty)
 |_=>none
noncomputable def cF:Ty->D->Bool
 |.tup,.tup _=>true
 |.lst,.lst _=>true
 |.str,.str _=>true
 |.bool,.bl _=>true
 |.int,.int _=>true
 |.int,.bl _=>true
 |.cG,.cG _ _=>true
 |.cG,.fQ _ _=>true
 |_,_=>false
noncomputable def cN(k:D):List D->List D->Option D
 |k'::ks,v::vs=>if dR k' k then some v else cN k ks vs
 |_,_=>none
noncomputable def keyOk:D->Bool
 |.str _=>true
 |.int _=>true
 |_=>false
def signs(x:Str):List D:=x.cps.toList.map fun c=>D.str ⟨#[c]⟩
noncomputable def items:D->Option (List D)
 |.tup xs=>some xs
 |.lst xs=>some xs
 |.str x=>if fits x.length then some (signs x)else none
 |_=>none
noncomputable def binop:YZ->D->D->Option Rv
 |.add,.int i,.int j=>some (.val (.int (i+j)))
 |.sub,.int i,.int j=>some (.val (.int (i-j)))
 |.mul,.int i,.int j=>if small i||small j then some (.val (.int (i*j)))else none
 |.mod,.int i,.int j=>if 0<j then some (.val (.int (i%j)))else none
 |.fdiv,.int i,.int j=>if 0<j/\j<1073741824 then some (.val (.int (i/j)))else none
 |.pow,.int i,.int j=>if 0<=j/\j<=64/\small i=true then some (.val (.int (i ^j.toNat)))else none
 |.add,.tup xs,.tup ys=>if fits (xs.length+ys.length)then some (.val (.tup (xs++ys)))else none
 |.add,.lst xs,.lst ys=>if fits (xs.length+ys.length)then some (.new (.lst (xs++ys)))else none
 |.mul,.tup [x],.int n=>if 0<n/\n<=8 then some (.val (.tup (List.replicate n.toNat x)))else none
 |_,_,_=>none
def bf:D->Bool
 |.non=>true
 |_=>false
noncomputable def aJ:Cm->D->D->Option Bool
 |.eq,a,b=>if mq a b then some (dR a b)else none
 |.ne,a,b=>if mq a b then some (!dR a b)else none
 |.lt,a,b=>ltD a b
 |.gt,.int i,.int j=>some (decide (j<i))
 |.le,.int i,.int j=>some (decide (i<=j))
 |.ge,.int i,.int j=>some (decide (j<=i))
 |.isin,a,.tup xs=>if dO a xs then some (aL a xs)else none
 |.isin,a,.lst xs=>if dO a xs then some (aL a xs)else none
 |.isin,a,.cG ks _=>if keyOk a then some (aL a ks)else none
 |.isin,a,.fQ ks _=>if ik a then some (aL a ks)else none
 |.isin,.str x,.str y=>if x.length=1 then some (aL (.str x) (signs y))else none
 |.notin,a,.tup xs=>if dO a xs then some (!aL a xs)else none
 |.notin,a,.lst xs=>if dO a xs then some (!aL a xs)else none
 |.notin,a,.cG ks _=>if keyOk a then some (!aL a ks)else if ik a&&ks.isEmpty then some true else none
 |.notin,a,.fQ ks _=>if ik a then some (!aL a ks)else none
 |.jx,a,.non=>some (bf a)
 |.notN,a,.non=>some (!bf a)
 |_,_,_=>none
noncomputable def ju:List D->Option (List (List Bool))
 |[]=>some []
 |.tup ys::r=>match bools ys with
  |some (b::bs)=>(ju r).map ((b::bs):: ·)
  |_=>none
 |_=>none
noncomputable def J1{α:Type}(f:Nat->Nat->Option Bool):PySem.W.KasT α->Option α
 |.ret a=>some a
 |.ask i j k=>match f i j with
  |some b=>J1 f (k b)
  |none=>none
noncomputable def acz(rs:List (List Bool))(i j:Nat):Option Bool:=(rs[i]?).bind fun a=>(rs[j]?).map fun b=>lK a b
noncomputable def sJ(xs:List D):List Nat->Option (List D)
 |[]=>some []
 |i::is=>(xs[i]?).bind fun d=>(sJ xs is).map (d:: ·)
noncomputable def acy(xs:List D):Option (Nat->Nat->Option Bool):=match ju xs with
 |some rs=>some (acz rs)
 |none=>none
noncomputable def pL(xs:List D):Option (List D):=
 if xs.length<2 then some xs
 else if xs.length<64 then(acy xs).bind fun f=>(J1 f (PySem.W.kas_sort xs.length)).bind fun p=>if p.size=xs.length then sJ xs p.toList else none
 else none
noncomputable def pM(k v:D):List D->List D->List D
 |k'::ks,v'::vs=>(if dR k' k then v else v')::pM k v ks vs
 |_,_=>[]
noncomputable def putD(k v:D)(ks vs:List D):List D×List D:=if aL k ks then(ks,pM k v ks vs)else(ks++[k],vs++[v])
noncomputable def dictOf:List D->List D->List D->Option (List D×List D)
 |ks,vs,[]=>some (ks,vs)
 |ks,vs,.tup [k,v]::r=>if keyOk k then let p:=putD k v ks vs;dictOf p.1 p.2 r else none
 |_,_,_=>none
noncomputable def iK:List D->List D->List D->Option (List D×List D)
 |ks,vs,[]=>some (ks,vs)
 |ks,vs,.tup [k,v]::r=>if ik k then let p:=putD k v ks vs;iK p.1 p.2 r else none
 |_,_,_=>none
def aW:List D->List D->List D
 |x::xs,y::ys=>.tup [x,y]::aW xs ys
 |_,_=>[]
def cB(lo:Int):Nat->List D
 |0=>[]
 |n+1=>.int lo::cB (lo+1) n
noncomputable def SJ:Bi->List D->Option Rv
 |.all,xs=>(bools xs).map fun bs=>.val (.bl (bs.all id))
 |.any,xs=>(bools xs).map fun bs=>.val (.bl (bs.any id))
 |.tuple,xs=>some (.val (.tup xs))
 |.list,xs=>some (.new (.lst xs))
 |.sorted,xs=>(pL xs).map fun ys=>.new (.lst ys)
 |.dict,xs=>((dictOf [] [] xs).map fun p=>Rv.new (.dct p.1 p.2)).or ((iK [] [] xs).map fun p=>.new (.sdt p.1 p.2))
 |.len,_=>none
 |.int,_=>none
def E.aB:E->Option Nat
 |.var i=>some i
 |_=>none
noncomputable def rm(i:Nat)(σ:Ev):Out Rv:=
 match σ[i]? with
 |some (.val d)=>.ok (.val d) σ
 |some (.own o)=>.ok (.val o.d) (σ.set i (.val o.d))
 |_=>.bad
noncomputable def aZ(i:Nat)(σ:Ev):Option D:=
 match σ[i]? with
 |some (.val d)=>some d
 |some (.own o)=>some o.d
 |some (.bor o)=>some o.d
 |_=>none
noncomputable def HQ:D->Option Nat
 |.tup xs=>some xs.length
 |.lst xs=>some xs.length
 |.str x=>if fits x.length then some x.length else none
 |.cG ks _=>some ks.length
 |.fQ ks _=>some ks.length
 |_=>none
noncomputable def getD(d:D)(i:D):Option D:=
 match d,i with
 |.tup xs,.int i=>at? xs i
 |.lst xs,.int i=>at? xs i
 |.cG ks vs,k=>if keyOk k then cN k ks vs else none
 |.fQ ks vs,k=>if ik k then cN k ks vs else none
 |_,_=>none
noncomputable def dX(d:D)(lo hi:Option Int):Option Rv:=
 match d with
 |.tup xs=>some (.val (.tup (cut xs lo hi)))
 |.lst xs=>some (.new (.lst (cut xs lo hi)))
 |_=>none
noncomputable def cH(jx:Bool)(d:D):Option (Option Int):=
 match jx,d with
 |true,_=>some none
 |false,.int i=>some (some i)
 |_,_=>none
def E.jx:E->Bool
 |.noneE=>true
 |_=>false
noncomputable def cD(i:Nat)(s:Sl)(σ:Ev):Option Ev:=
 match σ[i]? with
 |some (.bor _)=>none
 |some _=>some (σ.set i s)
 |none=>none
noncomputable def gk:List Nat->List D->Ev->Option Ev
 |[],[],σ=>some σ
 |i::is,d::ds,σ=>(cD i (.val d) σ).bind (gk is ds)
 |_,_,_=>none
noncomputable def bD:Tg->D->Ev->Option Ev
 |.name i,d,σ=>cD i (.val d) σ
 |.tup is,.tup ds,σ=>gk is ds σ
 |_,_,_=>none
noncomputable def cT(i:Nat)(f:Ob->Option Ob)(σ:Ev):Option Ev:=
 match σ[i]? with
 |some (.own o)=>(f o).map fun q=>σ.set i (.own q)
 |some (.bor o)=>(f o).map fun q=>σ.set i (.bor q)
 |_=>none
def wI(f:List D->Option (List D)):Ob->Option Ob
 |.lst xs=>(f xs).map .lst
 |_=>none
noncomputable def yQ(i v:D):Ob->Option Ob
 |.lst xs=>match i with
  |.int i=>(ix? xs.length i).map fun j=>.lst (xs.set j v)
  |_=>none
 |.dct ks vs=>if keyOk i&&fits (ks.length+1)then let p:=putD i v ks vs;some (.dct p.1 p.2)else none
 |.sdt ks vs=>if ik i&&fits (ks.length+1)then let p:=putD i v ks vs;some (.sdt p.1 p.2)else none
inductive Res where
 |ok (r:Rv) (ps:List Sl)|exc (c:Nat) (ps:List Sl)|bad
structure Cf where
 fn:Nat->List Sl->Res
 gl:Nat->Option D
 turns:Nat
def lq(i:Nat):Rv->Bool
 |.ref j=>i==j
 |_=>false
def argv:Rv->Rv
 |.new o=>.val o.d
 |x=>x
noncomputable def enter:List Rv->Ev->Option (List Sl)
 |[],_=>some []
 |.val d::as,σ=>(enter as σ).map (.val d:: ·)
 |.new _::_,_=>none
 |.ref i::as,σ=>
  if as.any (lq i)then none else
  match σ[i]? with
  |some (.own o)=>(enter as σ).map (.bor o:: ·)
  |some (.bor o)=>(enter as σ).map (.bor o:: ·)
  |_=>none
noncomputable def giveBack:List Rv->List Sl->Ev->Option Ev
 |[],[],σ=>some σ
 |.ref i::as,.bor o::ps,σ=>(cT i (fun _=>some o) σ).bind (giveBack as ps)
 |.ref _::_,_::_,_=>none
 |_::as,_::ps,σ=>giveBack as ps σ
 |_,_,_=>none
noncomputable def tQ(c:Cf)(f:Nat)(as:List Rv)(σ:Ev):Out Rv:=
 match enter as σ with
 |none=>.bad
 |some ps=>
  match c.fn f ps with
  |.ok r qs=>match giveBack as qs σ with|some ζ=>.ok r ζ|none=>.bad
  |_=>.bad
noncomputable def aU(tg:Tg)(cond elt:Ev->Out Rv):List D->List D->Ev->Out (List D)
 |[],acc,σ=>.ok acc σ
 |x::xs,acc,σ=>
  match bD tg x σ with
  |none=>.bad
  |some σ₁=>(cond σ₁).cu gY fun b σ₂=>
   if b then(elt σ₂).au fun d σ₃=>aU tg cond elt xs (acc++[d]) σ₃
   else aU tg cond elt xs acc σ₂
def di:Option D->Bool
 |some (.lst _)=>true
 |_=>false
def iG:D->Option (List D)
 |.lst xs=>some xs
 |_=>none
noncomputable def rF(k:Nat)(y:D)(σ:Ev):Out Rv:=
 match y,aZ k σ with
 |.int i,some (.lst xs)=>if !fits xs.length then .bad else match ix? xs.length i with
  |some j=>match xs[j]?,cT k (wI fun xs=>some (xs.eraseIdx j)) σ with
   |some d,some ζ=>.ok (.val d) ζ
   |_,_=>.bad
  |none=>.bad
 |_,_=>.bad
def sy:Option D->Bool
 |some (.cG _ _)=>true
 |_=>false
noncomputable def tH(x y:D):Option Rv:=
 match x with
 |.tup xs=>if flat y&&xs.all flat then some (.val (.int (bW y xs)))else none
 |.lst xs=>if flat y&&xs.all flat then some (.val (.int (bW y xs)))else if nd y&&decide (dep y<=50)&&fK xs then some (.val (.int (bW y xs)))else none
 |_=>none
noncomputable def ab6(x y:D):Option Rv:=
 match x with
 |.lst xs=>if flat y&&xs.all flat&&aL y xs then some (.val (.int (Mq y xs)))else none
 |_=>none
noncomputable def sO(d k x:D):Option D:=
 match d with
 |.cG ks vs=>if keyOk k then some ((cN k ks vs).getD x)else none
 |_=>none
def CG:List D->Option Rv
 |[k,v]=>if ik k then some (.new (.sdt [k] [v]))else none
 |_=>none
def uA(ds:List D):Option Rv:=if ds.length<=30&& !ds.isEmpty then CG ds else none
noncomputable def BR:List D->List D->List D->List D->List D×List D
 |ks,vs,k::r,v::q=>BR (putD k v ks vs).1 (putD k v ks vs).2 r q
 |ks,vs,_,_=>(ks,vs)
noncomputable def adN(x:D):Ob->Option Ob
 |.dct ks vs=>match x with
  |.cG r q=>if fits (ks.length+r.length)then some (.dct (BR ks vs r q).1 (BR ks vs r q).2)else none
  |_=>none
 |_=>none
noncomputable def bu:D->Option (List D)
 |.tup xs=>some xs
 |.lst xs=>some xs
 |_=>none
def JS:D->Option (List D)
 |.fQ ks _=>some ks
 |x=>bu x
noncomputable def b1(b:Bi)(x:D):Option Rv:=
 match b with
 |.list=>(JS x).bind (SJ .list)
 |.len=>(HQ x).map fun n=>.val (.int n)
 |.int=>match x with|.bl b=>some (.val (.int (b2i b)))|.int i=>some (.val (.int i))|_=>none
 |.sorted=>(iG x).bind (SJ .sorted)
 |b=>(bu x).bind (SJ b)
mutual
noncomputable def ev(c:Cf):E->Ev->Out Rv
 |.var i,σ=>rm i σ
 |.con d,σ=>.ok (.val d) σ
 |.glob k,σ=>match c.gl k with|some d=>.ok (.val d) σ|none=>.bad
 |.tup es,σ=>(evs c es σ).bind fun rs σ=>lift σ ((aO rs).bind fun ds=>if fits ds.length then some (.val (.tup ds))else none)
 |.lis es,σ=>(evs c es σ).bind fun rs σ=>lift σ ((aO rs).bind fun ds=>if fits ds.length then some (.new (.lst ds))else none)
 |.op o a b,σ=>(ev c a σ).au fun x σ=>(ev c b σ).au fun y σ=>lift σ (binop o x y)
 |.neg a,σ=>(ev c a σ).au fun x σ=>lift σ (match x with|.int i=>some (.val (.int (-i)))|_=>none)
 |.cmp o a b,σ=>(ev c a σ).au fun x σ=>match b.aB with
  |some k=>lift σ ((aZ k σ).bind fun d=>(aJ o x d).map fun q=>.val (.bl q))
  |none=>(ev c b σ).au fun y σ=>lift σ ((aJ o x y).map fun q=>.val (.bl q))
 |.chain π υ a b d,σ=>(ev c a σ).au fun x σ=>(ev c b σ).au fun y σ=>(lift σ (aJ π x y)).bind fun q σ=>
   if q then(ev c d σ).au fun z σ=>lift σ ((aJ υ y z).map fun q=>.val (.bl q))else .ok (.val (.bl false)) σ
 |.and es,σ=>gW c es σ
 |.or es,σ=>nD c es σ
 |.not a,σ=>(ev c a σ).cu gY fun b σ=>.ok (.val (.bl (!b))) σ
 |.ite t a b,σ=>(ev c t σ).cu gY fun q σ=>if q then ev c a σ else ev c b σ
 |.idx a i,σ=>match a.aB with
  |some k=>if (aZ k σ).isNone then .bad else(ev c i σ).au fun y σ=>lift σ ((aZ k σ).bind fun d=>(getD d y).map Rv.val)
  |none=>(ev c a σ).au fun x σ=>(ev c i σ).au fun y σ=>lift σ ((getD x y).map Rv.val)
 |.slc a lo hi,σ=>(ev c a σ).au fun x σ=>(ev c lo σ).au fun l σ=>match cH lo.jx l with
  |none=>.bad
  |some l=>(ev c hi σ).au fun h σ=>lift σ ((cH hi.jx h).bind fun h=>dX x l h)
 |.noneE,σ=>.ok (.val .non) σ
 |.call f as,σ=>(evs c as σ).bind fun as σ=>tQ c f as σ
 |.ref i,σ=>match σ[i]? with
  |some (.own _)=>.ok (.ref i) σ
  |some (.bor _)=>.ok (.ref i) σ
  |_=>.bad
 |.rd e,σ=>ev c e σ
 |.isi a t,σ=>(ev c a σ).au fun x σ=>.ok (.val (.bl (cF t x))) σ
 |.bi b a,σ=>match a.aB with
  |some k=>lift σ ((aZ k σ).bind fun d=>b1 b d)
  |none=>(ev c a σ).au fun x σ=>lift σ (b1 b x)
 |.range1 a,σ=>(ev c a σ).au fun x σ=>lift σ (match x with|.int n=>if fits n.toNat&&Ez n then some (.val (.lst (cB 0 n.toNat)))else none|_=>none)
 |.zip a b,σ=>(ev c a σ).au fun x σ=>(ev c b σ).au fun y σ=>lift σ ((bu x).bind fun xs=>(bu y).map fun ys=>.val (.lst (aW xs ys)))
 |.count a b,σ=>(ev c a σ).au fun x σ=>if (bu x).isNone then .bad else(ev c b σ).au fun y σ=>lift σ (tH x y)
 |.popAt k a,σ=>if !di (aZ k σ)then .bad else(ev c a σ).au fun y σ=>rF k y σ
 |.index a b,σ=>(ev c a σ).au fun x σ=>if (iG x).isNone then .bad else(ev c b σ).au fun y σ=>lift σ (ab6 x y)
 |.get2 d k x,σ=>match d.aB with
  |some i=>if !sy (aZ i σ)then .bad else(ev c k σ).au fun k σ=>(ev c x σ).au fun x σ=>lift σ ((aZ i σ).bind fun y=>(sO y k x).map Rv.val)
  |none=>.bad
 |.dsp es,σ=>(evs c es σ).bind fun rs σ=>lift σ ((aO rs).bind uA)
 |.rev a,σ=>(ev c a σ).au fun x σ=>lift σ ((iG x).map fun xs=>.new (.lst xs.reverse))
 |.comp nl tg it cond elt,σ=>(ev c it σ).au fun x σ=>match items x with
  |some xs=>match aU tg (ev c cond) (ev c elt) xs [] (List.replicate nl .un++σ)with
   |.ok ys τ=>.ok (.new (.lst ys)) (τ.drop nl)
   |_=>.bad
  |none=>.bad
 |.nil,_=>.bad
 |.cons _ _,_=>.bad
noncomputable def gW(c:Cf):E->Ev->Out Rv
 |.cons h t,σ=>match t with
  |.nil=>ev c h σ
  |t=>(ev c h σ).au fun x σ=>match x with|.bl true=>gW c t σ|.bl false=>.ok (.val (.bl false)) σ|_=>.bad
 |_,_=>.bad
noncomputable def nD(c:Cf):E->Ev->Out Rv
 |.cons h t,σ=>match t with
  |.nil=>ev c h σ
  |t=>(ev c h σ).au fun x σ=>match x with|.bl true=>.ok (.val (.bl true)) σ|.bl false=>nD c t σ|_=>.bad
 |_,_=>.bad
noncomputable def evs(c:Cf):E->Ev->Out (List Rv)
 |.nil,σ=>.ok [] σ
 |.cons h t,σ=>(ev c h σ).bind fun x σ=>(evs c t σ).bind fun xs σ=>.ok (argv x::xs) σ
 |_,_=>.bad
end
inductive Fl where
 |next (σ:Ev)|ret (r:Rv) (σ:Ev)|brk (σ:Ev)|cont (σ:Ev)|exc (k:Nat) (σ:Ev)|bad
noncomputable def Out.fl{α:Type}:Out α->(α->Ev->Fl)->Fl
 |.ok a σ,f=>f a σ
 |.exc k σ,_=>.exc k σ
 |.bad,_=>.bad
noncomputable def Out.nW:Out Rv->(D->Ev->Fl)->Fl
 |.ok (.val d) σ,f=>f d σ
 |.ok (.new o) σ,f=>f o.d σ
 |.ok _ _,_=>.bad
 |.exc k σ,_=>.exc k σ
 |.bad,_=>.bad
noncomputable def Out.Ag(r:Out Rv)(f:Bool->Ev->Fl):Fl:=r.nW fun d σ=>match gY d with|some b=>f b σ|none=>.bad
noncomputable def ul:Rv->Ev->Fl
 |.val d,σ=>.ret (.val d) σ
 |.new o,σ=>.ret (.new o) σ
 |_,_=>.bad
def Fl.seq:Fl->(Ev->Fl)->Fl
 |.next σ,f=>f σ
 |r,_=>r
noncomputable def Fl.turn:Fl->(Ev->Fl)->Fl
 |.next σ,f=>f σ
 |.cont σ,f=>f σ
 |.brk σ,_=>.next σ
 |r,_=>r
noncomputable def bA(tg:Tg)(b:Ev->Fl):List D->Ev->Fl
 |[],σ=>.next σ
 |x::xs,σ=>match bD tg x σ with
  |none=>.bad
  |some σ₁=>(b σ₁).turn (bA tg b xs)
noncomputable def bQ(t:Ev->Out Rv)(b:Ev->Fl):Nat->Ev->Fl
 |0,_=>.bad
 |n+1,σ=>(t σ).Ag fun q σ=>if q then(b σ).turn (bQ t b n)else .next σ
def yV:Option Ev->Fl
 |some σ=>.next σ
 |none=>.bad
noncomputable def acq(c:Cf)(f:Nat)(as:List Rv)(σ:Ev):Fl:=
 match enter as σ with
 |none=>.bad
 |some ps=>
  match c.fn f ps with
  |.ok _ qs=>yV (giveBack as qs σ)
  |.exc k qs=>match giveBack as qs σ with|some ζ=>.exc k ζ|none=>.bad
  |.bad=>.bad
noncomputable def ex(c:Cf):S->Ev->Fl
 |.nil,σ=>.next σ
 |.cons h t,σ=>(ex c h σ).seq (ex c t)
 |.brk,σ=>.brk σ
 |.cont,σ=>.cont σ
 |.set i e,σ=>(ev c e σ).fl fun x σ=>yV (x.Ba.bind fun s=>cD i s σ)
 |.setT is e,σ=>(ev c e σ).nW fun x σ=>yV (bD (.tup is) x σ)
 |.setIx k ix e,σ=>(ev c e σ).nW fun x σ=>if (aZ k σ).isNone then .bad else(ev c ix σ).nW fun y σ=>yV (cT k (yQ y x) σ)
 |.expr e,σ=>(ev c e σ).nW fun _ σ=>.next σ
 |.append k e,σ=>if !di (aZ k σ)then .bad else(ev c e σ).nW fun x σ=>yV (cT k (wI fun xs=>if fits (xs.length+1)then some (xs++[x])else none) σ)
 |.extend k e,σ=>if !di (aZ k σ)then .bad else(ev c e σ).nW fun x σ=>yV ((iG x).bind fun ys=>cT k (wI fun xs=>if fits (xs.length+ys.length)then some (xs++ys)else none) σ)
 |.ret e,σ=>match e.aB with
  |some i=>match σ[i]? with
   |some (.own o)=>.ret (.new o) (σ.set i .un)
   |_=>(ev c e σ).fl ul
  |none=>(ev c e σ).fl ul
 |.ite t a b,σ=>(ev c t σ).Ag fun q σ=>if q then ex c a σ else ex c b σ
 |.for_ tg it b,σ=>(ev c it σ).nW fun x σ=>match items x with
  |some xs=>bA tg (ex c b) xs σ
  |none=>.bad
 |.while_ t b,σ=>bQ (ev c t) (ex c b) c.turns σ
 |.raise k,σ=>.exc k σ
 |.callx f as,σ=>(evs c as σ).fl fun as σ=>acq c f as σ
structure Fn where
 pars:Nat
 names:Nat
 body:S
noncomputable def iC(c:Cf)(f:Fn)(ps:List Sl):Res:=
 if ps.length=f.pars then
  match ex c f.body (ps++List.replicate (f.names-f.pars) .un)with
  |.next σ=>.ok (.val .non) (σ.take f.pars)
  |.ret r σ=>.ok r (σ.take f.pars)
  |.exc k σ=>.exc k (σ.take f.pars)
  |_=>.bad
 else .bad
structure Pg where
 fns:List Fn
 gl:Nat->Option D
 turns:Nat
 pf:Cf->Nat->List Sl->Res:=fun _ _ _=>.bad
noncomputable def Pg.fn(p:Pg):Nat->Nat->List Sl->Res
 |0,_,_=>.bad
 |n+1,f,ps=>match p.fns[f]? with
  |some g=>iC ⟨p.fn n,p.gl,p.turns⟩ g ps
  |none=>p.pf ⟨p.fn n,p.gl,p.turns⟩ f ps
def Pg.cf(p:Pg)(n:Nat):Cf:=⟨p.fn n,p.gl,p.turns⟩
def v_0 c(i σ):ev c (.var i) σ=rm i σ:=rfl
def v_1 c(d σ):ev c (.con d) σ=.ok (.val d) σ:=rfl
def v_2 c(k σ):ev c (.glob k) σ=match c.gl k with|some d=>.ok (.val d) σ|none=>.bad:=rfl
def v_3 c(es σ):ev c (.tup es) σ=(evs c es σ).bind fun rs σ=>lift σ ((aO rs).bind fun ds=>if fits ds.length then some (.val (.tup ds))else none):=rfl
def v_4 c(es σ):ev c (.lis es) σ=(evs c es σ).bind fun rs σ=>lift σ ((aO rs).bind fun ds=>if fits ds.length then some (.new (.lst ds))else none):=rfl
def v_5 c(o a b σ):ev c (.op o a b) σ=(ev c a σ).au fun x σ=>(ev c b σ).au fun y σ=>lift σ (binop o x y):=rfl
def v_6 c(a σ):ev c (.neg a) σ=(ev c a σ).au fun x σ=>lift σ (match x with|.int i=>some (.val (.int (-i)))|_=>none):=rfl
theorem v_7 c(o a b σ):ev c (.cmp o a b) σ=(ev c a σ).au fun x σ=>match b.aB with
  |some k=>lift σ ((aZ k σ).bind fun d=>(aJ o x d).map fun q=>.val (.bl q))
  |none=>(ev c b σ).au fun y σ=>lift σ ((aJ o x y).map fun q=>.val (.bl q)):=rfl
def v_8 c(π υ a b d σ):ev c (.chain π υ a b d) σ=(ev c a σ).au fun x σ=>(ev c b σ).au fun y σ=>(lift σ (aJ π x y)).bind fun q σ=>
   if q then(ev c d σ).au fun z σ=>lift σ ((aJ υ y z).map fun q=>.val (.bl q))else .ok (.val (.bl false)) σ:=rfl
def Zi c(es σ):ev c (.and es) σ=gW c es σ:=rfl
def GD c(es σ):ev c (.or es) σ=nD c es σ:=rfl
def PQ c(a σ):ev c (.not a) σ=(ev c a σ).cu gY fun b σ=>.ok (.val (.bl (!b))) σ:=rfl
def aar c(t a b σ):ev c (.ite t a b) σ=(ev c t σ).cu gY fun q σ=>if q then ev c a σ else ev c b σ:=rfl
theorem Jr c(a i σ):ev c (.idx a i) σ=match a.aB with
  |some k=>if (aZ k σ).isNone then .bad else(ev c i σ).au fun y σ=>lift σ ((aZ k σ).bind fun d=>(getD d y).map Rv.val)
  |none=>(ev c a σ).au fun x σ=>(ev c i σ).au fun y σ=>lift σ ((getD x y).map Rv.val):=rfl
theorem aaq c(a lo hi σ):ev c (.slc a lo hi) σ=(ev c a σ).au fun x σ=>(ev c lo σ).au fun l σ=>match cH lo.jx l with
  |none=>.bad
  |some l=>(ev c hi σ).au fun h σ=>lift σ ((cH hi.jx h).bind fun h=>dX x l h):=rfl
def aap c(σ):ev c .noneE σ=.ok (.val .non) σ:=rfl
def VM c(f as σ):ev c (.call f as) σ=(evs c as σ).bind fun as σ=>tQ c f as σ:=rfl
theorem PN c(i σ):ev c (.ref i) σ=match σ[i]? with
  |some (.own _)=>.ok (.ref i) σ
  |some (.bor _)=>.ok (.ref i) σ
  |_=>.bad:=rfl
def PL c(e σ):ev c (.rd e) σ=ev c e σ:=rfl
def aao c(a t σ):ev c (.isi a t) σ=(ev c a σ).au fun x σ=>.ok (.val (.bl (cF t x))) σ:=rfl
theorem mU c(b a σ):ev c (.bi b a) σ=match a.aB with
  |some k=>lift σ ((aZ k σ).bind fun d=>b1 b d)
  |none=>(ev c a σ).au fun x σ=>lift σ (b1 b x):=rfl
def VL c(a σ):ev c (.range1 a) σ=(ev c a σ).au fun x σ=>lift σ (match x with|.int n=>if fits n.toNat&&Ez n then some (.val (.lst (cB 0 n.toNat)))else none|_=>none):=rfl
def VJ c(a b σ):ev c (.zip a b) σ=(ev c a σ).au fun x σ=>(ev c b σ).au fun y σ=>lift σ ((bu x).bind fun xs=>(bu y).map fun ys=>.val (.lst (aW xs ys))):=rfl
def aan c(a b σ):ev c (.count a b) σ=(ev c a σ).au fun x σ=>if (bu x).isNone then .bad else(ev c b σ).au fun y σ=>lift σ (tH x y):=rfl
def VH c(k a σ):ev c (.popAt k a) σ=if !di (aZ k σ)then .bad else(ev c a σ).au fun y σ=>rF k y σ:=rfl
theorem lQ c(nl tg it cond elt σ):ev c (.comp nl tg it cond elt) σ=(ev c it σ).au fun x σ=>match items x with
  |some xs=>match aU tg (ev c cond) (ev c elt) xs [] (List.replicate nl .un++σ)with
   |.ok ys τ=>.ok (.new (.lst ys)) (τ.drop nl)
   |_=>.bad
  |none=>.bad:=rfl
theorem VG c(d k x σ):ev c (.get2 d k x) σ=match d.aB with
  |some i=>if !sy (aZ i σ)then .bad else(ev c k σ).au fun k σ=>(ev c x σ).au fun x σ=>lift σ ((aZ i σ).bind fun y=>(sO y k x).map Rv.val)
  |none=>.bad:=rfl
def adL c(es σ):ev c (.dsp es) σ=(evs c es σ).bind fun rs σ=>lift σ ((aO rs).bind uA):=rfl
def x_0 c(σ):ex c .nil σ=.next σ:=rfl
def x_1 c(h t σ):ex c (.cons h t) σ=(ex c h σ).seq (ex c t):=rfl
def x_5 c(i e σ):ex c (.set i e) σ=(ev c e σ).fl fun x σ=>yV (x.Ba.bind fun s=>cD i s σ):=rfl
def x_9 c(k e σ):ex c (.append k e) σ=if !di (aZ k σ)then .bad else(ev c e σ).nW fun x σ=>yV (cT k (wI fun xs=>if fits (xs.length+1)then some (xs++[x])else none) σ):=rfl
def adJ(c:Cf)(k e σ):ex c (.extend k e) σ=if !di (aZ k σ)then .bad else(ev c e σ).nW fun x σ=>yV ((iG x).bind fun ys=>cT k (wI fun xs=>if fits (xs.length+ys.length)then some (xs++ys)else none) σ):=rfl
theorem Ai c(e σ):ex c (.ret e) σ=match e.aB with
  |some i=>match σ[i]? with
   |some (.own o)=>.ret (.new o) (σ.set i .un)
   |_=>(ev c e σ).fl ul
  |none=>(ev c e σ).fl ul:=rfl
theorem adI c(tg it b σ):ex c (.for_ tg it b) σ=(ev c it σ).nW fun x σ=>match items x with
  |some xs=>bA tg (ex c b) xs σ
  |none=>.bad:=rfl
def RK:E->Bool
 |.neg (.con (.int i))=>i==1
 |_=>false
end Mini
end
section
namespace Mini
open PySem L2
def O5(K:QQq)(H:Hp)(a:Addr)(xs:List V):Prop:=
 (∃o,H a=some (.frz o (.lst xs)))\/
  ∃(o:Obj)(its:Array Value)(n:Nat),K.lookup a=some o/\o.cls=.type "list"/\o.dict=none/\o.data=.seq its n/\its.size<=sizeLine/\Vals xs its.toList
def O5.sq{H:Hp}{xs:List V}(h:O5 K H a xs):jA K H a xs:=by
 rcases h with ⟨o,h⟩|h
 ·exact .inl (.inr ⟨o,h⟩)
 ·exact .inr h
def dJ:Key->D
 |.inl i=>.int i
 |.inr x=>.str x
def eX(k:SK):D:=.tup [.tup (k.1.map .bl),.int k.2]
mutual
def bJ(K:QQq)(H:Hp):D->V->Prop
 |.non,v=>v=.non
 |.bl b,v=>v=.bl b
 |.int i,v=>v=.int i
 |.str x,v=>v=.str x
 |.tup ds,v=>∃a vs,v=.ref a/\iQ K H a vs/\aq K H ds vs
 |.lst ds,v=>∃a vs,v=.ref a/\O5 K H a vs/\aq K H ds vs
 |.cG ks ds,v=>∃a o kvs,v=.ref a/\H a=some (.frz o (.dK kvs))/\ks=kvs.map (fun p=>dJ p.1)/\aq K H ds (kvs.map (·.2))
 |.fQ ks ds,v=>∃a o xs,v=.ref a/\H a=some (.frz o (.dS xs))/\ks=xs.map (fun x=>eX x.1)/\(∀x∈xs,bU K H x.1 x.2.1)/\aq K H ds (xs.map (·.2.2))
def aq(K:QQq)(H:Hp):List D->List V->Prop
 |[],vs=>vs=[]
 |d::ds,vs=>∃v r,vs=v::r/\bJ K H d v/\aq K H ds r
end
structure bN(H H':Hp):Prop where
 tups:∀b xs,H b=some (.tup xs)->H' b=some (.tup xs)
 frzs:∀b o u,H b=some (.frz o u)->H' b=some (.frz o u)
def bN.refl H:bN H H:=⟨fun _ _ h=>h,fun _ _ _ h=>h⟩
def bN.trans(a:bN H H1)(b:bN H1 H2):bN H H2:=⟨fun c xs h=>b.tups c xs (a.tups c xs h),fun c o u h=>b.frzs c o u (a.frzs c o u h)⟩
section
def bN.yz(p:bN H H')(h:iQ K H a xs):iQ K H' a xs:=by
 rcases h with (h|⟨o,h⟩)|h
 ·exact .inl (.inl (p.tups _ _ h))
 ·exact .inl (.inr ⟨o,p.frzs _ _ _ h⟩)
 ·exact .inr h
def bN.R7(p:bN H H')(h:O5 K H a xs):O5 K H' a xs:=by
 rcases h with ⟨o,h⟩|h
 ·exact .inl ⟨o,p.frzs _ _ _ h⟩
 ·exact .inr h
mutual
theorem bJ.mono(p:bN H H'):∀{d:D}{v:V},bJ K H d v->bJ K H' d v
 |.non,_,h=>h
 |.bl _,_,h=>h
 |.int _,_,h=>h
 |.str _,_,h=>h
 |.tup ds,v,h=>by
  obtain⟨a,vs,e,s,l⟩:=h
  exact⟨a,vs,e,p.yz s,aq.mono p l⟩
 |.lst ds,v,h=>by
  obtain⟨a,vs,e,s,l⟩:=h
  exact⟨a,vs,e,p.R7 s,aq.mono p l⟩
 |.cG ks ds,v,h=>by
  obtain⟨a,o,kvs,e,s,k,l⟩:=h
  exact⟨a,o,kvs,e,p.frzs _ _ _ s,k,aq.mono p l⟩
 |.fQ ks ds,v,h=>by
  obtain⟨a,o,xs,e,s,k,ka,l⟩:=h
  exact⟨a,o,xs,e,p.frzs _ _ _ s,k,fun x hx=>let ⟨b,q1,q2⟩:=ka x hx;⟨b,p.yz q1,p.yz q2⟩,aq.mono p l⟩
theorem aq.mono(p:bN H H'):∀{ds:List D}{vs:List V},aq K H ds vs->aq K H' ds vs
 |[],_,h=>by unfold aq at h⊢;exact h
 |d::ds,vs,h=>by
  obtain⟨v,r,e,s,l⟩:=h
  exact⟨v,r,e,bJ.mono p s,aq.mono p l⟩
end
def aq.bj:aq K H [] vs↔vs=[]:=by unfold aq;exact Iff.rfl
def aq.aG{ds:List D}:aq K H (d::ds) vs↔ ∃v r,vs=v::r/\bJ K H d v/\aq K H ds r:=by
 constructor
 ·intro h;unfold aq at h;exact h
 ·intro h;unfold aq;exact h
def aq.cV{ds:List D}{vs:List V}(h:bJ K H d v)(t:aq K H ds vs):aq K H (d::ds) (v::vs):=aq.aG.mpr ⟨v,vs,rfl,h,t⟩
def aq.eQ:aq K H [] []:=aq.bj.mpr rfl
theorem aq.length:∀{ds:List D}{vs:List V},aq K H ds vs->ds.length=vs.length
 |[],_,h=>by rw[aq.bj.mp h];rfl
 |d::ds,vs,h=>by
  obtain⟨v,r,rfl,_,t⟩:=aq.aG.mp h
  simp[aq.length t]
theorem aq.get:∀{ds:List D}{vs:List V}{i:Nat}{d:D},aq K H ds vs->ds[i]? =some d->∃v,vs[i]? =some v/\bJ K H d v
 |[],_,_,_,_,e=>by simp at e
 |d::ds,vs,i,d',h,e=>by
  obtain⟨v,r,rfl,hd,t⟩:=aq.aG.mp h
  cases i with
  |zero=>simp at e;subst e;exact⟨v,rfl,hd⟩
  |succ i=>obtain⟨w,q,z⟩:=aq.get t (by simpa using e);exact⟨w,by simpa using q,z⟩
theorem aq.append:∀{ds es:List D}{vs ws:List V},aq K H ds vs->aq K H es ws->aq K H (ds++es) (vs++ws)
 |[],_,_,_,h,t=>by rw[aq.bj.mp h];exact t
 |d::ds,es,vs,ws,h,t=>by
  obtain⟨v,r,rfl,hd,q⟩:=aq.aG.mp h
  exact aq.cV hd (aq.append q t)
theorem aq.take:∀{ds:List D}{vs:List V}(n:Nat),aq K H ds vs->aq K H (ds.take n) (vs.take n)
 |_,_,0=>fun _=>aq.eQ
 |[],_,_+1=>fun h=>by rw[aq.bj.mp h];exact aq.eQ
 |d::ds,vs,n+1=>fun h=>by
  obtain⟨v,r,rfl,hd,q⟩:=aq.aG.mp h
  exact aq.cV hd (aq.take n q)
theorem aq.drop:∀{ds:List D}{vs:List V}(n:Nat),aq K H ds vs->aq K H (ds.drop n) (vs.drop n)
 |_,_,0=>fun h=>h
 |[],_,_+1=>fun h=>by rw[aq.bj.mp h];exact aq.eQ
 |d::ds,vs,n+1=>fun h=>by
  obtain⟨v,r,rfl,hd,q⟩:=aq.aG.mp h
  exact aq.drop n q
theorem aq.eraseIdx:∀{ds:List D}{vs:List V}(n:Nat),aq K H ds vs->aq K H (ds.eraseIdx n) (vs.eraseIdx n)
 |[],_,_=>fun h=>by rw[aq.bj.mp h];exact aq.eQ
 |d::ds,vs,0=>fun h=>by
  obtain⟨v,r,rfl,hd,q⟩:=aq.aG.mp h
  exact q
 |d::ds,vs,n+1=>fun h=>by
  obtain⟨v,r,rfl,hd,q⟩:=aq.aG.mp h
  exact aq.cV hd (aq.eraseIdx n q)
theorem aq.set{v:V}(hd:bJ K H d v):∀{ds:List D}{vs:List V}(n:Nat),aq K H ds vs->aq K H (ds.set n d) (vs.set n v)
 |[],_,_=>fun h=>by rw[aq.bj.mp h];exact aq.eQ
 |e::ds,vs,0=>fun h=>by
  obtain⟨w,r,rfl,he,q⟩:=aq.aG.mp h
  exact aq.cV hd q
 |e::ds,vs,n+1=>fun h=>by
  obtain⟨w,r,rfl,he,q⟩:=aq.aG.mp h
  exact aq.cV he (aq.set hd n q)
end
def isOwn:Sl->Option Ob
 |.own o=>some o
 |.bor o=>some o
 |_=>none
noncomputable def Jh(K:QQq)(H:Hp):Ob->HO->Prop
 |.lst xs,u=>∃vs,u=.lst vs/\aq K H xs vs
 |.dct ks ds,u=>∃kvs,u=.dK kvs/\ks=kvs.map (fun p=>dJ p.1)/\aq K H ds (kvs.map (·.2))
 |.sdt ks ds,u=>∃xs,u=.dS xs/\ks=xs.map (fun x=>eX x.1)/\(∀x∈xs,bU K H x.1 x.2.1)/\aq K H ds (xs.map (·.2.2))
theorem Jh.mono{H H':Hp}(p:bN H H'):∀{o:Ob}{u:HO},Jh K H o u->Jh K H' o u
 |.lst _,_,⟨vs,e,l⟩=>⟨vs,e,l.mono p⟩
 |.dct _ _,_,⟨kvs,e,k,l⟩=>⟨kvs,e,k,l.mono p⟩
 |.sdt _ _,_,⟨xs,e,k,ka,l⟩=>⟨xs,e,k,fun x hx=>let ⟨b,q1,q2⟩:=ka x hx;⟨b,p.yz q1,p.yz q2⟩,l.mono p⟩
structure O9(u:HO):Prop where
 tup:∀xs,u≠ .tup xs
 frz:∀q w,u≠ .frz q w
 tbl:∀ps,u≠ .tbl ps
 own:∀x,u≠ .own x
theorem Jh.uY{H:Hp}:∀{o:Ob}{u:HO},Jh K H o u->O9 u
 |.lst _,_,⟨vs,e,_⟩=>by
  subst e
  constructor
  all_goals (intros;intro z;cases z)
 |.dct _ _,_,⟨kvs,e,_⟩=>by
  subst e
  constructor
  all_goals (intros;intro z;cases z)
 |.sdt _ _,_,⟨xs,e,_⟩=>by
  subst e
  constructor
  all_goals (intros;intro z;cases z)
def jE(K:QQq)(H:Hp)(o:Ob)(a:Addr):Prop:=∃u,H a=some u/\Jh K H o u
noncomputable def S9(K:QQq)(H:Hp):Sl->Option V->Prop
 |.un,_=>True
 |.val d,o=>∃v,o=some v/\bJ K H d v
 |.own q,o=>∃a,o=some (.ref a)/\jE K H q a
 |.bor q,o=>∃a,o=some (.ref a)/\jE K H q a
def aQ(env:Ev)(σ:St)(i:Nat)(a:Addr):Prop:=(∃s xs,env[i]? =some s/\isOwn s=some xs)/\σ[i]? =some (some (.ref a))
structure Sat(K:QQq)(env:Ev)(σ:St)(H:Hp):Prop where
 len:env.length=σ.length
 sl:∀(i:Nat)s,env[i]? =some s->S9 K H s (σ[i]?).join
 ne:∀(i j:Nat)a,aQ env σ i a->aQ env σ j a->i=j
structure Nx(K:QQq)(env:Ev)(σ:St)(H:Hp)(env':Ev)(H':Hp):Prop where
 eV:Sat K env' σ H'
 sub:∀(i:Nat)a,aQ env' σ i a->aQ env σ i a
 pers:bN H H'
 keep:∀b u,H b=some u->(∀i,¬aQ env σ i b)->H' b=some u
 dom:∀b,H' b=none->H b=none
 bors:∀(i:Nat)xs,env[i]? =some (.bor xs)->∃ys,env'[i]? =some (.bor ys)
section
theorem Nx.refl(h:Sat K env σ H):Nx K env σ H env H:=⟨h,fun _ _ z=>z,bN.refl H,fun _ _ z _=>z,fun _ z=>z,fun _ xs e=>⟨xs,e⟩⟩
theorem Nx.trans(a:Nx K env σ H δ H1)(b:Nx K δ σ H1 ε H2):Nx K env σ H ε H2:=
 ⟨b.eV,fun i c z=>a.sub i c (b.sub i c z),a.pers.trans b.pers,fun c vs z n=>b.keep c vs (a.keep c vs z n) fun i w=>n i (a.sub i c w),fun c z=>a.dom c (b.dom c z),fun i xs e=>let ⟨ys,e1⟩:=a.bors i xs e;b.bors i ys e1⟩
theorem Sat.own(h:Sat K env σ H){a:Addr}(o:aQ env σ i a):∃q,jE K H q a:=by
 obtain⟨⟨s,xs,e1,e2⟩,e3⟩:=o
 have q:=h.sl i s e1
 rw[e3]at q
 cases s with
 |un=>simp[isOwn]at e2
 |val d=>simp[isOwn]at e2
 |own ys=>obtain⟨b,e,z⟩:=q;cases e;exact⟨ys,z⟩
 |bor ys=>obtain⟨b,e,z⟩:=q;cases e;exact⟨ys,z⟩
def Sat.rM(h:Sat K env σ H)(hn:H a=none)i:¬aQ env σ i a:=fun o=>by
 obtain⟨q,u,z,_⟩:=h.own o
 rw[hn]at z;cases z
end
noncomputable def gO(K:QQq)(σ:St)(H₀ H:Hp):Rv->V->Prop
 |.val d,v=>bJ K H d v
 |.new q,v=>∃a,v=.ref a/\jE K H q a/\H₀ a=none
 |.ref i,v=>σ[i]? =some (some v)
abbrev Wi:=Nat->Ev->St->Hp->Prop
noncomputable def tM(K:QQq)(W:Wi)(env:Ev)(r:Out Rv):TE:=fun σ H Q=>Sat K env σ H/\match r with
 |.ok x env'=>∀v H',Nx K env σ H env' H'->gO K σ H H' x v->Q v H'
 |.exc c env'=>∀H',Nx K env σ H env' H'->W c env' σ H'
 |.bad=>False
noncomputable def tD(K:QQq)(W:Wi)(env:Ev)(r:Out Rv):TE:=fun σ H Q=>Sat K env σ H/\match r with
 |.ok (.val d) env'=>∀v H',Nx K env σ H env' H'->bJ K H' d v->Q v H'
 |.ok (.new q) env'=>∀v H',Nx K env σ H env' H'->bJ K H' q.d v->Q v H'
 |.ok _ _=>False
 |.exc c env'=>∀H',Nx K env σ H env' H'->W c env' σ H'
 |.bad=>False
noncomputable def tT(K:QQq)(W:Wi)(env:Ev)(r:Out Rv):TT:=fun σ H Q=>Sat K env σ H/\match r with
 |.ok x env'=>∃d b,x.jj=some d/\gY d=some b/\∀H',Nx K env σ H env' H'->Q b H'
 |.exc c env'=>∀H',Nx K env σ H env' H'->W c env' σ H'
 |.bad=>False
def PE.imp{e:Expr}(h:PE X e t)(i:∀σ H Q,t' σ H Q->t σ H Q):PE X e t':=fun γ s σ H Q I q=>h γ s σ H Q I (i σ H Q q)
def PT.imp{e:Expr}(h:PT X e t)(i:∀σ H Q,t' σ H Q->t σ H Q):PT X e t':=fun γ s σ H Q I q=>h γ s σ H Q I (i σ H Q q)
def _root_.L2.cA.there{w:World}{h:Heap}{o:HO}(x:cA P w H h a o):∃u,h.get? a=some u:=by
 cases o with
 |lst xs=>obtain⟨_,_,_,_,e⟩:=x;exact⟨_,e⟩
 |tup xs=>obtain⟨_,_,_,p⟩:=x;obtain⟨o,e,_⟩:=p;exact⟨_,e⟩
 |dK kvs=>obtain⟨_,_,_,_,o,_,_,e,_⟩:=x;exact⟨_,e⟩
 |dS xs=>obtain⟨_,_,_,_,o,_,_,_,e,_⟩:=x;exact⟨_,e⟩
 |ins C dx fs=>obtain⟨_,_,_,e,_⟩:=x;exact⟨_,e⟩
 |own y=>obtain⟨_,e⟩:=x;exact⟨_,e⟩
 |frz ob u=>obtain⟨e,_⟩:=x;exact⟨_,e⟩
 |tbl ps=>exact⟨_,show h.get? a=some _ from x⟩
 |met f y=>exact⟨_,show h.get? a=some _ from x⟩
def Inv.freeze{X:Cx}{σ:St}{H:Hp}{a:Addr}(I:Inv X γ σ H s)(h:H a=some u)(hu:O9 u):
  ∃o,Inv X γ σ (upd H a (.frz o u)) s:=by
 obtain⟨o,ho⟩:=(I.hok a _ h).there
 refine⟨o,?_⟩
 have ne:∀b w,H b=some w->w≠u->b≠a:=fun b w q n z=>by subst z;rw[h]at q;cases q;exact n rfl
 have stay:∀b w,b≠a->H b=some w->upd H a (.frz o u) b=some w:=fun b w n q=>by rw[aC n];exact q
 have hok:pG X.prog X.w (upd H a (.frz o u)) s.heap:=fun b w q=>by
  have st:∀c v,cA X.prog X.w H s.heap c v->cA X.prog X.w _ s.heap c v:=fun c v z=>
   z.stay (fun c v _ q=>q) (fun e q=>stay e _ (ne e _ q (hu.own c).symm) q) fun e xs q=>stay e _ (ne e _ q (hu.tup xs).symm) q
  by_cases hb:b=a
  ·subst hb
   rw[aP]at q
   cases q
   exact⟨ho,st _ _ (I.hok b _ h)⟩
  ·rw[aC hb]at q
   exact st _ _ (I.hok b w q)
 have J:=I.step (t':=s.toks) (d':=s.drawn) (ch:=[]) (fun _ z=>nomatch z)
  (fun b o _ _ _ q _=>q) (fun b o _ _ _ q _=>⟨o.slots,q⟩) (fun b o _ q n=>by
   rw[aC (fun z=>by subst z;rw[h]at n;cases n)];exact n) (fun b o _ q=>⟨o,q⟩)
  (fun b xs q=>stay b _ (ne b _ q (hu.tup xs).symm) q) (fun b o w q=>stay b _ (ne b _ q (hu.frz o w).symm) q) (fun b ps q=>⟨#[],by rw[stay b _ (ne b _ q (hu.tbl ps).symm) q];simp⟩) (fun m q=>q) hok I.bare
 exact J
section
def gQ(h:H a=some u)(hu:O9 u):bN H (upd H a (.frz o u)):=by
 refine⟨fun b xs q=>?_,fun b o' w q=>?_⟩
 ·rw[aC (fun z=>by subst z;rw[h]at q;cases q;exact hu.tup xs rfl)];exact q
 ·rw[aC (fun z=>by subst z;rw[h]at q;cases q;exact hu.frz o' w rfl)];exact q
def Jh.den(h:Jh K H' q u)(e:H' a=some (.frz o u)):bJ K H' q.d (.ref a):=by
 cases q with
 |lst xs=>
  obtain⟨vs,rfl,l⟩:=h
  exact⟨a,vs,rfl,.inl ⟨o,e⟩,l⟩
 |dct ks ds=>
  obtain⟨kvs,rfl,k,l⟩:=h
  exact⟨a,o,kvs,rfl,e,k,l⟩
 |sdt ks ds=>
  obtain⟨xs,rfl,k,ka,l⟩:=h
  exact⟨a,o,xs,rfl,e,k,ka,l⟩
def S9.keep{sl:Sl}(p:bN H H')(h:S9 K H sl v)(k:∀b u,isOwn sl≠none->v=some (.ref b)->H b=some u->H' b=some u):S9 K H' sl v:=by
 cases sl with
 |un=>trivial
 |val d=>obtain⟨v,e1,e2⟩:=h;exact⟨v,e1,e2.mono p⟩
 |own q=>
  obtain⟨b,e1,w,e2,e3⟩:=h
  exact⟨b,e1,w,k b w (by simp[isOwn]) e1 e2,e3.mono p⟩
 |bor q=>
  obtain⟨b,e1,w,e2,e3⟩:=h
  exact⟨b,e1,w,k b w (by simp[isOwn]) e1 e2,e3.mono p⟩
def wF{sl:Sl}(e:env[i]? =some sl)(ho:isOwn sl≠none)(ev:(σ[i]?).join=some (.ref b)):aQ env σ i b:=by
 refine⟨?_,?_⟩
 ·cases q:isOwn sl with
  |none=>exact absurd q ho
  |some o=>exact⟨sl,o,e,q⟩
 ·cases w:σ[i]? with
  |none=>rw[w]at ev;cases ev
  |some y=>rw[w]at ev;simp at ev;rw[ev]
theorem Sat.keep(S:Sat K env σ H)(p:bN H H')(k:∀i b u,aQ env σ i b->H b=some u->H' b=some u):Sat K env σ H':=
 ⟨S.len,fun i sl e=>(S.sl i sl e).keep p fun b u ho ev hb=>k i b u (wF e ho ev) hb,S.ne⟩
def Sat.freeze(S:Sat K env σ H)(h:H a=some u)(hu:O9 u)(no:∀i,¬aQ env σ i a):Sat K env σ (upd H a (.frz o u)):=
 S.keep (gQ h hu) fun i b w ow hb=>by
  rw[aC (fun z=>by subst z;exact no i ow)];exact hb
end
def KN{W:Wi}{env:Ev}(h:PE X e (tM X.K W env r)):PE X e (tD X.K W env r):=by
 intro γ s σ H Q I q
 obtain⟨S,q⟩:=q
 cases r with
 |bad=>exact q.elim
 |exc c env'=>exact h γ s σ H Q I ⟨S,q⟩
 |ok x env'=>
  cases x with
  |val d=>exact h γ s σ H Q I ⟨S,q⟩
  |ref i=>exact False.elim q
  |new xs=>
   refine b7 (h γ s σ H (fun v H'=>Nx X.K env σ H env' H'/\gO X.K σ H H' _ v) I ⟨S,fun v H' n k=>⟨n,k⟩⟩) fun u s1⟨v,H1,I1,r1,N,k⟩=>?_
   obtain⟨a,rfl,⟨u,ha,hl⟩,h0⟩:=k
   have hu:=hl.uY
   obtain⟨o,I2⟩:=Inv.freeze I1 ha hu
   have p:=gQ (o:=o) ha hu
   refine⟨.ref a,_,I2,r1,q _ _ ⟨N.eV.freeze ha hu (fun i z=>S.rM h0 i (N.sub i a z)),N.sub,N.pers.trans p,fun b ws z n=>?_,fun b z=>?_,N.bors⟩ ((hl.mono p).den aP)⟩
   ·rw[aC (fun w=>by subst w;rw[h0]at z;cases z)];exact N.keep b ws z n
   ·refine N.dom b ?_
    by_cases hb:b=a
    ·subst hb;rw[aP]at z;cases z
    ·rw[aC hb]at z;exact z
theorem zX:∀{bs:List D}{cs:List Bool},bools bs=some cs->bs=cs.map .bl
 |[],_,e=>by cases e;rfl
 |d::bs,cs,e=>by
  cases d with
  |bl b=>
   simp only[bools,QJz]at e
   obtain⟨r,e1,rfl⟩:=e
   simp[zX e1]
  |_=>cases e
theorem Gi{H:Hp}:∀{cs:List Bool}{vs:List V},aq K H (cs.map .bl) vs->vs=cs.map .bl
 |[],vs,h=>aq.bj.mp h
 |c::cs,vs,h=>by
  obtain⟨v,r,rfl,h1,h2⟩:=aq.aG.mp h
  cases h1
  rw[Gi h2]
  rfl
def gA(h:ik x=true):∃k:SK,x=eX k:=by
 unfold ik at h
 split at h
 ·rename_i bs j
  obtain⟨cs,e⟩:=Option.isSome_iff_exists.mp h
  exact⟨(cs,j),by rw[zX e];rfl⟩
 ·cases h
def lU{H:Hp}{v:V}(h:bJ K H (eX k) v):∃a,v=.ref a/\bU K H k a:=by
 obtain⟨a,vs,rfl,sq,l⟩:=h
 obtain⟨v1,r,rfl,h1,l⟩:=aq.aG.mp l
 obtain⟨v2,r2,rfl,h2,l⟩:=aq.aG.mp l
 cases aq.bj.mp l
 cases h2
 obtain⟨b,ws,rfl,sq2,l2⟩:=h1
 rw[Gi l2]at sq2
 exact⟨a,rfl,b,sq,sq2⟩
theorem Gb:∀a b:List Bool,jR (a.map .bl) (b.map .bl)=decide (a=b)
 |[],[]=>rfl
 |[],_::_=>by simp[jR]
 |_::_,[]=>by simp[jR]
 |x::a,y::b=>by
  simp only[Qyz,jR,dR,Gb a b]
  cases x<;>cases y<;>simp
def Cw x y:dR (eX x) (eX y)=decide (x=y):=by
 obtain⟨a,i⟩:=x
 obtain⟨b,j⟩:=y
 simp only[eX,dR,jR,Gb]
 by_cases p:a=b<;>by_cases q:i=j<;>simp[p,q]
theorem FP k:∀xs:List SV,aL (eX k) (xs.map fun x=>eX x.1)=(zp k xs).isSome
 |[]=>rfl
 |x::xs=>by
  simp only[Qyz,aL,zp,Cw,FP k xs]
  by_cases c:x.1=k<;>simp[c]
theorem Fb{K:QQq}{H:Hp}(k:SK):∀{xs:List SV}{ds:List D}{z:D},cN (eX k) (xs.map fun x=>eX x.1) ds=some z->aq K H ds (xs.map (·.2.2))->∃w,zp k xs=some w/\bJ K H z w
 |[],ds,z,e,_=>by cases ds<;>cases e
 |x::xs,[],z,e,_=>by cases e
 |x::xs,d::ds,z,e,l=>by
  obtain⟨v,r,e1,h1,h2⟩:=aq.aG.mp l
  cases e1
  simp only[Qyz,cN,Cw]at e
  simp only[zp]
  by_cases c:x.1=k
  ·simp only[c,decide_true,if_true]at e
   cases e
   exact⟨_,if_pos c,h1⟩
  ·simp only[c,decide_false,Qxq,if_false]at e
   rw[if_neg c]
   exact Fb k e h2
def gO.weaken{σ:St}{x:Rv}(h:gO K σ H1 H x v)(d:∀b,H1 b=none->H0 b=none):gO K σ H0 H x v:=by
 cases x with
 |val d=>exact h
 |ref i=>exact h
 |new xs=>obtain⟨a,e,p,z⟩:=h;exact⟨a,e,p,d a z⟩
section
def T4{H1:Hp}(S:tM K W env r σ H Q)(N:Nx K env σ H δ H1):tM K W δ r σ H1 Q:=by
 obtain⟨_,h⟩:=S
 refine⟨N.eV,?_⟩
 cases r with
 |bad=>exact h
 |exc c ε=>exact fun H' N'=>h H' (N.trans N')
 |ok x ε=>exact fun v H' N' z=>h v H' (N.trans N') (z.weaken N.dom)
theorem aR{f:D->Ev->Out Rv}(h:tM K W env (r.au f) σ H Q)
  (k:∀d δ v H1,Nx K env σ H δ H1->bJ K H1 d v->tM K W δ (f d δ) σ H1 Q->R v H1):tD K W env r σ H R:=by
 have step:∀d δ,r.au f=f d δ->∀v H1,Nx K env σ H δ H1->bJ K H1 d v->R v H1:=fun d δ e v H1 N D=>by
  rw[e]at h
  exact k d δ v H1 N D (T4 h N)
 obtain⟨S,h⟩:=h
 refine⟨S,?_⟩
 cases r with
 |bad=>exact h
 |exc c δ=>exact h
 |ok x δ=>
  cases x with
  |val d=>exact fun v H1 N D=>step d δ rfl v H1 N D
  |new xs=>exact fun v H1 N D=>step xs.d δ rfl v H1 N D
  |ref i=>exact h
theorem yq{f:Bool->Ev->Out Rv}(h:tM K W env (r.cu gY f) σ H Q)
  (k:∀b δ H1,Nx K env σ H δ H1->tM K W δ (f b δ) σ H1 Q->R b H1):tT K W env r σ H R:=by
 have step:∀d δ x,x.jj=some d->r=.ok x δ->∃b,gY d=some b/\∀H1,Nx K env σ H δ H1->R b H1:=fun d δ x ex er=>by
  subst er
  cases q:gY d with
  |none=>
   cases x with
   |val d'=>cases ex;simp only[Out.cu,Out.au,q]at h;exact h.2.elim
   |new xs=>cases ex;simp only[Out.cu,Out.au,q]at h;exact h.2.elim
   |ref i=>cases ex
  |some b=>
   refine⟨b,rfl,fun H1 N=>k b δ H1 N (T4 ?_ N)⟩
   cases x with
   |val d'=>cases ex;simp only[Out.cu,Out.au,q]at h;exact h
   |new xs=>cases ex;simp only[Out.cu,Out.au,q]at h;exact h
   |ref i=>cases ex
 refine⟨h.1,?_⟩
 cases r with
 |bad=>exact h.2
 |exc c δ=>exact h.2
 |ok x δ=>
  cases x with
  |val d=>obtain⟨b,e,q⟩:=step d δ _ rfl rfl;exact⟨d,b,rfl,e,q⟩
  |new xs=>obtain⟨b,e,q⟩:=step xs.d δ _ rfl rfl;exact⟨xs.d,b,rfl,e,q⟩
  |ref i=>exact h.2.elim
def cg(h:tM K W env (lift env o) σ H Q):∃z,o=some z/\Sat K env σ H/\∀v H',Nx K env σ H env H'->gO K σ H H' z v->Q v H':=by
 obtain⟨S,h⟩:=h
 cases o with
 |none=>exact h.elim
 |some z=>exact⟨z,rfl,S,h⟩
def dU{v:V}(h:tM K W env (.ok (.val d) env) σ H Q)(e:bJ K H d v):Q v H:=h.2 v H (Nx.refl h.1) e
def Nx.laid{o:HO}(S:Sat K env σ H)(hp:H p=none):Nx K env σ H env (upd H p o):=by
 have ne:∀b u,H b=some u->b≠p:=fun b u q z=>by subst z;rw[hp]at q;cases q
 have pe:bN H (upd H p o):=⟨fun b xs q=>by rw[aC (ne b _ q)];exact q,fun b o' u q=>by rw[aC (ne b _ q)];exact q⟩
 refine⟨S.keep pe fun i b u _ q=>by rw[aC (ne b _ q)];exact q,fun _ _ z=>z,pe,fun b vs q _=>by rw[aC (ne b _ q)];exact q,fun b q=>?_,fun _ xs e=>⟨xs,e⟩⟩
 ·by_cases hb:b=p
  ·subst hb;exact hp
  ·rw[aC hb]at q;exact q
end
def GE(X:Cx)(W:Wi)(c:Cf)(m:E)(e:Expr):Prop:=∀env,PE X e (tM X.K W env (ev c m env))
def aD(X:Cx)(W:Wi)(c:Cf)(m:E):TE:=fun σ H Q=>∃env,tD X.K W env (ev c m env) σ H Q
def aT(X:Cx)(W:Wi)(c:Cf)(m:E):TT:=fun σ H Q=>∃env,tT X.K W env (ev c m env) σ H Q
def GT(X:Cx)(W:Wi)(c:Cf)(m:E)(e:Expr):Prop:=PT X e (aT X W c m)
section
def GE.d(h:GE X W c m e):PE X e (aD X W c m):=fun γ s σ H Q I⟨env,q⟩=>KN (h env) γ s σ H Q I q
theorem bJ.gY{H:Hp}{v:V}(h:bJ K H x v)(e:gY x=some k):OD K v H k:=by
 cases x with
 |non=>cases h;simp[Mini.gY]at e;subst e;rfl
 |bl b=>cases h;simp[Mini.gY]at e;subst e;rfl
 |int i=>cases h;simp[Mini.gY]at e;subst e;rfl
 |str y=>simp[Mini.gY]at e
 |tup xs=>
  obtain⟨p,vs,rfl,hq,l⟩:=h
  have e':=QEq e
  refine .inr (.inl ⟨vs,hq,?_⟩)
  have:=l.length
  cases xs<;>cases vs<;>simp_all
 |lst xs=>
  obtain⟨p,vs,rfl,hq,l⟩:=h
  have e':=QEq e
  refine .inl ⟨vs,hq.sq,?_⟩
  have:=l.length
  cases xs<;>cases vs<;>simp_all
 |cG ks vs=>simp[Mini.gY]at e
 |fQ ks vs=>simp[Mini.gY]at e
def yt{env:Ev}{σ:St}{Q:Bool->Hp->Prop}(h:tT K W env r σ H Q):tD K W env r σ H (fun v H'=>∃k,OD K v H' k/\Q k H'):=by
 obtain⟨S,h⟩:=h
 refine⟨S,?_⟩
 cases r with
 |bad=>exact h
 |exc c δ=>exact h
 |ok x δ=>
  obtain⟨d,b,e1,e2,q⟩:=h
  cases x with
  |val d'=>cases e1;exact fun v H' N D=>⟨b,D.gY e2,q H' N⟩
  |new xs=>cases e1;exact fun v H' N D=>⟨b,D.gY e2,q H' N⟩
  |ref i=>cases e1
def GE.t(h:GE X W c m e)(he:∀whole,isTrue e X.env whole=(do let v<-whole;standAt e.pos;holding [v] (truthy v))):GT X W c m e:=
 PT.imp (Kp h.d he) fun σ H Q⟨env,q⟩=>⟨env,yt q⟩
noncomputable def Es:D->Const->Bool
 |.non,.none=>true
 |.bl b,.bool b'=>b==b'
 |.int i,.int j=>i==j
 |.str x,.str y=>decide (x=y)
 |_,_=>false
def Yt{k:Const}(h:Es x k=true):GE X W c (.con x) (.Constant k i pos):=by
 intro env
 cases x with
 |non=>cases k<;>first|exact PE.imp WR (fun σ H Q q=>dU q rfl)|simp[Es]at h
 |bl y=>cases k<;>first|(simp[Es]at h;subst h;exact PE.imp aby (fun σ H Q q=>dU q rfl))|simp[Es]at h
 |int y=>cases k<;>first|(simp[Es]at h;subst h;exact PE.imp WW (fun σ H Q q=>dU q rfl))|simp[Es]at h
 |str y=>cases k<;>first|(simp[Es]at h;subst h;exact PE.imp WP (fun σ H Q q=>dU q rfl))|simp[Es]at h
 |tup _=>cases k<;>simp[Es]at h
 |lst _=>cases k<;>simp[Es]at h
 |cG _ _=>cases k<;>simp[Es]at h
 |fQ _ _=>cases k<;>simp[Es]at h
def bV{σ:St}{i:Nat}(h:(σ[i]?).join=some v):σ[i]? =some (some v):=by
 cases w:σ[i]? with
 |none=>rw[w]at h;cases h
 |some y=>rw[w]at h;simp at h;rw[h]
def Nx.give{env:Ev}{H:Hp}{q:Ob}{a:Addr}{u:HO}(S:Sat K env σ H)(e:env[i]? =some (.own q))(es:σ[i]? =some (some (.ref a)))
  (ha:H a=some u)(l:Jh K H q u):Nx K env σ H (env.set i (.val q.d)) (upd H a (.frz o u)):=by
 have p:=gQ (o:=o) ha l.uY
 have oa:aQ env σ i a:=⟨⟨_,q,e,rfl⟩,es⟩
 have hi:=(QCz.mp e).1
 have sub:∀j b,aQ (env.set i (.val q.d)) σ j b->aQ env σ j b/\j≠i:=fun j b z=>by
  obtain⟨⟨s,ys,e1,e2⟩,e3⟩:=z
  by_cases hj:i=j
  ·subst hj;rw[Qwq hi]at e1;cases e1;simp[isOwn]at e2
  ·rw[Qxz hj]at e1;exact⟨⟨⟨s,ys,e1,e2⟩,e3⟩,fun z=>hj z.symm⟩
 have ne:∀j b,aQ env σ j b->j≠i->b≠a:=fun j b z hj q=>hj (S.ne j i a (q▸z) oa)
 refine⟨⟨by simpa using S.len,fun j s ej=>?_,fun j k b z w=>S.ne j k b (sub j b z).1 (sub k b w).1⟩,fun j b z=>(sub j b z).1,p,fun b ws q n=>?_,fun b q=>?_,fun j ys ej=>?_⟩
 ·by_cases hj:i=j
  ·subst hj
   rw[Qwq hi]at ej
   cases ej
   exact⟨.ref a,by rw[es];rfl,(l.mono p).den aP⟩
  ·rw[Qxz hj]at ej
   refine(S.sl j s ej).keep p fun b w ho ev hb=>?_
   rw[aC (ne j b (wF ej ho ev) fun z=>hj z.symm)];exact hb
 ·rw[aC (fun z=>by subst z;exact n i oa)];exact q
 ·by_cases hb:b=a
  ·subst hb;rw[aP]at q;cases q
  ·rw[aC hb]at q;exact q
 ·by_cases hj:i=j
  ·subst hj;rw[e]at ej;cases ej
  ·exact⟨ys,by rw[Qxz hj];exact ej⟩
def Yg{x:Str}(hN:X.N[i]? =some x)(hv:Vis X.env.scope x)(hd:(x==("__debug__":Str))=false)(hcd:(x==("__classdict__":Str))=false):GE X W c (.var i) (.Name x pos):=by
 intro env γ s σ H Q I q
 have B:=KJ (pos:=pos) hN hv hd hcd
 simp only[v_0,rm]at q
 cases e:env[i]? with
 |none=>rw[e]at q;exact q.2.elim
 |some sl=>
  rw[e]at q
  cases sl with
  |un=>exact q.2.elim
  |bor xs=>exact q.2.elim
  |val d=>
   obtain⟨v,e1,e2⟩:=q.1.sl i _ e
   exact B γ s σ H Q I ⟨v,bV e1,dU q e2⟩
  |own xs=>
   obtain⟨a,e1,w,e2,e3⟩:=q.1.sl i _ e
   refine b7 (B γ s σ H (fun v H'=>v=.ref a/\H'=H) I ⟨.ref a,bV e1,rfl,rfl⟩) fun u s1⟨v,H1,I1,r1,k1,k2⟩=>?_
   subst k1 k2
   obtain⟨o,I2⟩:=Inv.freeze I1 e2 e3.uY
   exact⟨.ref a,_,I2,r1,q.2 _ _ (Nx.give q.1 e (bV e1) e2 e3) ((e3.mono (gQ e2 e3.uY)).den aP)⟩
end
def oN:fillsNumberSlot (.type "tuple") "mul"=pure false:=
 fillsNumberSlot_seq (r:=some (.builtin "tuple.__rmul__")) PySem.F.slot_tuple_mul.lookup (by decide+kernel) (by rw[typeLookup_type,builtinLookup_eq_fast];kernel_rfl) (by decide+kernel)
def ww:seqRepeat? (.type "tuple")=pure (some (.builtin "tuple.__mul__")):=by
 rfl
def sE a t l items n d sl:
  Meets (Builtin.«int.__rmul__» ⟨[.int a t,.ref l],[]⟩) (fun _ R s=>s.heap.get? l=some {cls:=.type "tuple",dict:=d,data:=.seq items n,slots:=sl}/\R (.ok (.ret Value.notImplemented)) s):=
 .of_wp fun prog w A R s h=>by obtain⟨hp,g,d,tk,os⟩:=s;obtain⟨hl,h⟩:=h;wp_walk;exact⟨_,rfl,h⟩
theorem sU v:∀(n:Nat)(xs:Array Value),(List.replicate n #[v]).foldl (fun x1 x2=>x1++x2) xs=xs++(List.replicate n v).toArray
 |0=>fun xs=>by simp
 |n+1=>fun xs=>by
  rw[List.replicate_succ,List.foldl_cons,sU v n,List.replicate_succ]
  refine Array.toList_inj.mp ?_
  simp
def An l v n d sl x u(h2:1<x/\x<=8):
  Meets (Builtin.«tuple.__mul__» ⟨[.ref l,.int x u],[]⟩) (fun _ R s=>s.heap.get? l=some {cls:=.type "tuple",dict:=d,data:=.seq #[v] n,slots:=sl}/\R (.ok (.ret (Value.ref s.heap.objs.size))) {s with heap:=s.heap.push {cls:=Value.type "tuple",data:=Data.seq ((List.replicate x.toNat #[v]).foldl (fun x1 x2=>x1++x2) #[])}}):=
 .of_wp fun prog w A R s h=>by
  obtain⟨hp,g,d,tk,os⟩:=s;obtain⟨hl,h⟩:=h
  have h0:¬(decide (x< -2 ^63)||decide (x>=2 ^63))=true:=by simp;omega
  have h1:¬((#[v].isEmpty||x==1)=true):=by simp;omega
  have h3:¬(decide (x<=0)|| #[v].isEmpty)=true:=by simp;omega
  have h4:¬((#[v].size:Int)*x>(2 ^63-1)/8):=by simp;omega
  have h5:¬(Builtin.Tuple.tupleTooMany ((#[v].size:Int)*x)=true):=by simp[Builtin.Tuple.tupleTooMany];rw[sizeLine_eq];omega
  have h6:¬((List.replicate x.toNat #[v]).foldl (fun x1 x2=>x1++x2) #[]).size>sizeLine:=by rw[sU,sizeLine_eq];simp;omega
  wp_walk
  rw[if_neg h0]
  wp_walk
  rw[if_neg h1]
  wp_walk
  rw[if_neg h3]
  wp_walk
  rw[if_neg h4]
  wp_walk
  rw[if_neg h5]
  wp_walk
  exact⟨_,rfl,h⟩
def Ao l v n d sl u:
  Meets (Builtin.«tuple.__mul__» ⟨[.ref l,.int 1 u],[]⟩) (fun _ R s=>s.heap.get? l=some {cls:=.type "tuple",dict:=d,data:=.seq #[v] n,slots:=sl}/\R (.ok (.ret (Value.ref l))) s):=
 .of_wp fun prog w A R s h=>by
  obtain⟨hp,g,d,tk,os⟩:=s;obtain⟨hl,h⟩:=h
  wp_walk
  exact⟨_,rfl,h⟩
section
noncomputable def Ug(K:QQq):R2:=fun x y H Q=>∃a v n,x=.ref a/\y=.int n/\(0<n/\n<=8)/\iQ K H a [v]/\(n=1->Q (.ref a) H)/\∀p,H p=none->Q (.ref p) (upd H p (.tup (List.replicate n.toNat v)))
theorem uE{u:Value}(r:RelV v u):∀n,Vals (List.replicate n v) (List.replicate n u)
 |0=>.nil
 |n+1=>.cons r (uE r n)
def Ra:fG X (binaryOp .Mult) (Ug X.K):=by
 intro γ s σ H x y v u Q I rx ry h
 obtain⟨a,w,n,rfl,rfl,hn,ha,q1,q⟩:=h
 cases rx
 obtain⟨tk,rfl⟩:=ry
 obtain⟨its,r1,p1,_⟩:=I.tuple ha
 obtain⟨⟨cls,dd,data,sl⟩,ho,hc,m,hd⟩:=id p1
 subst hc hd
 cases r1 with
 |cons rw rr=>
  cases rr
  rename_i u0
  have hz:(List.replicate n.toNat w).length<=sizeLine:=by rw[List.length_replicate,sizeLine_eq];omega
  refine wpAny_binaryOp_repeat_ref (by decide) ⟨_,ho,rfl⟩ (fun s'=>typeIs_int s' n tk) oN F.fills_int_mul F.slot_int_rmul ww F.slot_int_index.lookup
   (call_meets F.slot_int_rmul (typeIs_int s n tk) F.entry_int_rmul (F.args_int_rmul_2 _ _) (sE n tk a _ m dd sl) ⟨ho,rfl,⟨_,ho,rfl⟩,?_⟩)
  by_cases h1:n=1
  ·subst h1
   exact call_meets PySem.F.slot_tuple_mul ⟨_,ho,rfl⟩ PySem.F.entry_tuple_mul (PySem.F.args_tuple_mul_2 _ _) (Ao a u0 m dd sl tk) ⟨ho,.ref a,H,I,rfl,q1 rfl⟩
  ·refine call_meets PySem.F.slot_tuple_mul ⟨_,ho,rfl⟩ PySem.F.entry_tuple_mul (PySem.F.args_tuple_mul_2 _ _) (An a u0 m dd sl n tk (by omega)) ⟨ho,?_⟩
   rw[sU]
   exact⟨.ref _,_,I.laid (o:=.tup _) (fun _ _ q=>QWq _ q) (QVz _) ⟨hz,_,uE rw _,by simpa using TupOk.new _ _⟩,rfl,q _ I.fresh⟩
end
noncomputable def iR(K:QQq)(σ:St)(H₀ H:Hp):List Rv->List V->Prop
 |[],vs=>vs=[]
 |x::xs,vs=>∃v r,vs=v::r/\gO K σ H₀ H x v/\iR K σ H₀ H xs r
noncomputable def T3(K:QQq)(W:Wi)(env:Ev)(r:Out (List Rv)):TA:=fun σ H Q=>Sat K env σ H/\match r with
 |.ok xs env'=>∀vs H',Nx K env σ H env' H'->iR K σ H H' xs vs->Q vs H'
 |.exc c env'=>∀H',Nx K env σ H env' H'->W c env' σ H'
 |.bad=>False
noncomputable def tA(K:QQq)(W:Wi)(env:Ev)(r:Out Rv):TE:=fun σ H Q=>Sat K env σ H/\match r with
 |.ok x env'=>∀v H',Nx K env σ H env' H'->gO K σ H H' (argv x) v->Q v H'
 |.exc c env'=>∀H',Nx K env σ H env' H'->W c env' σ H'
 |.bad=>False
def GA(X:Cx)(W:Wi)(c:Cf)(m:E)(es:List Expr):Prop:=∀env,PA X es (T3 X.K W env (evs c m env))
def gO.on{env δ ε:Ev}{H H1 H2:Hp}{v:V}(S:Sat K env σ H)(N:Nx K env σ H δ H1)(N2:Nx K δ σ H1 ε H2)(h:gO K σ H H1 x v):gO K σ H H2 x v:=by
 have no:=fun a h0 i z=>S.rM h0 i (N.sub i a z)
 cases x with
 |val d=>exact bJ.mono N2.pers h
 |ref i=>exact h
 |new xs=>obtain⟨a,e,⟨u,p,l⟩,z⟩:=h;exact⟨a,e,⟨u,N2.keep a u p (no a z),l.mono N2.pers⟩,z⟩
def iZ{env:Ev}{H:Hp}{xs:List D}(S:Sat K env σ H)(l:aq K H xs vs)(hp:H p=none):gO K σ H (upd H p (.lst vs)) (.new (.lst xs)) (.ref p):=
 ⟨p,rfl,⟨_,aP,vs,rfl,l.mono (Nx.laid S hp).pers⟩,hp⟩
theorem iR.weaken{K:QQq}{σ:St}{H0 H1 H:Hp}:∀{xs:List Rv}{vs:List V},iR K σ H1 H xs vs->(∀b,H1 b=none->H0 b=none)->iR K σ H0 H xs vs
 |[],_,h,_=>h
 |x::xs,vs,h,d=>by
  obtain⟨v,r,e,h1,h2⟩:=h
  exact⟨v,r,e,h1.weaken d,iR.weaken h2 d⟩
section
def PA.imp(h:PA X es t)(i:∀σ H Q,t' σ H Q->t σ H Q):PA X es t':=fun p γ s σ H Q I q=>h p γ s σ H Q I (i σ H Q q)
def GE.ag(h:GE X W c m e)env:PE X e (tA X.K W env (ev c m env)):=by
 intro γ s σ H Q I q
 obtain⟨S,q⟩:=q
 cases r:ev c m env with
 |bad=>rw[r]at q;exact q.elim
 |exc k env'=>rw[r]at q;exact h env γ s σ H Q I ⟨S,by rw[r];exact q⟩
 |ok x env'=>
  rw[r]at q
  cases x with
  |new xs=>exact KN (h env) γ s σ H Q I ⟨S,by rw[r];exact q⟩
  |val d=>exact h env γ s σ H Q I ⟨S,by rw[r];exact q⟩
  |ref i=>exact h env γ s σ H Q I ⟨S,by rw[r];exact q⟩
def M3:GA X W c .nil []:=fun env=>PA.imp fJ fun σ H Q q=>by
 obtain⟨S,q⟩:=q
 exact q [] H (Nx.refl S) rfl
def FT(h:GE X W c m1 e)(t:GA X W c m2 es)(hs:starEach (e::es) X.env=(false,eval e X.env)::starEach es X.env):GA X W c (.cons m1 m2) (e::es):=by
 intro env
 have B:PA X _ (JH (fun σ H Q=>∃env,tA X.K W env _ σ H Q) (fun σ H Q=>∃env,T3 X.K W env _ σ H Q)):=
  cI (fun γ s σ H Q I⟨env,q⟩=>h.ag env γ s σ H Q I q) (fun p γ s σ H Q I⟨env,q⟩=>t env p γ s σ H Q I q) hs
 refine PA.imp B fun σ H Q q=>?_
 obtain⟨S,q⟩:=q
 refine⟨env,S,?_⟩
 simp only[evs]at q
 cases r:ev c m1 env with
 |bad=>rw[r]at q;exact q.elim
 |exc k δ=>rw[r]at q;exact q
 |ok x δ=>
  rw[r]at q
  intro v H1 N1 k1
  refine⟨δ,N1.eV,?_⟩
  simp only[Out.bind]at q
  cases r2:evs c m2 δ with
  |bad=>rw[r2]at q;exact q.elim
  |exc k ε=>rw[r2]at q;exact fun H2 N2=>q H2 (N1.trans N2)
  |ok xs ε=>
   rw[r2]at q
   intro vs H2 N2 k2
   exact q _ H2 (N1.trans N2) ⟨v,vs,rfl,k1.on S N1 N2,k2.weaken N1.dom⟩
theorem iR.ds{K:QQq}{σ:St}{H₀ H:Hp}:∀{xs:List Rv}{vs:List V}{ds:List D},iR K σ H₀ H (xs.map argv) vs->aO xs=some ds->aq K H ds vs
 |[],vs,ds,h,e=>by
  simp[aO]at e
  subst e
  cases h
  exact aq.eQ
 |x::xs,vs,ds,h,e=>by
  obtain⟨v,r,rfl,h1,h2⟩:=h
  cases x with
  |ref i=>simp[aO,Rv.jj]at e
  |val d=>
   simp[aO,Rv.jj]at e
   obtain⟨ds',e1,e2⟩:=e
   subst e2
   exact aq.cV h1 (iR.ds h2 e1)
  |new ys=>
   simp[aO,Rv.jj]at e
   obtain⟨ds',e1,e2⟩:=e
   subst e2
   exact aq.cV h1 (iR.ds h2 e1)
def zM:∀(m:E)(env:Ev){xs:List Rv}{env':Ev},evs c m env=.ok xs env'->xs.map argv=xs:=by
 have aa:∀x:Rv,argv (argv x)=argv x:=fun x=>by cases x<;>rfl
 intro m
 induction m with
 |nil=>intro env xs env' h;simp only[evs]at h;cases h;rfl
 |cons h t _ ih=>
  intro env xs env' q
  simp only[evs]at q
  cases r:ev c h env with
  |bad=>rw[r]at q;cases q
  |exc k e1=>rw[r]at q;cases q
  |ok x e1=>
   rw[r]at q
   simp only[Out.bind]at q
   cases r2:evs c t e1 with
   |bad=>rw[r2]at q;cases q
   |exc k e2=>rw[r2]at q;cases q
   |ok ys e2=>
    rw[r2]at q
    cases q
    rw[Qyz,aa,ih e1 r2]
 |_=>intro env xs env' h;simp only[evs]at h;cases h
def dG(h:fits n=true):n<=sizeLine:=by
 rw[sizeLine_eq]
 simpa[fits]using h
theorem yo{env:Ev}{H:Hp}{f:List D->Option Rv}
  (h:tM K W env ((evs c m env).bind fun rs σ=>lift σ ((aO rs).bind f)) σ H Q)
  (k:∀δ H1 ds vs z,Nx K env σ H δ H1->aq K H1 ds vs->f ds=some z->(∀v H',Nx K δ σ H1 δ H'->gO K σ H1 H' z v->Q v H')->R vs H1):T3 K W env (evs c m env) σ H R:=by
 obtain⟨S,q⟩:=h
 refine⟨S,?_⟩
 cases r:evs c m env with
 |bad=>rw[r]at q;exact q.elim
 |exc k δ=>rw[r]at q;exact q
 |ok xs δ=>
  rw[r]at q
  simp only[Out.bind]at q
  intro vs H1 N1 k1
  cases e:aO xs with
  |none=>rw[e]at q;exact q.elim
  |some ds=>
   rw[e]at q
   simp only[Option.bind]at q
   cases e2:f ds with
   |none=>rw[e2]at q;exact q.elim
   |some z=>
    rw[e2]at q
    have k2:=k1
    rw[<-zM m env r]at k2
    exact k δ H1 ds vs z N1 (iR.ds k2 e) e2 fun v H' N' w=>q v H' (N1.trans N') (w.weaken N1.dom)
def Yh(h:GA X W c m es):GE X W c (.tup m) (.Tuple es k pos):=by
 intro env
 refine PE.imp (WN (h env)) fun σ H Q q=>?_
 refine yo q fun δ H1 ds vs z N1 l e q=>?_
 split at e
 ·rename_i hf
  cases e
  refine⟨by rw[<-l.length];exact dG hf,fun p hp=>q _ _ (Nx.laid N1.eV hp) ?_⟩
  show bJ _ _ _ _
  exact⟨p,vs,rfl,.inl (.inl aP),l.mono (Nx.laid N1.eV hp).pers⟩
 ·cases e
def Yo(h:GA X W c m es):GE X W c (.lis m) (.List es pos):=by
 intro env
 refine PE.imp (WT (h env)) fun σ H Q q=>?_
 refine yo q fun δ H1 ds vs z N1 l e q=>?_
 split at e
 ·rename_i hf
  cases e
  exact⟨by rw[<-l.length];exact dG hf,fun p hp=>q _ _ (Nx.laid N1.eV hp) (iZ N1.eV l hp)⟩
 ·cases e
def Vl(X:Cx)(r:R2)(f:D->D->Option Rv):Prop:=
 ∀(env:Ev)(σ:St)(H:Hp)(x y:D)(z:Rv)(v u:V)(Q:VK),Sat X.K env σ H->bJ X.K H x v->bJ X.K H y u->f x y=some z->(∀w H',Nx X.K env σ H env H'->gO X.K σ H H' z w->Q w H')->r v u H Q
def Vl.bin{f:D->D->Option Rv}(R:Vl X r f)(h:PE X e (Zo r (aD X W c m1) (aD X W c m2))):
  ∀env,PE X e (tM X.K W env ((ev c m1 env).au fun x σ=>(ev c m2 σ).au fun y σ=>lift σ (f x y))):=fun env=>
 PE.imp h fun σ H Q q=>⟨env,aR q fun d δ v H1 N1 D1 q1=>⟨δ,aR q1 fun d2 ε v2 H2 N2 D2 q2=>by
  obtain⟨z,ez,S,q3⟩:=cg q2
  exact R ε σ H2 d d2 z v v2 Q S (D1.mono N2.pers) D2 ez q3⟩⟩
noncomputable def abG:YZ->Operator
 |.add=>.Add
 |.sub=>.Sub
 |.mul=>.Mult
 |.mod=>.Mod
 |.fdiv=>.FloorDiv
 |.pow=>.Pow
def bJ.int_inv{H:Hp}{v:V}(h:bJ K H (.int i) v):v=.int i:=h
noncomputable def Um(K:QQq):R2:=fun x y H Q=>∃a b xs ys,x=.ref a/\y=.ref b/\iQ K H a xs/\iQ K H b ys/\xs.length+ys.length<=sizeLine/\
 (xs=[]->Q (.ref b) H)/\(xs≠[]->ys=[]->Q (.ref a) H)/\(xs≠[]->ys≠[]->∀p,H p=none->Q (.ref p) (upd H p (.tup (xs++ys))))
def Rj:fG X (binaryOp .Add) (Um X.K):=by
 intro γ s σ H x y v u Q I rx ry h
 obtain⟨a,b,xs,ys,rfl,rfl,ha,hb,hz,q0,q1,q2⟩:=h
 by_cases hx:xs=[]
 ·cases rx
  cases ry
  obtain⟨its,r1,p1,_⟩:=I.tuple ha
  obtain⟨its2,r2,p2,_⟩:=I.tuple hb
  obtain⟨⟨cls,dd,data,sl⟩,ho,hc,n,hd⟩:=id p1
  obtain⟨⟨cls2,dd2,data2,sl2⟩,ho2,hc2,n2,hd2⟩:=id p2
  subst hc hd hc2 hd2
  have e0:its.toArray.isEmpty=true:=by
   have:=r1.bj.mpr hx
   rw[this];rfl
  exact concat_meets ⟨_,ho,rfl⟩ ⟨_,ho2,rfl⟩ noFill_tuple_add seq_tuple_add PySem.F.slot_tuple_add PySem.F.entry_tuple_add (PySem.F.args_tuple_add_2 _ _)
   (PyProof.Rows.tuple_addW0 a b its.toArray its2.toArray n n2 dd dd2 sl sl2 e0) ⟨ho,ho2,⟨.ref b,H,I,rfl,q0 hx⟩⟩
 ·exact Rh γ s σ H _ _ v u Q I rx ry ⟨a,b,xs,ys,rfl,rfl,ha,hb,hx,hz,q1 hx,q2 hx⟩
noncomputable def Ul(K:QQq):R2:=fun x y H Q=>∃l b xs zs,x=.ref l/\y=.ref b/\jA K H l xs/\jA K H b zs/\xs.length+zs.length<=sizeLine/\∀p,H p=none->Q (.ref p) (upd H p (.lst (xs++zs)))
def Ri:fG X (binaryOp .Add) (Ul X.K):=by
 intro γ s σ H x y v u Q I rx ry h
 obtain⟨l,b,xs,zs,rfl,rfl,hH,hB,hz,q⟩:=h
 cases rx
 cases ry
 obtain⟨its,r1,pl,_⟩:=I.list hH
 obtain⟨its2,r2,pl2,_⟩:=I.list hB
 obtain⟨⟨cls,dd,data,sl⟩,n,ho,hc,_,hd⟩:=id pl
 obtain⟨⟨cls2,dd2,data2,sl2⟩,n2,ho2,hc2,_,hd2⟩:=id pl2
 subst hc hd hc2 hd2
 have hl:=r1.length
 have hl2:=r2.length
 have ea:its.toArray++its2.toArray=(its++its2).toArray:=by simp
 refine concat_meets ⟨_,ho,rfl⟩ ⟨_,ho2,rfl⟩ noFill_list_add seq_list_add F.slot_list_add F.entry_list_add (F.args_list_add_2 _ _) (PyProof.Rows.list_addW l b its.toArray its2.toArray n n2 dd dd2 sl sl2 (by rw[Qyq,Qyq];omega)) ⟨ho,ho2,?_⟩
 rw[ea]
 exact⟨.ref _,_,I.ae7 (r1.append r2) (by rw[QTq];omega),rfl,q _ I.fresh⟩
def Uo(K:QQq):R2:=fun x y H Q=>Kl (fun i j=>.int (i+j)) x y H Q\/Um K x y H Q\/Ul K x y H Q
def Rk:fG X (binaryOp .Add) (Uo X.K):=Xe.or (Rj.or Ri)
def bZ{H:Hp}{v:V}(h:bJ K H (.tup ds) v):∃a vs,v=.ref a/\iQ K H a vs/\aq K H ds vs:=by unfold bJ at h;exact h
def cP{H:Hp}{v:V}(h:bJ K H (.lst ds) v):∃a vs,v=.ref a/\O5 K H a vs/\aq K H ds vs:=by unfold bJ at h;exact h
def dD{H:Hp}{a:Addr}(h:iQ K H a vs)(l:aq K H ds vs):bJ K H (.tup ds) (.ref a):=by unfold bJ;exact⟨a,vs,rfl,h,l⟩
def qT(h:small i=true): -(2 ^64)<i/\i<2 ^64:=by
 simp only[small,QUz]at h
 exact⟨by omega,by omega⟩
def QB:Vl X (Uo X.K) (binop .add):=by
 intro env σ H x y z v u Q S Dx Dy e q
 cases x with
 |int i=>
  cases y with
  |int j=>cases e;exact .inl ⟨i,j,Dx,Dy,q _ H (Nx.refl S) rfl⟩
  |_=>cases e
 |tup xs=>
  cases y with
  |tup ys=>
   unfold binop at e;dsimp only at e
   split at e
   ·rename_i hf
    cases e
    obtain⟨a,vs,rfl,ha,la⟩:=bZ Dx
    obtain⟨b,ws,rfl,hb,lb⟩:=bZ Dy
    refine .inr (.inl ⟨a,b,vs,ws,rfl,rfl,ha,hb,by rw[<-la.length,<-lb.length];exact dG hf,fun e0=>?_,fun _ e0=>?_,fun _ _ p hp=>?_⟩)
    ·subst e0
     have:xs=[]:=by have:=la.length;cases xs<;>simp_all
     subst this
     exact q _ H (Nx.refl S) (dD hb lb)
    ·subst e0
     have:ys=[]:=by have:=lb.length;cases ys<;>simp_all
     subst this
     exact q _ H (Nx.refl S) (by rw[List.append_nil];exact dD ha la)
    ·have N:=Nx.laid (o:=.tup (vs++ws)) S hp
     exact q _ _ N (dD (.inl (.inl aP)) ((la.append lb).mono N.pers))
   ·cases e
  |_=>cases e
 |lst xs=>
  cases y with
  |lst ys=>
   unfold binop at e;dsimp only at e
   split at e
   ·rename_i hf
    cases e
    obtain⟨a,vs,rfl,ha,la⟩:=cP Dx
    obtain⟨b,ws,rfl,hb,lb⟩:=cP Dy
    exact .inr (.inr ⟨a,b,vs,ws,rfl,rfl,ha.sq,hb.sq,by rw[<-la.length,<-lb.length];exact dG hf,fun p hp=>q _ _ (Nx.laid (o:=.lst (vs++ws)) S hp) (iZ S (la.append lb) hp)⟩)
   ·cases e
  |_=>cases e
 |_=>cases y<;>cases e
def nM(ho:o≠ .add)(hm:o≠ .mul){z:Rv}(e:binop o x y=some z):(∃i,x=.int i)/\∃j,y=.int j:=by
 cases x with
 |int i=>exact⟨⟨i,rfl⟩,by cases y with
  |int j=>exact⟨j,rfl⟩
  |_=>cases o<;>cases e⟩
 |tup _=>cases o<;>first|exact absurd rfl ho|exact absurd rfl hm|cases e
 |lst _=>cases o<;>first|exact absurd rfl ho|cases e
 |_=>cases o<;>cases e
def Qs:Vl X (Kl fun i j=>.int (i-j)) (binop .sub):=by
 intro env σ H x y z v u Q S Dx Dy e q
 obtain⟨⟨i,rfl⟩,j,rfl⟩:=nM (by intro h;cases h) (by intro h;cases h) e
 cases e
 exact⟨_,_,Dx,Dy,q _ H (Nx.refl S) rfl⟩
def Uh(K:QQq):R2:=fun x y H Q=>rI Td (fun i j=>.int (i*j)) x y H Q\/Ug K x y H Q
def Rf:fG X (binaryOp .Mult) (Uh X.K):=W7.or Ra
theorem Gg{K:QQq}{H:Hp}{d:D}{v:V}(h:bJ K H d v):∀n,aq K H (List.replicate n d) (List.replicate n v)
 |0=>by unfold aq;rfl
 |n+1=>by unfold aq;exact⟨_,_,rfl,h,Gg h n⟩
def Qu:Vl X (Uh X.K) (binop .mul):=by
 intro env σ H x y z v u Q S Dx Dy e q
 cases x with
 |int i=>
  cases y with
  |int j=>
   unfold binop at e;dsimp only at e
   split at e
   ·rename_i hs
    cases e
    simp only[Bool.or_eq_true]at hs
    exact .inl ⟨i,j,Dx,Dy,hs.imp qT qT,q _ H (Nx.refl S) rfl⟩
   ·cases e
  |_=>cases e
 |tup xs=>
  cases xs with
  |nil=>cases y<;>cases e
  |cons x xs=>
   cases xs with
   |nil=>
    cases y with
    |int n=>
     unfold binop at e;dsimp only at e
     split at e
     ·rename_i hn
      cases e
      obtain⟨a,vs,rfl,ha,la⟩:=bZ Dx
      obtain⟨v0,rfl⟩:=List.length_eq_one_iff.mp la.length.symm
      refine .inr ⟨a,v0,n,rfl,bJ.int_inv Dy,hn,ha,fun e1=>q _ H (Nx.refl S) (by subst e1;exact Dx),fun p hp=>?_⟩
      have N:=Nx.laid (o:=.tup (List.replicate n.toNat v0)) S hp
      have d0:bJ X.K H x v0:=by unfold aq at la;obtain⟨_,_,z,h,_⟩:=la;cases z;exact h
      exact q _ _ N (dD (.inl (.inl aP)) (Gg (d0.mono N.pers) _))
     ·cases e
    |_=>cases e
   |cons=>cases y<;>cases e
 |_=>cases y<;>cases e
def Qv:Vl X (rI (fun _ j=>0<j) fun i j=>.int (i%j)) (binop .mod):=by
 intro env σ H x y z v u Q S Dx Dy e q
 obtain⟨⟨i,rfl⟩,j,rfl⟩:=nM (by intro h;cases h) (by intro h;cases h) e
 unfold binop at e;dsimp only at e
 split at e
 ·rename_i hs
  cases e
  exact⟨i,j,Dx,Dy,hs,q _ H (Nx.refl S) rfl⟩
 ·cases e
def J3:Vl X (rI acO fun i j=>.int (i/j)) (binop .fdiv):=by
 intro env σ H x y z v u Q S Dx Dy e q
 obtain⟨⟨i,rfl⟩,j,rfl⟩:=nM (by intro h;cases h) (by intro h;cases h) e
 unfold binop at e;dsimp only at e
 split at e
 ·rename_i hs
  cases e
  exact⟨i,j,Dx,Dy,hs,q _ H (Nx.refl S) rfl⟩
 ·cases e
def Qt:Vl X (rI acN fun i j=>.int (i ^j.toNat)) (binop .pow):=by
 intro env σ H x y z v u Q S Dx Dy e q
 obtain⟨⟨i,rfl⟩,j,rfl⟩:=nM (by intro h;cases h) (by intro h;cases h) e
 unfold binop at e;dsimp only at e
 split at e
 ·rename_i hs
  cases e
  have h1:=qT hs.2.2
  exact⟨i,j,Dx,Dy,⟨hs.1,by omega,by omega⟩,q _ H (Nx.refl S) rfl⟩
 ·cases e
def acf(ha:GE X W c m1 a)(hb:GE X W c m2 b):GE X W c (.op o m1 m2) (.BinOp a (abG o) b pos):=by
 intro env
 cases o with
 |add=>exact QB.bin (uX Rk ha.d hb.d) env
 |sub=>exact Qs.bin (uX W4 ha.d hb.d) env
 |mul=>exact Qu.bin (uX Rf ha.d hb.d) env
 |mod=>exact Qv.bin (uX W8 ha.d hb.d) env
 |fdiv=>exact J3.bin (uX Rg ha.d hb.d) env
 |pow=>exact Qt.bin (uX W5 ha.d hb.d) env
def Yn(ha:GE X W c m1 a):GE X W c (.neg m1) (.UnaryOp .USub a pos):=by
 intro env
 refine PE.imp (abv VP ha.d) fun σ H Q q=>?_
 refine⟨env,aR q fun d δ v H1 N1 D1 q1=>?_⟩
 obtain⟨z,ez,S,q3⟩:=cg q1
 cases d<;>first
  |(cases ez;done)
  |(cases ez;exact⟨_,D1,q3 _ H1 (Nx.refl S) rfl⟩)
end
mutual
def py:D->PyData
 |.non=>.none
 |.bl b=>.bool b
 |.int i=>.int i
 |.str x=>.str x
 |.tup xs=>.tuple (yP xs)
 |.lst xs=>.list (yP xs)
 |.cG _ _=>.none
 |.fQ _ _=>.none
def yP:List D->List PyData
 |[]=>[]
 |x::xs=>py x::yP xs
end
mutual
theorem sZ:∀a b:D,nd a=true->nd b=true->PyData.eqv (py a) (py b)=dR a b
 |.cG _ _,_=>fun h _=>by simp[nd]at h
 |.fQ _ _,_=>fun h _=>by simp[nd]at h
 |.non,.cG _ _=>fun _ h=>by simp[nd]at h
 |.non,.fQ _ _=>fun _ h=>by simp[nd]at h
 |.bl _,.cG _ _=>fun _ h=>by simp[nd]at h
 |.bl _,.fQ _ _=>fun _ h=>by simp[nd]at h
 |.int _,.cG _ _=>fun _ h=>by simp[nd]at h
 |.int _,.fQ _ _=>fun _ h=>by simp[nd]at h
 |.str _,.cG _ _=>fun _ h=>by simp[nd]at h
 |.str _,.fQ _ _=>fun _ h=>by simp[nd]at h
 |.tup _,.cG _ _=>fun _ h=>by simp[nd]at h
 |.tup _,.fQ _ _=>fun _ h=>by simp[nd]at h
 |.lst _,.cG _ _=>fun _ h=>by simp[nd]at h
 |.lst _,.fQ _ _=>fun _ h=>by simp[nd]at h
 |.tup xs,.tup ys=>fun h h'=>by simp only[py,PyData.eqv,dR];exact xj xs ys (by simpa[nd]using h) (by simpa[nd]using h')
 |.lst xs,.lst ys=>fun h h'=>by simp only[py,PyData.eqv,dR];exact xj xs ys (by simpa[nd]using h) (by simpa[nd]using h')
 |.non,.non=>fun _ _=>rfl
 |.non,.bl _=>fun _ _=>rfl
 |.non,.int _=>fun _ _=>rfl
 |.non,.str _=>fun _ _=>rfl
 |.non,.tup _=>fun _ _=>rfl
 |.non,.lst _=>fun _ _=>rfl
 |.bl _,.non=>fun _ _=>rfl
 |.bl _,.bl _=>fun _ _=>rfl
 |.bl a,.int j=>fun _ _=>rfl
 |.bl _,.str _=>fun _ _=>rfl
 |.bl _,.tup _=>fun _ _=>rfl
 |.bl _,.lst _=>fun _ _=>rfl
 |.int _,.non=>fun _ _=>rfl
 |.int i,.bl b=>fun _ _=>rfl
 |.int _,.int _=>fun _ _=>rfl
 |.int _,.str _=>fun _ _=>rfl
 |.int _,.tup _=>fun _ _=>rfl
 |.int _,.lst _=>fun _ _=>rfl
 |.str _,.non=>fun _ _=>rfl
 |.str _,.bl _=>fun _ _=>rfl
 |.str _,.int _=>fun _ _=>rfl
 |.str x,.str y=>fun _ _=>by simp only[py,PyData.eqv,dR];rw[Bool.beq_eq_decide_eq]
 |.str _,.tup _=>fun _ _=>rfl
 |.str _,.lst _=>fun _ _=>rfl
 |.tup _,.non=>fun _ _=>rfl
 |.tup _,.bl _=>fun _ _=>rfl
 |.tup _,.int _=>fun _ _=>rfl
 |.tup _,.str _=>fun _ _=>rfl
 |.tup _,.lst _=>fun _ _=>rfl
 |.lst _,.non=>fun _ _=>rfl
 |.lst _,.bl _=>fun _ _=>rfl
 |.lst _,.int _=>fun _ _=>rfl
 |.lst _,.str _=>fun _ _=>rfl
 |.lst _,.tup _=>fun _ _=>rfl
theorem xj:∀xs ys:List D,fK xs=true->fK ys=true->PyData.eqvAll (yP xs) (yP ys)=jR xs ys
 |[],[]=>fun _ _=>rfl
 |[],_::_=>fun _ _=>rfl
 |_::_,[]=>fun _ _=>rfl
 |x::xs,y::ys=>fun h h'=>by
  simp only[fK,QUq]at h h'
  simp only[yP,PyData.eqvAll,jR]
  rw[sZ x y h.1 h'.1,xj xs ys h.2 h'.2]
end
def JK(h:sOk x=true):PyData.strOk x=true:=by
 unfold sOk at h
 unfold PyData.strOk
 rw[Array.all_eq_true]at h⊢
 intro i hi
 have:=h i hi
 simp only[QUz]at this⊢
 omega
mutual
theorem fj:∀a:D,nd a=true->(py a).canLay0=true
 |.non=>fun _=>rfl
 |.bl _=>fun _=>rfl
 |.int _=>fun _=>rfl
 |.str x=>fun h=>JK h
 |.tup xs=>fun h=>by simp only[py,PyData.canLay0];exact jk xs (by simpa[nd]using h)
 |.lst xs=>fun h=>by simp only[py,PyData.canLay0];exact jk xs (by simpa[nd]using h)
 |.cG _ _=>fun h=>by simp[nd]at h
 |.fQ _ _=>fun h=>by simp[nd]at h
theorem jk:∀xs:List D,fK xs=true->PyData.canLayAll0 (yP xs)=true
 |[]=>fun _=>rfl
 |x::xs=>fun h=>by
  simp only[fK,QUq]at h
  simp only[yP,PyData.canLayAll0,QUq]
  exact⟨fj x h.1,jk xs h.2⟩
end
mutual
theorem o6:∀a:D,nd a=true->(py a).depth=dep a
 |.non=>fun _=>rfl
 |.bl _=>fun _=>rfl
 |.int _=>fun _=>rfl
 |.str _=>fun _=>rfl
 |.tup xs=>fun h=>by simp only[py,PyData.depth,dep];rw[xq xs (by simpa[nd]using h)]
 |.lst xs=>fun h=>by simp only[py,PyData.depth,dep];rw[xq xs (by simpa[nd]using h)]
 |.cG _ _=>fun h=>by simp[nd]at h
 |.fQ _ _=>fun h=>by simp[nd]at h
theorem xq:∀xs:List D,fK xs=true->PyData.depthAll (yP xs)=eU xs
 |[]=>fun _=>rfl
 |x::xs=>fun h=>by
  simp only[fK,QUq]at h
  simp only[yP,PyData.depthAll,eU]
  rw[o6 x h.1,xq xs h.2]
end
def cR(K:QQq)(H:Hp)(d:D)(v:V):Prop:=bJ K H d v\/∃q a,d=Ob.d q/\v=.ref a/\jE K H q a
section
mutual
theorem bJ.reads(I:Inv X γ σ H s):∀{d:D}{v:V}{u:Value},nd d=true->bJ X.K H d v->RelV v u->∃as,Reads s.heap u (py d) as
 |.non,v,u,_,h,r=>by cases h;cases r;exact⟨_,.none⟩
 |.bl b,v,u,_,h,r=>by cases h;cases r;exact⟨_,.bool b⟩
 |.int i,v,u,_,h,r=>by cases h;obtain⟨t,rfl⟩:=r;exact⟨_,.int i t⟩
 |.str x,v,u,_,h,r=>by cases h;obtain⟨t,rfl⟩:=r;exact⟨_,.str x t⟩
 |.tup ds,v,u,hn,h,r=>by
  obtain⟨a,vs,rfl,hq,l⟩:=bZ h
  cases r
  obtain⟨its,rv,⟨o,e,c,n,dt⟩,_⟩:=I.tuple hq
  obtain⟨as,q⟩:=aq.reads I (by simpa[nd]using hn) l rv
  exact⟨as,by rw[py];exact .tuple e c dt (by simpa using q)⟩
 |.lst ds,v,u,hn,h,r=>by
  obtain⟨a,vs,rfl,hq,l⟩:=cP h
  cases r
  obtain⟨its,rv,⟨o,n,e,c,_,dt⟩,_⟩:=I.list hq.sq
  obtain⟨as,q⟩:=aq.reads I (by simpa[nd]using hn) l rv
  exact⟨a::as,by rw[py];exact .list e c dt (by simpa using q)⟩
 |.cG _ _,_,_,h,_,_=>by simp[nd]at h
theorem aq.reads(I:Inv X γ σ H s):∀{ds:List D}{vs:List V}{us:List Value},fK ds=true->aq X.K H ds vs->Vals vs us->∃as,ReadsAll s.heap us (yP ds) as
 |[],vs,us,_,h,r=>by rw[aq.bj.mp h]at r;cases r;exact⟨_,.nil⟩
 |d::ds,vs,us,hn,h,r=>by
  obtain⟨v,rs,rfl,h1,h2⟩:=aq.aG.mp h
  simp only[fK,QUq]at hn
  cases r with
  |cons r1 r2=>
   obtain⟨as,q1⟩:=bJ.reads I hn.1 h1 r1
   obtain⟨bs,q2⟩:=aq.reads I hn.2 h2 r2
   exact⟨as++bs,.cons q1 q2⟩
end
theorem cR.reads(I:Inv X γ σ H s){v:V}(hn:nd d=true)(h:cR X.K H d v)(r:RelV v u):∃as,Reads s.heap u (py d) as:=by
 rcases h with h|⟨q,a,rfl,rfl,u',ha,hq⟩
 ·exact bJ.reads I hn h r
 ·cases r
  cases q with
  |dct ks ds=>simp[Ob.d,nd]at hn
  |sdt ks ds=>simp[Ob.d,nd]at hn
  |lst ds=>
  obtain⟨vs,rfl,l⟩:=hq
  obtain⟨its,rv,⟨o,n,e,c,_,dt⟩,_⟩:=I.list (.inl (.inl ha))
  obtain⟨as,q⟩:=aq.reads I (by simpa[Ob.d,nd]using hn) l rv
  exact⟨a::as,by rw[Ob.d,py];exact .list e c dt (by simpa using q)⟩
end
section
theorem cR.flat{H:Hp}{v:V}(h:cR K H x v)(f:flat x=true):bJ K H x v:=by
 rcases h with h|⟨q,a,rfl,_⟩
 ·exact h
 ·cases q<;>simp[Ob.d,Mini.flat]at f
def FW(f:flat x=true)(hs:∀y,x≠ .str y):nd x=true/\dep x=0:=by
 cases x<;>simp_all[flat,nd,dep]
noncomputable def aeZ(K:QQq):R2:=fun x y H Q=>∃p q,cR K H p x/\cR K H q y/\mq p q=true/\Q (.bl (dR p q)) H
noncomputable def aeW(K:QQq):R2:=fun x y H Q=>∃p q,cR K H p x/\cR K H q y/\mq p q=true/\Q (.bl (!dR p q)) H
def Ga{H:Hp}{x y:V}(Dp:bJ K H p x)(Dq:bJ K H q y)(fp:flat p=true)(fq:flat q=true)(hs:(∃z,p=.str z)\/∃z,q=.str z):Qm x y=true/\decide (x=y)=dR p q:=by
 cases p<;>cases q<;>simp_all[flat]<;>(cases Dp;cases Dq;unfold Qm dR;simp)
def FZ{p q:D}(hu:u+60<cLine)(hp:nd p=true)(hq:nd q=true)(hd:dep p<=50):u+min (py p).depth (py q).depth<cLine:=by
 rw[o6 p hp,o6 q hq]
 omega
def tB(h:mq p q=true):(nd p=true/\nd q=true/\dep p<=50)\/(flat p=true/\flat q=true/\((∃z,p=.str z)\/∃z,q=.str z)):=by
 simp only[mq,Bool.or_eq_true,QUq,QUz]at h
 rcases h with ⟨h1,h2⟩|⟨⟨h1,h2⟩,h3⟩
 ·by_cases hs:(∃z,p=.str z)\/∃z,q=.str z
  ·exact .inr ⟨h1,h2,hs⟩
  ·have k1:=FW h1 (fun y e=>hs (.inl ⟨y,e⟩))
   exact .inl ⟨k1.1,(FW h2 (fun y e=>hs (.inr ⟨y,e⟩))).1,by omega⟩
 ·exact .inl ⟨h1,h3,h2⟩
def Xd(hu:X.A.units+60<cLine):fG X (compareOp .Eq) (aeZ X.K):=by
 intro γ s σ H x y v u Q I rx ry h
 obtain⟨p,q,Dp,Dq,ok,k⟩:=h
 rcases tB ok with ⟨h1,h2,h3⟩|⟨h1,h2,h3⟩
 ·obtain⟨as,ra⟩:=Dp.reads I h1 rx
  obtain⟨bs,rb⟩:=Dq.reads I h2 ry
  exact SeqAt.compareEq_reads ra rb (fj p h1) (fj q h2) (FZ hu h1 h2 h3) (by rw[sZ p q h1 h2];exact⟨.bl _,H,I,rfl,k⟩)
 ·obtain⟨e1,e2⟩:=Ga (Dp.flat h1) (Dq.flat h2) h1 h2 h3
  exact abF γ s σ H x y v u Q I rx ry ⟨e1,by rw[e2];exact k⟩
def W6(hu:X.A.units+60<cLine):fG X (compareOp .NotEq) (aeW X.K):=by
 intro γ s σ H x y v u Q I rx ry h
 obtain⟨p,q,Dp,Dq,ok,k⟩:=h
 rcases tB ok with ⟨h1,h2,h3⟩|⟨h1,h2,h3⟩
 ·obtain⟨as,ra⟩:=Dp.reads I h1 rx
  obtain⟨bs,rb⟩:=Dq.reads I h2 ry
  exact SeqAt.compareNe_reads ra rb (fj p h1) (fj q h2) (FZ hu h1 h2 h3) (by rw[sZ p q h1 h2];exact⟨.bl _,H,I,rfl,k⟩)
 ·obtain⟨e1,e2⟩:=Ga (Dp.flat h1) (Dq.flat h2) h1 h2 h3
  exact abA γ s σ H x y v u Q I rx ry ⟨e1,by rw[e2];exact k⟩
theorem wZ{K:QQq}{H:Hp}{p:D}{x:V}(Dp:bJ K H p x)(fp:flat p=true):∀{ds:List D}{vs:List V},aq K H ds vs->ds.all flat=true->vs.all jy=true/\inV x vs=aL p ds
 |[],vs,h,_=>by rw[aq.bj.mp h];exact⟨rfl,rfl⟩
 |d::ds,vs,h,f=>by
  obtain⟨v,r,rfl,h1,h2⟩:=aq.aG.mp h
  rw[List.all_cons,QUq]at f
  obtain⟨k1,k2⟩:=wZ Dp fp h2 f.2
  have fv:jy v=true/\Nf v x=dR d p:=by
   obtain⟨f1,_⟩:=f
   cases d<;>cases p<;>simp_all[flat]<;>(cases h1;cases Dp;first|exact⟨rfl,rfl⟩|(refine⟨rfl,?_⟩;simp[Nf,dR];try (rw[Bool.beq_eq_decide_eq])))
  refine⟨by rw[List.all_cons,fv.1,k1];rfl,?_⟩
  unfold inV at k2⊢
  rw[List.any_cons,fv.2,k2]
  rfl
theorem tZ(hp:nd p=true):∀{ds:List D},fK ds=true->((yP ds).any fun y=>PyData.eqv y (py p))=aL p ds
 |[]=>fun _=>rfl
 |d::ds=>fun h=>by
  simp only[fK,QUq]at h
  rw[yP,List.any_cons,sZ d p h.1 hp,tZ hp h.2]
  rfl
def O1(K:QQq)(H:Hp)(xs:List D)(y:V):Prop:=∃a vs,y=.ref a/\(jA K H a vs\/iQ K H a vs)/\aq K H xs vs
noncomputable def abn(K:QQq)(neg:Bool):R2:=fun x y H Q=>∃p xs,bJ K H p x/\O1 K H xs y/\dO p xs=true/\Q (.bl (if neg then !aL p xs else aL p xs)) H
def qz{p:D}(hu:u+60<cLine)(hp:nd p=true)(hd:dep p<=50):u+1+min (PyData.depthAll (yP xs)) (py p).depth<cLine:=by
 rw[o6 p hp]
 omega
theorem O1.reads{s:Shared}{σ:St}{H:Hp}{y:V}(I:Inv X γ σ H s)(h:O1 X.K H xs y)(hn:fK xs=true)(r:RelV y u):
  ∃as,Reads s.heap u (.list (yP xs)) as\/Reads s.heap u (.tuple (yP xs)) as:=by
 obtain⟨a,vs,rfl,hq,l⟩:=h
 cases r
 rcases hq with hq|hq
 ·obtain⟨its,rv,⟨o,n,e,c,_,dt⟩,_⟩:=I.list hq
  obtain⟨as,q⟩:=aq.reads I hn l rv
  exact⟨a::as,.inl (.list e c dt (by simpa using q))⟩
 ·obtain⟨its,rv,⟨o,e,c,n,dt⟩,_⟩:=I.tuple hq
  obtain⟨as,q⟩:=aq.reads I hn l rv
  exact⟨as,.inr (.tuple e c dt (by simpa using q))⟩
def Xc(hu:X.A.units+60<cLine):fG X (compareOp .In) (abn X.K false):=by
 intro γ s σ H x y v u Q I rx ry h
 obtain⟨p,xs,Dp,hS,ok,k⟩:=h
 simp only[dO,Bool.or_eq_true,QUq,QUz]at ok
 rcases ok with ⟨h1,h2⟩|⟨⟨h1,h2⟩,h3⟩
 ·obtain⟨a,vs,rfl,hq,l⟩:=hS
  obtain⟨k1,k2⟩:=wZ Dp h1 l h2
  exact Hv γ s σ H x _ v u Q I rx ry ⟨a,vs,rfl,hq,(by cases p<;>simp_all[flat]<;>(cases Dp;rfl)),k1,by simpa[k2]using k⟩
 ·obtain⟨bs,rb⟩:=bJ.reads I h1 Dp rx
  obtain⟨as,ra|ra⟩:=hS.reads I h3 ry
  ·exact SeqAt.in_list_reads ra rb (jk xs h3) (fj p h1) (qz hu h1 h2) (by rw[tZ h1 h3];exact⟨.bl _,H,I,rfl,k⟩)
  ·exact SeqAt.in_tuple_reads ra rb (jk xs h3) (fj p h1) (qz hu h1 h2) (by rw[tZ h1 h3];exact⟨.bl _,H,I,rfl,k⟩)
def Ht(hu:X.A.units+60<cLine):fG X (compareOp .NotIn) (abn X.K true):=by
 intro γ s σ H x y v u Q I rx ry h
 obtain⟨p,xs,Dp,hS,ok,k⟩:=h
 simp only[dO,Bool.or_eq_true,QUq,QUz]at ok
 rcases ok with ⟨h1,h2⟩|⟨⟨h1,h2⟩,h3⟩
 ·obtain⟨a,vs,rfl,hq,l⟩:=hS
  obtain⟨k1,k2⟩:=wZ Dp h1 l h2
  exact wH γ s σ H x _ v u Q I rx ry ⟨a,vs,rfl,hq,(by cases p<;>simp_all[flat]<;>(cases Dp;rfl)),k1,by simpa[k2]using k⟩
 ·obtain⟨bs,rb⟩:=bJ.reads I h1 Dp rx
  obtain⟨as,ra|ra⟩:=hS.reads I h3 ry
  ·exact SeqAt.notIn_list_reads ra rb (jk xs h3) (fj p h1) (qz hu h1 h2) (by rw[tZ h1 h3];exact⟨.bl _,H,I,rfl,k⟩)
  ·exact SeqAt.notIn_tuple_reads ra rb (jk xs h3) (fj p h1) (qz hu h1 h2) (by rw[tZ h1 h3];exact⟨.bl _,H,I,rfl,k⟩)
end
structure Gives(K:QQq)(J:It)(xs:List D)(H:Hp):Prop where
 go:∀H1,bN H H1->∀(i:Nat)d,xs[i]? =some d->J.go i H1
 yld:∀H1,bN H H1->∀(i:Nat)d,xs[i]? =some d->∀x H2,J.yld i H1 x H2->bJ K H2 d x/\(H2=H1\/∃p vs,H1 p=none/\H2=upd H1 p (.tup vs))
 stop:∀H1,bN H H1->∀(i:Nat),xs.length<=i->J.stop i H1
 len:xs.length<=sizeLine
noncomputable def tI(K:QQq)(W:Wi)(env:Ev)(r:Out Rv):TI:=fun σ H R=>Sat K env σ H/\match r with
 |.ok x env'=>∃d xs,x.jj=some d/\items d=some xs/\∀J H',Nx K env σ H env' H'->Gives K J xs H'->R J H'
 |.exc c env'=>∀H',Nx K env σ H env' H'->W c env' σ H'
 |.bad=>False
def GI(X:Cx)(W:Wi)(c:Cf)(m:E)(tg e:Expr):Prop:=∀env,PI X tg e (tI X.K W env (ev c m env))
section
theorem xH{ifs:List Expr}{pos:Pos}{env:Env}(I:Nat->Shared->Prop)
  (turn:∀n s,I n s->wpAny (model prog w) A (pyNext it) (fun r ι=>match r with
   |none=>R (.ok .next) ι
   |some v=>wpAny (model prog w) A (letOwnedTupleGo target it v) (fun _ s₁'=>wpAny (model prog w) A (assign target env v) (fun _ s₂=>
     wpAny (model prog w) A (forIn ifs true fun c r=>if r=true then do let ok<-isTrue c env (eval c env);pure (ForInStep.yield ok)else pure (ForInStep.yield r)) (fun ok s₃=>
      if ok=true then wpAny (model prog w) A (eval elt env) (fun x s₄=>
       wpAny (model prog w) A (call (.builtin "list.append") [acc,x]) (fun _ s₅=>∃m,m<n/\I m s₅) (fun _ _=>False) s₄) (fun _ _=>False) s₃
      else∃m,m<n/\I m s₃) (fun _ _=>False) s₂) (fun _ _=>False) s₁') (fun _ _=>False) ι) (fun _ _=>False) s)
  n(h:I n s):
  codeAny (model prog w) A (.compLoop (.ListComp elt [⟨target,iter,ifs,0⟩] scope pos) 0 it acc env) R s:=by
 refine codeAny_loop rfl I (fun n s hI=>?_) n h
 refine wpAny_noted ?_
 refine QKq (wpAny_standAt (QKq (QGq (turn n s hI) (fun r ι ω=>?_) fun _ _ h'=>h'.elim)))
 cases r with
 |none=>exact QKz ω
 |some v=>
  refine QKq (QGq ω (fun _ s₁' h₁'=>?_) fun _ _ h'=>h'.elim)
  refine QKq (QGq h₁' (fun _ s₂ h₂=>QKq (QGq h₂ (fun ok s₃ h₃=>?_) fun _ _ h'=>h'.elim)) fun _ _ h'=>h'.elim)
  cases ok with
  |false=>exact QKz ⟨rfl,h₃⟩
  |true=>
   exact QKq (QKq (QGq h₃ (fun x s₄ h₄=>QKq (QGq h₄ (fun _ s₅ Ψ=>QKz (QKz ⟨rfl,Ψ⟩)) fun _ _ h'=>h'.elim)) fun _ _ h'=>h'.elim))
end
noncomputable def blk(X:Cx)(scope:Scope)(cl:List (Str×Addr))(N:List Str)(fp:List Addr)(s₀:Shared)(H₀:Hp):Cx where
 prog:=X.prog
 w:=X.w
 K:=X.K
 mg:=X.mg
 base:=X.base
 A:=X.A
 N:=N
 s₀:=s₀
 H₀:=H₀
 env:=compEnvC scope cl s₀.heap.objs.size X.env
 outer:=X.stack
 stack:=X.stack
 ex:=fp
 fn:=fun _=>false
 calm:=X.calm
 pn:=[]
 xe:=fun _ _=>False
def bT(η N:List Str):List Str:=η++N.map fun x=>if η.contains x then(".":Str)++x else x
structure Je(sc inner:Scope)(η N:List Str):Prop where
 kind:inner.kind=.function
 nd:(bT η N).Nodup
 loc:∀x,inner.names.lookup x=some .local->x∈η\/x=(".0":Str)
 locs:∀x∈inner.names,x.2=.local->inner.names.lookup x.1=some .local
 tg:∀x∈η,inner.names.lookup x=some .local
 nocell:∀x∈inner.names,x.2≠ .cell
 fre:∀x∈inner.names,x.2=.free->sc.names.lookup x.1=some .cell\/sc.names.lookup x.1=some .free
 dot:∀x∈N,η.contains x=true->inner.names.lookup ((".":Str)++x)=none
 dot0:(".0":Str)∉N
structure O8(scope:Scope)(env:Env)(cl:List (Str×Addr)):Prop where
 eq:closureFor scope env=pure cl
 to:∀x c,cl.lookup x=some c->env.cells.lookup x=some c
 has:∀x,scope.names.lookup x=some .free->∃c,cl.lookup x=some c
theorem bM{env:Env}:∀{names:List (Str×NameKind)}{x:Str}{k:NameKind},
  (names.map fun(n,k)=>if (k==NameKind.free&&env.scope.kind== .function&&env.kindOf n==some .cell)then(n,NameKind.cell)else(n,k)).lookup x=some k->
   names.lookup x=some k\/(k=.cell/\names.lookup x=some .free)
 |[],_,_,h=>by simp at h
 |(n,k')::r,x,k,h=>by
  rw[Qyz]at h
  cases hx:x==n with
  |true=>
   by_cases hc:(k'==NameKind.free&&env.scope.kind== .function&&env.kindOf n==some .cell)=true
   ·simp only[hc,if_true,QHz,hx]at h
    cases h
    simp only[QUq,beq_iff_eq]at hc
    exact .inr ⟨rfl,by simp[QHz,hx,hc.1.1]⟩
   ·simp only[eq_false_of_ne_true hc,Qxq,if_false,QHz,hx]at h
    exact .inl (by simpa[QHz,hx]using h)
  |false=>
   have h':(r.map fun(n,k)=>if (k==NameKind.free&&env.scope.kind== .function&&env.kindOf n==some .cell)then(n,NameKind.cell)else(n,k)).lookup x=some k:=by
    by_cases hc:(k'==NameKind.free&&env.scope.kind== .function&&env.kindOf n==some .cell)=true
    ·simpa only[hc,if_true,QHz,hx]using h
    ·simpa only[eq_false_of_ne_true hc,Qxq,if_false,QHz,hx]using h
   rcases (@bM env r x k) h' with q|⟨q1,q2⟩
   ·exact .inl (by simpa[QHz,hx]using q)
   ·exact .inr ⟨q1,by simpa[QHz,hx]using q2⟩
theorem Oc{scope:Scope}{η:List Str}{fp:List Addr}{σ:St}
  (I:Inv X γ σ H s)(sc:Je X.env.scope scope η X.N)(co:O8 scope X.env cl)(hf:∀b∈fp,fZ X γ H b)(hlt:∀b∈fp,b<s.heap.objs.size):
  (blk X scope cl (bT η X.N) fp s H).Ok where
 mod:=I.ok.mod
 kind:=sc.kind
 glob:=I.ok.glob
 blt:=I.ok.blt
 above:=QVz _
 inj:=fun x y c h1 h2=>I.ok.inj x y c (co.to x c h1) (co.to y c h2)
 has:=fun x h=>by
  have z:scope.names.lookup x=some .free:=by
   rcases h with h|h
   ·rcases bM h with q|⟨_,q⟩
    ·exact absurd rfl (sc.nocell _ (PySem.mem_of_lookup q))
    ·exact q
   ·rcases bM h with q|⟨q,_⟩
    ·exact q
    ·cases q
  exact co.has x z
 cab:=fun x c h=>by cases h
 hd:=I.ok.hd
 frames:=I.ok.frames
 stk:=.inl rfl
 exf:=fun b hb=>⟨Qvz (hlt b hb),fun x c h=>(hf b hb).2.2.2.2.1 x c (co.to x c h)⟩
 bs:=I.bs
 bsz:=Nat.le_trans I.ok.bsz I.sz
 noex:=fun b o e hb=>by
  rcases (hf b hb).2.2.2.1 with z|z
  ·exact I.ok.noex b o e z
  ·exact absurd (Qvq (Qqz e) (Nat.le_trans I.ok.bsz z)) (Nat.lt_irrefl _)
 exfs:=fun b hb hs=>by
  obtain⟨_,h1,h2,_⟩:=hf b hb
  rcases QCq.mp (I.Ax b hs)with z|z
  ·exact h1 z
  ·exact h2 z
 mj:=I.stack
 frf:=I.DX
theorem Sy{scope:Scope}{η:List Str}{fp:List Addr}{σ:St}{H:Hp}{h':Heap}
  (I:Inv X γ σ H s)(sc:Je X.env.scope scope η X.N)(co:O8 scope X.env cl)(hf:∀b∈fp,fZ X γ H b)(hlt:∀b∈fp,b<s.heap.objs.size)
  (hn:h'.Ns s.heap.objs.size fun _=>none)(hk:∀b o,s.heap.get? b=some o->h'.get? b=some o):
  Inv (blk X scope cl (bT η X.N) fp s H) [] (List.replicate η.length none++σ) H {s with heap:=h',toks:=t}:=by
 have cellK:∀c v,s.heap.IsCell c v->h'.IsCell c v:=fun c v⟨o,e,d⟩=>⟨o,hk c o e,d⟩
 refine⟨Oc I sc co hf hlt,rfl,I.bare,Un.kept hk,⟨_,hn,fun i x v e1 e2 e3=>?_⟩,fun x c e=>?_,I.hok.fresh (QVz _),fun x c e=>I.freeC x c (co.to x c e),fun p hp=>absurd (show p∈([])from hp) (by simp),I.hok.kept hk,?_⟩
 ·--an outer name that is seen within
  have hi:η.length<=i:=by
   refine Nat.le_of_not_lt fun q=>?_
   rw[Qwz (by simpa using q),List.getElem?_replicate]at e2
   split at e2<;>cases e2
  rw[QIz (by simpa using hi)]at e2
  simp only[List.length_replicate]at e2
  have e1':(bT η X.N)[i]? =some x:=e1
  unfold bT at e1'
  rw[QIz hi,QFz]at e1'
  cases ey:X.N[i-η.length]? with
  |none=>rw[ey]at e1';cases e1'
  |some y=>
   rw[ey]at e1'
   have e1'':(if η.contains y=true then(".")++y else y)=x:=QEq e1'
   have e3':=e3
   by_cases hy:η.contains y=true
   ·rw[if_pos hy]at e1''
    subst e1''
    have no:=sc.dot y (QBz ey) hy
    rcases e3' with q|q|q
    ·rcases bM q with z|⟨z,_⟩
     ·rw[no]at z;cases z
     ·cases z
    ·rcases bM q with z|⟨_,z⟩
     ·rw[no]at z;cases z
     ·rw[no]at z;cases z
    ·rcases bM q with z|⟨z,_⟩
     ·rw[no]at z;cases z
     ·cases z
   ·rw[if_neg hy]at e1''
    subst e1''
    have fr:scope.names.lookup y=some .free:=by
     rcases e3' with q|q|q
     ·rcases bM q with z|⟨z,_⟩
      ·rcases sc.loc y z with w|w
       ·exact absurd (by simpa using w) hy
       ·exact absurd (w▸QBz ey) sc.dot0
      ·cases z
     ·rcases bM q with z|⟨_,z⟩
      ·exact absurd rfl (sc.nocell _ (PySem.mem_of_lookup z))
      ·exact z
     ·rcases bM q with z|⟨z,_⟩
      ·exact z
      ·cases z
    have ou:=sc.fre _ (PySem.mem_of_lookup fr) rfl
    obtain⟨m,hm,hl⟩:=I.loc
    obtain⟨u,r,l⟩:=hl _ y v ey e2 (.inr ou)
    obtain⟨c,hc⟩:=co.has y fr
    refine⟨u,r,.inr ⟨?_,c,hc,?_⟩⟩
    ·have z:=e3'
     rcases z with z|z|z
     ·rcases bM z with w|⟨w,_⟩
      ·rw[fr]at w;cases w
      ·cases w
     ·exact .inl z
     ·exact .inr z
    ·rcases l with ⟨k,_⟩|⟨_,c',hc',z⟩
     ·have k':X.env.scope.names.lookup y=some .local:=k
      rcases ou with w|w
      ·rw[k']at w;cases w
      ·rw[k']at w;cases w
     ·rw[co.to y c hc]at hc'
      cases hc'
      exact cellK c _ z
 ·obtain⟨v,z⟩:=I.cell x c (co.to x c e)
  exact⟨v,cellK c v z⟩
 ·show(List.replicate η.length none++σ).length=(bT η X.N).length
  unfold bT
  simp only[QTq,List.length_replicate,QAq,I.len]
def slots:Tg->List Nat
 |.name i=>[i]
 |.tup is=>is
structure jB(K:QQq)(tg:Tg)(env:Ev)(σ:St)(env':Ev)(ζ:St)(H:Hp):Prop where
 eV:Sat K env' ζ H
 same:∀(i:Nat),i∉slots tg->env'[i]? =env[i]? /\ζ[i]? =σ[i]?
 vals:∀(i:Nat),i∈slots tg->∃d,env'[i]? =some (.val d)
 bors:∀(i:Nat)xs,env[i]? =some (.bor xs)->i∉slots tg
 len:ζ.length=σ.length
noncomputable def tG(K:QQq)(tg:Tg):TG:=fun v σ H Q=>∃env d env',Sat K env σ H/\bJ K H d v/\bD tg d env=some env'/\∀ζ,jB K tg env σ env' ζ H->Q ζ H
def GG(X:Cx)(tg:Tg)(e:Expr):Prop:=PG X e (tG X.K tg)
section
def jB.sub(h:jB K tg env σ env' ζ H){a:Addr}(o:aQ env' ζ i a):aQ env σ i a:=by
 obtain⟨⟨s,xs,e1,e2⟩,e3⟩:=o
 by_cases hi:i∈slots tg
 ·obtain⟨d,e⟩:=h.vals i hi
  rw[e]at e1;cases e1;cases e2
 ·obtain⟨q1,q2⟩:=h.same i hi
  exact⟨⟨s,xs,by rw[<-q1];exact e1,e2⟩,by rw[<-q2];exact e3⟩
def qY{s:Sl}(h:cD i s env=some env'):env'=env.set i s/\i<env.length/\∀xs,env[i]? ≠some (.bor xs):=by
 unfold cD at h
 cases e:env[i]? with
 |none=>rw[e]at h;cases h
 |some t=>
  rw[e]at h
  have hi:=(QCz.mp e).1
  cases t with
  |bor xs=>cases h
  |un=>cases h;exact⟨rfl,hi,fun xs q=>by cases q⟩
  |val d=>cases h;exact⟨rfl,hi,fun xs q=>by cases q⟩
  |own ys=>cases h;exact⟨rfl,hi,fun xs q=>by cases q⟩
def Sat.put{d:D}(S:Sat K env σ H)(hi:i<env.length)(hd:bJ K H d v):Sat K (env.set i (.val d)) (σ.set i (some v)) H:=by
 have own:∀j a,aQ (env.set i (.val d)) (σ.set i (some v)) j a->aQ env σ j a:=fun j a⟨⟨s,xs,e1,e2⟩,e3⟩=>by
  by_cases hj:i=j
  ·subst hj;rw[Qwq hi]at e1;cases e1;cases e2
  ·rw[Qxz hj]at e1 e3;exact⟨⟨s,xs,e1,e2⟩,e3⟩
 refine⟨by simpa using S.len,fun j s e=>?_,fun j k a h1 h2=>S.ne j k a (own j a h1) (own k a h2)⟩
 by_cases hj:i=j
 ·subst hj
  rw[Qwq hi]at e
  cases e
  rw[Qwq (by rw[<-S.len];exact hi)]
  exact⟨v,rfl,hd⟩
 ·rw[Qxz hj]at e⊢
  exact S.sl j s e
def Qh{d:D}(S:Sat K env σ H)(hd:bJ K H d v)(h:cD i (.val d) env=some env'):jB K (.name i) env σ env' (σ.set i (some v)) H:=by
 obtain⟨rfl,hi,hb⟩:=qY h
 refine⟨S.put hi hd,fun j hj=>?_,fun j hj=>?_,fun j xs e hj=>?_,by simp⟩
 ·have:i≠j:=fun z=>hj (by simp[slots,z])
  exact⟨Qxz this,Qxz this⟩
 ·have e:j=i:=by simpa[slots]using hj
  subst e
  exact⟨d,Qwq hi⟩
 ·have e':j=i:=by simpa[slots]using hj
  subst e'
  exact hb xs e
end
section
def w6{x:Str}(hN:X.N.Nodup)(hi:X.N[i]? =some x)(hx:Loc X.env.scope x)(hf:X.fn x=true\/X.env.scope.names.lookup x=some .local):GG X (.name i) (.Name x pos):=by
 intro γ s σ H v u Q I r q
 obtain⟨env,d,env',S,hd,e,k⟩:=q
 exact QX hN hi hx hf γ s σ H v u Q I r (k _ (Qh S hd e))
noncomputable def gR(sc:Scope)(N:List Str):List Nat->List Expr->Bool
 |[],[]=>true
 |i::is,.Name x _::es=>(N[i]? ==some x)&&(sc.names.lookup x==some .local)&&gR sc N is es
 |_,_=>false
inductive ue(X:Cx):List Nat->List Expr->Prop
 |nil:ue X [] []
 |cons {i:Nat} {is:List Nat} {x:Str} {p:Pos} {es:List Expr}:X.N[i]? =some x->Loc X.env.scope x->(X.fn x=true\/X.env.scope.names.lookup x=some .local)->ue X is es->ue X (i::is) (.Name x p::es)
theorem La:∀{is:List Nat}{es:List Expr},gR X.env.scope X.N is es=true->ue X is es
 |[],[]=>fun _=>.nil
 |[],_::_=>fun h=>by simp[gR]at h
 |_::_,[]=>fun h=>by simp[gR]at h
 |i::is,e::es=>fun h=>by
  cases e with
  |Name x p=>
   simp only[gR,QUq,beq_iff_eq]at h
   exact .cons h.1.1 (.inl h.1.2) (.inr h.1.2) (La h.2)
  |_=>simp[gR]at h
theorem zJ(hN:X.N.Nodup):∀(is:List Nat)(es:List Expr),ue X is es->
  PGs X es (fun vs σ H Q=>∃env ds env',Sat X.K env σ H/\aq X.K H ds vs/\gk is ds env=some env'/\∀ζ,jB X.K (.tup is) env σ env' ζ H->Q ζ H)
 |[],[],_=>fun γ s σ H vs us Q I r⟨env,ds,env',S,l,e,k⟩=>by
  cases ds with
  |nil=>
   cases e
   refine QW γ s σ H vs us Q I r ⟨aq.bj.mp l,k σ ⟨S,fun i _=>⟨rfl,rfl⟩,fun i hi=>?_,fun i xs _=>?_,rfl⟩⟩
   ·simp[slots]at hi
   ·simp[slots]
  |cons d ds=>cases e
 |i::is,_,.cons (x:=x) (p:=p) (es:=es) h1 h2 h3 h4=>by
   intro γ s σ H vs us Q I r q
   refine KD (w6 hN h1 h2 h3) (zJ hN is es h4) (by rfl) γ s σ H vs us Q I r ?_
   obtain⟨env,ds,env',S,l,e,k⟩:=q
   cases ds with
   |nil=>cases e
   |cons d ds=>
    obtain⟨v,vr,rfl,hd,l'⟩:=aq.aG.mp l
    have e':(cD i _ env).bind _=some env':=e
    cases e1:cD i _ env with
    |none=>rw[e1]at e';cases e'
    |some δ=>
     rw[e1]at e'
     refine⟨v,vr,rfl,env,d,δ,S,hd,e1,fun ξ s1=>⟨δ,ds,env',s1.eV,l',e',fun ρ s2=>k ρ ⟨s2.eV,fun j hj=>?_,fun j hj=>?_,fun j xs q hj=>?_,s2.len.trans s1.len⟩⟩⟩
     ·have h1:j∉slots (.name i):=fun z=>hj (by simp[slots]at z⊢;exact .inl z)
      have h2:=fun z=>hj (by simp[slots]at z⊢;exact .inr z)
      exact⟨(s2.same j h2).1.trans (s1.same j h1).1,(s2.same j h2).2.trans (s1.same j h1).2⟩
     ·by_cases h2:j∈slots (.tup is)
      ·exact s2.vals j h2
      ·obtain⟨d',q⟩:=s1.vals j (by simp[slots]at hj h2⊢;exact hj.resolve_right h2)
       exact⟨d',(s2.same j h2).1.trans q⟩
     ·by_cases h1:j∈slots (.name i)
      ·exact s1.bors j xs q h1
      ·exact s2.bors j xs ((s1.same j h1).1.trans q) (by simp[slots]at hj h1⊢;exact hj.resolve_left h1)
def Cj{is:List Nat}{k:Nat}(hN:X.N.Nodup)(hc:X.calm=true)(h:ue X is es)(hl:(assignEach es X.env).length=is.length)(hst:(assignEach es X.env).findIdx? (·.1)=none):GG X (.tup is) (.Tuple es k pos):=by
 intro γ s σ H v u Q I r q
 obtain⟨env,d,env',S,hd,e,k⟩:=q
 cases d with
 |tup ds=>
  obtain⟨a,vs,rfl,hq,l⟩:=bZ hd
  refine WL hc (zJ hN is es h) hl hst γ s σ H _ u Q I r ⟨a,vs,rfl,hq,?_,env,ds,env',S,l,e,k⟩
  have lens:∀is ds env env',gk is ds env=some env'->ds.length=is.length:=by
   intro is
   induction is with
   |nil=>intro ds env env' e;cases ds with|nil=>rfl|cons _ _=>cases e
   |cons i is ih=>
    intro ds env env' e
    cases ds with
    |nil=>cases e
    |cons d ds=>
     have e':(cD i _ env).bind _=some env':=e
     cases e1:cD i _ env with
     |none=>rw[e1]at e';cases e'
     |some δ=>rw[e1]at e';simp[ih ds δ env' e']
  rw[<-l.length]
  exact lens is ds env env' e
 |_=>cases e
end
def W0:Wi:=fun _ _ _ _=>False
def Sat.lay{env:Ev}{H H2:Hp}(S:Sat K env σ H)(h:H2=H\/∃p vs,H p=none/\H2=upd H p (.tup vs)):Nx K env σ H env H2:=by
 rcases h with rfl|⟨p,vs,hp,rfl⟩
 ·exact Nx.refl S
 ·exact Nx.laid S hp
def rJ{σ:St}{a:Addr}:aQ (env.drop nl) (σ.drop nl) i a↔aQ env σ (nl+i) a:=by
 unfold aQ
 rw[List.getElem?_drop,List.getElem?_drop]
theorem Sat.drop{env:Ev}{H:Hp}(S:Sat K env σ H):Sat K (env.drop nl) (σ.drop nl) H:=by
 refine⟨by rw[List.length_drop,List.length_drop,S.len],fun i s e=>?_,fun i j a h1 h2=>?_⟩
 ·rw[List.getElem?_drop]at e⊢
  exact S.sl _ s e
 ·have:=S.ne _ _ a (rJ.mp h1) (rJ.mp h2)
  omega
def iD{σ:St}{i:Nat}(h:aQ (List.replicate nl .un++env) (List.replicate nl none++σ) i a):∃j,i=nl+j/\aQ env σ j a:=by
 obtain⟨⟨s,xs,e1,e2⟩,e3⟩:=h
 by_cases hi:i<nl
 ·rw[Qwz (by simpa using hi),List.getElem?_replicate,if_pos hi]at e1
  cases e1;cases e2
 ·refine⟨i-nl,by omega,?_⟩
  rw[QIz (by simp;omega)]at e1 e3
  simp only[List.length_replicate]at e1 e3
  exact⟨⟨s,xs,e1,e2⟩,e3⟩
def Sat.front{env:Ev}{H:Hp}(S:Sat K env σ H)nl:Sat K (List.replicate nl .un++env) (List.replicate nl none++σ) H:=by
 refine⟨by simp[S.len],fun i s e=>?_,fun i j a h1 h2=>?_⟩
 ·by_cases hi:i<nl
  ·rw[Qwz (by simpa using hi),List.getElem?_replicate,if_pos hi]at e
   cases e;trivial
  ·rw[QIz (by simp;omega)]at e⊢
   simp only[List.length_replicate]at e⊢
   exact S.sl _ s e
 ·obtain⟨i',rfl,o1⟩:=iD h1
  obtain⟨j',rfl,o2⟩:=iD h2
  rw[S.ne i' j' a o1 o2]
structure Ab(X:Cx)(c:Cf)(scope:Scope)(η:List Str)(tg:Tg)(cond elt:E)(Ξ Δ:Expr)(ifs:List Expr):Prop where
 sc:Je X.env.scope scope η X.N
 small:∀i∈slots tg,i<η.length
 tgt:∀cl fp s₀ H₀,(blk X scope cl (bT η X.N) fp s₀ H₀).Ok->GG (blk X scope cl (bT η X.N) fp s₀ H₀) tg Ξ
 tests:(ifs=[]/\cond=.con (.bl true))\/∃ce,ifs=[ce]/\∀cl fp s₀ H₀,(blk X scope cl (bT η X.N) fp s₀ H₀).Ok->GT (blk X scope cl (bT η X.N) fp s₀ H₀) W0 c cond ce
 elts:∀cl fp s₀ H₀,(blk X scope cl (bT η X.N) fp s₀ H₀).Ok->GE (blk X scope cl (bT η X.N) fp s₀ H₀) W0 c elt Δ
structure LI(X:Cx)(c:Cf)(tg:Tg)(cond elt:E)(xs ys:List D)(τ env0:Ev)(σ σ0:St)(H3:Hp)(D:Addr)(nl i:Nat)(acc:List Mini.D)(vs:List V)(Φ:Ev)(ξ:St)(H1:Hp):Prop where
 le:i<=xs.length
 go:aU tg (ev c cond) (ev c elt) (xs.drop i) acc Φ=.ok ys τ
 eV:Sat X.K Φ ξ H1
 out:ξ.drop nl=σ
 acl:acc.length<=i
 cur:H1 D=some (.lst vs)
 den:aq X.K H1 acc vs
 sub:∀k a,aQ Φ ξ k a->aQ env0 σ0 k a
 pers:bN H3 H1
 keep:∀b u,H3 b=some u->b≠D->(∀k,¬aQ env0 σ0 k b)->H1 b=some u
 dom:∀b,H1 b=none->H3 b=none
 bors:∀(k:Nat)ws,env0[k]? =some (.bor ws)->∃ws',Φ[k]? =some (.bor ws')
section
variable{cond elt:E}{D:Addr}
def LI.no(L:LI X c tg cond elt xs ys τ env0 σ σ0 H3 D nl i acc vs Φ ξ H1)(hD:∀k,¬aQ env0 σ0 k D):∀k,¬aQ Φ ξ k D:=fun k z=>hD k (L.sub k D z)
end
structure Ch(K:QQq)(env:Ev)(σ:St)(H:Hp)(env':Ev)(ζ:St)(H':Hp):Prop where
 eV:Sat K env' ζ H'
 sub:∀(i:Nat)a,aQ env' ζ i a->aQ env σ i a
 pers:bN H H'
 keep:∀b u,H b=some u->(∀i,¬aQ env σ i b)->H' b=some u
 dom:∀b,H' b=none->H b=none
 bors:∀(i:Nat)xs,env[i]? =some (.bor xs)->∃ys,env'[i]? =some (.bor ys)
section
def Nx.ch(N:Nx K env σ H δ H1):Ch K env σ H δ σ H1:=⟨N.eV,N.sub,N.pers,N.keep,N.dom,N.bors⟩
def jB.ch(h:jB K tg env σ δ ξ H):Ch K env σ H δ ξ H:=⟨h.eV,fun _ _ z=>h.sub z,bN.refl H,fun _ _ z _=>z,fun _ z=>z,fun i xs e=>⟨xs,(h.same i (h.bors i xs e)).1.trans e⟩⟩
theorem Ch.trans(a:Ch K env σ H δ ξ H1)(b:Ch K δ ξ H1 ε ρ H2):Ch K env σ H ε ρ H2:=
 ⟨b.eV,fun i c z=>a.sub i c (b.sub i c z),a.pers.trans b.pers,fun c vs z n=>b.keep c vs (a.keep c vs z n) fun i w=>n i (a.sub i c w),fun c z=>a.dom c (b.dom c z),fun i xs e=>let ⟨ys,e1⟩:=a.bors i xs e;b.bors i ys e1⟩
end
def jB.out{tg:Tg}{σ ξ:St}{nl:Nat}(h:jB K tg env σ δ ξ H)(hs:∀i∈slots tg,i<nl):ξ.drop nl=σ.drop nl:=by
 apply List.ext_getElem?
 intro i
 rw[List.getElem?_drop,List.getElem?_drop]
 exact(h.same _ fun z=>by have:=hs _ z;omega).2
section
variable{cond elt:E}{D:Addr}
theorem LI.skip(L:LI X c tg cond elt xs ys τ env0 σ σ0 H3 D nl i acc vs Φ ξ H1)(hD:∀k,¬aQ env0 σ0 k D)(C:Ch X.K Φ ξ H1 τ2 ρ H2)(hi:i<xs.length)(ho:ρ.drop nl=σ)
  (go:aU tg (ev c cond) (ev c elt) (xs.drop (i+1)) acc τ2=.ok ys τ):LI X c tg cond elt xs ys τ env0 σ σ0 H3 D nl (i+1) acc vs τ2 ρ H2 where
 le:=hi
 go:=go
 eV:=C.eV
 out:=ho
 acl:=Nat.le_succ_of_le L.acl
 cur:=C.keep D _ L.cur (L.no hD)
 den:=L.den.mono C.pers
 sub:=fun k a z=>L.sub k a (C.sub k a z)
 pers:=L.pers.trans C.pers
 keep:=fun b ws z n1 n2=>C.keep b ws (L.keep b ws z n1 n2) fun k o=>n2 k (L.sub k b o)
 dom:=fun b z=>L.dom b (C.dom b z)
 bors:=fun k ws e=>let ⟨w1,e1⟩:=L.bors k ws e;C.bors k w1 e1
def LI.push{v:V}(L:LI X c tg cond elt xs ys τ env0 σ σ0 H3 D nl i acc vs Φ ξ H1)(hD:∀k,¬aQ env0 σ0 k D)(C:Ch X.K Φ ξ H1 τ2 ρ H2)(hi:i<xs.length)(ho:ρ.drop nl=σ)
  (go:aU tg (ev c cond) (ev c elt) (xs.drop (i+1)) (acc++[d]) τ2=.ok ys τ)(hd:bJ X.K H2 d v):LI X c tg cond elt xs ys τ env0 σ σ0 H3 D nl (i+1) (acc++[d]) (vs++[v]) τ2 ρ (upd H2 D (.lst (vs++[v]))):=by
 have cur:=C.keep D _ L.cur (L.no hD)
 have ne:∀b u,H2 b=some u->(∀ws,u≠ .lst ws)->b≠D:=fun b u q n z=>by subst z;rw[cur]at q;cases q;exact n vs rfl
 have p:bN H2 (upd H2 D (.lst (vs++[v]))):=⟨fun b ws q=>by rw[aC (ne b _ q (by intro ws z;cases z))];exact q,fun b o u q=>by rw[aC (ne b _ q (by intro ws z;cases z))];exact q⟩
 have no2:=fun k z=>L.no hD k (C.sub k D z)
 refine⟨hi,go,C.eV.keep p fun k b u ow hb=>?_,ho,by rw[QTq];exact Nat.succ_le_succ L.acl,aP,((L.den.mono C.pers).append (aq.cV hd aq.eQ)).mono p,fun k a z=>L.sub k a (C.sub k a z),
  (L.pers.trans C.pers).trans p,fun b ws z n1 n2=>?_,fun b z=>L.dom b (C.dom b ?_),fun k ws e=>let ⟨w1,e1⟩:=L.bors k ws e;C.bors k w1 e1⟩
 ·rw[aC (fun z=>by subst z;exact no2 k ow)];exact hb
 ·rw[aC n1]
  exact C.keep b ws (L.keep b ws z n1 n2) fun k o=>n2 k (L.sub k b o)
 ·by_cases hb:b=D
  ·subst hb;rw[aP]at z;cases z
  ·rw[aC hb]at z;exact z
end
def vK{α:Type}{xs:List α}{d:α}(h:xs[i]? =some d):xs.drop i=d::xs.drop (i+1):=by
 obtain⟨hi,e⟩:=QCz.mp h
 rw[List.drop_eq_getElem_cons hi,e]
def vM{X:Cx}{c:Cf}{scope:Scope}{η:List Str}{tg:Tg}{cond elt:E}{Ξ ο Δ:Expr}{ifs:List Expr}{pos:Pos}{cl:List (Str×Addr)}
  {γ:QQz}{σ:St}{H:Hp}{s:Shared}{env τ:Ev}{J:It}{fp:List Addr}{it:Addr}{tn:Nat->Heap->Prop}{xs ys:List D}{RR:Value->Addr->Result->Shared->Prop}{E:QZq}
  (B:Ab X c scope η tg cond elt Ξ Δ ifs)(hc:X.calm=true)(co:O8 scope X.env cl)
  (I:Inv X γ σ H s)(S:Sat X.K env σ H)(T:Turn X.prog X.w X.K Ξ J fp it tn)(t0:tn 0 s.heap)(hf:∀b∈fp,fZ X γ H b)(G:Gives X.K J xs H)
  (hgo:aU tg (ev c cond) (ev c elt) xs [] (List.replicate η.length .un++env)=.ok ys τ)
  (hRR:∀(D C:Addr)(s':Shared)(H':Hp)(vs:List V)(m:QZz),Inv X γ σ H' s'->Nx X.K env σ H (τ.drop η.length) H'->H' D=some (.lst vs)->aq X.K H' ys vs->H D=none->
   s'.heap.Ns C m->fZ X γ H' C->RR (.ref D) C (.ok .next) s'):
  wpAny (model X.prog X.w) X.A (newList []) (fun acc s₃=>wpAny (model X.prog X.w) X.A (newFunctionEnv scope X.env.globals cl [] X.env.qual none .none (some X.env)) (fun cenv s₄=>
   codeAny (model X.prog X.w) X.A (.compStart (.ListComp Δ [⟨Ξ,ο,ifs,0⟩] scope pos) 0 (.ref it) acc {cenv with scope:=relabel scope X.env}) (RR acc cenv.locals) s₄) E s₃) E s:=by
 have hlt:∀b∈fp,b<s.heap.objs.size:=fun b hb=>by
  obtain⟨o,e,_⟩:=T.obj 0 _ t0 b hb
  exact Qqz e
 refine Qjq (wpAny_newFunctionEnv B.sc.nocell (by intro y hy;simp at hy) (fun ω hns₁ hsb₁=>?_) B.sc.kind)
 dsimp only at hns₁ hsb₁⊢
 generalize hDd:s.heap.objs.size=D at*
 have hDn:H D=none:=by rw[<-hDd];exact I.hok.fresh (QVz _)
 have I3:Inv X γ σ (upd H D (.lst [])) {s with heap:=s.heap.push {cls:=.type "list",dict:=none,data:=.seq ([]:List Value).toArray}}:=by
  have:=I.laid (a:=s.heap.objs.size) (o:=.lst []) (t':=s.toks) (h':=s.heap.push {cls:=.type "list",dict:=none,data:=.seq ([]:List Value).toArray}) (fun b o e=>QWq _ e) (QVz _) ⟨QIq _,[],0,.nil,Qzq _ rfl⟩
  rw[hDd]at this
  exact this
 obtain⟨s3,hs3⟩:∃s3:Shared,s3={s with heap:=s.heap.push {cls:=.type "list",dict:=none,data:=.seq ([]:List Value).toArray}}:=⟨_,rfl⟩
 rw[<-hs3]at I3
 have hs3h:s.heap.push {cls:=.type "list",dict:=none,data:=.seq ([]:List Value).toArray}=s3.heap:=by rw[hs3]
 rw[hs3h]at hns₁ hsb₁⊢
 have hsz:s3.heap.objs.size=D+1:=by rw[<-hs3h,Heap.size_push,hDd]
 have hk3:∀b o,s3.heap.get? b=some o->ω.get? b=some o:=fun b o e=>hsb₁.extBut b o (Qvz (Qqz e)) (QWq _ e)
 have hk:∀b o,s.heap.get? b=some o->s3.heap.get? b=some o:=fun b o e=>by rw[<-hs3h];exact QWq _ e
 have hf3:∀b∈fp,fZ X γ (upd H D (.lst [])) b:=fun b hb=>⟨by
  rw[aC (Qvz (hlt b hb))];exact(hf b hb).1,(hf b hb).2⟩
 have hlt3:∀b∈fp,b<s3.heap.objs.size:=fun b hb=>Qvq (hlt b hb) (by rw[hsz];exact Nat.le_succ _)
 have N3:Nx X.K env σ H env (upd H D (.lst [])):=Nx.laid S hDn
 generalize hH3:upd H D (.lst [])=H3 at I3 hf3 N3
 have hD3:H3 D=some (.lst []):=by rw[<-hH3];exact aP
 have noD:∀k,¬aQ (List.replicate η.length .un++env) (List.replicate η.length none++σ) k D:=fun k z=>by
  obtain⟨j,_,o⟩:=iD z
  obtain⟨_,_,q,_⟩:=S.own o
  rw[hDn]at q;cases q
 have ok':(blk X scope cl (bT η X.N) fp s3 H3).Ok:=Oc I3 B.sc co hf3 hlt3
 have hns':ω.Ns s3.heap.objs.size fun _=>none:=by simpa using hns₁
 have fpk:∀{H1:Hp},(∀b∈fp,H1 b=none)->∀b∈fp,fZ (blk X scope cl (bT η X.N) fp s3 H3) [] H1 b:=fun{H1}hn b hb=>
  ⟨hn b hb,(ok'.exf b hb).1,ok'.exfs b hb,.inl hb,fun x q e=>(ok'.exf b hb).2 x q e,fun p hp=>absurd (show p∈([]:QQz)from hp) (by simp)⟩
 have loop:∀s4:Shared,s4={s with heap:=ω,toks:=s.toks+([]:List (Str×Value)).length}->
   codeAny (model X.prog X.w) X.A (.compLoop (.ListComp Δ [⟨Ξ,ο,ifs,0⟩] scope pos) 0 (.ref it) (.ref D) (compEnvC scope cl s3.heap.objs.size X.env)) (RR (.ref D) s3.heap.objs.size) s4:=by
  rintro s4 rfl
  have I4:Inv (blk X scope cl (bT η X.N) fp s3 H3) [] (List.replicate η.length none++σ) H3 {s with heap:=ω,toks:=s.toks+([]:List (Str×Value)).length}:=by
   have:=Sy (t:=s.toks+([]:List (Str×Value)).length) I3 B.sc co hf3 hlt3 hns' hk3
   rw[hs3]at this⊢
   exact this
  refine xH (fun n s'=>∃i acc vs Φ ξ H1,n=xs.length-i/\Inv (blk X scope cl (bT η X.N) fp s3 H3) [] ξ H1 s'/\tn i s'.heap/\(∀b∈fp,H1 b=none)/\
   LI X c tg cond elt xs ys τ (List.replicate η.length .un++env) σ (List.replicate η.length none++σ) H3 D η.length i acc vs Φ ξ H1) ?_ xs.length ?_
  ·rintro n s1 ⟨i,acc,vs,Φ,ξ,H1,rfl,I1,t1,f1,L⟩
   by_cases hi:i<xs.length
   ·--one more turn
    obtain⟨d,hd⟩:∃d,xs[i]? =some d:=⟨xs[i],by simp[hi]⟩
    have q0:=L.go
    rw[vK hd,aU]at q0
    cases hset:bD tg d Φ with
    |none=>rw[hset]at q0;cases q0
    |some τ2=>
     rw[hset]at q0
     simp only at q0
     have p1:bN H H1:=N3.pers.trans L.pers
     refine b7 (T.item (blk X scope cl (bT η X.N) fp s3 H3) rfl rfl rfl hc i [] s1 ξ H1 _ I1 (fpk f1) t1 (G.go H1 p1 i d hd)) fun r s2⟨u,hr,h2⟩=>?_
     subst hr
     refine b7 h2 fun _ s3'⟨x,H2,I2,r2,y2,t2,f2⟩=>?_
     obtain⟨Dx,lay⟩:=G.yld H1 p1 i d hd x H2 y2
     have N2:=L.eV.lay lay
     have D2:H2 D=some (.lst vs):=N2.keep D _ L.cur (L.no noD)
     have I2':=I2.pinned (fpk f2) (T.obj _ _ t2)
     refine b7 (B.tgt cl fp s3 H3 ok' _ s3' ξ H2 x u (fun ρ H'=>H'=H2/\jB X.K tg Φ ξ τ2 ρ H2) I2' r2 ⟨Φ,d,τ2,N2.eV,Dx,hset,fun ρ st=>⟨rfl,st⟩⟩) fun _ s4'⟨ρ,H2',I3',hH,st⟩=>?_
     subst hH
     have ho:ρ.drop η.length=σ:=(st.out B.small).trans L.out
     have C2:Ch X.K Φ ξ H1 τ2 ρ H2':=N2.ch.trans st.ch
     have again:∀{s7:Shared}{H7:Hp}{acc':List Mini.D}{vs':List V}{τ7:Ev},Inv (blk X scope cl (bT η X.N) fp s3 H3) ([]++rG fp s3'.heap) ρ H7 s7->
       LI X c tg cond elt xs ys τ (List.replicate η.length .un++env) σ (List.replicate η.length none++σ) H3 D η.length (i+1) acc' vs' τ7 ρ H7->
       ∃k,k<xs.length-i/\∃i acc vs Φ ξ H1,k=xs.length-i/\Inv (blk X scope cl (bT η X.N) fp s3 H3) [] ξ H1 s7/\tn i s7.heap/\(∀b∈fp,H1 b=none)/\
        LI X c tg cond elt xs ys τ (List.replicate η.length .un++env) σ (List.replicate η.length none++σ) H3 D η.length i acc vs Φ ξ H1:=fun{s7 H7 acc' vs' τ7}I7 L7=>by
      refine⟨xs.length- (i+1),by omega,i+1,acc',vs',τ7,ρ,H7,rfl,I7.mV,T.keep _ _ _ t2 fun b hb o e=>(I7.pin (b,o) (QVq _ (QVq _ (jc hb e)))).1,fun b hb=>?_,L7⟩
      obtain⟨o,e,_⟩:=T.obj _ _ t2 b hb
      exact(I7.pin (b,o) (QVq _ (QVq _ (jc hb e)))).2.1
     obtain⟨xc,dc,bc,τ3,e1,e2,e3,q1⟩:∃xc dc bc τ3,ev c cond τ2=.ok xc τ3/\xc.jj=some dc/\gY dc=some bc/\
       (if bc then(ev c elt τ3).au fun d σ₃=>aU tg (ev c cond) (ev c elt) (xs.drop (i+1)) (acc++[d]) σ₃ else aU tg (ev c cond) (ev c elt) (xs.drop (i+1)) acc τ3)=.ok ys τ:=by
      cases r:ev c cond τ2 with
      |bad=>rw[r]at q0;cases q0
      |exc k τ3=>rw[r]at q0;cases q0
      |ok xc τ3=>
       rw[r]at q0
       cases xc with
       |ref k=>cases q0
       |val dc=>
        simp only[Out.cu,Out.au]at q0
        cases q:gY dc with
        |none=>rw[q]at q0;cases q0
        |some bc=>rw[q]at q0;exact⟨_,dc,bc,τ3,rfl,rfl,q,q0⟩
       |new zs=>
        simp only[Out.cu,Out.au]at q0
        cases q:gY zs.d with
        |none=>rw[q]at q0;cases q0
        |some bc=>rw[q]at q0;exact⟨_,zs.d,bc,τ3,rfl,rfl,q,q0⟩
     have after:∀(s5:Shared)(H5:Hp),Inv (blk X scope cl (bT η X.N) fp s3 H3) ([]++rG fp s3'.heap) ρ H5 s5->Nx X.K τ2 ρ H2' τ3 H5->
       (if bc=true then wpAny (model X.prog X.w) X.A (eval Δ (compEnvC scope cl s3.heap.objs.size X.env)) (fun x s₄=>
        wpAny (model X.prog X.w) X.A (call (.builtin "list.append") [.ref D,x]) (fun _ s₅=>∃m,m<xs.length-i/\∃i acc vs Φ ξ H1,m=xs.length-i/\Inv (blk X scope cl (bT η X.N) fp s3 H3) [] ξ H1 s₅/\tn i s₅.heap/\(∀b∈fp,H1 b=none)/\
        LI X c tg cond elt xs ys τ (List.replicate η.length .un++env) σ (List.replicate η.length none++σ) H3 D η.length i acc vs Φ ξ H1) (fun _ _=>False) s₄) (fun _ _=>False) s5
       else∃m,m<xs.length-i/\∃i acc vs Φ ξ H1,m=xs.length-i/\Inv (blk X scope cl (bT η X.N) fp s3 H3) [] ξ H1 s5/\tn i s5.heap/\(∀b∈fp,H1 b=none)/\
        LI X c tg cond elt xs ys τ (List.replicate η.length .un++env) σ (List.replicate η.length none++σ) H3 D η.length i acc vs Φ ξ H1):=fun s5 H5 I5 N5=>by
      have C5:=C2.trans N5.ch
      cases bc with
      |false=>
       rw[if_neg Qjz]at q1⊢
       exact again I5 (L.skip noD C5 hi ho q1)
      |true=>
       rw[if_pos rfl]at q1⊢
       obtain⟨xe,de,τ4,e4,e5,q2⟩:∃xe de τ4,ev c elt τ3=.ok xe τ4/\xe.jj=some de/\aU tg (ev c cond) (ev c elt) (xs.drop (i+1)) (acc++[de]) τ4=.ok ys τ:=by
        cases r:ev c elt τ3 with
        |bad=>rw[r]at q1;cases q1
        |exc k τ3=>rw[r]at q1;cases q1
        |ok xe τ4=>
         rw[r]at q1
         cases xe with
         |ref k=>cases q1
         |val de=>exact⟨_,de,τ4,rfl,rfl,q1⟩
         |new zs=>exact⟨_,zs.d,τ4,rfl,rfl,q1⟩
       refine b7 ((B.elts cl fp s3 H3 ok').d _ s5 ρ H5 (fun v H6=>Nx X.K τ3 ρ H5 τ4 H6/\bJ X.K H6 de v) I5 ⟨τ3,N5.eV,?_⟩) fun u s6⟨v,H6,I6,r6,N6,D6⟩=>?_
       ·rw[e4]
        cases xe with
        |ref k=>cases e5
        |val d'=>cases e5;exact fun v H' N Dv=>⟨N,Dv⟩
        |new zs=>cases e5;exact fun v H' N Dv=>⟨N,Dv⟩
       ·have C6:=C5.trans N6.ch
        have cur:=C6.keep D _ L.cur (L.no noD)
        have lenv:vs.length<sizeLine:=by
         have h1:=L.den.length
         have h2:=L.acl
         have h3:=G.len
         omega
        refine b7 (vd (X:=blk X scope cl (bT η X.N) fp s3 H3) _ s6 ρ H6 (.ref D) [v] (.ref D) [u] (fun _ H7=>H7=upd H6 D (.lst (vs++[v]))) I6 rfl (.cons r6 .nil) ⟨D,vs,v,rfl,rfl,cur,lenv,rfl⟩) fun _ s7⟨_,H7,I7,_,e7⟩=>?_
        subst e7
        exact again I7 (L.push noD C6 hi ho q2 D6)
     rcases B.tests with ⟨ei,ec⟩|⟨ce,ei,hC⟩
     ·subst ei ec
      simp only[v_0,v_1,v_2,v_3,v_4,v_5,v_6,v_7,v_8,Zi,GD,PQ,aar,Jr,aaq,aap,VM,PN,PL,aao,mU,VL,VJ,aan,VH,lQ]at e1
      cases e1
      cases e2
      cases e3
      exact QKz (after s4' H2' I3' (Nx.refl st.eV))
     ·subst ei
      refine wpAny_tests_one (b7 (hC cl fp s3 H3 ok' _ s4' ρ H2' (fun k H'=>k=bc/\Nx X.K τ2 ρ H2' τ3 H') I3' ⟨τ2,st.eV,by rw[e1];exact⟨dc,bc,e2,e3,fun H' N=>⟨rfl,N⟩⟩⟩) fun k s5⟨H5,I5,hk',N5⟩=>?_)
      subst hk'
      exact after s5 H5 I5 N5
   ·--the end
    have e:i=xs.length:=Nat.le_antisymm L.le (Nat.le_of_not_lt hi)
    have q0:=L.go
    rw[e,List.drop_length,aU]at q0
    cases q0
    refine b7 (T.done (blk X scope cl (bT η X.N) fp s3 H3) rfl rfl rfl hc i [] s1 ξ H1 _ I1 (fpk f1) t1 (G.stop H1 (N3.pers.trans L.pers) i (by omega))) fun r s2⟨hr,I2⟩=>?_
    subst hr
    obtain⟨m,hm,_⟩:=I2.loc
    have IX:Inv X γ σ H1 s2:=Inv.call' I3 I2.os I2.base I2.hok I2.bare fun b hb=>⟨(hf3 b hb).2.2.2.1,(hf3 b hb).2.1,(hf3 b hb).2.2.2.2.1,(hf3 b hb).2.2.2.2.2⟩
    refine hRR D s3.heap.objs.size s2 H1 vs m IX ⟨?_,fun k a z=>?_,N3.pers.trans L.pers,fun b ws z w=>?_,fun b z=>N3.dom b (L.dom b z),fun k ws z=>?_⟩ L.cur L.den hDn hm (I3.Cr (QVz _) I2.free)
    ·have:=L.eV.drop (nl:=η.length)
     rw[L.out]at this
     exact this
    ·have z':aQ (τ.drop η.length) (ξ.drop η.length) k a:=by rw[L.out];exact z
     obtain⟨j,ej,o⟩:=iD (L.sub _ a (rJ.mp z'))
     have:k=j:=by omega
     subst this
     exact o
    ·refine L.keep b ws (N3.keep b ws z w) (fun q=>?_) fun k o=>?_
     ·subst q;rw[hDn]at z;cases z
     ·obtain⟨j,_,o'⟩:=iD o
      exact w j o'
    ·obtain⟨ws',q⟩:=L.bors (η.length+k) ws (by rw[QIz (by simp)];simpa using z)
     exact⟨ws',by rw[List.getElem?_drop];exact q⟩
  ·refine⟨0,[],[],_,_,H3,rfl,I4,T.keep _ _ _ t0 fun b _ o e=>hk3 b o (hk b o e),fun b hb=>(hf3 b hb).1,⟨QIq _,hgo,N3.eV.front _,by simp,QVz _,hD3,aq.eQ,fun _ _ z=>z,bN.refl _,fun _ _ z _ _=>z,fun _ z=>z,fun _ ws z=>⟨ws,z⟩⟩⟩
 exact codeAny_compStart_list (loop _ rfl) (T.self _ 0 _ _ _ (T.keep _ _ _ t0 fun b _ o e=>hk3 b o (hk b o e)) (loop _ rfl))
section
noncomputable def eO:Cm->CmpOp
 |.eq=>.Eq
 |.ne=>.NotEq
 |.lt=>.Lt
 |.le=>.LtE
 |.gt=>.Gt
 |.ge=>.GtE
 |.isin=>.In
 |.notin=>.NotIn
 |.jx=>.Is
 |.notN=>.IsNot
def iz(X:Cx)(op:CmpOp)(f:D->D->Option Bool):Prop:=
 ∃r,fG X (compareOp op) r/\∀(H:Hp)(x y:D)(k:Bool)(v u:V)(Q:VK),bJ X.K H x v->cR X.K H y u->f x y=some k->Q (.bl k) H->r v u H Q
theorem cR.int{H:Hp}{v:V}(h:cR K H (.int i) v):v=.int i:=by
 rcases h with h|⟨o,a,q,_⟩
 ·exact h
 ·cases o<;>cases q
def Bg{g:Int->Int->Bool}(ho:fG X (compareOp op) (Kl fun i j=>.bl (g i j)))(hf:∀x y k,f x y=some k->∃i j,x=.int i/\y=.int j/\k=g i j):iz X op f:=
 ⟨_,ho,fun H x y k v u Q Dx Dy e q=>by
  obtain⟨i,j,rfl,rfl,rfl⟩:=hf x y k e
  exact⟨i,j,Dx,Dy.int,q⟩⟩
def abd(hu:X.A.units+60<cLine):iz X .Eq (aJ .eq):=⟨_,Xd hu,fun H x y k v u Q Dx Dy e q=>by
 unfold aJ at e;dsimp only at e
 split at e
 ·rename_i h;cases e;exact⟨x,y,.inl Dx,Dy,h,q⟩
 ·cases e⟩
def aa6(hu:X.A.units+60<cLine):iz X .NotEq (aJ .ne):=⟨_,W6 hu,fun H x y k v u Q Dx Dy e q=>by
 unfold aJ at e;dsimp only at e
 split at e
 ·rename_i h;cases e;exact⟨x,y,.inl Dx,Dy,h,q⟩
 ·cases e⟩
def aa8:iz X .LtE (aJ .le):=Bg abC fun x y k e=>by
 cases x<;>cases y<;>(unfold aJ at e;simp at e)
 exact⟨_,_,rfl,rfl,e.symm⟩
def abb:iz X .GtE (aJ .ge):=Bg abE fun x y k e=>by
 cases x<;>cases y<;>(unfold aJ at e;simp at e)
 exact⟨_,_,rfl,rfl,e.symm⟩
def cR.Qk{H:Hp}{v:V}(h:cR K H (.tup xs) v):O1 K H xs v:=by
 rcases h with h|⟨o,a,q,_⟩
 ·obtain⟨a,vs,rfl,hq,l⟩:=bZ h
  exact⟨a,vs,rfl,.inr hq,l⟩
 ·cases o<;>cases q
def cR.JT{H:Hp}{v:V}(h:cR K H (.lst xs) v):O1 K H xs v:=by
 rcases h with h|⟨o,a,q,rfl,u,ha,hq⟩
 ·obtain⟨a,vs,rfl,hq,l⟩:=cP h
  exact⟨a,vs,rfl,.inl hq.sq,l⟩
 ·cases o<;>cases q
  obtain⟨vs,rfl,l⟩:=hq
  exact⟨a,vs,rfl,.inl (.inl (.inl ha)),l⟩
theorem cR.str{H:Hp}{v:V}(h:cR K H (.str x) v):v=.str x:=by
 rcases h with h|⟨o,a,q,_⟩
 ·exact h
 ·cases o<;>cases q
def Mr(x y:Str)(h:x.length=1):(!(Builtin.Str.occurrences y x 0 y.length 1).isEmpty)=aL (.str x) (signs y):=by
 obtain⟨cps⟩:=x
 obtain⟨l⟩:=cps
 have hl:=h
 match l,hl with
 |[k],_=>
  have:=PySem.StrLaws.found_one y k
  rw[this]
  unfold signs
  generalize y.cps.toList=cs
  induction cs with
  |nil=>rfl
  |cons z zs ih=>
   show decide _=(dR _ _||aL _ _)
   rw[<-ih]
   have e:dR (.str ⟨#[z]⟩) (.str ⟨#[k]⟩)=decide (k=z):=by
    simp only[dR]
    by_cases q:k=z
    ·subst q;simp
    ·have q':¬z=k:=fun e=>q e.symm
     simp[q,q']
   rw[e]
   by_cases q:k=z
   ·simp[q]
   ·simp[q]
def j9{kvs:List (Key×V)}(k:Key):(jF kvs k).isSome=aL (dJ k) (kvs.map fun p=>dJ p.1):=by
 induction kvs with
 |nil=>rfl
 |cons p r ih=>
  obtain⟨k',v⟩:=p
  show _=(dR _ _||aL _ _)
  rw[<-ih]
  have e:dR (dJ k') (dJ k)=decide (k'=k):=by
   cases k'<;>cases k<;>simp[dJ,dR,Bool.beq_eq_decide_eq]
  rw[e]
  by_cases q:k'=k
  ·subst q;simp[mQ]
  ·simp[q,mR]
def f9(h:keyOk x=true):∃k:Key,x=dJ k:=by
 cases x<;>simp[keyOk]at h
 ·exact⟨.inl _,rfl⟩
 ·exact⟨.inr _,rfl⟩
def lF{H:Hp}{v:V}(h:bJ K H (dJ k) v):v=kV k:=by
 cases k<;>exact h
noncomputable def Kg(neg:Bool):R2:=fun x y H Q=>∃a k kvs,y=.ref a/\x=kV k/\Rd H a (.dK kvs)/\Q (.bl (if neg then !(jF kvs k).isSome else(jF kvs k).isSome)) H
def K5(hu:X.A.units+1<cLine):fG X (compareOp .In) (Kg false):=by
 intro γ s σ H x y v u Q I rx ry h
 obtain⟨a,k,kvs,rfl,rfl,hd,q⟩:=h
 cases ry
 exact aga hu I ⟨kvs,k,hd,rfl,rfl⟩ rx fun s3 I3=>⟨.bl _,H,I3,rfl,q⟩
def yS(hu:X.A.units+1<cLine):fG X (compareOp .NotIn) (Kg true):=by
 intro γ s σ H x y v u Q I rx ry h
 obtain⟨a,k,kvs,rfl,rfl,hd,q⟩:=h
 cases ry
 exact Sq hu I ⟨kvs,k,hd,rfl,rfl⟩ rx fun s3 I3=>⟨.bl _,H,I3,rfl,q⟩
def lG{H:Hp}{v:V}(h:cR K H (.cG ks ds) v):∃a kvs,v=.ref a/\Rd H a (.dK kvs)/\ks=kvs.map (fun p=>dJ p.1)/\aq K H ds (kvs.map (·.2)):=by
 rcases h with h|⟨o,a,q,rfl,u,ha,hq⟩
 ·unfold bJ at h;obtain⟨a,o,kvs,e,r,k⟩:=h;exact⟨a,kvs,e,.inr ⟨o,r⟩,k⟩
 ·cases o<;>cases q
  obtain⟨kvs,rfl,k,l⟩:=hq
  exact⟨a,kvs,rfl,.inl ha,k,l⟩
noncomputable def abm(K:QQq)(neg:Bool):R2:=fun x y H Q=>∃a d k xs,x=.ref a/\y=.ref d/\Rd H d (.dS xs)/\(∀x∈xs,bU K H x.1 x.2.1)/\bU K H k a/\Q (.bl (if neg then !(zp k xs).isSome else(zp k xs).isSome)) H
def Xb(hu:X.A.units+2<cLine):fG X (compareOp .In) (abm X.K false):=by
 intro γ s σ H x y v u Q I rx ry h
 obtain⟨a,d,k,xs,rfl,rfl,hd,hk,ha,q⟩:=h
 cases rx
 cases ry
 exact ad6 hu I hd hk ha fun s3 I3=>⟨.bl _,H,I3,rfl,q⟩
def Hs(hu:X.A.units+2<cLine):fG X (compareOp .NotIn) (abm X.K true):=by
 intro γ s σ H x y v u Q I rx ry h
 obtain⟨a,d,k,xs,rfl,rfl,hd,hk,ha,q⟩:=h
 cases rx
 cases ry
 exact Qo hu I hd hk ha fun s3 I3=>⟨.bl _,H,I3,rfl,q⟩
def xr{H:Hp}{v:V}(h:cR K H (.fQ ks ds) v):∃a xs,v=.ref a/\Rd H a (.dS xs)/\ks=xs.map (fun x=>eX x.1)/\(∀x∈xs,bU K H x.1 x.2.1)/\aq K H ds (xs.map (·.2.2)):=by
 rcases h with h|⟨o,a,q,rfl,u,ha,hq⟩
 ·unfold bJ at h;obtain⟨a,o,xs,e,r,k⟩:=h;exact⟨a,xs,e,.inr ⟨o,r⟩,k⟩
 ·cases o<;>cases q
  obtain⟨xs,rfl,k⟩:=hq
  exact⟨a,xs,rfl,.inl ha,k⟩
def aa9(hu:X.A.units+60<cLine):iz X .In (aJ .isin):=
 ⟨_,(Xc hu).or ((K5 (by omega)).or (Hu.or (Xb (by omega)))),fun H x y k v u Q Dx Dy e q=>by
  cases y with
  |tup xs=>
   unfold aJ at e;dsimp only at e
   split at e
   ·rename_i h;cases e;exact .inl ⟨x,xs,Dx,Dy.Qk,h,q⟩
   ·cases e
  |lst xs=>
   unfold aJ at e;dsimp only at e
   split at e
   ·rename_i h;cases e;exact .inl ⟨x,xs,Dx,Dy.JT,h,q⟩
   ·cases e
  |cG ks vs=>
   unfold aJ at e;dsimp only at e
   split at e
   ·rename_i h
    cases e
    obtain⟨k,rfl⟩:=f9 h
    obtain⟨a,kvs,rfl,ha,rfl,l⟩:=lG Dy
    exact .inr (.inl ⟨a,k,kvs,rfl,lF Dx,ha,by simpa[j9]using q⟩)
   ·cases e
  |fQ ks vs=>
   unfold aJ at e;dsimp only at e
   split at e
   ·rename_i h
    cases e
    obtain⟨k,rfl⟩:=gA h
    obtain⟨a,rfl,ka⟩:=lU Dx
    obtain⟨d,xs,rfl,hd,rfl,hk,l⟩:=xr Dy
    exact .inr (.inr (.inr ⟨a,d,k,xs,rfl,rfl,hd,hk,ka,by rw[FP]at q;simpa using q⟩))
   ·cases e
  |str y=>
   cases x with
   |str x=>
    unfold aJ at e;dsimp only at e
    split at e
    ·rename_i h;cases e;exact .inr (.inr (.inl ⟨x,y,Dx,Dy.str,by rw[Mr x y h];exact q⟩))
    ·cases e
   |_=>unfold aJ at e;simp at e
  |_=>unfold aJ at e;simp at e⟩
noncomputable def abj(K:QQq):R2:=fun x y H Q=>∃a d k,x=.ref a/\y=.ref d/\Rd H d (.dK [])/\bU K H k a/\Q (.bl true) H
def Rc(hu:X.A.units+2<cLine):fG X (compareOp .NotIn) (abj X.K):=by
 intro γ s σ H x y v u Q I rx ry h
 obtain⟨a,d,k,rfl,rfl,hd,ha,q⟩:=h
 cases rx
 cases ry
 exact JZ hu I hd ha fun s3 I3=>⟨.bl _,H,I3,rfl,q⟩
def J5(hu:X.A.units+60<cLine):iz X .NotIn (aJ .notin):=
 ⟨_,(Ht hu).or ((yS (by omega)).or ((Hs (by omega)).or (Rc (by omega)))),fun H x y k v u Q Dx Dy e q=>by
  cases y with
  |tup xs=>
   unfold aJ at e;dsimp only at e
   split at e
   ·rename_i h;cases e;exact .inl ⟨x,xs,Dx,Dy.Qk,h,q⟩
   ·cases e
  |lst xs=>
   unfold aJ at e;dsimp only at e
   split at e
   ·rename_i h;cases e;exact .inl ⟨x,xs,Dx,Dy.JT,h,q⟩
   ·cases e
  |cG ks vs=>
   unfold aJ at e;dsimp only at e
   split at e
   ·rename_i h
    cases e
    obtain⟨k,rfl⟩:=f9 h
    obtain⟨a,kvs,rfl,ha,rfl,l⟩:=lG Dy
    exact .inr (.inl ⟨a,k,kvs,rfl,lF Dx,ha,by simpa[j9]using q⟩)
   ·split at e
    ·rename_i h
     rw[QUq,List.isEmpty_iff]at h
     cases e
     obtain⟨k,rfl⟩:=gA h.1
     obtain⟨a,rfl,ka⟩:=lU Dx
     obtain⟨d,kvs,rfl,ha,hk,l⟩:=lG Dy
     rw[h.2]at hk
     cases kvs with
     |nil=>exact .inr (.inr (.inr ⟨a,d,k,rfl,rfl,ha,ka,q⟩))
     |cons=>cases hk
    ·cases e
  |fQ ks vs=>
   unfold aJ at e;dsimp only at e
   split at e
   ·rename_i h
    cases e
    obtain⟨k,rfl⟩:=gA h
    obtain⟨a,rfl,ka⟩:=lU Dx
    obtain⟨d,xs,rfl,hd,rfl,hk,l⟩:=xr Dy
    exact .inr (.inr (.inl ⟨a,d,k,xs,rfl,rfl,hd,hk,ka,by rw[FP]at q;simpa using q⟩))
   ·cases e
  |_=>unfold aJ at e;simp at e⟩
end
section
open PySem.SeqAt
open PySem.AutoSeq1 (wpAny_loadPart')
open PySem.MeetsSeq PySem.MeetsSeq2 PySem.MeetsSeq3
inductive BoolsAre:List Value->List Bool->Prop
 |nil:BoolsAre [] []
 |cons (b:Bool) {vs:List Value} {bs:List Bool}:BoolsAre vs bs->BoolsAre (.bool b::vs) (b::bs)
theorem BoolsAre.length{bs:List Bool}(h:BoolsAre vs bs):vs.length=bs.length:=by
 induction h with
 |nil=>rfl
 |cons b _ ih=>simp[ih]
def vm x y xs ys:lK (x::xs) (y::ys)=if x=y then lK xs ys else(!x&&y):=rfl
def Fj:lK [] []=false:=rfl
def Fo y ys:lK [] (y::ys)=true:=rfl
def Rz x xs:lK (x::xs) []=false:=rfl
def uR(A:Around)(s:Shared)(a c:Bool)(prog:Program)(w:World)(E:QZq)(Q:QZq)(h:Q (.bool (!a&&c)) s):
  wpAny (model prog w) A (richCompare .Lt (.bool a) (.bool c)) Q E s:=
 (PyProof.Rows.lt_bool (by cases a<;>cases c<;>exact h))
def qM l b items items2 n n2 dd dd2 sl sl2 ns ms(hi:BoolsAre items.toList ns)(hj:BoolsAre items2.toList ms):
  Meets (Builtin.«tuple.__lt__» ⟨[.ref l,.ref b],[]⟩)
   (fun _ R s=>s.heap.get? l=some {cls:=.type "tuple",dict:=dd,data:=.seq items n,slots:=sl}/\s.heap.get? b=some {cls:=.type "tuple",dict:=dd2,data:=.seq items2 n2,slots:=sl2}/\
    R (.ok (.ret (.bool (lK ns ms)))) s):=
 .of_wp fun prog w A R s h=>by
  obtain⟨hp,g,d,tk,os⟩:=s;obtain⟨hl,hb,h⟩:=h
  have f2:=AutoSeq1.sub_tuple_tuple
  have z1:items.size=ns.length:=by rw[<-hi.length];simp
  have z2:items2.size=ms.length:=by rw[<-hj.length];simp
  wp_walk using wpAny_loadPart' hl,wpAny_loadPart' hb,wpAny_forIn_list _ (fun rest b s'=>b.1=none/\s'=⟨hp,g,d,tk,os⟩/\∃(vs ws:List Value)(ns' ms':List Bool),rest=vs.zip ws/\
   BoolsAre vs ns'/\BoolsAre ws ms'/\ns'.length+items2.size=ms'.length+items.size/\R (.ok (.ret (.bool (lK ns' ms')))) ⟨hp,g,d,tk,os⟩) _
  case turn=>
   rintro ⟨y,x⟩ rest b s' ⟨hb',rfl,vs,ws,ns',ms',hz,hvi,hwi,hlen,hR⟩
   cases hvi with
   |nil=>rw[List.zip_nil_left]at hz;cases hz
   |cons a hvi'=>
    cases hwi with
    |nil=>rw[List.zip_nil_right]at hz;cases hz
    |cons c hwi'=>
     rw[List.zip_cons_cons]at hz
     injection hz with hyx hrest
     injection hyx with hy hx
     subst hy hx
     rw[vm]at hR
     simp only[QBq]at hlen
     refine QKq ((SeqAt.EqAt.bool_bool (A:=A.in1) (s:=⟨hp,g,d,tk,os⟩) a c) prog w _ _ ?_)
     by_cases hac:a=c
     ·subst hac
      rw[if_pos rfl]at hR
      rw[beq_self_eq_true]
      wp_walk
      exact⟨rfl,rfl,_,_,_,_,hrest,hvi',hwi',by omega,hR⟩
     ·rw[if_neg hac]at hR
      wp_walk using (uR A.in1 ⟨hp,g,d,tk,os⟩ a c prog w)
      exact⟨_,rfl,by simpa using hR⟩
  case fin=>
   rintro ⟨b1,b2⟩ s' ⟨hb',rfl,vs,ws,ns',ms',hz,hvi,hwi,hlen,hR⟩
   simp only at hb'
   subst hb'
   have hv:lK ns' ms'=decide (items.size<items2.size):=by
    cases hvi with
    |nil=>
     cases hwi with
     |nil=>
      rw[Fj]
      exact(QEz (by omega)).symm
     |cons c hw=>
      simp only[List.length_nil,QBq]at hlen
      rw[Fo]
      exact(QFq (by omega)).symm
    |cons a hv=>
     cases hwi with
     |nil=>
      simp only[List.length_nil,QBq]at hlen
      rw[Rz]
      exact(QEz (by omega)).symm
     |cons c hw=>
      rw[List.zip_cons_cons]at hz
      cases hz
   rw[hv]at hR
   wp_walk
   exact⟨_,rfl,by simpa[Builtin.Tuple.tupleCompareSizes]using hR⟩
  case h=>
   exact⟨rfl,rfl,items.toList,items2.toList,ns,ms,rfl,hi,hj,by omega,h⟩
end
theorem gh{K:QQq}{H:Hp}:∀{ds:List D}{vs:List V}{us:List Value}{bs:List Bool},bools ds=some bs->aq K H ds vs->Vals vs us->BoolsAre us bs
 |[],vs,us,bs,e,l,r=>by
  cases e
  rw[aq.bj.mp l]at r
  cases r
  exact .nil
 |d::ds,vs,us,bs,e,l,r=>by
  obtain⟨v,w,rfl,h1,h2⟩:=aq.aG.mp l
  cases d with
  |bl b=>
   simp only[bools,QJz]at e
   obtain⟨bs',e1,rfl⟩:=e
   cases h1
   cases r with
   |cons r1 r2=>cases r1;exact .cons b (gh e1 h2 r2)
  |_=>cases e
section
variable{m m1 m2 m3:E}
noncomputable def aeX(K:QQq):R2:=fun x y H Q=>∃xs ys bs cs,bJ K H (.tup xs) x/\bJ K H (.tup ys) y/\bools xs=some bs/\bools ys=some cs/\Q (.bl (lK bs cs)) H
def W9(hu:X.A.units<cLine):fG X (compareOp .Lt) (aeX X.K):=by
 intro γ s σ H x y v u Q I rx ry h
 obtain⟨xs,ys,bs,cs,Dx,Dy,e1,e2,q⟩:=h
 obtain⟨a,vs,rfl,ha,la⟩:=bZ Dx
 obtain⟨b,ws,rfl,hb,lb⟩:=bZ Dy
 cases rx
 cases ry
 obtain⟨its,r1,p1,_⟩:=I.tuple ha
 obtain⟨its2,r2,p2,_⟩:=I.tuple hb
 obtain⟨⟨cls,dd,data,sl⟩,ho,hc,n,hd⟩:=id p1
 obtain⟨⟨cls2,dd2,data2,sl2⟩,ho2,hc2,n2,hd2⟩:=id p2
 subst hc hd hc2 hd2
 exact richCompare_meets_room (op:=.Lt) ⟨_,ho,rfl⟩ ⟨_,ho2,rfl⟩ PySem.F.slot_tuple_lt PySem.F.entry_tuple_lt (PySem.F.args_tuple_lt_2 _ _)
  (qM a b its.toArray its2.toArray n n2 dd dd2 sl sl2 bs cs (by simpa using gh e1 la r1) (by simpa using gh e2 lb r2))
  ⟨ho,ho2,show Value.bool _≠Value.notImplemented/\EP X γ σ Q _ s from⟨(fun x=>nomatch x),⟨.bl _,H,I,rfl,q⟩⟩⟩ hu
theorem cR.tup{K:QQq}{H:Hp}{xs:List D}{v:V}(h:cR K H (.tup xs) v):bJ K H (.tup xs) v:=by
 rcases h with h|⟨o,a,q,_⟩
 ·exact h
 ·cases o<;>cases q
def aa7(hu:X.A.units+60<cLine):iz X .Lt (aJ .lt):=
 ⟨_,abB.or (W9 (by omega)),fun H x y k v u Q Dx Dy e q=>by
  cases x with
  |int i=>
   cases y with
   |int j=>cases e;exact .inl ⟨i,j,Dx,Dy.int,q⟩
   |_=>cases e
  |tup xs=>
   cases y with
   |tup ys=>
    unfold aJ at e;dsimp only[ltD]at e
    cases e1:bools xs with
    |none=>rw[e1]at e;cases e
    |some bs=>
     cases e2:bools ys with
     |none=>rw[e1,e2]at e;cases e
     |some cs=>
      rw[e1,e2]at e
      cases e
      exact .inr ⟨xs,ys,bs,cs,Dx,Dy.tup,e1,e2,q⟩
   |_=>cases e
  |_=>cases y<;>cases e⟩
def aba:iz X .Gt (aJ .gt):=Bg abD fun x y k e=>by
 cases x<;>cases y<;>(unfold aJ at e;simp at e)
 exact⟨_,_,rfl,rfl,e.symm⟩
def Gh{H:Hp}{v:V}(h:bJ K H d v):decide (v=.non)=bf d:=by
 cases d<;>unfold bJ at h<;>first
  |(obtain⟨a,_,rfl,_⟩:=h;rfl)
  |(obtain⟨a,_,_,rfl,_⟩:=h;rfl)
  |(subst h;rfl)
def Wo:iz X .Is (aJ .jx):=⟨_,Xa,fun H x y k v u Q Dx Dy e q=>by
 cases y<;>(unfold aJ at e;dsimp only at e;cases e)
 rcases Dy with h|⟨o,a,z,_⟩
 ·exact⟨h,by rw[Gh Dx];exact q⟩
 ·cases o<;>cases z⟩
def QF:iz X .IsNot (aJ .notN):=⟨_,Rb,fun H x y k v u Q Dx Dy e q=>by
 cases y<;>(unfold aJ at e;dsimp only at e;cases e)
 rcases Dy with h|⟨o,a,z,_⟩
 ·exact⟨h,by rw[Gh Dx];exact q⟩
 ·cases o<;>cases z⟩
def oH(hu:X.A.units+60<cLine)o:iz X (eO o) (aJ o):=by
 cases o with
 |eq=>exact abd hu
 |ne=>exact aa6 hu
 |lt=>exact aa7 hu
 |le=>exact aa8
 |gt=>exact aba
 |ge=>exact abb
 |isin=>exact aa9 hu
 |notin=>exact J5 hu
 |jx=>exact Wo
 |notN=>exact QF
def dB{env:Ev}{H:Hp}{d:D}(S:Sat K env σ H)(h:aZ k env=some d):∃v,σ[k]? =some (some v)/\cR K H d v:=by
 unfold aZ at h
 cases e:env[k]? with
 |none=>rw[e]at h;cases h
 |some s=>
  rw[e]at h
  have q:=S.sl k s e
  cases s with
  |un=>cases h
  |val d'=>cases h;obtain⟨v,e1,e2⟩:=q;exact⟨v,bV e1,.inl e2⟩
  |own xs=>cases h;obtain⟨a,e1,e2⟩:=q;exact⟨.ref a,bV e1,.inr ⟨xs,a,rfl,rfl,e2⟩⟩
  |bor xs=>cases h;obtain⟨a,e1,e2⟩:=q;exact⟨.ref a,bV e1,.inr ⟨xs,a,rfl,rfl,e2⟩⟩
structure iT(X:Cx)(i:Nat)(x:Str):Prop where
 at_:X.N[i]? =some x
 vis:Vis X.env.scope x
 nd:(x==("__debug__":Str))=false
 nc:(x==("__classdict__":Str))=false
def iT.pe{x:Str}(h:iT X i x):PE X (.Name x pos) (JD i):=KJ h.at_ h.vis h.nd h.nc
def iT.ge{x:Str}(h:iT X i x):GE X W c (.var i) (.Name x pos):=Yg h.at_ h.vis h.nd h.nc
theorem Gp(R:iz X (eO o) (aJ o))(hb:GE X W c m2 b)(hv:∀k,m2.aB=some k->∃x p,b=.Name x p/\iT X k x):
  ∃r tb,fG X (compareOp (eO o)) r/\PE X b tb/\∀env σ H Q,tM X.K W env (ev c (.cmp o m1 m2) env) σ H Q->Zo r (aD X W c m1) tb σ H Q:=by
 obtain⟨r,ho,rule⟩:=R
 cases q:m2.aB with
 |some k=>
  obtain⟨x,p,rfl,nm⟩:=hv k q
  refine⟨r,JD k,ho,nm.pe,fun env σ H Q h=>?_⟩
  simp only[v_7,q]at h
  refine⟨env,aR h fun d δ v H1 N1 D1 h1=>?_⟩
  obtain⟨z,ez,S,q3⟩:=cg h1
  cases e1:aZ k δ with
  |none=>rw[e1]at ez;cases ez
  |some d2=>
   rw[e1]at ez
   simp only[Option.bind]at ez
   obtain⟨u,eu,D2⟩:=dB S e1
   cases e2:aJ o d d2 with
   |none=>rw[e2]at ez;cases ez
   |some k2=>
    rw[e2]at ez
    cases ez
    exact⟨u,eu,rule H1 d d2 k2 v u Q D1 D2 e2 (q3 _ H1 (Nx.refl S) rfl)⟩
 |none=>
  refine⟨r,aD X W c m2,ho,hb.d,fun env σ H Q h=>?_⟩
  simp only[v_7,q]at h
  refine⟨env,aR h fun d δ v H1 N1 D1 h1=>⟨δ,aR h1 fun d2 ε u H2 N2 D2 h2=>?_⟩⟩
  obtain⟨z,ez,S,q3⟩:=cg h2
  cases e2:aJ o d d2 with
  |none=>rw[e2]at ez;cases ez
  |some k2=>
   rw[e2]at ez
   cases ez
   exact rule H2 d d2 k2 v u Q (D1.mono N2.pers) (.inl D2) e2 (q3 _ H2 (Nx.refl S) rfl)
def Yu(R:iz X (eO o) (aJ o))(ha:GE X W c m1 a)(hb:GE X W c m2 b)(hv:∀k,m2.aB=some k->∃x p,b=.Name x p/\iT X k x)
  (hm:behindInMarks (eO o) b=false):GE X W c (.cmp o m1 m2) (.Compare a [eO o] [b] pos):=by
 intro env
 obtain⟨r,tb,ho,pb,imp⟩:=Gp R hb hv
 exact PE.imp (Q4 ho ha.d pb hm) fun σ H Q h=>imp env σ H Q h
theorem yj{env:Ev}{σ:St}{Q:Bool->Hp->Prop}(h:tT K W env r σ H Q)(hb:∀x env',r=.ok x env'->∃b,x=.val (.bl b)):
  tM K W env r σ H (fun v H'=>∃k,v=.bl k/\Q k H'):=by
 obtain⟨S,h⟩:=h
 refine⟨S,?_⟩
 cases r with
 |bad=>exact h
 |exc c δ=>exact h
 |ok x δ=>
  obtain⟨b,rfl⟩:=hb x δ rfl
  obtain⟨d,k,e1,e2,q⟩:=h
  cases e1
  cases e2
  exact fun v H' N z=>⟨b,z,q H' N⟩
def kY{o:Option Bool}(h:lift env (o.map fun q=>Rv.val (.bl q))=.ok x env'):∃b,x=.val (.bl b):=by
 cases o with
 |none=>cases h
 |some b=>cases h;exact⟨b,rfl⟩
def zN{env env':Ev}(h:ev c (.cmp o m1 m2) env=.ok x env'):∃b,x=.val (.bl b):=by
 simp only[v_7]at h
 cases r:ev c m1 env with
 |bad=>rw[r]at h;cases h
 |exc k δ=>rw[r]at h;cases h
 |ok x1 δ=>
  rw[r]at h
  have go:∀d,(match m2.aB with
    |some k=>lift δ ((aZ k δ).bind fun d'=>(aJ o d d').map fun q=>Rv.val (.bl q))
    |none=>(ev c m2 δ).au fun y σ=>lift σ ((aJ o d y).map fun q=>Rv.val (.bl q)))=.ok x env'->∃b,x=.val _:=fun d h=>by
   cases q:m2.aB with
   |some k=>
    simp only[q]at h
    cases e:aZ k δ with
    |none=>simp only[e,Option.bind]at h;cases h
    |some d'=>simp only[e,Option.bind]at h;exact kY h
   |none=>
    simp only[q]at h
    cases r2:ev c m2 δ with
    |bad=>rw[r2]at h;cases h
    |exc k ε=>rw[r2]at h;cases h
    |ok x2 ε=>
     rw[r2]at h
     cases x2 with
     |val d2=>exact kY h
     |new xs=>exact kY h
     |ref i=>cases h
  cases x1 with
  |val d=>exact go d h
  |new xs=>exact go xs.d h
  |ref i=>cases h
def X6(R:iz X (eO o) (aJ o))(ha:GE X W c m1 a)(hb:GE X W c m2 b)(hv:∀k,m2.aB=some k->∃x p,b=.Name x p/\iT X k x)
  (hm:behindInMarks (eO o) b=false):GT X W c (.cmp o m1 m2) (.Compare a [eO o] [b] pos):=by
 obtain⟨r,tb,ho,pb,imp⟩:=Gp R hb hv
 exact PT.imp (QQ ho ha.d pb hm) fun σ H Q⟨env,h⟩=>imp env σ H _ (yj h fun x env' e=>zN e)
theorem vN(R1:iz X (eO π) (aJ π))(R2:iz X (eO υ) (aJ υ)):
  ∃r r',fG X (compareOp (eO π)) r/\fG X (compareOp (eO υ)) r'/\∀env σ H Q,tM X.K W env (ev c (.chain π υ m1 m2 m3) env) σ H Q->Av r r' (aD X W c m1) (aD X W c m2) (aD X W c m3) σ H Q:=by
 obtain⟨r,ho,rule⟩:=R1
 obtain⟨r',ho',rule'⟩:=R2
 refine⟨r,r',ho,ho',fun env σ H Q h=>?_⟩
 refine⟨env,aR h fun d δ v H1 N1 D1 h1=>⟨δ,aR h1 fun d2 ε u H2 N2 D2 h2=>?_⟩⟩
 cases e2:aJ π d d2 with
 |none=>rw[e2]at h2;exact h2.2.elim
 |some k=>
  rw[e2]at h2
  simp only[lift,Out.bind]at h2
  refine rule H2 d d2 k v u _ (D1.mono N2.pers) (.inl D2) e2 ⟨k,rfl,?_⟩
  cases k with
  |false=>
   exact dU h2 rfl
  |true=>
   refine⟨ε,aR h2 fun d3 env3 w H3 N3 D3 h3=>?_⟩
   obtain⟨z,ez,S,q3⟩:=cg h3
   cases e3:aJ υ d2 d3 with
   |none=>rw[e3]at ez;cases ez
   |some k2=>
    rw[e3]at ez
    cases ez
    exact rule' H3 d2 d3 k2 u w Q (D2.mono N3.pers) (.inl D3) e3 (q3 _ H3 (Nx.refl S) rfl)
def uz{env env':Ev}(h:ev c (.chain π υ m1 m2 m3) env=.ok x env'):∃b,x=.val (.bl b):=by
 have val:∀{r:Out Rv}{f:D->Ev->Out Rv},r.au f=.ok x env'->∃d σ,f d σ=.ok x env':=fun{r f}q=>by
  cases r with
  |bad=>cases q
  |exc k e1=>cases q
  |ok y e1=>
   cases y with
   |val d=>exact⟨d,e1,q⟩
   |new xs=>exact⟨_,e1,q⟩
   |ref i=>cases q
 obtain⟨d1,ξ,h⟩:=val h
 obtain⟨d2,ρ,h⟩:=val h
 cases e:aJ π d1 d2 with
 |none=>rw[e]at h;cases h
 |some k=>
  rw[e]at h
  simp only[lift,Out.bind]at h
  cases k with
  |false=>cases h;exact⟨false,rfl⟩
  |true=>
   obtain⟨d3,σ3,h⟩:=val h
   exact kY h
def MT{d:Expr}(R1:iz X (eO π) (aJ π))(R2:iz X (eO υ) (aJ υ))(ha:GE X W c m1 a)(hb:GE X W c m2 b)(hd:GE X W c m3 d)(hm:lastMarks [eO π,eO υ] [b,d]=false):
  GE X W c (.chain π υ m1 m2 m3) (.Compare a [eO π,eO υ] [b,d] pos):=by
 obtain⟨r,r',ho,ho',imp⟩:=vN R1 R2
 exact fun env=>PE.imp (K3 ho ho' ha.d hb.d hd.d hm) fun σ H Q h=>imp env σ H Q h
def Mv{d:Expr}(R1:iz X (eO π) (aJ π))(R2:iz X (eO υ) (aJ υ))(ha:GE X W c m1 a)(hb:GE X W c m2 b)(hd:GE X W c m3 d)(hm:lastMarks [eO π,eO υ] [b,d]=false):
  GT X W c (.chain π υ m1 m2 m3) (.Compare a [eO π,eO υ] [b,d] pos):=by
 obtain⟨r,r',ho,ho',imp⟩:=vN R1 R2
 exact PT.imp (Kq ho ho' ha.d hb.d hd.d hm) fun σ H Q⟨env,h⟩=>imp env σ H _ (yj h fun x env' e=>uz e)
def aaG(K:QQq)(ta:TE):TE:=fun σ H Q=>ta σ H fun x H1=>∃k,OD K x H1 k/\Q (.bl (!k)) H1
def QZ(ha:PE X a ta):PE X (.UnaryOp .Not a pos) (aaG X.K ta):=by
 intro γ s σ H Q I h
 exact PyProof.Rows.UnaryOp_ (b7 (ha γ s σ H _ I h) fun v s1⟨x,H1,I1,r1,k,t,q1⟩=>PyProof.Rows.not_of (b7 (Jw γ s1 σ H1 x v _ I1 r1 ⟨k,t,q1⟩) fun b s2⟨H2,I2,q2⟩=>⟨.bl (!b),H2,I2,rfl,q2⟩))
def Ym(ha:GE X W c m1 a):GE X W c (.not m1) (.UnaryOp .Not a pos):=fun env=>
 PE.imp (QZ ha.d) fun σ H Q q=>⟨env,yt (yq (by simpa only[PQ]using q) fun k δ H1 N q1=>dU (d:=.bl (!k)) q1 rfl)⟩
def X4(ha:GT X W c m1 a):GT X W c (.not m1) (.UnaryOp .Not a pos):=by
 refine PT.imp (WD ha) fun σ H Q⟨env,q⟩=>⟨env,q.1,?_⟩
 have q2:=q.2
 simp only[PQ]at q2
 cases r:ev c m1 env with
 |bad=>rw[r]at q2;exact q2
 |exc k δ=>rw[r]at q2;exact q2
 |ok x δ=>
  rw[r]at q2
  have go:∀d,x.jj=some d->(match (match gY d with|some b=>Out.ok (Rv.val (.bl (!b))) δ|none=>.bad)with
    |.ok x env'=>∃d b,x.jj=some d/\gY d=some b/\∀H',Nx X.K env σ H env' H'->Q b H'
    |.exc c env'=>∀H',Nx X.K env σ H env' H'->W c env' σ H'
    |.bad=>False)->∃d b,x.jj=some d/\gY d=some b/\∀H',Nx X.K env σ H δ H'->Q (!b) H':=fun d ed z=>by
   cases t:gY d with
   |none=>rw[t]at z;exact z.elim
   |some b=>
    rw[t]at z
    obtain⟨d',b',e1,e2,z⟩:=z
    cases e1
    cases e2
    exact⟨d,b,ed,t,z⟩
  cases x with
  |val d=>exact go d rfl q2
  |new o=>exact go o.d rfl q2
  |ref i=>exact q2.elim
def R6(ha:GE X W c m1 a):GE X W c (.and (.cons m1 .nil)) (.BoolOp .And [a] pos):=fun env=>by
 have:=KR (op:=.And) (pos:=pos) (ha env)
 simpa only[Zi,gW]using this
def Yl(ha:GE X W c m1 a):GE X W c (.or (.cons m1 .nil)) (.BoolOp .Or [a] pos):=fun env=>by
 have:=KR (op:=.Or) (pos:=pos) (ha env)
 simpa only[GD,nD]using this
end
def aM(X:Cx)(W:Wi)(c:Cf)(m:E):TE:=fun σ H Q=>∃env,tM X.K W env (ev c m env) σ H Q
def TX{W:Wi}{σ:St}{r:Out Rv}(h:tT K W env r σ H Q)(N:Nx K env σ H δ H1):tT K W δ r σ H1 Q:=by
 obtain⟨_,h⟩:=h
 refine⟨N.eV,?_⟩
 cases r with
 |bad=>exact h
 |exc c ε=>exact fun H' N'=>h H' (N.trans N')
 |ok x ε=>
  obtain⟨d,b,e1,e2,q⟩:=h
  exact⟨d,b,e1,e2,fun H' N'=>q H' (N.trans N')⟩
section
variable{es rest:List Expr}
def GE.am(h:GE X W c m e):PE X e (aM X W c m):=fun γ s σ H Q I⟨env,q⟩=>h env γ s σ H Q I q
def Yv(ha:GE X W c m1 a)(hb:GE X W c (.and (.cons m2 m3)) (.BoolOp .And (b::rest) pos)):GE X W c (.and (.cons m1 (.cons m2 m3))) (.BoolOp .And (a::b::rest) pos):=by
 intro env
 refine PE.imp (WY ha.d hb.am) fun σ H Q q=>?_
 refine⟨env,aR q fun d δ v H1 N1 D1 q1=>?_⟩
 cases d with
 |bl k=>
  refine⟨k,D1,?_⟩
  cases k with
  |true=>rw[if_pos rfl];exact⟨δ,by simpa only[Zi,gW]using q1⟩
  |false=>rw[if_neg Qjz];exact dU q1 rfl
 |_=>exact q1.2.elim
def ace(ha:GE X W c m1 a)(hb:GE X W c (.or (.cons m2 m3)) (.BoolOp .Or (b::rest) pos)):GE X W c (.or (.cons m1 (.cons m2 m3))) (.BoolOp .Or (a::b::rest) pos):=by
 intro env
 refine PE.imp (abw ha.d hb.am) fun σ H Q q=>?_
 refine⟨env,aR q fun d δ v H1 N1 D1 q1=>?_⟩
 cases d with
 |bl k=>
  refine⟨k,D1,?_⟩
  cases k with
  |true=>rw[if_pos rfl];exact dU q1 rfl
  |false=>rw[if_neg Qjz];exact⟨δ,by simpa only[GD,nD]using q1⟩
 |_=>exact q1.2.elim
def GW(X:Cx)(W:Wi)(c:Cf)(m:E)(e:Expr):Prop:=PW X e (aT X W c m)
def PW.imp(h:PW X e t)(i:∀σ H Q,t' σ H Q->t σ H Q):PW X e t':=fun wh γ s σ H Q I q=>h wh γ s σ H Q I (i σ H Q q)
def GW.t(h:GW X W c m e):GT X W c m e:=PW.pt h
theorem ym{env:Ev}{σ:St}{Q R:Bool->Hp->Prop}(h:tT K W env (r.au f) σ H Q)
  (hf:∀d δ,(∀k,d≠ .bl k)->f d δ=.bad)
  (k:∀b δ H1,Nx K env σ H δ H1->tT K W δ (f (.bl b) δ) σ H1 Q->R b H1):tT K W env r σ H R:=by
 have step:∀d δ x,x.jj=some d->r=.ok x δ->∃b,gY d=some b/\∀H1,Nx K env σ H δ H1->R b H1:=fun d δ x ex er=>by
  subst er
  have h':tT K W env (f d δ) σ H Q:=by
   cases x with
   |val d'=>cases ex;exact h
   |new xs=>cases ex;exact h
   |ref i=>cases ex
  by_cases hb:∃b,d=.bl b
  ·obtain⟨b,rfl⟩:=hb
   exact⟨b,rfl,fun H1 N=>k b δ H1 N (TX h' N)⟩
  ·rw[hf d δ fun b e=>hb ⟨b,e⟩]at h'
   exact h'.2.elim
 refine⟨h.1,?_⟩
 cases r with
 |bad=>exact h.2
 |exc c δ=>exact h.2
 |ok x δ=>
  cases x with
  |val d=>obtain⟨b,e,q⟩:=step d δ _ rfl rfl;exact⟨d,b,rfl,e,q⟩
  |new xs=>obtain⟨b,e,q⟩:=step (xs.d) δ _ rfl rfl;exact⟨xs.d,b,rfl,e,q⟩
  |ref i=>exact h.2.elim
def RP(ha:GT X W c m1 a):GW X W c (.and (.cons m1 .nil)) (.BoolOp .And [a] pos):=PW.imp (QM ha) fun σ H Q⟨env,q⟩=>⟨env,by simpa only[Zi,gW]using q⟩
def X3(ha:GT X W c m1 a):GW X W c (.or (.cons m1 .nil)) (.BoolOp .Or [a] pos):=PW.imp (Wx ha) fun σ H Q⟨env,q⟩=>⟨env,by simpa only[GD,nD]using q⟩
def X7(ha:GT X W c m1 a)(hb:GW X W c (.and (.cons m2 m3)) (.BoolOp .And (b::rest) pos)):GW X W c (.and (.cons m1 (.cons m2 m3))) (.BoolOp .And (a::b::rest) pos):=by
 refine PW.imp (Wy ha hb) fun σ H Q⟨env,q⟩=>⟨env,?_⟩
 refine ym q (fun d δ hd=>?_) fun k δ H1 N q1=>?_
 ·cases d with
  |bl k=>exact absurd rfl (hd k)
  |_=>rfl
 ·cases k with
  |true=>rw[if_pos rfl];exact⟨δ,by simpa only[Zi,gW]using q1⟩
  |false=>
   obtain⟨d,k',e1,e2,q3⟩:=q1.2
   cases e1
   cases e2
   exact q3 H1 (Nx.refl q1.1)
def ab9(ha:GT X W c m1 a)(hb:GW X W c (.or (.cons m2 m3)) (.BoolOp .Or (b::rest) pos)):GW X W c (.or (.cons m1 (.cons m2 m3))) (.BoolOp .Or (a::b::rest) pos):=by
 refine PW.imp (abq ha hb) fun σ H Q⟨env,q⟩=>⟨env,?_⟩
 refine ym q (fun d δ hd=>?_) fun k δ H1 N q1=>?_
 ·cases d with
  |bl k=>exact absurd rfl (hd k)
  |_=>rfl
 ·cases k with
  |false=>rw[if_neg Qjz];exact⟨δ,by simpa only[GD,nD]using q1⟩
  |true=>
   obtain⟨d,k',e1,e2,q3⟩:=q1.2
   cases e1
   cases e2
   exact q3 H1 (Nx.refl q1.1)
def Yp(ht:GT X W c m1 t)(ha:GE X W c m2 a)(hb:GE X W c m3 b):GE X W c (.ite m1 m2 m3) (.IfExp t a b pos):=by
 intro env
 refine PE.imp (KZ ht ha.am hb.am) fun σ H Q q=>?_
 refine⟨env,yq q fun k δ H1 N q1=>?_⟩
 cases k with
 |true=>rw[if_pos rfl]at q1⊢;exact⟨δ,q1⟩
 |false=>rw[if_neg Qjz]at q1⊢;exact⟨δ,q1⟩
def Ds{i:Int}{K:QQq}{vs:List V}(h:at? xs i=some d)(l:aq K H xs vs):∃v,YQ vs i=some v/\bJ K H d v:=by
 unfold at? at h
 cases e:ix? xs.length i with
 |none=>rw[e]at h;cases h
 |some j=>
  rw[e]at h
  obtain⟨v,q1,q2⟩:=l.get (h)
  refine⟨v,?_,q2⟩
  unfold YQ
  have:RD vs.length i=some j:=by
   unfold ix? at e
   unfold RD
   rw[<-l.length]
   by_cases h0:i<0
   ·simp only[h0,if_true]at e
    split at e
    ·rename_i hc
     cases e
     rw[if_neg (by omega),if_pos (by omega)]
    ·cases e
   ·simp only[h0,if_false]at e
    split at e
    ·rename_i hc
     cases e
     rw[if_pos (by omega),if_pos (by omega)]
    ·cases e
  rw[this]
  exact q1
theorem oU{K:QQq}{H:Hp}(k:Key):∀{kvs:List (Key×V)}{ds:List D}{d:D},cN (dJ k) (kvs.map fun p=>dJ p.1) ds=some d->aq K H ds (kvs.map (·.2))->∃v,jF kvs k=some v/\bJ K H d v
 |[],ds,d,h,_=>by cases h
 |(k',v)::r,ds,d,h,l=>by
  rw[Qyz]at h l
  cases ds with
  |nil=>obtain⟨⟩:=aq.bj.mp l
  |cons d' ds=>
   obtain⟨w,ws,e,h1,h2⟩:=aq.aG.mp l
   cases e
   have e:dR (dJ k') (dJ k)=decide (k'=k):=by
    cases k'<;>cases k<;>simp[dJ,dR,Bool.beq_eq_decide_eq]
   simp only[cN,e]at h
   by_cases q:k'=k
   ·simp only[q,decide_true,if_true]at h
    cases h
    exact⟨v,mQ q,h1⟩
   ·simp only[q,decide_false,Qxq,if_false]at h
    obtain⟨u,q1,q2⟩:=oU k h h2
    exact⟨u,by rw[mR q];exact q1,q2⟩
noncomputable def abk:R2:=fun x y H Q=>∃a k kvs v,x=.ref a/\y=kV k/\Rd H a (.dK kvs)/\jF kvs k=some v/\Q v H
def XJ(hu:X.A.units+1<cLine):Ji X abk:=by
 intro value slice γ s σ H x y v u Q I rx ry h hs
 obtain⟨a,k,kvs,w,rfl,rfl,hd,hv,q⟩:=h
 cases rx
 have g:uC H a (kV k) _:=⟨kvs,k,hd,rfl,hv.symm⟩
 exact PyProof.Rows.tail_any (zP I g) PySem.F.slot_dict_getitem.lookup (IK hu I g ry fun w' s3 I3 rw'=>⟨w,H,I3,rw',q⟩) hs
noncomputable def Kd(K:QQq):R2:=fun x y H Q=>∃d a k xs v,x=.ref d/\y=.ref a/\Rd H d (.dS xs)/\(∀x∈xs,bU K H x.1 x.2.1)/\bU K H k a/\zp k xs=some v/\Q v H
def ab5(hu:X.A.units+2<cLine):Ji X (Kd X.K):=by
 intro value slice γ s σ H x y v u Q I rx ry h hs
 obtain⟨d,a,k,xs,w,rfl,rfl,hd,hk,ka,hv,q⟩:=h
 cases rx
 cases ry
 obtain⟨ys,_,dd,_⟩:=lE I hd hk
 exact PyProof.Rows.tail_any dd.typeIs PySem.F.slot_dict_getitem.lookup (Hb hu I hd hk ka hv fun u s3 I3 ru=>⟨w,H,I3,ru,q⟩) hs
def abl(K:QQq):R2:=fun x y H Q=>Wv K x y H Q\/Wu K x y H Q\/abk x y H Q\/Kd K x y H Q
def LR(hu:X.A.units+2<cLine):Ji X (abl X.K):=Fz.or (LK.or ((XJ (by omega)).or (ab5 hu)))
def vJ{H:Hp}{v u:V}(D1:cR K H d v)(D2:bJ K H y u)(e:getD d y=some z)(q:∀w,bJ K H z w->Q w H):abl K v u H Q:=by
 cases d with
 |tup xs=>
  cases y with
  |int i=>
   obtain⟨a,vs,rfl,hq,l⟩:=bZ D1.tup
   obtain⟨w,e1,e2⟩:=Ds e l
   exact .inr (.inl ⟨a,vs,i,w,rfl,D2,hq,e1,q w e2⟩)
  |_=>cases e
 |lst xs=>
  cases y with
  |int i=>
   obtain⟨a,vs,rfl,hq,l⟩:=D1.JT
   rcases hq with hq|hq
   ·obtain⟨w,e1,e2⟩:=Ds e l
    exact .inl ⟨a,vs,i,w,rfl,D2,hq,e1,q w e2⟩
   ·obtain⟨w,e1,e2⟩:=Ds e l
    exact .inr (.inl ⟨a,vs,i,w,rfl,D2,hq,e1,q w e2⟩)
  |_=>cases e
 |cG ks ds=>
  have e':(if keyOk y=true then cN y ks ds else none)=some z:=by cases y<;>exact e
  split at e'
  ·rename_i hk
   obtain⟨k,rfl⟩:=f9 hk
   obtain⟨a,kvs,rfl,ha,rfl,l⟩:=lG D1
   obtain⟨w,e1,e2⟩:=oU k e' l
   exact .inr (.inr (.inl ⟨a,k,kvs,w,rfl,lF D2,ha,e1,q w e2⟩))
  ·cases e'
 |fQ ks ds=>
  have e':(if ik y=true then cN y ks ds else none)=some z:=by cases y<;>exact e
  split at e'
  ·rename_i hk
   obtain⟨k,rfl⟩:=gA hk
   obtain⟨a,rfl,ka⟩:=lU D2
   obtain⟨d,xs,rfl,hd,rfl,hks,l⟩:=xr D1
   obtain⟨w,e1,e2⟩:=Fb k e' l
   exact .inr (.inr (.inr ⟨d,a,k,xs,w,rfl,rfl,hd,hks,ka,e1,q w e2⟩))
  ·cases e'
 |_=>cases y<;>cases e
def Yr(hu:X.A.units+2<cLine)(ha:GE X W c m1 a)(hb:GE X W c m2 b)(hv:∀k,m1.aB=some k->∃x p,a=.Name x p/\iT X k x)(hs:xV b):GE X W c (.idx m1 m2) (.Subscript a b pos):=by
 intro env
 cases q:m1.aB with
 |some k=>
  obtain⟨x,p,rfl,nm⟩:=hv k q
  refine PE.imp (Uq (LR hu) nm.pe hb.d hs) fun σ H Q h=>?_
  simp only[Jr,q]at h
  cases e0:aZ k env with
  |none=>rw[e0]at h;exact h.2.elim
  |some d0=>
   rw[e0]at h
   obtain⟨u,eu,_⟩:=dB h.1 e0
   refine⟨u,eu,env,aR h fun d δ v H1 N1 D1 h1=>?_⟩
   obtain⟨z,ez,S,q3⟩:=cg h1
   cases e1:aZ k δ with
   |none=>rw[e1]at ez;cases ez
   |some d2=>
    rw[e1]at ez
    simp only[Option.bind]at ez
    obtain⟨u',eu',D2⟩:=dB S e1
    rw[eu]at eu'
    cases eu'
    cases e2:getD d2 d with
    |none=>rw[e2]at ez;cases ez
    |some w=>
     rw[e2]at ez
     cases ez
     exact vJ D2 D1 e2 fun w' hw=>q3 w' H1 (Nx.refl S) hw
 |none=>
  refine PE.imp (Uq (LR hu) ha.d hb.d hs) fun σ H Q h=>?_
  simp only[Jr,q]at h
  refine⟨env,aR h fun d δ v H1 N1 D1 h1=>⟨δ,aR h1 fun d2 ε u H2 N2 D2 h2=>?_⟩⟩
  obtain⟨z,ez,S,q3⟩:=cg h2
  cases e2:getD d d2 with
  |none=>rw[e2]at ez;cases ez
  |some w=>
   rw[e2]at ez
   cases ez
   exact vJ (.inl (D1.mono N2.pers)) D2 e2 fun w' hw=>q3 w' H2 (Nx.refl S) hw
end
structure Nz(K:QQq)(env:Ev)(σ:St)(H:Hp)(env':Ev)(ζ:St)(H':Hp):Prop where
 eV:Sat K env' ζ H'
 sub:∀(i:Nat)a,aQ env' ζ i a->aQ env σ i a\/H a=none
 pers:bN H H'
 keep:∀b u,H b=some u->(∀i,¬aQ env σ i b)->H' b=some u
 dom:∀b,H' b=none->H b=none
 bors:∀(i:Nat)xs,env[i]? =some (.bor xs)->(∃ys,env'[i]? =some (.bor ys))/\ζ[i]? =σ[i]?
section
theorem Nx.z(N:Nx K env σ H δ H1):Nz K env σ H δ σ H1:=⟨N.eV,fun i a z=>.inl (N.sub i a z),N.pers,N.keep,N.dom,fun i xs e=>⟨N.bors i xs e,rfl⟩⟩
theorem Nz.refl(S:Sat K env σ H):Nz K env σ H env σ H:=(Nx.refl S).z
theorem Nz.trans(a:Nz K env σ H δ ξ H1)(b:Nz K δ ξ H1 ε ρ H2):Nz K env σ H ε ρ H2 where
 eV:=b.eV
 sub:=fun i c z=>by
  rcases b.sub i c z with q|q
  ·exact a.sub i c q
  ·exact .inr (a.dom c q)
 pers:=a.pers.trans b.pers
 keep:=fun c vs z n=>b.keep c vs (a.keep c vs z n) fun i w=>by
  rcases a.sub i c w with q|q
  ·exact n i q
  ·rw[q]at z;cases z
 dom:=fun c z=>a.dom c (b.dom c z)
 bors:=fun i xs e=>by
  obtain⟨⟨ys,e1⟩,s1⟩:=a.bors i xs e
  obtain⟨q,s2⟩:=b.bors i ys e1
  exact⟨q,s2.trans s1⟩
noncomputable def O2(K:QQq)(env:Ev)(σ:St)(H H':Hp):Rv->V->Prop
 |.val d,v=>bJ K H' d v
 |.new q,v=>∃a,v=.ref a/\jE K H' q a/\(H a=none\/∃(i:Nat)(ys:Ob),env[i]? =some (.own ys)/\σ[i]? =some (some (.ref a)))
 |_,_=>False
def O2.back{v:V}(N:Nz K env σ H δ ξ H1)(h:O2 K δ ξ H1 H2 r v):O2 K env σ H H2 r v:=by
 cases r with
 |val d=>exact h
 |new xs=>
  obtain⟨a,e,p,z⟩:=h
  refine⟨a,e,p,?_⟩
  rcases z with z|⟨i,ys,z1,z2⟩
  ·exact .inl (N.dom a z)
  ·rcases N.sub i a ⟨⟨_,ys,z1,rfl⟩,z2⟩with ⟨⟨s,xs',q1,q2⟩,q3⟩|q
   ·cases s with
    |own w=>exact .inr ⟨i,w,q1,q3⟩
    |bor w=>
     obtain⟨⟨w',q⟩,_⟩:=N.bors i w q1
     rw[z1]at q;cases q
    |un=>cases q2
    |val d=>cases q2
   ·exact .inl q
 |ref i=>exact h.elim
end
noncomputable def tS(K:QQq)(W:Wi)(env:Ev)(f:Fl):TS:=fun D σ H=>Sat K env σ H/\match f with
 |.next env'=>∀ζ H',Nz K env σ H env' ζ H'->D.nx ζ H'
 |.ret r env'=>∀v ζ H',Nz K env σ H env' ζ H'->O2 K env σ H H' r v->D.rt v H'
 |.brk env'=>∀ζ H',Nz K env σ H env' ζ H'->D.bk ζ H'
 |.cont env'=>∀ζ H',Nz K env σ H env' ζ H'->D.ct ζ H'
 |.exc c env'=>∀ζ H',Nz K env σ H env' ζ H'->W c env' ζ H'
 |.bad=>False
def GS(X:Cx)(W:Wi)(c:Cf)(m:S)(st:Stmt):Prop:=∀env,PS X st (tS X.K W env (ex c m env))
def Pr(X:Cx)(W:Wi)(c:Cf)(m:S)(st:List Stmt):Prop:=∀env,xW X st (tS X.K W env (ex c m env))
section
def PS.imp(h:PS X st t)(i:∀D σ H,t' D σ H->t D σ H):PS X st t':=fun γ s σ H D I q=>h γ s σ H D I (i D σ H q)
def xW.imp(h:xW X sts t)(i:∀D σ H,t' D σ H->t D σ H):xW X sts t':=fun γ s σ H D I q=>h γ s σ H D I (i D σ H q)
def qO{env δ:Ev}{H H1:Hp}{D:Ends}(h:tS K W env f D σ H)(N:Nz K env σ H δ ξ H1):tS K W δ f D ξ H1:=by
 obtain⟨_,h⟩:=h
 refine⟨N.eV,?_⟩
 cases f with
 |next ε=>exact fun ζ H' N'=>h ζ H' (N.trans N')
 |ret r ε=>exact fun v ζ H' N' k=>h v ζ H' (N.trans N') (k.back N)
 |brk ε=>exact fun ζ H' N'=>h ζ H' (N.trans N')
 |cont ε=>exact fun ζ H' N'=>h ζ H' (N.trans N')
 |exc k ε=>exact fun ζ H' N'=>h ζ H' (N.trans N')
 |bad=>exact h
def RQ:Pr X W c .nil []:=fun env=>xW.imp QR fun D σ H q=>by
 exact q.2 σ H (Nz.refl q.1)
def Mw(h:GS X W c m1 st)(t:Pr X W c m2 sts):Pr X W c (.cons m1 m2) (st::sts):=by
 intro env
 have B:xW X _ (aaC (fun D σ H=>∃env,tS X.K W env _ D σ H) (fun D σ H=>∃env,tS X.K W env _ D σ H)):=
  Kr (fun γ s σ H D I⟨env,q⟩=>h env γ s σ H D I q) (fun γ s σ H D I⟨env,q⟩=>t env γ s σ H D I q)
 refine xW.imp B fun D σ H q=>?_
 simp only[x_1]at q
 refine⟨env,q.1,?_⟩
 cases r:ex c m1 env with
 |next δ=>
  rw[r]at q
  exact fun ξ H1 N1=>⟨δ,qO q N1⟩
 |_=>rw[r]at q;exact q.2
theorem n8{env:Ev}{H:Hp}{D:Ends}{r:Out Rv}{R:VK}(h:tS K W env (r.nW f) D σ H)
  (k:∀d δ v H1,Nx K env σ H δ H1->bJ K H1 d v->tS K W δ (f d δ) D σ H1->R v H1):tD K W env r σ H R:=by
 have step:∀d δ,r.nW f=f d δ->∀v H1,Nx K env σ H δ H1->bJ K H1 d v->R v H1:=fun d δ e v H1 N Dv=>by
  rw[e]at h
  exact k d δ v H1 N Dv (qO h N.z)
 obtain⟨S,h⟩:=h
 refine⟨S,?_⟩
 cases r with
 |bad=>exact h
 |exc c δ=>exact fun H' N=>h σ H' N.z
 |ok x δ=>
  cases x with
  |val d=>exact fun v H1 N Dv=>step d δ rfl v H1 N Dv
  |new xs=>exact fun v H1 N Dv=>step xs.d δ rfl v H1 N Dv
  |ref i=>exact h
theorem JG{env:Ev}{H:Hp}{D:Ends}{f:Bool->Ev->Fl}(h:tS K W env (r.Ag f) D σ H)
  (k:∀b δ H1,Nx K env σ H δ H1->tS K W δ (f b δ) D σ H1->R b H1):tT K W env r σ H R:=by
 have step:∀d δ x,x.jj=some d->r=.ok x δ->∃b,gY d=some b/\∀H1,Nx K env σ H δ H1->R b H1:=fun d δ x ex er=>by
  subst er
  cases q:gY d with
  |none=>
   cases x with
   |val d'=>cases ex;simp only[Out.Ag,Out.nW,q]at h;exact h.2.elim
   |new xs=>cases ex;simp only[Out.Ag,Out.nW,q]at h;exact h.2.elim
   |ref i=>cases ex
  |some b=>
   refine⟨b,rfl,fun H1 N=>k b δ H1 N (qO ?_ N.z)⟩
   cases x with
   |val d'=>cases ex;simp only[Out.Ag,Out.nW,q]at h;exact h
   |new xs=>cases ex;simp only[Out.Ag,Out.nW,q]at h;exact h
   |ref i=>cases ex
 refine⟨h.1,?_⟩
 cases r with
 |bad=>exact h.2
 |exc c δ=>exact fun H' N=>h.2 σ H' N.z
 |ok x δ=>
  cases x with
  |val d=>obtain⟨b,e,q⟩:=step d δ _ rfl rfl;exact⟨d,b,rfl,e,q⟩
  |new xs=>obtain⟨b,e,q⟩:=step xs.d δ _ rfl rfl;exact⟨xs.d,b,rfl,e,q⟩
  |ref i=>exact h.2.elim
def aca{te:Expr}(ht:GT X W c t te)(h1:Pr X W c m1 s1)(h2:Pr X W c m2 s2):GS X W c (.ite t m1 m2) (.If te s1 s2 pos):=by
 intro env
 refine PS.imp (abt ht (t:=fun D σ H=>∃env,tS X.K W env _ D σ H) (u:=fun D σ H=>∃env,tS X.K W env _ D σ H)
  (fun γ s σ H D I⟨env,q⟩=>h1 env γ s σ H D I q) (fun γ s σ H D I⟨env,q⟩=>h2 env γ s σ H D I q)) fun D σ H q=>?_
 refine⟨env,JG q fun b δ H1 N q1=>?_⟩
 cases b with
 |true=>rw[if_pos rfl]at q1⊢;exact⟨δ,q1⟩
 |false=>rw[if_neg Qjz]at q1⊢;exact⟨δ,q1⟩
def RW{m:E}(h:GE X W c m e)(hs:swapsWith e none pos.line X.env=pure false):GS X W c (.expr m) (.Expr e pos):=by
 intro env
 exact PS.imp (wC h.d hs) fun D σ H q=>⟨env,n8 q fun d δ v H1 N Dv q1=>q1.2 σ H1 (Nz.refl q1.1)⟩
def MF:GS X W0 c (.raise k) st:=fun env γ s σ H D I q=>by
 exact(q.2 σ H (Nz.refl q.1)).elim
end
section
variable{env δ ε:Ev}{σ ξ ρ:St}
def kE{s:Sl}{a:Addr}(h:aQ (env.set i s) (σ.set i (some v)) j a)(hj:i≠j):aQ env σ j a:=by
 obtain⟨⟨t,xs,e1,e2⟩,e3⟩:=h
 rw[Qxz hj]at e1 e3
 exact⟨⟨t,xs,e1,e2⟩,e3⟩
def m5{s:Sl}{a:Addr}(hi:i<env.length)(hs:i<σ.length)(h:aQ (env.set i s) (σ.set i (some v)) i a):isOwn s≠none/\v=.ref a:=by
 obtain⟨⟨t,xs,e1,e2⟩,e3⟩:=h
 rw[Qwq hi]at e1
 rw[Qwq hs]at e3
 cases e1
 cases e3
 exact⟨by rw[e2];simp,rfl⟩
def Sat.Bu{q:Ob}(S:Sat K env σ H)(hi:i<env.length)(ha:jE K H q a)(no:∀k,¬aQ env σ k a):Sat K (env.set i (.own q)) (σ.set i (some (.ref a))) H:=by
 have hs:i<σ.length:=by rw[<-S.len];exact hi
 refine⟨by simpa using S.len,fun j s e=>?_,fun j k b h1 h2=>?_⟩
 ·by_cases hj:i=j
  ·subst hj
   rw[Qwq hi]at e
   cases e
   exact⟨a,by rw[Qwq hs];rfl,ha⟩
  ·rw[Qxz hj]at e⊢
   exact S.sl j s e
 ·by_cases hj:i=j
  ·subst hj
   by_cases hk:i=k
   ·exact hk
   ·obtain⟨_,z⟩:=m5 hi hs h1
    cases z
    exact absurd (kE h2 hk) (no k)
  ·by_cases hk:i=k
   ·subst hk
    obtain⟨_,z⟩:=m5 hi hs h2
    cases z
    exact absurd (kE h1 hj) (no j)
   ·exact S.ne j k b (kE h1 hj) (kE h2 hk)
theorem Nz.put{x:Rv}{v:V}(S:Sat K env σ H)(N:Nx K env σ H δ H1)(hx:gO K σ H H1 x v)(hs:x.Ba=some s)(h:cD i s δ=some ε):Nz K env σ H ε (σ.set i (some v)) H1:=by
 obtain⟨rfl,hi,nb⟩:=qY h
 have hsl:i<σ.length:=by rw[<-N.eV.len];exact hi
 have bors:∀(j:Nat)xs,env[j]? =some _->(∃ys,(δ.set i s)[j]? =some _)/\(σ.set i (some v))[j]? =σ[j]? :=fun j xs e=>by
  obtain⟨ys,e1⟩:=N.bors j xs e
  have hj:i≠j:=fun z=>by subst z;exact nb ys e1
  exact⟨⟨ys,by rw[Qxz hj];exact e1⟩,by rw[Qxz hj]⟩
 cases x with
 |val d=>
  cases hs
  refine⟨N.eV.put hi hx,fun j a z=>.inl ?_,N.pers,N.keep,N.dom,bors⟩
  by_cases hj:i=j
  ·subst hj
   exact absurd rfl (m5 hi hsl z).1
  ·exact N.sub j a (kE z hj)
 |new q=>
  cases hs
  obtain⟨a,rfl,oa,h0⟩:=hx
  refine⟨N.eV.Bu hi oa fun k z=>S.rM h0 k (N.sub k a z),fun j b z=>?_,N.pers,N.keep,N.dom,bors⟩
  by_cases hj:i=j
  ·subst hj
   obtain⟨_,z⟩:=m5 hi hsl z
   cases z
   exact .inr h0
  ·exact .inl (N.sub j b (kE z hj))
 |ref j=>cases hs
end
section
theorem TY{env:Ev}{H:Hp}{D:Ends}{r:Out Rv}{R:VK}(h:tS K W env (r.fl f) D σ H)
  (k:∀x δ v H1,Nx K env σ H δ H1->gO K σ H H1 x v->tS K W env (f x δ) D σ H->R v H1):tM K W env r σ H R:=by
 obtain⟨S,h⟩:=h
 refine⟨S,?_⟩
 cases r with
 |bad=>exact h
 |exc c δ=>exact fun H' N=>h σ H' N.z
 |ok x δ=>exact fun v H1 N z=>k x δ v H1 N z ⟨S,h⟩
def Ed{i:Nat}{D:Ends}{H:Hp}(q:tS K W env (ex c (.set i m) env) D σ H):tM K W env (ev c m env) σ H fun v H1=>D.nx (σ.set i (some v)) H1:=by
 refine TY q fun x δ v H1 N z q1=>?_
 cases e1:x.Ba with
 |none=>rw[e1]at q1;exact q1.2.elim
 |some s=>
  rw[e1]at q1
  simp only[Option.bind]at q1
  cases e2:cD i s δ with
  |none=>rw[e2]at q1;exact q1.2.elim
  |some ε=>
   rw[e2]at q1
   exact q1.2 _ _ (Nz.put q1.1 N z e1 e2)
def Mz{x:Str}(h:GE X W c m e)(hN:X.N.Nodup)(hi:X.N[i]? =some x)(hx:Loc X.env.scope x)(hf:X.fn x=true\/X.env.scope.names.lookup x=some .local)
  (hs:swapsWith e (some (.Name x pos')) pos.line X.env=pure false):GS X W c (.set i m) (.Assign [.Name x pos'] e pos):=fun env=>
 PS.imp (WF hN hi hx h.am hs hf) fun D σ H q=>⟨env,Ed q⟩
def JR{env:Ev}{D:Ends}{H:Hp}(q:tS K W env (ex c (.setT is m) env) D σ H):tD K W env (ev c m env) σ H fun v H1=>tG K (.tup is) v σ H1 D.nx:=by
 refine n8 q fun d δ v H1 N Dv q1=>?_
 cases e2:bD _ d δ with
 |none=>rw[e2]at q1;exact q1.2.elim
 |some ε=>
  rw[e2]at q1
  exact⟨δ,d,ε,q1.1,Dv,e2,fun ζ st=>q1.2 ζ H1 ⟨st.eV,fun i a z=>.inl (st.sub z),bN.refl _,fun _ _ z _=>z,fun _ z=>z,fun i xs e=>⟨⟨xs,(st.same i (st.bors i xs e)).1.trans e⟩,(st.same i (st.bors i xs e)).2⟩⟩⟩
def RT{tg:Expr}(h:GE X W c m e)(hg:GG X (.tup is) tg)(hs:swapsWithSole [tg] e pos.line X.env=pure false)(hw:swappedStores [tg] e X.env=pure none)
  (h1:(assignEach [tg] X.env).map (·.2)=[assign tg X.env]):GS X W c (.setT is m) (.Assign [tg] e pos):=fun env=>
 PS.imp (Ku h.d hg hs hw h1) fun D σ H q=>⟨env,JR q⟩
end
theorem CZ(env:Env):∀(names:List (Str×NameKind))(cs:List (Str×Addr)),(∀x∈names,x.2=.free->∃c,env.cells.lookup x.1=some c)->(∀x c,cs.lookup x=some c->env.cells.lookup x=some c)->
  ∃cl,(do
   let s<-forIn names cs (fun(x:Str×NameKind)cs=>match x with
    |(name,kind)=>if (kind==NameKind.free)=true then do
      let a<-cellOf env name
      pure (ForInStep.yield ((name,a)::cs))
     else pure (ForInStep.yield cs))
   pure s:Sem (List (Str×Addr)))=(pure cl:Sem _)/\
   (∀x c,cl.lookup x=some c->env.cells.lookup x=some c)/\(∀x,(x,NameKind.free)∈names->∃c,cl.lookup x=some c)/\∀x c,cs.lookup x=some c->∃c,cl.lookup x=some c:=by
 intro names
 induction names with
 |nil=>intro cs h1 h2;exact⟨cs,rfl,h2,by simp,fun x c e=>⟨c,e⟩⟩
 |cons p r ih=>
  intro cs h1 h2
  obtain⟨n,k⟩:=p
  by_cases hk:k=.free
  ·subst hk
   obtain⟨c,hc⟩:=h1 _ QYz rfl
   have q2:∀x d,((n,c)::cs).lookup x=some d->env.cells.lookup x=some d:=fun x d e=>by
    rw[QHz]at e
    cases hx:x==n with
    |true=>rw[hx]at e;cases e;rw[eq_of_beq hx];exact hc
    |false=>rw[hx]at e;exact h2 x d e
   obtain⟨cl,e1,e2,e3,e4⟩:=ih _ (fun x hx=>h1 x (QYq _ hx)) q2
   have own:=e4 n c (by simp[QHz])
   refine⟨cl,?_,e2,fun x hx=>?_,fun x d e=>?_⟩
   ·rw[<-e1]
    have:cellOf env n=pure c:=by unfold cellOf;rw[hc]
    simp only[List.forIn_cons]
    rw[if_pos (show(NameKind.free==NameKind.free)=true from rfl),this]
    rfl
   ·rcases QCq.mp hx with z|z
    ·cases z;exact own
    ·exact e3 x z
   ·cases hx:x==n with
    |true=>rw[eq_of_beq hx];exact own
    |false=>exact e4 x d (by rw[QHz,hx];exact e)
  ·obtain⟨cl,e1,e2,e3,e4⟩:=ih cs (fun x hx=>h1 x (QYq _ hx)) h2
   refine⟨cl,?_,e2,fun x hx=>?_,e4⟩
   ·rw[<-e1]
    simp only[List.forIn_cons]
    rw[if_neg (fun z=>hk (eq_of_beq z))]
    rfl
   ·rcases QCq.mp hx with z|z
    ·cases z;exact absurd rfl hk
    ·exact e3 x z
def agd{env:Env}(h:∀x∈scope.names,x.2=.free->∃c,env.cells.lookup x.1=some c):∃cl,O8 scope env cl:=by
 obtain⟨cl,e1,e2,e3,_⟩:=CZ env scope.names [] h (by simp)
 refine⟨cl,?_,e2,fun x hx=>e3 x (PySem.mem_of_lookup hx)⟩
 have q:closureFor scope env=(forIn scope.names [] (fun(x:Str×NameKind)cs=>match x with
    |(name,kind)=>if (kind==NameKind.free)=true then do
      let a<-cellOf env name
      pure (ForInStep.yield ((name,a)::cs))
     else pure (ForInStep.yield cs)))>>=pure:=rfl
 rw[q,e1]
 rfl
section
variable{it cond elt:E}{pos spos py:Pos}
theorem Gn{env:Ev}{H:Hp}{Q:VK}
  (q:tM K W env (ev c (.comp nl tg it cond elt) env) σ H Q)
  (k:∀J H1 δ xs ys τ,Nx K env σ H δ H1->Gives K J xs H1->aU tg (ev c cond) (ev c elt) xs [] (List.replicate nl Sl.un++δ)=.ok ys τ->
   (∀v H2,Nx K env σ H (τ.drop nl) H2->gO K σ H H2 (.new (.lst ys)) v->Q v H2)->R J H1):tI K W env (ev c it env) σ H R:=by
 simp only[lQ]at q
 obtain⟨S,q⟩:=q
 refine⟨S,?_⟩
 cases r:ev c it env with
 |bad=>rw[r]at q;exact q
 |exc k δ=>rw[r]at q;exact q
 |ok x δ=>
  rw[r]at q
  have go:∀d,x.jj=some d->(match (match items d with
    |some xs=>match aU tg (ev c cond) (ev c elt) xs [] (List.replicate nl Sl.un++δ)with
     |.ok ys τ=>Out.ok (Rv.new (.lst ys)) (τ.drop nl)
     |_=>.bad
    |none=>.bad)with
   |.ok x env'=>∀v H',Nx K env σ H env' H'->gO K σ H H' x v->Q v H'
   |.exc c env'=>∀H',Nx K env σ H env' H'->W c env' σ H'
   |.bad=>False)->∃d xs,x.jj=some d/\items d=some xs/\∀J H',Nx K env σ H δ H'->Gives K J xs H'->R J H':=fun d ed z=>by
   cases e1:items d with
   |none=>rw[e1]at z;exact z.elim
   |some xs=>
    rw[e1]at z
    simp only at z
    cases e2:aU tg _ _ xs [] _ with
    |bad=>rw[e2]at z;exact z.elim
    |exc k τ=>rw[e2]at z;exact z.elim
    |ok ys τ=>
     rw[e2]at z
     exact⟨d,xs,ed,e1,fun J H1 N G=>k J H1 δ xs ys τ N G e2 z⟩
  cases x with
  |val d=>exact go d rfl q
  |new o=>exact go o.d rfl q
  |ref i=>exact q.elim
def Inv.letGo{σ:St}{H:Hp}{C:Addr}(I:Inv X γ σ H s)(f:fZ X γ H C)(hs:Heap.SameBut C s.heap h'):Inv X γ σ H {s with heap:=h'}:=by
 exact I.turned (fun b o hb e=>(hs.2 b hb).trans e) f.1 f.2.1 f.2.2.2.1 f.2.2.2.2.1 f.2.2.2.2.2
theorem Je.cl{σ:St}{H:Hp}(sc:Je X.env.scope scope η X.N)(I:Inv X γ σ H s):∃cl,O8 scope X.env cl:=
 agd fun x hx hf=>I.ok.has x.1 (sc.fre x hx hf)
def R4(B:Ab X c scope η tg cond elt Ξ Δ ifs)(hi:GI X W c it Ξ ο)(hc:X.calm=true)(hs:∀x,foldedSetIterable ο X.env x=pure x):
  GE X W c (.comp η.length tg it cond elt) (.ListComp Δ [⟨Ξ,ο,ifs,0⟩] scope pos):=by
 intro env γ s σ H Q I q
 obtain⟨cl,co⟩:=B.sc.cl I
 refine wpAny_comprehension_free rfl hs co.eq B.sc.kind B.sc.locs (b7 (hi env γ s σ H _ I (Gn q (R:=fun J H1=>∃δ xs ys τ,Nx X.K env σ H δ H1/\Gives X.K J xs H1/\aU tg _ _ xs [] _=.ok ys τ/\
  (∀v H2,Nx X.K env σ H _ H2->gO X.K σ H H2 _ v->Q v H2)) fun J H1 δ xs ys τ N G e z=>⟨δ,xs,ys,τ,N,G,e,z⟩)) fun v s1 h1=>b7 h1 fun itv s2 h2=>?_)
 obtain⟨ita,fp,tn,J,H1,rfl,I1,T,t0,hf,δ,xs,ys,τ,N,G,e,z⟩:=h2
 refine vM B hc co I1 N.eV T t0 hf G e fun D C s' H' vs m I' N' hD hl hn hC fC=>?_
 refine⟨m,hC,fun h' hs'=>⟨.ref D,H',Inv.letGo I' fC hs',rfl,z _ _ (N.trans N') ⟨D,rfl,⟨_,hD,vs,rfl,hl⟩,N.dom D hn⟩⟩⟩
def Ci{x:Str}(B:Ab X c scope η tg cond elt Ξ Δ ifs)(hi:GI X W c it Ξ ο)(hc:X.calm=true)(hs:∀x,foldedSetIterable ο X.env x=pure x)
  (hN:X.N.Nodup)(hx:X.N[i]? =some x)(hl:Loc X.env.scope x)(hf:X.fn x=true\/X.env.scope.names.lookup x=some .local)
  (hsw:swapsWith (.ListComp Δ [⟨Ξ,ο,ifs,0⟩] scope pos) (some (.Name x py)) spos.line X.env=pure true):
  GS X W c (.set i (.comp η.length tg it cond elt)) (.Assign [.Name x py] (.ListComp Δ [⟨Ξ,ο,ifs,0⟩] scope pos) spos):=by
 intro env γ s σ H D I q
 obtain⟨cl,co⟩:=B.sc.cl I
 rw[exec_Assign_Name_used _ _ _ _ hsw]
 refine QKq (wpAny_standAt (QKq ?_))
 refine QKq (QGq (wpAny_comprehension_free rfl hs co.eq B.sc.kind B.sc.locs
  (b7 (hi env γ s σ H _ I (Gn (Ed q) (R:=fun J H1=>∃δ xs ys τ,Nx X.K env σ H δ H1/\Gives X.K J xs H1/\aU tg _ _ xs [] _=.ok ys τ/\
  (∀v H2,Nx X.K env σ H _ H2->gO X.K σ H H2 _ v->D.nx _ H2)) fun J H1 δ xs ys τ N G e z=>⟨δ,xs,ys,τ,N,G,e,z⟩)) fun v s1 h1=>b7 h1 fun itv s2 h2=>?_))
  (fun _ s' hq=>QKz (QKz hq)) fun _ _ e=>e)
 obtain⟨ita,fp,tn,J,H1,rfl,I1,T,t0,hf',δ,xs,ys,τ,N,G,e,z⟩:=h2
 refine vM B hc co I1 N.eV T t0 hf' G e fun A C s' H' vs m I' N' hD hl' hn hC fC=>?_
 refine wpAny_assign_Name (uJ (v:=.ref A) I' hN hx hl rfl (fun s'' I''⟨a,ha,hor⟩=>?_) hf)
 have hCa:C≠a:=by
  rcases hor with rfl|hor
  ·exact fC.2.1
  ·exact fun z=>fC.2.2.2.2.1 x a hor z.symm
 refine⟨m,hC.sameBut ha hCa,fun h' hs'=>⟨_,H',Inv.letGo I'' fC hs',z _ _ (N.trans N') ⟨A,rfl,⟨_,hD,vs,rfl,hl'⟩,N.dom A hn⟩⟩⟩
end
section
theorem Ip(hq:iQ K H a vs)(l:aq K H xs vs)(hz:vs.length<=sizeLine):Gives K (Itt K a) xs H where
 go:=fun H1 p i d e=>by
  obtain⟨v,ev,_⟩:=l.get e
  exact⟨vs,v,p.yz hq,ev⟩
 yld:=fun H1 p i d e x H2 y=>by
  obtain⟨rfl,y⟩:=y
  obtain⟨v,ev,dv⟩:=l.get e
  have:=y vs (p.yz hq)
  rw[ev]at this
  cases this
  exact⟨dv.mono p,.inl rfl⟩
 stop:=fun H1 p i hi=>⟨vs,p.yz hq,by rw[<-l.length];exact hi⟩
 len:=by rw[l.length];exact hz
theorem Ir(hq:O5 K H a vs)(l:aq K H xs vs)(hz:vs.length<=sizeLine):Gives K (Itl K a) xs H where
 go:=fun H1 p i d e=>by
  obtain⟨v,ev,_⟩:=l.get e
  exact⟨vs,v,(p.R7 hq).sq,ev⟩
 yld:=fun H1 p i d e x H2 y=>by
  obtain⟨rfl,y⟩:=y
  obtain⟨v,ev,dv⟩:=l.get e
  have:=y vs (p.R7 hq).sq
  rw[ev]at this
  cases this
  exact⟨dv.mono p,.inl rfl⟩
 stop:=fun H1 p i hi=>⟨vs,(p.R7 hq).sq,by rw[<-l.length];exact hi⟩
 len:=by rw[l.length];exact hz
noncomputable def Its(x:Str):It:=⟨fun i _=>i<x.cps.size,fun i H v H'=>H'=H/\∃c,x.cps[i]? =some c/\v=.str ⟨#[c]⟩,fun i _=>x.cps.size<=i⟩
def signs_get{i:Nat}(h:(signs x)[i]? =some d):∃c,x.cps[i]? =some c/\d=.str ⟨#[c]⟩:=by
 unfold signs at h
 rw[QFz]at h
 cases e:x.cps.toList[i]? with
 |none=>rw[e]at h;cases h
 |some c=>rw[e]at h;cases h;exact⟨c,by simpa using e,rfl⟩
def oF x:(signs x).length=x.cps.size:=by simp[signs]
theorem vI(hz:x.cps.size<=sizeLine):Gives K (Its x) (signs x) H where
 go:=fun H1 p i d e=>by
  have:=(QCz.mp e).1
  rw[oF]at this
  exact this
 yld:=fun H1 p i d e v H2 y=>by
  obtain⟨rfl,c,e1,rfl⟩:=y
  obtain⟨c',e2,rfl⟩:=signs_get e
  rw[e1]at e2
  cases e2
  exact⟨rfl,.inl rfl⟩
 stop:=fun H1 p i hi=>by rw[oF]at hi;exact hi
 len:=by rw[oF];exact hz
end
section
theorem yg it x t ty(W:∀A':Around,A'.handled=none->Walks P w A' it [it] [it] x.cps.size (SignAt x) (fun i h=>h.IsStrIter it ty x t i))
  (hn:["enumerate","zip","dict_itemiterator","dict_reverseitemiterator","odict_iterator","itertools.zip_longest","itertools.pairwise"].contains ty=false)
  (hself:∀(A:Around)(i:Nat)(s:Shared)(Q:QZq)(E:QZq),s.heap.IsStrIter it ty x t i->Q (.ref it) s->wpAny (model P w) A (pyIter (.ref it)) Q E s):
  Turn P w K tg (Its x) [it] it (fun i h=>h.IsStrIter it ty x t i/\i<=x.cps.size) where
 mem:=by simp
 obj:=fun i h st b hb=>by
  have e:b=it:=by simpa using hb
  subst e
  obtain⟨⟨o,e,_,d⟩,_⟩:=st
  exact⟨o,e,fun v z=>by rw[d]at z;cases z⟩
 keep:=fun i h h' st k=>⟨let ⟨o,e,r⟩:=st.1;⟨o,k it (by simp) o e,r⟩,st.2⟩
 item:=by
  intro X hP hw hK hc i γ s σ H E I hf st hg
  obtain⟨f0,f1,f2,f3,f4,f5⟩:=hf it (by simp)
  refine(W X.A (I.ok.hd hc)).item i s _ _ hg st.1 fun v h' tk hv st' kk=>?_
  obtain⟨c,t,hx,rfl⟩:=hv
  obtain⟨o,e,cl,d⟩:=id st'
  exact⟨_,rfl,FQ e cl d hn ⟨.str ⟨#[c]⟩,H,(I.turned (fun b o hb e=>kk b o (by simpa using hb) e) f0 f1 f3 f4 f5),⟨t,rfl⟩,⟨rfl,c,hx,rfl⟩,⟨st',hg⟩,fun b hb=>(hf b hb).1⟩⟩
 done:=by
  intro X hP hw hK hc i γ s σ H E I hf st hg
  obtain⟨f0,f1,f2,f3,f4,f5⟩:=hf it (by simp)
  have e:=Nat.le_antisymm st.2 hg
  subst e
  exact(W X.A (I.ok.hd hc)).done s _ _ st.1 fun h' tk kk=>⟨rfl,I.turned (fun b o hb e=>kk b o (by simpa using hb) e) f0 f1 f3 f4 f5⟩
 self:=fun A i s Q E st h=>hself A i s Q E st.1 h
end
section
theorem Gf:∀cs:List Bool,aq K H (cs.map .bl) (cs.map .bl)
 |[]=>aq.eQ
 |c::cs=>aq.aG.mpr ⟨_,_,rfl,by rfl,Gf cs⟩
def YC(h:bU K H k a):bJ K H (eX k) (.ref a):=by
 obtain⟨b,q1,q2⟩:=h
 exact⟨a,_,rfl,q1,aq.aG.mpr ⟨_,_,rfl,⟨b,_,rfl,q2,Gf _⟩,aq.aG.mpr ⟨_,_,rfl,by rfl,aq.eQ⟩⟩⟩
end
section
end
section
theorem Ma{σ:St}{s:Shared}{d:D}{v:V}(I:Inv X γ σ H s)(rv:RelV v u)(hd:bJ X.K H d v)(hi:items d=some xs)(q:∀J,Gives X.K J xs H->R J H):
  wpAny (model X.prog X.w) X.A (pyIter u) (PIE X γ σ tg R) X.xe s:=by
 cases d with
 |tup ds=>
  cases hi
  obtain⟨a,vs,rfl,hq,l⟩:=bZ hd
  cases rv
  obtain⟨its,r,p,hz⟩:=I.tuple hq
  refine wpAny_pyIter_tuple (p) ?_
  refine⟨s.heap.objs.size,[s.heap.objs.size],_,_,H,rfl,I.kept fun b o e=>QWq _ e,Ak a _,⟨_,Qzq _ rfl,rfl,rfl⟩,fun b hb=>?_,q _ (Ip hq l hz)⟩
  have e:b=s.heap.objs.size:=by simpa using hb
  subst e
  exact I.Cr (QVz _) (I.hok.fresh (QVz _))
 |lst ds=>
  cases hi
  obtain⟨a,vs,rfl,hq,l⟩:=cP hd
  cases rv
  obtain⟨its,r,p,hz⟩:=I.list hq.sq
  refine wpAny_pyIter_list p.isList ?_
  refine⟨s.heap.objs.size,[s.heap.objs.size],_,_,H,rfl,I.kept fun b o e=>QWq _ e,GJ a _,⟨_,Qzq _ rfl,rfl,rfl⟩,fun b hb=>?_,q _ (Ir hq l hz)⟩
  have e:b=s.heap.objs.size:=by simpa using hb
  subst e
  exact I.Cr (QVz _) (I.hok.fresh (QVz _))
 |str x=>
  simp only[items]at hi
  split at hi
  ·rename_i hf
   cases hi
   cases hd
   obtain⟨t,rfl⟩:=rv
   have hz:=dG hf
   have fin:∀b∈[s.heap.objs.size],fZ X γ H b:=fun b hb=>by
    have e:b=s.heap.objs.size:=by simpa using hb
    subst e
    exact I.Cr (QVz _) (I.hok.fresh (QVz _))
   cases ha:x.cps.all _
   ·exact wpAny_pyIter_wide ha ⟨s.heap.objs.size,[s.heap.objs.size],_,_,H,rfl,I.kept fun b o e=>QWq _ e,yg _ x t "str_iterator" (fun A' hA=>Walks.strWide hA _ x t) (by decide) (fun A i s Q E st h=>wpAny_pyIter_striter_wide st h),⟨⟨_,Qzq _ rfl,rfl,rfl⟩,QIq _⟩,fin,q _ (vI hz)⟩
   ·exact wpAny_pyIter_ascii ha ⟨s.heap.objs.size,[s.heap.objs.size],_,_,H,rfl,I.kept fun b o e=>QWq _ e,yg _ x t "str_ascii_iterator" (fun A' hA=>Walks.strAscii hA _ x t) (by decide) (fun A i s Q E st h=>wpAny_pyIter_striter_ascii st h),⟨⟨_,Qzq _ rfl,rfl,rfl⟩,QIq _⟩,fin,q _ (vI hz)⟩
  ·cases hi
 |_=>cases hi
def acd(h:GE X W c m e):GI X W c m tg e:=by
 intro env γ s σ H R I q
 refine b7 (h.d γ s σ H (fun v H'=>∃d xs,bJ X.K H' d v/\items d=some xs/\∀J,Gives X.K J xs H'->R J H') I ⟨env,q.1,?_⟩) fun u s1⟨v,H1,I1,r1,d,xs,hd,hi,q1⟩=>Ma I1 r1 hd hi q1
 have q2:=q.2
 cases r:ev c m env with
 |bad=>rw[r]at q2;exact q2
 |exc k δ=>rw[r]at q2;exact q2
 |ok x δ=>
  rw[r]at q2
  obtain⟨d,xs,ed,ei,q3⟩:=q2
  cases x with
  |val d'=>cases ed;exact fun v H' N Dv=>⟨d,xs,Dv,ei,fun J G=>q3 J H' N G⟩
  |new o=>cases ed;exact fun v H' N Dv=>⟨o.d,xs,Dv,ei,fun J G=>q3 J H' N G⟩
  |ref i=>cases ed
end
noncomputable def tyN:Ty->String
 |.tup=>"tuple"
 |.lst=>"list"
 |.str=>"str"
 |.bool=>"bool"
 |.int=>"int"
 |.cG=>"dict"
section
noncomputable def aeY(K:QQq):List V->Hp->VK->Prop:=fun xs H Q=>∃d v t,xs=[v,.ty (tyN t)]/\bJ K H d v/\Q (.bl (cF t d)) H
def Oa:fV X (.builtin "isinstance") (aeY X.K):=by
 intro γ s σ H xs us Q I r h
 obtain⟨d,v,t,rfl,hd,q⟩:=h
 obtain⟨u,u',rfl,ru,rt⟩:=Vals.two r
 cases rt
 have fin:∀k,Q _ H->EP X γ σ Q _ {s with toks:=s.toks+1}:=fun k z=>⟨.bl k,H,I.tok _,rfl,z⟩
 have fin0:∀k,Q _ H->EP X γ σ Q _ s:=fun k z=>⟨.bl k,H,I,rfl,z⟩
 cases d with
 |non=>
  cases hd;cases ru
  cases t with
  |tup=>exact IsiPair.NoneType_tuple (fin _ q)
  |lst=>exact IsiPair.NoneType_list (fin _ q)
  |str=>exact IsiPair.NoneType_str (fin _ q)
  |bool=>exact IsiPair.NoneType_bool (fin _ q)
  |int=>exact IsiPair.NoneType_int (fin _ q)
  |cG=>exact IsiPair.NoneType_dict (fin _ q)
 |bl k=>
  cases hd;cases ru
  cases t with
  |tup=>exact IsiPair.bool_tuple (fin _ q)
  |lst=>exact IsiPair.bool_list (fin _ q)
  |str=>exact IsiPair.bool_str (fin _ q)
  |bool=>exact IsiPair.bool_bool (fin0 _ q)
  |int=>exact IsiPair.bool_int (fin0 _ q)
  |cG=>exact IsiPair.bool_dict (fin _ q)
 |int k=>
  cases hd;obtain⟨tk,rfl⟩:=ru
  cases t with
  |tup=>exact IsiPair.int_tuple (fin _ q)
  |lst=>exact IsiPair.int_list (fin _ q)
  |str=>exact IsiPair.int_str (fin _ q)
  |bool=>exact IsiPair.int_bool (fin _ q)
  |int=>exact IsiPair.int_int (fin0 _ q)
  |cG=>exact IsiPair.int_dict (fin _ q)
 |str k=>
  cases hd;obtain⟨tk,rfl⟩:=ru
  cases t with
  |tup=>exact IsiPair.str_tuple (fin _ q)
  |lst=>exact IsiPair.str_list (fin _ q)
  |str=>exact IsiPair.str_str (fin0 _ q)
  |bool=>exact IsiPair.str_bool (fin _ q)
  |int=>exact IsiPair.str_int (fin _ q)
  |cG=>exact IsiPair.str_dict (fin _ q)
 |tup ds=>
  obtain⟨a,vs,rfl,hq,_⟩:=bZ hd
  cases ru
  obtain⟨its,_,⟨o,e,cl,_⟩,_⟩:=I.tuple hq
  cases t with
  |tup=>exact IsiPair.tuple_tuple e cl (fin0 _ q)
  |lst=>exact IsiPair.tuple_list e cl (fin _ q)
  |str=>exact IsiPair.tuple_str e cl (fin _ q)
  |bool=>exact IsiPair.tuple_bool e cl (fin _ q)
  |int=>exact IsiPair.tuple_int e cl (fin _ q)
  |cG=>exact IsiPair.tuple_dict e cl (fin _ q)
 |lst ds=>
  obtain⟨a,vs,rfl,hq,_⟩:=cP hd
  cases ru
  obtain⟨its,_,⟨o,n,e,cl,_⟩,_⟩:=I.list hq.sq
  cases t with
  |tup=>exact IsiPair.list_tuple e cl (fin _ q)
  |lst=>exact IsiPair.list_list e cl (fin0 _ q)
  |str=>exact IsiPair.list_str e cl (fin _ q)
  |bool=>exact IsiPair.list_bool e cl (fin _ q)
  |int=>exact IsiPair.list_int e cl (fin _ q)
  |cG=>exact IsiPair.list_dict e cl (fin _ q)
 |cG ks ds=>
  obtain⟨a,o,kvs,rfl,ha,_⟩:=hd
  cases ru
  obtain⟨e,_,_,_,_,o',_,_,e',ex,_⟩:=I.hok a _ ha
  rw[e]at e'
  cases e'
  have cl:=ex.1
  cases t with
  |tup=>exact IsiPair.dict_tuple e cl (fin _ q)
  |lst=>exact IsiPair.dict_list e cl (fin _ q)
  |str=>exact IsiPair.dict_str e cl (fin _ q)
  |bool=>exact IsiPair.dict_bool e cl (fin _ q)
  |int=>exact IsiPair.dict_int e cl (fin _ q)
  |cG=>exact IsiPair.dict_dict e cl (fin0 _ q)
 |fQ ks ds=>
  obtain⟨a,o,kvs,rfl,ha,_⟩:=hd
  cases ru
  obtain⟨e,_,_,_,_,o',_,_,_,e',ex,_⟩:=I.hok a _ ha
  rw[e]at e'
  cases e'
  have cl:=ex.1
  cases t with
  |tup=>exact IsiPair.dict_tuple e cl (fin _ q)
  |lst=>exact IsiPair.dict_list e cl (fin _ q)
  |str=>exact IsiPair.dict_str e cl (fin _ q)
  |bool=>exact IsiPair.dict_bool e cl (fin _ q)
  |int=>exact IsiPair.dict_int e cl (fin _ q)
  |cG=>exact IsiPair.dict_dict e cl (fin0 _ q)
def Yq{x:Str}(ha:GE X W c m a)(hx:x=Str.ofString (tyN t))(hg:Gl X x)(hm:X.mg x=none)(hi:Gl X "isinstance")(hmi:X.mg "isinstance"=none)
  (hs:starEach [a,.Name x p'] X.env=(false,eval a X.env)::starEach [.Name x p'] X.env):
  GE X W c (.isi m t) (.Call (.Name "isinstance" p) [a,.Name x p'] [] pos):=by
 intro env
 have hv:bootBuiltins x=some (.type (tyN t)):=by subst hx;cases t<;>kernel_rfl
 have N:PE X (.Name x p') (tC (.ty _)):=Q6 hg hm hv rfl (by subst hx;cases t<;>decide+kernel) (by subst hx;cases t<;>decide+kernel)
 exact PE.imp (rH Oa hi hmi (by kernel_rfl) (cI ha.d (cI N fJ rfl) hs) (by decide+kernel) (by decide+kernel) hs rfl) fun σ H Q q=>⟨env,aR q fun d δ v H1 N1 D1 q1=>⟨d,v,t,rfl,D1,dU q1 rfl⟩⟩
end
def qt(X:Cx)(r:List V->Hp->VK->Prop)(f:D->Option Rv):Prop:=
 ∀(env:Ev)(σ:St)(H:Hp)(x:D)(z:Rv)(v:V)(Q:VK),Sat X.K env σ H->cR X.K H x v->f x=some z->(∀w H',Nx X.K env σ H env H'->gO X.K σ H H' z w->Q w H')->r [v] H Q
section
def Od{r:List V->Hp->VK->Prop}(R:qt X r (b1 bb)){σ:St}{Q:VK}(hv:m.aB=none)(q:tM X.K W env (ev c (.bi bb m) env) σ H Q):aD X W c m σ H fun v H1=>r [v] H1 Q:=by
 simp only[mU,hv]at q
 refine⟨env,aR q fun d δ v H1 N1 D1 q1=>?_⟩
 obtain⟨z,ez,S,q3⟩:=cg q1
 exact R δ σ H1 d z v Q S (.inl D1) ez q3
def Gw{r:List V->Hp->VK->Prop}(R:qt X r (b1 bb)){σ:St}{Q:VK}(hv:m.aB=some k)(q:tM X.K W env (ev c (.bi bb m) env) σ H Q):JD k σ H fun v H1=>r [v] H1 Q:=by
 simp only[mU,hv]at q
 obtain⟨z,ez,S,q3⟩:=cg q
 cases e0:aZ k env with
 |none=>rw[e0]at ez;cases ez
 |some d0=>
  rw[e0]at ez
  obtain⟨u,eu,Du⟩:=dB S e0
  exact⟨u,eu,R env σ H d0 z u Q S Du ez q3⟩
theorem xd{id:String}{x:Str}(C:fV X (.builtin id) r)(R:qt X r (b1 bb))(ha:GE X W c m a)(hv:∀k,m.aB=some k->∃x p,a=.Name x p/\iT X k x)
  (hg:Gl X x)(hm:X.mg x=none)(hb:bootBuiltins x=some (.builtin id))(hn:x≠"__name__")(hd:(x==("__debug__":Str))=false)(hs:starEach [a] X.env=[(false,eval a X.env)]):
  GE X W c (.bi bb m) (.Call (.Name x p) [a] [] pos):=by
 intro env
 cases q:m.aB with
 |none=>exact PE.imp (rH C hg hm hb (cI ha.d fJ hs) hn hd hs rfl) fun σ H Q h=>Od R q h
 |some k=>
  obtain⟨y,p',rfl,nm⟩:=hv k q
  exact PE.imp (rH C hg hm hb (cI nm.pe fJ hs) hn hd hs rfl) fun σ H Q h=>Gw R q h
theorem Cq{id:String}{x:Str}(C:fV X (.type id) r)(R:qt X r (b1 bb))(ha:GE X W c m a)(hv:∀k,m.aB=some k->∃x p,a=.Name x p/\iT X k x)
  (hg:Gl X x)(hm:X.mg x=none)(hb:bootBuiltins x=some (.type id))(hn:x≠"__name__")(hd:(x==("__debug__":Str))=false)(hs:starEach [a] X.env=[(false,eval a X.env)]):
  GE X W c (.bi bb m) (.Call (.Name x p) [a] [] pos):=by
 intro env
 cases q:m.aB with
 |none=>exact PE.imp (oM C hg hm hb (cI ha.d fJ hs) hn hd hs rfl) fun σ H Q h=>Od R q h
 |some k=>
  obtain⟨y,p',rfl,nm⟩:=hv k q
  exact PE.imp (oM C hg hm hb (cI nm.pe fJ hs) hn hd hs rfl) fun σ H Q h=>Gw R q h
def cR.seq{H:Hp}{xs:List D}(h:cR K H d v)(e:bu d=some xs):∃a vs,v=.ref a/\(jA K H a vs\/iQ K H a vs)/\aq K H xs vs:=by
 cases d with
 |tup ys=>cases e;exact h.Qk
 |lst ys=>cases e;exact h.JT
 |_=>cases e
theorem cR.cG{H:Hp}{v:V}(h:cR K H (.cG ks ds) v):∃a kvs,v=.ref a/\Rd H a (.dK kvs)/\ks=kvs.map (fun p=>dJ p.1)/\aq K H ds (kvs.map (·.2)):=by
 rcases h with h|⟨o,a,q,rfl,u,ha,hq⟩
 ·unfold bJ at h
  obtain⟨a,o,kvs,rfl,ha,k,l⟩:=h
  exact⟨a,kvs,rfl,.inr ⟨o,ha⟩,k,l⟩
 ·cases o<;>cases q
  obtain⟨kvs,rfl,k,l⟩:=hq
  exact⟨a,kvs,rfl,.inl ha,k,l⟩
theorem cR.fQ{H:Hp}{v:V}(h:cR K H (.fQ ks ds) v):∃a xs,v=.ref a/\Rd H a (sD xs)/\ks=xs.map (fun x=>eX x.1)/\∀x∈xs,bU K H x.1 x.2.1:=by
 rcases h with h|⟨o,a,q,rfl,u,ha,hq⟩
 ·unfold bJ at h
  obtain⟨a,o,xs,rfl,ha,k,ka,l⟩:=h
  exact⟨a,xs,rfl,.inr ⟨o,ha⟩,k,ka⟩
 ·cases o<;>cases q
  obtain⟨xs,rfl,k,ka,l⟩:=hq
  exact⟨a,xs,rfl,.inl ha,k,ka⟩
noncomputable def Ws(K:QQq):List V->Hp->VK->Prop:=fun xs H Q=>(∃x n,xs=[x]/\Y0 K x H n/\Q (.int n) H)\/(∃a kvs,xs=[.ref a]/\Rd H a (.dK kvs)/\Q (.int kvs.length) H)\/∃a ys,xs=[.ref a]/\Rd H a (sD ys)/\Q (.int ys.length) H
def IW:fV X (.builtin "len") (Ws X.K):=by
 intro γ s σ H xs us Q I r h
 rcases h with h|⟨a,kvs,rfl,e,q⟩|⟨a,ys,rfl,e,q⟩
 ·exact N8 γ s σ H xs us Q I r h
 ·obtain⟨u,rfl,ru⟩:=vals1 r
  cases ru
  exact ack I e fun t s' I'=>⟨.int kvs.length,H,I',⟨t,rfl⟩,q⟩
 ·obtain⟨u,rfl,ru⟩:=vals1 r
  cases ru
  exact aa1 I e fun t s' I'=>⟨.int ys.length,H,I',⟨t,rfl⟩,q⟩
def Qw:qt X (Ws X.K) (b1 .len):=by
 intro env σ H x z v Q S Dx e q
 have go:∀n,HQ x=some n->Y0 X.K v H n->Ws X.K [v] H Q:=fun n en ln=>by
  simp only[b1,en]at e
  cases e
  exact .inl ⟨v,n,rfl,ln,q _ H (Nx.refl S) rfl⟩
 cases x with
 |tup xs=>
  obtain⟨a,vs,rfl,hq,l⟩:=Dx.Qk
  refine go xs.length rfl ?_
  rcases hq with hq|hq
  ·exact .inl ⟨vs,hq,l.length⟩
  ·exact .inr ⟨vs,hq,l.length⟩
 |lst xs=>
  obtain⟨a,vs,rfl,hq,l⟩:=Dx.JT
  refine go xs.length rfl ?_
  rcases hq with hq|hq
  ·exact .inl ⟨vs,hq,l.length⟩
  ·exact .inr ⟨vs,hq,l.length⟩
 |str y=>
  have:=Dx.str
  subst this
  by_cases hf:fits y.length=true
  ·exact go y.length (by simp[HQ,hf]) ⟨dG hf,rfl⟩
  ·simp[b1,HQ,hf]at e
 |cG ks ds=>
  cases e
  obtain⟨a,kvs,rfl,hr,hk,l⟩:=Dx.cG
  have e2:ks.length=kvs.length:=by rw[hk,QAq]
  exact .inr (.inl ⟨a,kvs,rfl,hr,by rw[<-e2];exact q _ H (Nx.refl S) rfl⟩)
 |fQ ks ds=>
  cases e
  obtain⟨a,xs,rfl,hr,hk,_⟩:=Dx.fQ
  have e2:ks.length=xs.length:=by rw[hk,QAq]
  exact .inr (.inr ⟨a,xs,rfl,hr,by rw[<-e2];exact q _ H (Nx.refl S) rfl⟩)
 |_=>cases e
def Qx:qt X (fun xs H Q=>(∃i,xs=[.int i]/\Q (.int i) H)\/∃k,xs=[.bl k]/\Q (.int (if k then 1 else 0)) H) (b1 .int):=by
 intro env σ H x z v Q S Dx e q
 cases x with
 |int i=>
  cases e
  have:=Dx.int
  subst this
  exact .inl ⟨i,rfl,q _ H (Nx.refl S) rfl⟩
 |bl k=>
  cases e
  rcases Dx with h|⟨o,a,q',_⟩
  ·cases h
   exact .inr ⟨k,rfl,q _ H (Nx.refl S) (by cases k<;>rfl)⟩
  ·cases o<;>cases q'
 |_=>cases e
def Hd:qt X (fun xs H Q=>∃p ys,xs=[.ref p]/\((jA X.K H p ys/\∀l,H l=none->Q (.ref l) (upd H l (.tup ys)))\/(iQ X.K H p ys/\Q (.ref p) H))) (b1 .tuple):=by
 intro env σ H x z v Q S Dx e q
 simp only[b1]at e
 cases es:bu x with
 |none=>rw[es]at e;cases e
 |some xs=>
  rw[es]at e
  cases e
  obtain⟨a,vs,rfl,hq,l⟩:=Dx.seq es
  refine⟨a,vs,rfl,?_⟩
  rcases hq with hq|hq
  ·refine .inl ⟨hq,fun p hp=>?_⟩
   have N:=Nx.laid (o:=.tup vs) S hp
   exact q _ _ N (dD (.inl (.inl aP)) (l.mono N.pers))
  ·exact .inr ⟨hq,q _ H (Nx.refl S) (dD hq l)⟩
theorem Ge{H:Hp}:∀{xs:List SV},(∀x∈xs,bU K H x.1 x.2.1)->aq K H (xs.map fun x=>eX x.1) (xs.map fun x=>.ref x.2.1)
 |[]=>fun _=>aq.eQ
 |x::xs=>fun h=>aq.aG.mpr ⟨_,_,rfl,YC (h x QYz),Ge fun y hy=>h y (QYq _ hy)⟩
def J2:qt X (fun xs H Q=>(∃p ys,xs=[.ref p]/\(jA X.K H p ys\/iQ X.K H p ys)/\∀l,H l=none->Q (.ref l) (upd H l (.lst ys)))\/∃a ks,xs=[.ref a]/\Rd H a (sD ks)/\∀l,H l=none->Q (.ref l) (upd H l (.lst (ks.map fun x=>.ref x.2.1)))) (b1 .list):=by
 intro env σ H x z v Q S Dx e q
 have go:∀{xs:List D},bu x=some xs->SJ .list xs=some z->∃p ys,[v]=[V.ref p]/\(jA X.K H p ys\/iQ X.K H p ys)/\∀l,H l=none->Q (.ref l) (upd H l (.lst ys)):=fun es e=>by
  cases e
  obtain⟨a,vs,rfl,hq,l⟩:=Dx.seq es
  exact⟨a,vs,rfl,hq,fun p hp=>q _ _ (Nx.laid S hp) (iZ S l hp)⟩
 cases x with
 |fQ ks ds=>
  cases e
  obtain⟨a,xs,rfl,hr,rfl,ka⟩:=Dx.fQ
  exact .inr ⟨a,xs,rfl,hr,fun p hp=>q _ _ (Nx.laid S hp) (iZ S (Ge ka) hp)⟩
 |tup xs=>exact .inl (go rfl e)
 |lst xs=>exact .inl (go rfl e)
 |_=>cases e
def BoolsAre.get{bs:List Bool}(h:BoolsAre vs bs):∀{i:Nat}{v:Value},vs[i]? =some v->∃b,bs[i]? =some b/\v=.bool b:=by
 induction h with
 |nil=>intro i v e;simp at e
 |cons b t ih=>
  intro i v e
  cases i with
  |zero=>simp at e;subst e;exact⟨b,rfl,rfl⟩
  |succ i=>exact ih (by simpa using e)
def range_all(bs:List Bool):((List.range bs.length).all fun i=>bs.getD i false)=bs.all id:=by
 rw[Bool.eq_iff_iff]
 simp only[List.all_eq_true,List.mem_range,id]
 constructor
 ·intro h b hb
  obtain⟨i,hi,e⟩:=List.mem_iff_getElem.mp hb
  have:=h i hi
  rw[List.getD_eq_getElem?_getD,QXq hi]at this
  simpa[e]using this
 ·intro h i hi
  rw[List.getD_eq_getElem?_getD,QXq hi]
  exact h _ (List.getElem_mem hi)
def range_any(bs:List Bool):((List.range bs.length).any fun i=>bs.getD i false)=bs.any id:=by
 rw[Bool.eq_iff_iff]
 simp only[List.any_eq_true,List.mem_range,id]
 constructor
 ·rintro ⟨i,hi,h⟩
  rw[List.getD_eq_getElem?_getD,QXq hi]at h
  exact⟨bs[i],List.getElem_mem hi,by simpa using h⟩
 ·rintro ⟨b,hb,h⟩
  obtain⟨i,hi,e⟩:=List.mem_iff_getElem.mp hb
  exact⟨i,hi,by rw[List.getD_eq_getElem?_getD,QXq hi];simpa[e]using h⟩
noncomputable def Zr(K:QQq)(f:List Bool->Bool):List V->Hp->VK->Prop:=fun xs H Q=>∃p vs ds bs,xs=[.ref p]/\(jA K H p vs\/iQ K H p vs)/\aq K H ds vs/\bools ds=some bs/\Q (.bl (f bs)) H
def pJ{w:World}{its:List Value}(hb:BoolsAre its bs):TruthOf P w A (fun i v=>its.toArray[i]? =some v) fun i=>bs.getD i false:=by
 intro i v s Q E hv h
 obtain⟨b,e,rfl⟩:=hb.get (by simpa using hv)
 have h:Q (bs.getD i false) s:=h
 rw[List.getD_eq_getElem?_getD,e]at h
 exact wpAny_truthy_bool h
def tL{id:String}{g:Nat->(Nat->Bool)->Bool}(hc:X.calm=true)(hg:∀bs:List Bool,g bs.length (fun i=>bs.getD i false)=f bs)
  (hcall:∀{E:QZq}{s:Shared}{x:Value}{Q:QZq},
   wpAny (model X.prog X.w) X.A.in1 (pyIter x) (fun it s₂=>∃I fp wr n P St tr,it=.ref I/\Walks X.prog X.w X.A.in1 I fp wr n P St/\St 0 s₂.heap/\TruthOf X.prog X.w X.A.in1 P tr/\
    ∀h' tk,(∀b o,b∉wr->s₂.heap.get? b=some o->h'.get? b=some o)->Q (.bool (g n tr)) {s₂ with heap:=h',toks:=tk}) E s->wpAny (model X.prog X.w) X.A (call (.builtin id) [x]) Q E s):
  fV X (.builtin id) (Zr X.K f):=by
 intro γ s σ H xs us Q I r h
 obtain⟨a,vs,ds,bs,rfl,hq,l,hb,q⟩:=h
 obtain⟨u,rfl,ru⟩:=Vals.one r
 cases ru
 have hh:X.A.in1.handled=none:=I.ok.hd hc
 refine hcall ?_
 have fin:∀its o,Vals vs its->∀h' tk,(∀b o',b∉[s.heap.objs.size]->(s.heap.push o).get? b=some o'->h'.get? b=some o')->EP X γ σ Q (.bool (g its.toArray.size fun i=>bs.getD i false)) {s with heap:=h',toks:=tk}:=fun its o rv h' tk k=>by
  have hl:its.toArray.size=bs.length:=by
   have:=(gh hb l rv).length
   simpa using this
  rw[hl,hg]
  refine⟨.bl (f bs),H,I.kept fun b o' e=>k b o' ?_ (QWq _ e),rfl,q⟩
  simp only[QDz]
  exact Qvz (Qqz e)
 rcases hq with hq|hq
 ·obtain⟨its,rv,p,hz⟩:=I.list hq
  have hlt:a≠s.heap.objs.size:=by
   obtain⟨o,n,e,_⟩:=p
   exact Qvz (Qqz e)
  refine wpAny_pyIter_list p.isList ⟨s.heap.objs.size,[s.heap.objs.size,a],[s.heap.objs.size],its.toArray.size,_,_,_,rfl,Walks.list hh _ a hlt its.toArray,⟨⟨_,Qzq _ rfl,rfl,rfl⟩,p.isList.at fun o e=>QWq _ e⟩,pJ (gh hb l rv),fin its _ rv⟩
 ·obtain⟨its,rv,p,hz⟩:=I.tuple hq
  have hlt:a≠s.heap.objs.size:=by
   obtain⟨o,e,_⟩:=p
   exact Qvz (Qqz e)
  have p':s.heap.IsTuple a its.toArray:=p
  refine wpAny_pyIter_tuple p' ⟨s.heap.objs.size,[s.heap.objs.size,a],[s.heap.objs.size],its.toArray.size,_,_,_,rfl,Walks.tuple hh _ a hlt its.toArray,⟨⟨_,Qzq _ rfl,rfl,rfl⟩,p'.at fun o e=>QWq _ e⟩,pJ (gh hb l rv),fin its _ rv⟩
def Ja(hc:X.calm=true):fV X (.builtin "all") (Zr X.K (·.all id)):=tL hc range_all call_all_walk
def I9(hc:X.calm=true):fV X (.builtin "any") (Zr X.K (·.any id)):=tL hc range_any call_any_walk
def uN{f:List Bool->Bool}(hb:∀xs,SJ bb xs=(bools xs).map fun bs=>.val (.bl (f bs)))(h1:∀x,b1 bb x=(bu x).bind (SJ bb)):qt X (Zr X.K f) (b1 bb):=by
 intro env σ H x z v Q S Dx e q
 rw[h1]at e
 cases es:bu x with
 |none=>rw[es]at e;cases e
 |some xs=>
  rw[es]at e
  simp only[Option.bind,hb]at e
  cases eb:bools xs with
  |none=>rw[eb]at e;cases e
  |some bs=>
   rw[eb]at e
   cases e
   obtain⟨a,vs,rfl,hq,l⟩:=Dx.seq es
   exact⟨a,vs,xs,bs,rfl,hq,l,eb,q _ H (Nx.refl S) rfl⟩
def Qz:qt X (Zr X.K (·.all id)) (b1 .all):=uN (fun _=>rfl) fun _=>rfl
def Qy:qt X (Zr X.K (·.any id)) (b1 .any):=uN (fun _=>rfl) fun _=>rfl
end
end Mini
end
section
namespace HT
open PySem PySem.Spec PyProof.Rows
section
def lL{t sl:Addr}{vl vu:Value}{lo hi:Option Int}(ht:IsTup s.heap t items)(hs:s.heap.IsSliceOf sl vl vu .none)(pl:IsPart vl lo)(pu:IsPart vu hi)
  (hw:fU items.size 0 lo=0/\fU items.size items.size hi=items.size)(h:Q (.ref t) s):wpAny (model prog w) A (getItem (.ref t) (.ref sl)) Q E s:=by
 obtain⟨os,hos,hcs,hds⟩:=id hs
 unfold getItem
 try with_reducible refine Qqq ?_
 first|refine QKq _|skip
 refine QKq (wpAny_sequenceKey ht.typeIs (by decide) ?_)
 refine QKq (wpAny_callSpecial?_slot ht.typeIs PyProof.Rows.slot_tuple_getitem
  (Qzz PyProof.Rows.slot_tuple_getitem ht.typeIs entry_tuple_getitem ?_ (args_tuple_getitem _ _)))
 show wpAny _ _ (Builtin.Tuple.tupleItemsOf _>>=_) _ _ s
 refine QKq (tupleItemsOf_ ht ?_)
 refine QKq (wpAny_typeOf ⟨os,hos,hcs⟩ ?_)
 refine QKq (iB hs pl pu ?_)
 have hno:((((fU items.size 0 lo):Int)==0&&(1:Int)==1&&(fU items.size items.size hi-fU items.size 0 lo)==items.size)=true):=by
  rw[hw.1,hw.2];simp
 show wpAny _ _ (if (((fU items.size 0 lo):Int)==0&&1==1&&_==items.size)=true then _ else _) _ _ s
 rw[if_pos hno]
 exact QKq (QKq (wpAny_typeOf ht.typeIs (QKz (QKq (wpAny_rule (QKz ⟨_,rfl,QKz h⟩))))))
end
end HT
namespace Mini
open PySem L2
section
noncomputable def Ub(K:QQq):V->Option Int->Option Int->Hp->VK->Prop:=fun x lo hi H Q=>∃a xs,x=.ref a/\iQ K H a xs/\
 (HT.fU xs.length 0 lo=0/\HT.fU xs.length xs.length hi=xs.length)/\Q (.ref a) H
def Qf:S8 X (Ub X.K):=by
 intro γ s σ H x v vl vu lo hi sl Q I rx hs pl pu h
 obtain⟨a,xs,rfl,hx,hw,q⟩:=h
 cases rx
 obtain⟨its,r,ht,hz⟩:=I.tuple hx
 have hlen:its.toArray.size=xs.length:=by rw[Qyq];exact r.length.symm
 exact⟨"tuple",_,PyProof.Rows.slot_tuple_getitem.lookup,ht.typeIs,HT.lL ht hs pl pu (by rw[hlen];exact hw) ⟨.ref a,H,I,rfl,q⟩⟩
noncomputable def abh(K:QQq):V->Option Int->Option Int->Hp->VK->Prop:=fun x lo hi H Q=>abf K x lo hi H Q\/Ub K x lo hi H Q\/abg K x lo hi H Q
def Wg:S8 X (abh X.K):=Wf.or (Qf.or Qg)
def qD n i d:clip n i=HT.fU n d (some i):=by
 unfold clip HT.fU
 dsimp only
 by_cases h:i<0
 ·rw[if_pos h,if_pos h]
  split
  ·omega
  ·split<;>omega
 ·rw[if_neg h,if_neg h,if_neg h]
  split<;>omega
def YF{α:Type}(xs:List α)a b:(xs.take b).drop a=(xs.drop a).take (b-a):=by
 rw[List.drop_take]
def xx{H:Hp}{vs:List V}(l:aq K H ds vs)lo hi:aq K H (cut ds lo hi) (xF vs lo hi):=by
 have hl:=l.length
 unfold cut xF
 rw[YF]
 cases lo with
 |none=>
  cases hi with
  |none=>rw[HT.mX,HT.mX,<-hl];exact(l.drop _).take _
  |some j=>rw[HT.mX,<-hl,<-qD];exact(l.drop _).take _
 |some i=>
  cases hi with
  |none=>rw[HT.mX,<-hl,<-qD];exact(l.drop _).take _
  |some j=>rw[<-hl,<-qD,<-qD];exact(l.drop _).take _
def IV{lo hi:Option Int}(h:HT.fU vs.length 0 lo=0/\HT.fU vs.length vs.length hi=vs.length):xF vs lo hi=vs:=by
 unfold xF
 rw[h.1,h.2]
 simp
def Az{env:Ev}{H:Hp}{z:Rv}{lo hi:Option Int}(S:Sat K env σ H)(D1:bJ K H d v)(e:dX d lo hi=some z)(q:∀w H',Nx K env σ H env H'->gO K σ H H' z w->Q w H'):abh K v lo hi H Q:=by
 cases d with
 |tup xs=>
  cases e
  obtain⟨a,vs,rfl,hq,l⟩:=bZ D1
  by_cases hw:HT.fU vs.length 0 lo=0/\HT.fU vs.length vs.length hi=vs.length
  ·refine .inr (.inl ⟨a,vs,rfl,hq,hw,q _ H (Nx.refl S) ?_⟩)
   have:=xx l lo hi
   rw[IV hw]at this
   exact dD hq this
  ·refine .inl ⟨a,vs,rfl,hq,hw,fun p hp=>?_⟩
   have N:=Nx.laid (o:=.tup (xF vs lo hi)) S hp
   exact q _ _ N (dD (.inl (.inl aP)) ((xx l lo hi).mono N.pers))
 |lst xs=>
  cases e
  obtain⟨a,vs,rfl,hq,l⟩:=cP D1
  exact .inr (.inr ⟨a,vs,rfl,hq.sq,fun p hp=>q _ _ (Nx.laid S hp) (iZ S (xx l lo hi) hp)⟩)
 |_=>cases e
def GO(X:Cx)(W:Wi)(c:Cf)(m:E)(eo:Option Expr):Prop:=(m=.noneE/\eo=Option.none)\/∃e,eo=Option.some e/\m.jx=false/\GE X W c m e
noncomputable def tPt(X:Cx)(W:Wi)(c:Cf)(m:E):TO:=fun σ H Q=>∃env,tD X.K W env (ev c m env) σ H fun v H1=>∀d,bJ X.K H1 d v->∃o,cH m.jx d=some o/\Q o H1
def GO.po(h:GO X W c m eo):PO X eo (tPt X W c m):=by
 rcases h with ⟨rfl,rfl⟩|⟨e,rfl,hn,h⟩
 ·intro γ s σ H Q I q
  obtain⟨env,q⟩:=q
  obtain⟨o,e,z⟩:=q.2 .non H (Nx.refl q.1) rfl .non rfl
  cases e
  exact QV γ s σ H Q I z
 ·intro γ s σ H Q I q
  obtain⟨env,q⟩:=q
  refine Ep h.d γ s σ H Q I ⟨env,q.1,?_⟩
  have q2:=q.2
  have go:∀d v H',bJ X.K H' d v->(∀d,bJ X.K H' d v->∃o,cH m.jx d=some o/\Q o H')->∃i,v=.int i/\Q (some i) H':=fun d v H' Dv z=>by
   obtain⟨o,e,z⟩:=z d Dv
   rw[hn]at e
   cases d with
   |int i=>cases e;exact⟨i,Dv,z⟩
   |_=>cases e
  cases r:ev c m env with
  |bad=>rw[r]at q2;exact q2
  |exc k δ=>rw[r]at q2;exact q2
  |ok x δ=>
   rw[r]at q2
   cases x with
   |val d=>exact fun v H' N Dv=>go d v H' Dv (q2 v H' N Dv)
   |new o=>exact fun v H' N Dv=>go o.d v H' Dv (q2 v H' N Dv)
   |ref i=>exact q2
def yR{H:Hp}{d d':D}{o:Option Int}(h:bJ K H d v)(e:cH jx d=some o)(h':bJ K H d' v):cH jx d'=some o:=by
 cases jx with
 |true=>exact e
 |false=>
  cases d with
  |int i=>
   subst h
   cases d' with
   |int j=>cases (h');exact e
   |non=>cases (h')
   |bl b=>cases (h')
   |str x=>cases (h')
   |tup ds=>obtain⟨a,vs,z,_⟩:=bZ h';cases z
   |lst ds=>obtain⟨a,vs,z,_⟩:=cP h';cases z
   |cG ks ds=>unfold bJ at h';obtain⟨a,o,kvs,z,_⟩:=h';cases z
   |fQ ks ds=>unfold bJ at h';obtain⟨a,o,xs,z,_⟩:=h';cases z
  |_=>cases e
def Yi(ha:GE X W c m1 a)(hl:GO X W c m2 lo)(hh:GO X W c m3 hi):GE X W c (.slc m1 m2 m3) (.Subscript a (.Slice lo hi none p2) pos):=by
 intro env
 refine PE.imp (KQ Wg ha.d hl.po hh.po) fun σ H Q q=>?_
 refine⟨env,aR q fun d δ v H1 N1 D1 q1=>⟨δ,aR q1 fun dl ε vl H2 N2 D2 q2 dl' D2'=>?_⟩⟩
 cases el:cH m2.jx dl with
 |none=>rw[el]at q2;exact q2.2.elim
 |some l=>
  rw[el]at q2
  refine⟨l,yR D2 el D2',ε,aR q2 fun dh env3 vh H3 N3 D3 q3 dh' D3'=>?_⟩
  obtain⟨z,ez,S,q4⟩:=cg q3
  cases eh:cH m3.jx dh with
  |none=>rw[eh]at ez;cases ez
  |some h=>
   rw[eh]at ez
   exact⟨h,yR D3 eh D3',Az S (D1.mono (N2.trans N3).pers) ez q4⟩
theorem M6{α β:Type}{f:α->Option β}{g:α->β}:∀{l:List α},(∀x∈l,f x=some (g x))->l.filterMap f=l.map g
 |[]=>fun _=>rfl
 |x::l=>fun h=>by rw[List.filterMap_cons,h x QYz,Qyz,M6 fun y hy=>h y (QYq _ hy)]
def Kz(its:List Value):slicePick its.toArray none none (some (-1))=its.reverse.toArray:=by
 have e:sliceRange (sliceBounds none none (some (-1)) its.toArray.size).1 (sliceBounds none none (some (-1)) its.toArray.size).2.1 (sliceBounds none none (some (-1)) its.toArray.size).2.2=(List.range its.length).map fun k=>its.length-1-k:=PyProof.Rows.picked_rev its.length
 unfold slicePick
 rw[e,M6 (g:=fun k=>its.getD k .none)]
 ·congr 1
  refine List.ext_getElem (by simp) fun i h1 h2=>?_
  simp at h1 h2
  simp[List.getD_eq_getElem?_getD,show its.length-1-i<its.length by omega]
 ·intro k hk
  obtain⟨j,hj,rfl⟩:=QDq.mp hk
  have:=List.mem_range.mp hj
  simp[List.getD_eq_getElem?_getD,show its.length-1-j<its.length by omega]
noncomputable def adT(K:QQq)(te:TE)(ts:TO):TE:=fun σ H Q=>te σ H fun x H1=>ts σ H1 fun o H2=>o=some (-1)/\∃a xs,x=.ref a/\jA K H2 a xs/\∀p,H2 p=none->Q (.ref p) (upd H2 p (.lst xs.reverse))
def Jq{us:List Value}(r:Vals xs us):Vals xs.reverse us.reverse:=by
 induction r with
 |nil=>exact .nil
 |cons a _ ih=>rw[List.reverse_cons,List.reverse_cons];exact Vals.append ih (.cons a .nil)
theorem zR{H:Hp}:∀{ds:List D}{vs:List V},aq K H ds vs->aq K H ds.reverse vs.reverse
 |[],_,h=>by rw[aq.bj.mp h];exact aq.eQ
 |d::ds,_,h=>by
  obtain⟨v,r,rfl,h1,h2⟩:=aq.aG.mp h
  rw[List.reverse_cons,List.reverse_cons]
  exact(zR h2).append (aq.cV h1 aq.eQ)
open PyProof.Rows in
def WQ{st:Expr}{te:TE}{ts:TO}(he:PE X a te)(hs:PO X (some st) ts):PE X (.Subscript a (.Slice none none (some st) p2) pos) (adT X.K te ts):=by
 intro γ s σ H Q I h
 refine PyProof.Rows.Subscript_ (b7 (he γ s σ H _ I h) fun v s1⟨x,H1,I1,r1,q1⟩=>?_)
 refine wpAny_Slice ?_
 refine QKz ?_
 refine QKz ?_
 refine b7 (hs γ s1 σ H1 _ I1 q1) fun vu s3⟨o,H3,I3,pu,eo,a',xs,ex,hx,q⟩=>?_
 subst eo ex
 cases r1
 have I4:L2.Inv X γ σ H3 {s3 with heap:=s3.heap.push {cls:=.type "slice",data:=.fields #[.none,.none,vu]}}:=I3.kept fun b ob q=>QWq _ q
 obtain⟨its,r,ht,hz⟩:=I4.list hx
 have hlen:=r.length
 refine tail_any ht.isList.typeIs slot_list_getitem.lookup ?_ (by with_unfolding_all rfl)
 refine wpAny_getItem_list_slice ht.isList (Heap.IsSliceOf.new ..) .none .none pu (by simp) ?_ (by rw[Qyq]<;>omega)
 rw[Kz]
 refine⟨.ref _,_,I4.laid (fun b ob q=>QWq _ q) (QVz _) ?_,rfl,q _ (I4.hok.fresh (QVz _))⟩
 exact⟨by rw[List.length_reverse];exact hz,_,0,Jq r,Qzq _ rfl⟩
def Mj(h:RK m=true):m=.neg AAG:=by
 unfold RK at h
 split at h
 ·rw[beq_iff_eq.mp h]
 ·cases h
def Yj(ha:GE X W c m1 a)(hs:GE X W c m2 st)(hm:RK m2=true):GE X W c (.rev m1) (.Subscript a (.Slice none none (some st) p2) pos):=by
 have:=Mj hm
 subst this
 intro env
 refine PE.imp (WQ ha.d (Ep hs.d)) fun σ H Q q=>?_
 refine⟨env,aR q fun d δ v H1 N1 D1 q1=>⟨δ,?_⟩⟩
 obtain⟨z,ez,S,q4⟩:=cg q1
 cases d with
 |lst xs=>
  cases ez
  obtain⟨a,vs,rfl,hq,l⟩:=cP D1
  refine⟨S,fun w H' N Dw=>⟨-1,Dw,rfl,a,vs,rfl,(N.pers.R7 hq).sq,fun p hp=>?_⟩⟩
  exact q4 _ _ (N.trans (Nx.laid N.eV hp)) ((iZ N.eV (zR (l.mono N.pers)) hp).weaken N.dom)
 |_=>cases ez
def acM(X:Cx)(x:Str)(d:D):Prop:=∃v u,X.mg x=some u/\RelV v u/\∀H,bJ X.K H d v
def RX{x:Str}(hk:c.gl k=some d)(h:acM X x d)(hg:Gl X x)(hd:(x==("__debug__":Str))=false):GE X W c (.glob k) (.Name x pos):=by
 obtain⟨v,u,hm,r,hD⟩:=h
 intro env
 refine PE.imp (Q0 hg hm r hd) fun σ H Q q=>?_
 simp only[v_2,hk]at q
 exact dU q (hD H)
end
def gn{a:Addr}(h:H a=some u)(hu:O9 u):bN H (upd H a u'):=by
 refine⟨fun b xs q=>?_,fun b o' w q=>?_⟩
 ·rw[aC (fun z=>by subst z;rw[h]at q;cases q;exact hu.tup xs rfl)];exact q
 ·rw[aC (fun z=>by subst z;rw[h]at q;cases q;exact hu.frz o' w rfl)];exact q
def qK{f:Ob->Option Ob}(h:cT k f env=some env'):∃o o',f o=some o'/\((env[k]? =some (.own o)/\env'=env.set k (.own o'))\/(env[k]? =some (.bor o)/\env'=env.set k (.bor o'))):=by
 unfold cT at h
 cases e:env[k]? with
 |none=>rw[e]at h;cases h
 |some s=>
  rw[e]at h
  cases s with
  |un=>cases h
  |val d=>cases h
  |own o=>
   cases e2:f o with
   |none=>simp only[e2]at h;cases h
   |some o'=>simp only[e2]at h;cases h;exact⟨o,o',e2,.inl ⟨rfl,rfl⟩⟩
  |bor o=>
   cases e2:f o with
   |none=>simp only[e2]at h;cases h
   |some o'=>simp only[e2]at h;cases h;exact⟨o,o',e2,.inr ⟨rfl,rfl⟩⟩
def Nx.turn{env:Ev}{H:Hp}{sl sl':Sl}{a:Addr}(S:Sat K env σ H)(hs:(sl=.own o/\sl'=.own o')\/(sl=.bor o/\sl'=.bor o'))(e:env[k]? =some sl)(es:σ[k]? =some (some (.ref a)))
  (ha:H a=some u)(hu:O9 u)(hd:Jh K H o' u'):Nx K env σ H (env.set k sl') (upd H a u'):=by
 have p:=gn (u':=u') ha hu
 have ow:isOwn sl=some o/\isOwn sl'=some o':=by rcases hs with ⟨rfl,rfl⟩|⟨rfl,rfl⟩<;>exact⟨rfl,rfl⟩
 have oa:aQ env σ k a:=⟨⟨_,o,e,ow.1⟩,es⟩
 have hi:=(QCz.mp e).1
 have sub:∀j b,aQ (env.set k sl') σ j b->aQ env σ j b:=fun j b z=>by
  obtain⟨⟨s,ys,e1,e2⟩,e3⟩:=z
  by_cases hj:k=j
  ·subst hj;exact⟨⟨sl,o,e,ow.1⟩,e3⟩
  ·rw[Qxz hj]at e1;exact⟨⟨s,ys,e1,e2⟩,e3⟩
 refine⟨⟨by simpa using S.len,fun j s ej=>?_,fun j l b z w=>S.ne j l b (sub j b z) (sub l b w)⟩,sub,p,fun b w q n=>?_,fun b q=>?_,fun j ys ej=>?_⟩
 ·by_cases hj:k=j
  ·subst hj
   rw[Qwq hi]at ej
   cases ej
   have at_:jE K _ o' a:=⟨u',aP,hd.mono p⟩
   rcases hs with ⟨_,rfl⟩|⟨_,rfl⟩
   ·exact⟨a,by rw[es];rfl,at_⟩
   ·exact⟨a,by rw[es];rfl,at_⟩
  ·rw[Qxz hj]at ej
   refine(S.sl j s ej).keep p fun b w ho ev hb=>?_
   have nb:b≠a:=fun z=>by
    subst z
    exact hj (S.ne k j b oa (wF ej ho ev))
   rw[aC nb];exact hb
 ·rw[aC (fun z=>by subst z;exact n k oa)];exact q
 ·by_cases hb:b=a
  ·subst hb;rw[aP]at q;cases q
  ·rw[aC hb]at q;exact q
 ·by_cases hj:k=j
  ·subst hj
   rw[e]at ej
   cases ej
   rcases hs with ⟨z,_⟩|⟨_,rfl⟩
   ·cases z
   ·exact⟨o',by rw[Qwq hi]⟩
  ·exact⟨ys,by rw[Qxz hj];exact ej⟩
def DR{env env':Ev}{H:Hp}{f:Ob->Option Ob}(S:Sat K env σ H)(h:cT k f env=some env'):
  ∃o o' a u,f o=some o'/\σ[k]? =some (some (.ref a))/\H a=some u/\Jh K H o u/\aZ k env=some o.d/\∀u',Jh K H o' u'->Nx K env σ H env' (upd H a u'):=by
 obtain⟨o,o',ef,hh⟩:=qK h
 rcases hh with ⟨e,rfl⟩|⟨e,rfl⟩
 ·obtain⟨a,e1,u,e2,e3⟩:=S.sl k _ e
  exact⟨o,o',a,u,ef,bV e1,e2,e3,by unfold aZ;rw[e],fun u' hd=>Nx.turn S (.inl ⟨rfl,rfl⟩) e (bV e1) e2 e3.uY hd⟩
 ·obtain⟨a,e1,u,e2,e3⟩:=S.sl k _ e
  exact⟨o,o',a,u,ef,bV e1,e2,e3,by unfold aZ;rw[e],fun u' hd=>Nx.turn S (.inr ⟨rfl,rfl⟩) e (bV e1) e2 e3.uY hd⟩
def K7{o o':Ob}(h:wI f o=some o'):∃xs ys,o=.lst xs/\f xs=some ys/\o'=.lst ys:=by
 cases o with
 |lst xs=>
  simp only[wI]at h
  cases e:f xs with
  |none=>rw[e]at h;cases h
  |some ys=>rw[e]at h;cases h;exact⟨xs,ys,rfl,e,rfl⟩
 |dct ks vs=>cases h
 |sdt ks vs=>cases h
def qL{env env':Ev}{H:Hp}{f:List D->Option (List D)}(S:Sat K env σ H)(h:cT k (wI f) env=some env'):
  ∃xs ys a vs,f xs=some ys/\σ[k]? =some (some (.ref a))/\H a=some (.lst vs)/\aq K H xs vs/\aZ k env=some (.lst xs)/\∀ws,aq K H ys ws->Nx K env σ H env' (upd H a (.lst ws)):=by
 obtain⟨o,o',a,u,ef,es,ha,hd,lk,N⟩:=DR S h
 obtain⟨xs,ys,rfl,e,rfl⟩:=K7 ef
 obtain⟨vs,rfl,l⟩:=hd
 exact⟨xs,ys,a,vs,e,es,ha,l,lk,fun ws hw=>N _ ⟨ws,rfl,hw⟩⟩
theorem cR.lst{K:QQq}{H:Hp}{xs:List D}{v:V}(h:cR K H (.lst xs) v):∃a vs,v=.ref a/\jA K H a vs/\aq K H xs vs:=by
 rcases h with h|⟨o,a,q,rfl,u,ha,hq⟩
 ·obtain⟨a,vs,rfl,hq,l⟩:=cP h
  exact⟨a,vs,rfl,hq.sq,l⟩
 ·cases o<;>cases q
  obtain⟨vs,rfl,l⟩:=hq
  exact⟨a,vs,rfl,.inl (.inl ha),l⟩
structure Aa(X:Cx)(o:Expr)(name:Str)(apos:Pos)(e:Expr)(cpos:Pos):Prop where
 base:attributeBase o name X.env (eval o X.env)=eval o X.env
 line:(apos.endLine==cpos.line)=true
 star:starEach [e] X.env=[(false,eval e X.env)]
section
def Aa.few(h:Aa X o name apos e cpos):((backTo cpos (starEach [e] X.env)).all (fun x=> !x.1)&&(backToKw cpos (keywordEach [] X.env)).all (fun x=>x.1.isSome)
   &&decide ([e].length+([]:List Keyword).length+(if ([]:List Keyword).isEmpty then 0 else 1)<30))=true:=by
 rw[h.star];rfl
def KY{id:String}{to:TE}(M:Aa X o name apos e cpos)(slot:Slot "list" name id)(hty:typeOf (.builtin id)=pure (.type "method_descriptor"))(hm:Vm X id r)(ho:PE X o to)(he:PE X e te):
  PE X (.Call (.Attribute o name apos) [e] [] cpos) (tBM X.K "list" r to (JH te aaH)):=
 abx PySem.F.plainAttrs_list slot hty hm ho (cI he fJ M.star) M.base M.few M.line M.star rfl
def countV{K:QQq}{H:Hp}{p:D}{x:V}(Dp:bJ K H p x)(fp:flat p=true):∀{ds:List D}{vs:List V}{us:List Value},aq K H ds vs->Vals vs us->ds.all flat=true->vs.all jy=true/\us.countP (Vc x)=bW p ds:=by
 intro ds
 induction ds with
 |nil=>intro vs us l r _;rw[aq.bj.mp l]at r⊢;cases r;exact⟨rfl,rfl⟩
 |cons d ds ih=>
  intro vs us l r f
  obtain⟨v,vs',rfl,hd,l'⟩:=aq.aG.mp l
  rw[List.all_cons,QUq]at f
  cases r with
  |cons r1 r2=>
   obtain⟨i1,i2⟩:=ih l' r2 f.2
   obtain⟨j1,j2⟩:=wZ Dp fp (aq.cV hd aq.eQ) (by simp[f.1])
   simp only[List.all_cons,List.all_nil,Bool.and_true]at j1
   have j3:Nf v x=dR d p:=by simpa[inV,aL]using j2
   refine⟨by rw[List.all_cons,j1,i1];rfl,?_⟩
   rw[List.countP_cons,i2,Cy r1 j1,j3,bW]
   split<;>omega
noncomputable def QK(K:QQq):V->List V->Hp->VK->Prop:=fun x ys H Q=>∃a vs ds d y,x=.ref a/\ys=[y]/\(jA K H a vs\/iQ K H a vs)/\aq K H ds vs/\bJ K H d y/\flat d=true/\ds.all flat=true/\Q (.int (bW d ds)) H
def M7{H:Hp}{v:V}(h:bJ K H d v)(f:flat d=true):jy v=true:=by
 cases d with
 |non=>cases h;rfl
 |bl b=>cases h;rfl
 |int i=>cases h;rfl
 |str x=>cases h;rfl
 |_=>cases f
def Hz:Vm X "list.count" (fun x ys H Q=>(∃a vs,x=.ref a/\jA X.K H a vs)/\QK X.K x ys H Q):=by
 intro γ s σ H x ys v us Q I rx ry h
 obtain⟨⟨a,vs,rfl,hq⟩,a',vs',ds,d,y,e1,rfl,hq',l,hd,f1,f2,q⟩:=h
 cases e1
 cases rx
 obtain⟨u,rfl,ru⟩:=Vals.one ry
 have hv:vs'=vs:=by
  rcases hq' with z|z
  ·exact I.zq z hq
  ·obtain⟨_,_,⟨o,e,c,_⟩,_⟩:=I.tuple z
   obtain⟨_,_,⟨o',_,e',c',_⟩,_⟩:=I.list hq
   rw[e]at e';cases e';rw[c]at c';injection c' with z;exact absurd z (by decide)
 subst hv
 obtain⟨its,r,pl,hz⟩:=I.list hq
 obtain⟨⟨cls,dd,data,sl⟩,n,ho,hc,hdd,hdt⟩:=id pl
 subst hc hdt
 obtain⟨g1,g2⟩:=countV hd f1 l r f2
 refine call_meets PySem.F.slot_list_count ⟨_,ho,rfl⟩ PySem.F.entry_list_count (PySem.F.args_list_count_2 _ _) (SeqAt.list_countAt a its.toArray n dd sl u _) ⟨ho,fun w hw=>gr ru (M7 hd f1) r g1 w (by simpa using hw),?_⟩
 refine⟨.int _,H,I.tok _,⟨s.toks,?_⟩,q⟩
 rw[show its.toArray.toList=its from rfl,g2]
def Hy:Vm X "tuple.count" (fun x ys H Q=>(∃a vs,x=.ref a/\iQ X.K H a vs)/\QK X.K x ys H Q):=by
 intro γ s σ H x ys v us Q I rx ry h
 obtain⟨⟨a,vs,rfl,hq⟩,a',vs',ds,d,y,e1,rfl,hq',l,hd,f1,f2,q⟩:=h
 cases e1
 cases rx
 obtain⟨u,rfl,ru⟩:=Vals.one ry
 have hv:vs'=vs:=by
  rcases hq' with z|z
  ·obtain⟨_,_,⟨o,e,c,_⟩,_⟩:=I.tuple hq
   obtain⟨_,_,⟨o',_,e',c',_⟩,_⟩:=I.list z
   rw[e]at e';cases e';rw[c]at c';injection c' with z;exact absurd z (by decide)
  ·exact I.uG z hq
 subst hv
 obtain⟨its,r,pl,hz⟩:=I.tuple hq
 obtain⟨⟨cls,dd,data,sl⟩,ho,hc,n,hdt⟩:=id pl
 subst hc hdt
 obtain⟨g1,g2⟩:=countV hd f1 l r f2
 refine call_meets PySem.F.slot_tuple_count ⟨_,ho,rfl⟩ PySem.F.entry_tuple_count (PySem.F.args_tuple_count_2 _ _) (SeqAt.tuple_countAt a its.toArray n dd sl u _) ⟨ho,fun w hw=>gr ru (M7 hd f1) r g1 w (by simpa using hw),?_⟩
 refine⟨.int _,H,I.tok _,⟨s.toks,?_⟩,q⟩
 rw[show its.toArray.toList=its from rfl,g2]
open Classical in
noncomputable def eR(h:Heap)(q:PyData)(w:Value):Bool:=decide (∃d as,Reads h w d as/\d.canLay0=true/\PyData.eqv d q=true)
open Classical in
def Vd{h:Heap}{q d:PyData}{w:Value}{as:List Addr}(r:Reads h w d as)(c:d.canLay0=true):eR h q w=PyData.eqv d q:=by
 cases e:PyData.eqv d q with
 |true=>exact QFq ⟨d,as,r,c,e⟩
 |false=>
  refine QEz fun⟨d',as',r',c',e'⟩=>?_
  rw[<-SeqAt.Reads.unique d d' w as as' c r r',e]at e'
  cases e'
theorem pX{h:Heap}{p:D}(hp:nd p=true):∀{ds:List D}{us:List Value}{as:List Addr},fK ds=true->ReadsAll h us (yP ds) as->us.countP (eR h (py p))=bW p ds/\∀w∈us,∃d bs,nd d=true/\Reads h w (py d) bs
 |[],_,_,_,r=>by cases r;exact⟨rfl,fun w hw=>nomatch hw⟩
 |d::ds,_,_,hn,r=>by
  simp only[fK,QUq]at hn
  cases r with
  |cons r1 r2=>
   obtain⟨i1,i2⟩:=pX hp hn.2 r2
   refine⟨?_,fun w hw=>?_⟩
   ·rw[List.countP_cons,i1,Vd r1 (fj d hn.1),sZ d p hn.1 hp,bW]
    omega
   ·rcases QCq.mp hw with rfl|hw
    ·exact⟨d,_,hn.1,r1⟩
    ·exact i2 w hw
noncomputable def Uj(K:QQq):V->List V->Hp->VK->Prop:=fun x ys H Q=>∃a vs ds d y,x=.ref a/\ys=[y]/\jA K H a vs/\aq K H ds vs/\bJ K H d y/\nd d=true/\dep d<=50/\fK ds=true/\Q (.int (bW d ds)) H
def HB(hu:X.A.units+60<cLine):Vm X "list.count" (Uj X.K):=by
 intro γ s σ H x ys v us Q I rx ry h
 obtain⟨a,vs,ds,d,y,rfl,rfl,hq,l,hd,f1,f2,f3,q⟩:=h
 cases rx
 obtain⟨u,rfl,ru⟩:=Vals.one ry
 obtain⟨its,r,pl,hz⟩:=I.list hq
 obtain⟨⟨cls,dd,data,sl⟩,n,ho,hc,hdd,hdt⟩:=id pl
 subst hc hdt
 obtain⟨as,ra⟩:=aq.reads I f3 l r
 obtain⟨bs,rb⟩:=bJ.reads I f1 hd ru
 obtain⟨g1,g2⟩:=pX f1 f3 ra
 refine call_meets PySem.F.slot_list_count ⟨_,ho,rfl⟩ PySem.F.entry_list_count (PySem.F.args_list_count_2 _ _) (SeqAt.list_countAt a its.toArray n dd sl u (eR s.heap (py d))) ⟨ho,fun w hw=>?_,?_⟩
 ·obtain⟨d2,cs,n2,r2⟩:=g2 w (by simpa using hw)
  rw[Vd r2 (fj d2 n2)]
  refine SeqAt.eqAt_reads _ _ _ _ _ _ _ _ r2 rb (fj d2 n2) (fj d f1) ?_
  rw[o6 d f1,o6 d2 n2]
  have:X.A.in1.units<=X.A.units+2:=by simp[Around.in1]
  omega
 ·refine⟨.int _,H,I.tok _,⟨s.toks,?_⟩,q⟩
  rw[show its.toArray.toList=its from rfl,g1]
noncomputable def Uk(K:QQq):V->List V->Hp->VK->Prop:=fun x ys H Q=>((∃a vs,x=.ref a/\jA K H a vs)/\QK K x ys H Q)\/Uj K x ys H Q
def HD(hu:X.A.units+60<cLine):Vm X "list.count" (Uk X.K):=fun γ s σ H x ys v us Q I rx ry h=>h.elim (Hz γ s σ H x ys v us Q I rx ry) (HB hu γ s σ H x ys v us Q I rx ry)
noncomputable def adZ(K:QQq)(to te:TE):TE:=fun σ H Q=>to σ H fun x H1=>∃a vs,x=.ref a/\((jA K H1 a vs/\te σ H1 fun y H2=>Uk K x [y] H2 Q)\/(iQ K H1 a vs/\te σ H1 fun y H2=>(∃a vs,x=.ref a/\iQ K H2 a vs)/\QK K x [y] H2 Q))
def WX(hu:X.A.units+60<cLine)(M:Aa X o "count" apos e cpos)(ho:PE X o to)(he:PE X e te):PE X (.Call (.Attribute o "count" apos) [e] [] cpos) (adZ X.K to te):=by
 intro γ s σ H Q I h
 refine wpAny_Call_method_late M.base M.few M.line rfl (b7 (ho γ s σ H _ I h) fun v s1⟨x,H1,I1,r1,a,vs,ex,q1⟩=>?_)
 subst ex
 cases r1
 have arg:∀{id:String}{r:V->List V->Hp->VK->Prop},Vm X id r->(te σ H1 fun y H2=>r _ [y] H2 Q)->wpAny _ X.A (callWith cpos _ [.ref a] (backTo cpos (starEach [e] X.env)) _) _ X.xe s1:=fun{id r}hm z=>by
  have hA:=cI he fJ M.star cpos γ s1 σ H1 (fun vs H2=>r (.ref a) vs H2 Q) I1 z
  rw[M.star]at hA⊢
  exact Calls.callWith_builtin rfl (Calls.evalArgs_plain (b7 hA fun us s2⟨vs,H2,I2,r2,q2⟩=>hm γ s2 σ H2 (.ref a) vs _ us Q I2 rfl r2 q2))
 rcases q1 with ⟨hq,z⟩|⟨hq,z⟩
 ·obtain⟨its,r,pl,hz⟩:=I1.list hq
  refine⟨"list","list.count",PySem.F.plainAttrs_list,PySem.F.slot_list_count,PySem.F.type_list_count,pl.isList.typeIs,fun b eb=>?_,arg (HD hu) z⟩
  cases eb
  obtain⟨o,n,e,c,hd,_⟩:=pl
  exact⟨o,e,hd⟩
 ·obtain⟨its,r,⟨o,eo,ec,hd,n,dt⟩,hz⟩:=I1.Aq hq
  refine⟨"tuple","tuple.count",PySem.F.plainAttrs_tuple,PySem.F.slot_tuple_count,PySem.F.type_tuple_count,⟨o,eo,ec⟩,fun b eb=>?_,arg Hy z⟩
  cases eb
  exact⟨o,eo,hd⟩
def MP(hu:X.A.units+60<cLine)(M:Aa X o "count" apos e cpos)(ho:GE X W c m1 o)(he:GE X W c m2 e):GE X W c (.count m1 m2) (.Call (.Attribute o "count" apos) [e] [] cpos):=by
 intro env
 refine PE.imp (WX hu M ho.d he.d) fun σ H Q q=>?_
 refine⟨env,aR q fun d δ v H1 N1 D1 q1=>?_⟩
 cases d with
 |tup xs=>
  obtain⟨a,vs,rfl,hq,l⟩:=bZ D1
  refine⟨a,vs,rfl,.inr ⟨hq,δ,aR q1 fun d2 ε y H2 N2 D2 q2=>?_⟩⟩
  obtain⟨z,ez,S,q3⟩:=cg q2
  simp only[tH]at ez
  split at ez
  ·rename_i hf
   cases ez
   rw[QUq]at hf
   exact⟨⟨a,vs,rfl,N2.pers.yz hq⟩,a,vs,xs,d2,y,rfl,rfl,.inr (N2.pers.yz hq),l.mono N2.pers,D2,hf.1,hf.2,q3 _ H2 (Nx.refl S) rfl⟩
  ·cases ez
 |lst xs=>
  obtain⟨a,vs,rfl,hq,l⟩:=cP D1
  refine⟨a,vs,rfl,.inl ⟨hq.sq,δ,aR q1 fun d2 ε y H2 N2 D2 q2=>?_⟩⟩
  obtain⟨z,ez,S,q3⟩:=cg q2
  simp only[tH]at ez
  split at ez
  ·rename_i hf
   cases ez
   rw[QUq]at hf
   exact .inl ⟨⟨a,vs,rfl,(N2.pers.R7 hq).sq⟩,a,vs,xs,d2,y,rfl,rfl,.inl (N2.pers.R7 hq).sq,l.mono N2.pers,D2,hf.1,hf.2,q3 _ H2 (Nx.refl S) rfl⟩
  ·split at ez
   ·rename_i hf
    cases ez
    simp only[QUq,QUz]at hf
    exact .inr ⟨a,vs,xs,d2,y,rfl,rfl,(N2.pers.R7 hq).sq,l.mono N2.pers,D2,hf.1.1,hf.1.2,hf.2,q3 _ H2 (Nx.refl S) rfl⟩
   ·cases ez
 |_=>exact q1.2.elim
def LQ{i:Int}(h:ix? n i=some j)(hn:n<=sizeLine): -(2 ^63)<=i/\i<2 ^63/\seqIndex? i n=some j/\j<n:=by
 have hl:=sizeLine_eq
 unfold ix? at h
 by_cases h0:i<0
 ·simp only[h0,if_true]at h
  by_cases hj:0<=i+n/\i+n<n
  ·rw[if_pos hj]at h
   have e:=QEq h
   exact⟨by omega,by omega,by rw[seqIndex_neg (by omega) (by omega),e],by omega⟩
  ·rw[if_neg hj]at h;cases h
 ·simp only[h0,if_false]at h
  by_cases hj:0<=i/\i<n
  ·rw[if_pos hj]at h
   have e:=QEq h
   exact⟨by omega,by omega,by rw[seqIndex_of (by omega) (by omega),e],by omega⟩
  ·rw[if_neg hj]at h;cases h
def lZ(h:di d=true):∃xs,d=some (.lst xs):=by
 cases d with
 |none=>cases h
 |some d=>cases d with
  |lst xs=>exact⟨xs,rfl⟩
  |_=>cases h
def Xy k k':dR (dJ k') (dJ k)=decide (k'=k):=by
 cases k'<;>cases k<;>simp[dJ,dR,Bool.beq_eq_decide_eq]
def MN{x:Str}(M:Aa X (.Name x p) "pop" apos e cpos)(nm:iT X k x)(he:GE X W c m e):GE X W c (.popAt k m) (.Call (.Attribute (.Name x p) "pop" apos) [e] [] cpos):=by
 intro env γ s σ H Q I q
 refine PE.imp (KY M PySem.F.slot_list_pop PySem.F.type_list_pop Lh nm.pe he.d) (t':=fun ζ H' Q'=>ζ=σ/\H'=H/\Q'=Q) (fun ζ H' Q'⟨e1,e2,e3⟩=>?_) γ s σ H Q I ⟨rfl,rfl,rfl⟩
 subst e1 e2 e3
 simp only[VH]at q
 cases hl:di _ with
 |false=>rw[hl]at q;exact q.2.elim
 |true=>
  rw[hl]at q
  obtain⟨xs0,e0⟩:=lZ hl
  obtain⟨u,eu,Du⟩:=dB q.1 e0
  obtain⟨a0,vs0,rfl,hq0,l0⟩:=Du.lst
  refine⟨.ref a0,eu,.inl ⟨rfl,vs0,hq0⟩,env,aR q fun d δ y H1 N1 D1 q1=>?_⟩
  unfold rF at q1
  cases d with
  |int i=>
   cases e1:aZ k δ with
   |none=>rw[e1]at q1;exact q1.2.elim
   |some d1=>
    rw[e1]at q1
    cases d1 with
    |lst xs=>
     simp only at q1
     cases hz:fits xs.length with
     |false=>rw[hz]at q1;exact q1.2.elim
     |true=>
     rw[hz]at q1
     cases e2:ix? xs.length i with
     |none=>rw[e2]at q1;exact q1.2.elim
     |some j=>
      rw[e2]at q1
      simp only at q1
      cases e3:xs[j]? with
      |none=>rw[e3]at q1;exact q1.2.elim
      |some dd=>
       cases e4:cT k _ δ with
       |none=>rw[e3,e4]at q1;exact q1.2.elim
       |some ε=>
        rw[e3,e4]at q1
        obtain⟨zs,ys,a,vs,ef,es,ha,l,lk,N⟩:=qL q1.1 e4
        rw[e1]at lk
        cases lk
        cases ef
        rw[eu]at es
        cases es
        subst D1
        obtain⟨w,ew,dw⟩:=l.get e3
        obtain⟨b1,b2,b3,b4⟩:=LQ e2 (dG hz)
        exact⟨a0,vs,i,j,w,rfl,rfl,ha,b1,b2,by rw[<-l.length];exact b3,ew,q1.2 w _ (N _ (l.eraseIdx j)) (dw.mono (N _ (l.eraseIdx j)).pers)⟩
    |_=>exact q1.2.elim
  |_=>exact q1.2.elim
def Io{x:Str}(M:Aa X (.Name x p) "append" apos e cpos)(nm:iT X k x)(he:GE X W c m e):GS X W c (.append k m) (.Expr (.Call (.Attribute (.Name x p) "append" apos) [e] [] cpos) pos):=by
 intro env
 refine PS.imp (wC (KY M PySem.F.slot_list_append PySem.F.type_list_append vd nm.pe he.d) rfl) fun D σ H q=>?_
 simp only[x_9]at q
 cases hl:di _ with
 |false=>rw[hl]at q;exact q.2.elim
 |true=>
  rw[hl]at q
  obtain⟨xs0,e0⟩:=lZ hl
  obtain⟨u,eu,Du⟩:=dB q.1 e0
  obtain⟨a0,vs0,rfl,hq0,l0⟩:=Du.lst
  refine⟨.ref a0,eu,.inl ⟨rfl,vs0,hq0⟩,env,n8 q fun d δ y H1 N1 D1 q1=>?_⟩
  cases e4:cT k _ δ with
  |none=>rw[e4]at q1;exact q1.2.elim
  |some ε=>
   rw[e4]at q1
   obtain⟨zs,ys,a,vs,ef,es,ha,l,lk,N⟩:=qL q1.1 e4
   rw[eu]at es
   cases es
   split at ef
   ·rename_i hf
    cases ef
    have:=dG hf
    refine⟨a0,vs,y,rfl,rfl,ha,by rw[<-l.length];omega,q1.2 _ _ (N _ (l.append (aq.cV D1 aq.eQ))).z⟩
   ·cases ef
noncomputable def abo(K:QQq):V->List V->Hp->VK->Prop:=fun x vs H Q=>∃l b xs zs,x=.ref l/\vs=[.ref b]/\H l=some (.lst xs)/\jA K H b zs/\xs.length+zs.length<=sizeLine/\Q .non (upd H l (.lst (xs++zs)))
def ur l items n b items2 n2 sl(hc0:¬(!items.isEmpty&&Builtin.List.listTooLong (items.size+items2.size))=true)(hc1:items.size<=sizeLine)(hs2:items.size+items2.size<=sizeLine+1):
  Meets (Builtin.«list.extend» ⟨[.ref l,.ref b],[]⟩) (fun _ R s=>s.heap.get? l=some {cls:=.type "list",dict:=none,data:=.seq items n,slots:= #[]}/\s.heap.get? b=some {cls:=.type "list",dict:=none,data:=.seq items2 n2,slots:=sl}/\R (.ok (.ret Value.none)) {s with heap:=s.heap.update l (Obj.mapSeq fun x=>x++items2),toks:=s.toks}):=
 .of_wp fun prog w A R s h=>by
  obtain⟨hp,g,d,tk,os⟩:=s;obtain⟨hl,hb,h⟩:=h;have f1:=AutoSeq1.idx_int;have f2:=AutoSeq1.sub_tuple_tuple;have f3:=AutoSeq1.sub_list_list;have f4:=AutoSeq1.sub_tuple_list;have f5:=AutoSeq1.sub_list_tuple;
  have hz':(items++items2).size<=sizeLine+1:=by rw[Array.size_append];exact hs2
  wp_walk using (wpAny_updateSeq hl rfl),AutoSeq1.wpAny_loadPart' hl,AutoSeq1.wpAny_loadPart' hb;exact⟨_,rfl,h⟩
def Ru:Vm X "list.extend" (abo X.K):=by
 intro γ s σ H x vs v us Q I rx rv h
 obtain⟨l,b,xs,zs,rfl,rfl,hH,hB,hz,q⟩:=h
 cases rx
 obtain⟨u,rfl,ru⟩:=Vals.one rv
 cases ru
 obtain⟨z,its,n,r,hl,e⟩:=I.Xn hH
 obtain⟨its2,r2,⟨⟨cls,dd,data,sl⟩,n2,e2,hc2,hd2,hdt⟩,hz2⟩:=I.list hB
 have hl2:=r2.length
 subst hc2 hdt hd2
 have hsz:its.toArray.size+its2.toArray.size<=sizeLine:=by rw[Qyq,Qyq];omega
 have hlong:¬(!its.toArray.isEmpty&&Builtin.List.listTooLong (its.toArray.size+its2.toArray.size))=true:=by
  rw[K9 hsz,Bool.and_false]
  exact Qjz
 refine call_meets PySem.F.slot_list_extend ⟨_,e,rfl⟩ PySem.F.entry_list_extend (PySem.F.args_list_extend_2 _ _)
  (ur l its.toArray n b its2.toArray n2 sl hlong (by rw[Qyq];omega) (by omega)) ⟨e,e2,?_⟩
 refine⟨.non,_,I.Xo hH e (by simp) (r.append r2) ?_,rfl,q⟩
 rw[QTq]
 omega
def Im{x:Str}(M:Aa X (.Name x p) "extend" apos e cpos)(nm:iT X k x)(he:GE X W c m e):GS X W c (.extend k m) (.Expr (.Call (.Attribute (.Name x p) "extend" apos) [e] [] cpos) pos):=by
 intro env
 refine PS.imp (wC (KY M PySem.F.slot_list_extend PySem.F.type_list_extend Ru nm.pe he.d) rfl) fun D σ H q=>?_
 simp only[adJ]at q
 cases hl:di _ with
 |false=>rw[hl]at q;exact q.2.elim
 |true=>
  rw[hl]at q
  obtain⟨xs0,e0⟩:=lZ hl
  obtain⟨u,eu,Du⟩:=dB q.1 e0
  obtain⟨a0,vs0,rfl,hq0,l0⟩:=Du.lst
  refine⟨.ref a0,eu,.inl ⟨rfl,vs0,hq0⟩,env,n8 q fun d δ y H1 N1 D1 q1=>?_⟩
  cases d with
  |lst ys=>
   simp only[iG,Option.bind]at q1
   cases e4:cT k _ δ with
   |none=>rw[e4]at q1;exact q1.2.elim
   |some ε=>
    rw[e4]at q1
    obtain⟨zs,ys',a,vs,ef,es,ha,l,lk,N⟩:=qL q1.1 e4
    rw[eu]at es
    cases es
    obtain⟨b,ws,rfl,hb,l1⟩:=cP D1
    split at ef
    ·rename_i hf
     cases ef
     exact⟨a0,b,vs,ws,rfl,rfl,ha,hb.sq,by rw[<-l.length,<-l1.length];exact dG hf,q1.2 _ _ (N _ (l.append l1)).z⟩
    ·cases ef
  |_=>exact q1.2.elim
noncomputable def Ue:V->V->V->Hp->(Hp->Prop)->Prop:=fun o i v H Q=>∃a H',o=.ref a/\O7 H a i v H'/\Q H'
def Qi(hu:X.A.units+1<cLine):O3 X Ue:=by
 intro γ s σ H o i v ov iv u Q I ro ri rv h
 obtain⟨a,H',rfl,g,q⟩:=h
 cases ro
 exact Iz hu I g ri rv fun s4 I4=>⟨H',I4,q⟩
noncomputable def Uc(K:QQq):V->V->V->Hp->(Hp->Prop)->Prop:=fun o i v H Q=>∃d a k xs,o=.ref d/\i=.ref a/\H d=some (.dS xs)/\(∀x∈xs,bU K H x.1 x.2.1)/\bU K H k a/\xs.length<sizeLine/\Q (upd H d (.dS (lY k a v xs)))
def Wh(hu:X.A.units+2<cLine):O3 X (Uc X.K):=by
 intro γ s σ H o i v ov iv u Q I ro ri rv h
 obtain⟨d,a,k,xs,rfl,rfl,hd,hk,ka,hl,q⟩:=h
 cases ro
 cases ri
 exact Ha hu I hd hk ka hl rv fun s4 I4=>⟨_,I4,q⟩
noncomputable def abi(K:QQq):V->V->V->Hp->(Hp->Prop)->Prop:=fun o i v H Q=>Ud o i v H Q\/Ue o i v H Q\/Uc K o i v H Q
def Qj(hu:X.A.units+2<cLine):O3 X (abi X.K):=by
 intro γ s σ H o i v ov iv u Q I ro ri rv h
 rcases h with h|h|h
 ·exact set_list γ s σ H o i v ov iv u Q I ro ri rv h
 ·exact Qi (by omega) γ s σ H o i v ov iv u Q I ro ri rv h
 ·exact Wh hu γ s σ H o i v ov iv u Q I ro ri rv h
def XH{i:Int}(h:ix? n i=some j):RD n i=some j:=by
 unfold ix? at h
 unfold RD
 by_cases h0:i<0
 ·simp only[h0,if_true]at h
  rw[if_neg (by omega)]
  by_cases hj:0<=i+n/\i+n<n
  ·rw[if_pos hj]at h;rw[if_pos (by omega)];exact h
  ·rw[if_neg hj]at h;cases h
 ·simp only[h0,if_false]at h
  rw[if_pos (by omega)]
  by_cases hj:0<=i/\i<n
  ·rw[if_pos hj]at h;rw[if_pos hj.2];exact h
  ·rw[if_neg hj]at h;cases h
theorem yE{H:Hp}{d:D}(hv:bJ K H d v):∀{kvs:List (Key×V)}{ds:List D},aq K H ds (kvs.map (·.2))->
  aq K H (pM (dJ k) d (kvs.map fun p=>dJ p.1) ds) ((kvs.map fun kv=>if kv.1=k then(kv.1,v)else kv).map (·.2))
 |[],ds,l=>by
  have:ds=[]:=by have:=l.length;cases ds<;>simp_all
  exact aq.eQ
 |(k',u)::r,ds,l=>by
  cases ds with
  |nil=>have:=l.length;simp at this
  |cons x ds=>
   obtain⟨w,ws,e,h1,h2⟩:=aq.aG.mp l
   cases e
   have ih:=yE (k:=k) hv h2
   simp only[Qyz,pM,Xy]
   by_cases q:k'=k
   ·simp only[q,decide_true,if_true]
    exact aq.cV hv ih
   ·simp only[q,decide_false,Qxq,if_false]
    exact aq.cV h1 ih
theorem uQ{v:V}:∀(kvs:List (Key×V)),(kvs.map fun kv=>if kv.1=k then(kv.1,v)else kv).map (fun p=>dJ p.1)=kvs.map fun p=>dJ p.1
 |[]=>rfl
 |(k',u)::r=>by
  simp only[Qyz,uQ r]
  split<;>rfl
def Em{H:Hp}{d:D}(hv:bJ K H d v){ds:List D}(l:aq K H ds (kvs.map (·.2))):
  (putD (dJ k) d (kvs.map fun p=>dJ p.1) ds).1=(putK kvs k v).map (fun p=>dJ p.1)/\aq K H (putD (dJ k) d (kvs.map fun p=>dJ p.1) ds).2 ((putK kvs k v).map (·.2)):=by
 unfold putD putK
 rw[<-j9,<-yf]
 split
 ·rename_i h
  exact⟨(uQ kvs).symm,yE hv l⟩
 ·refine⟨by simp,?_⟩
  rw[List.map_append]
  exact l.append (aq.cV hv aq.eQ)
theorem T9{H:Hp}{d:D}(hv:bJ K H d v):∀{xs:List SV}{ds:List D},aq K H ds (xs.map (·.2.2))->
  aq K H (pM (eX k) d (xs.map fun x=>eX x.1) ds) ((xs.map fun x=>if x.1=k then(x.1,x.2.1,v)else x).map (·.2.2))
 |[],ds,l=>by
  have:ds=[]:=by have:=l.length;cases ds<;>simp_all
  exact aq.eQ
 |x::r,ds,l=>by
  cases ds with
  |nil=>have:=l.length;simp at this
  |cons z ds=>
   obtain⟨w,ws,e,h1,h2⟩:=aq.aG.mp l
   cases e
   have ih:=T9 (k:=k) hv h2
   simp only[Qyz,pM,Cw]
   by_cases q:x.1=k
   ·simp only[q,decide_true,if_true]
    exact aq.cV hv ih
   ·simp only[q,decide_false,Qxq,if_false]
    exact aq.cV h1 ih
theorem q8{v:V}:∀xs:List SV,(xs.map fun x=>if x.1=k then(x.1,x.2.1,v)else x).map (fun x=>eX x.1)=xs.map fun x=>eX x.1
 |[]=>rfl
 |x::r=>by
  simp only[Qyz,q8 r]
  split<;>rfl
def Ko{H:Hp}{a:Addr}{v:V}(hv:bJ K H d v)(ka:bU K H k a){ds:List D}(hk:∀x∈xs,bU K H x.1 x.2.1)(l:aq K H ds (xs.map (·.2.2))):
  (putD (eX k) d (xs.map fun x=>eX x.1) ds).1=(lY k a v xs).map (fun x=>eX x.1)/\(∀x∈lY k a v xs,bU K H x.1 x.2.1)/\aq K H (putD (eX k) d (xs.map fun x=>eX x.1) ds).2 ((lY k a v xs).map (·.2.2)):=by
 unfold putD lY
 rw[FP]
 split
 ·refine⟨(q8 xs).symm,fun x hx=>?_,T9 hv l⟩
  obtain⟨y,hy,rfl⟩:=QDq.mp hx
  split
  ·exact hk y hy
  ·exact hk y hy
 ·refine⟨by simp,fun x hx=>?_,?_⟩
  ·rcases QXz.mp hx with z|z
   ·exact hk x z
   ·rw[QDz.mp z];exact ka
  ·rw[List.map_append]
   exact l.append (aq.cV hv aq.eQ)
theorem My{x:Str}{ixe:Expr}(nm:iT X k x)(he:GE X W c m e)(hi:GE X W c ix ixe)
  (ha:∀v,assign (.Subscript (.Name x p) ixe tp) X.env v=(do
   let ov<-holding [v] (eval (.Name x p) X.env)
   let iv<-holding [v,ov] (eval ixe X.env)
   standAt tp
   holding [v,ov,iv] (setItem ov iv v)
   release [v,ov,iv] []))
  (hs:swapsWithSole [.Subscript (.Name x p) ixe tp] e pos.line X.env=pure false)(hw:swappedStores [.Subscript (.Name x p) ixe tp] e X.env=pure none)(hu:X.A.units+2<cLine)
  (h1:(assignEach [.Subscript (.Name x p) ixe tp] X.env).map (·.2)=[assign (.Subscript (.Name x p) ixe tp) X.env]):
  GS X W c (.setIx k ix m) (.Assign [.Subscript (.Name x p) ixe tp] e pos):=by
 intro env
 refine PS.imp (Ku he.d (WM nm.pe hi.d (Qj hu) ha) hs hw h1) fun D σ H q=>?_
 refine⟨env,n8 q fun d δ v H1 N1 D1 q1=>?_⟩
 cases e0:aZ k δ with
 |none=>rw[e0]at q1;exact q1.2.elim
 |some d0=>
  rw[e0]at q1
  obtain⟨u,eu,Du⟩:=dB q1.1 e0
  refine⟨u,eu,δ,n8 q1 fun d2 ε y H2 N2 D2 q2=>?_⟩
  cases e4:cT k _ ε with
  |none=>rw[e4]at q2;exact q2.2.elim
  |some env3=>
   rw[e4]at q2
   obtain⟨o,o',a,w,ef,es,hA,hd,lk,N⟩:=DR q2.1 e4
   rw[eu]at es
   cases es
   cases o with
   |lst xs=>
    obtain⟨vs,rfl,l⟩:=hd
    cases d2 with
    |int i=>
     simp only[yQ]at ef
     cases e5:ix? xs.length i with
     |none=>rw[e5]at ef;cases ef
     |some j=>
      rw[e5]at ef
      cases ef
      subst D2
      exact .inl ⟨a,vs,i,j,rfl,rfl,hA,by rw[<-l.length];exact XH e5,q2.2 _ _ (N _ ⟨_,rfl,l.set (D1.mono N2.pers) j⟩).z⟩
    |_=>cases ef
   |dct ks ds=>
    obtain⟨kvs,rfl,rfl,l⟩:=hd
    simp only[yQ]at ef
    split at ef
    ·rename_i hk
     rw[QUq]at hk
     cases ef
     obtain⟨kk,rfl⟩:=f9 hk.1
     have ek:=lF D2
     subst ek
     obtain⟨g1,g2⟩:=Em (D1.mono N2.pers) l
     have hf:=dG hk.2
     rw[QAq]at hf
     exact .inr (.inl ⟨a,_,rfl,O7.k hA (by omega),q2.2 _ _ (N _ ⟨_,rfl,g1,g2⟩).z⟩)
    ·cases ef
   |sdt ks ds=>
    obtain⟨xs,rfl,rfl,hks,l⟩:=hd
    simp only[yQ]at ef
    split at ef
    ·rename_i hk
     rw[QUq]at hk
     cases ef
     obtain⟨kk,rfl⟩:=gA hk.1
     obtain⟨b,rfl,kb⟩:=lU D2
     obtain⟨g1,g2,g3⟩:=Ko (D1.mono N2.pers) kb hks l
     have hf:=dG hk.2
     rw[QAq]at hf
     exact .inr (.inr ⟨a,b,kk,xs,rfl,rfl,hA,hks,kb,by omega,q2.2 _ _ (N _ ⟨_,rfl,g1,g2,g3⟩).z⟩)
    ·cases ef
end
section
def X8(he:GE X W c m e)(hv:∀k,m.aB=some k->∃x p,e=.Name x p/\iT X k x):GS X W c (.ret m) (.Return (some e) pos):=by
 intro env
 have plain:∀D σ H,tS X.K W env ((ev c m env).fl ul) D σ H->aaE (aM X W c m) D σ H:=fun D σ H q=>by
  refine⟨env,TY q fun x δ v H1 N z q1=>?_⟩
  cases x with
  |val d=>exact q1.2 v σ H1 N.z z
  |new o=>
   obtain⟨a,e1,e2,e3⟩:=z
   exact q1.2 v σ H1 N.z ⟨a,e1,e2,.inl e3⟩
  |ref i=>exact q1.2.elim
 cases q0:m.aB with
 |none=>exact PS.imp (oK he.am) fun D σ H q=>plain D σ H (by simpa only[Ai,q0]using q)
 |some k=>
  cases e0:env[k]? with
  |none=>exact PS.imp (oK he.am) fun D σ H q=>plain D σ H (by simpa only[Ai,q0,e0]using q)
  |some sl=>
   cases sl with
   |un=>exact PS.imp (oK he.am) fun D σ H q=>plain D σ H (by simpa only[Ai,q0,e0]using q)
   |val d=>exact PS.imp (oK he.am) fun D σ H q=>plain D σ H (by simpa only[Ai,q0,e0]using q)
   |bor o=>exact PS.imp (oK he.am) fun D σ H q=>plain D σ H (by simpa only[Ai,q0,e0]using q)
   |own o=>
    obtain⟨x,p,rfl,nm⟩:=hv k q0
    refine PS.imp (oK nm.pe) fun D σ H q=>?_
    simp only[Ai,q0,e0]at q
    obtain⟨a,e1,e2⟩:=q.1.sl k _ e0
    have es:=bV e1
    have hi:=(QCz.mp e0).1
    have sub:∀j b,aQ (env.set k .un) σ j b->aQ env σ j b:=fun j b z=>by
     obtain⟨⟨s,ys,z1,z2⟩,z3⟩:=z
     by_cases hj:k=j
     ·subst hj;rw[Qwq hi]at z1;cases z1;cases z2
     ·rw[Qxz hj]at z1;exact⟨⟨s,ys,z1,z2⟩,z3⟩
    refine⟨.ref a,es,q.2 _ σ H ⟨⟨by simpa using q.1.len,fun j s ej=>?_,fun j l b z w=>q.1.ne j l b (sub j b z) (sub l b w)⟩,fun j b z=>.inl (sub j b z),bN.refl H,fun _ _ z _=>z,fun _ z=>z,fun j ys ej=>?_⟩ ⟨a,rfl,e2,.inr ⟨k,o,e0,es⟩⟩⟩
    ·by_cases hj:k=j
     ·subst hj;rw[Qwq hi]at ej;cases ej;trivial
     ·rw[Qxz hj]at ej;exact q.1.sl j s ej
    ·exact⟨⟨ys,by rw[Qxz (fun z=>by subst z;rw[e0]at ej;cases ej)];exact ej⟩,rfl⟩
def RV:GS X W c (.ret ABX) (.Return none pos):=fun env=>PS.imp QS fun D σ H q=>by
 simp only[Ai,E.aB,v_0,v_1,v_2,v_3,v_4,v_5,v_6,v_7,v_8,Zi,GD,PQ,aar,Jr,aaq,aap,VM,PN,PL,aao,mU,VL,VJ,aan,VH,lQ,Out.fl,ul]at q
 exact q.2 .non σ H (Nz.refl q.1) rfl
theorem lW lo:∀(n i:Nat)(d:D),(cB lo n)[i]? =some d->d=.int (lo+i)/\i<n
 |0,i=>fun d h=>by simp[cB]at h
 |n+1,0=>fun d h=>by simp[cB]at h;exact⟨by rw[<-h];simp,by omega⟩
 |n+1,i+1=>fun d h=>by
  obtain⟨e,l⟩:=lW _ n i d h
  refine⟨by rw[e];congr 1;push_cast;omega,by omega⟩
theorem lV lo:∀n,(cB lo n).length=n
 |0=>rfl
 |n+1=>by rw[cB,QBq,lV]
theorem zK{H:Hp}{n:Nat}(hz:n<=sizeLine):Gives K (Itr lo n) (cB lo n) H where
 go:=fun H1 p i d e=>(lW lo n i d e).2
 yld:=fun H1 p i d e x H2 y=>by
  obtain⟨rfl,rfl⟩:=y
  rw[(lW lo n i d e).1]
  exact⟨rfl,.inl rfl⟩
 stop:=fun H1 p i hi=>by rw[lV]at hi;exact hi
 len:=by rw[lV];exact hz
def Lj(h:Ez i=true): -(2 ^62)<=i/\i<2 ^62:=by
 simp only[Ez,QUz]at h
 omega
def Iu{tg:Expr}(ha:GE X W c m a)(hg:Gl X "range")(hm:X.mg "range"=none)(hs:starEach [a] X.env=[(false,eval a X.env)]):GI X W c (.range1 m) tg (.Call (.Name "range" p) [a] [] pos):=by
 intro env γ s σ H R I q
 refine Hr hg hm (cI ha.d fJ hs) hs γ s σ H R I ⟨env,q.1,?_⟩
 have q2:=q.2
 simp only[VL]at q2
 have go:∀d δ v H',Nx X.K env σ H δ H'->bJ X.K H' d v->(match (lift δ (match d with|.int n=>if fits n.toNat&&Ez n then some (Rv.val (.lst (cB 0 n.toNat)))else none|_=>none))with
   |.ok x env'=>∃d xs,x.jj=some d/\items d=some xs/\∀J H',Nx X.K env σ H env' H'->Gives X.K J xs H'->R J H'
   |.exc c env'=>∀H',Nx X.K env σ H env' H'->W c env' σ H'
   |.bad=>False)->∃j:Int,[v]=[.int j]/\ -(2 ^62)<=j/\j<2 ^62/\R (Itr 0 j.toNat) H':=fun d δ v H' N Dv z=>by
  cases d with
  |int n=>
   simp only at z
   by_cases hf:(fits n.toNat&&Ez n)=true
   ·rw[if_pos hf]at z
    rw[QUq]at hf
    obtain⟨d',xs,e1,e2,z⟩:=z
    cases e1
    cases e2
    have hv:v=.int n:=Dv
    subst hv
    exact⟨n,rfl,(Lj hf.2).1,(Lj hf.2).2,z _ H' N (zK (dG hf.1))⟩
   ·rw[if_neg hf]at z;exact z.elim
  |_=>exact z.elim
 cases r:ev c m env with
 |bad=>rw[r]at q2;exact q2
 |exc k δ=>rw[r]at q2;exact q2
 |ok x δ=>
  rw[r]at q2
  cases x with
  |val d=>exact fun v H' N Dv=>go d δ v H' N Dv q2
  |new o=>exact fun v H' N Dv=>go o.d δ v H' N Dv q2
  |ref i=>exact q2
theorem jB.z{tg:Tg}{σ ζ:St}(st:jB K tg env σ env' ζ H):Nz K env σ H env' ζ H:=
 ⟨st.eV,fun i a z=>.inl (st.sub z),bN.refl _,fun _ _ z _=>z,fun _ z=>z,fun i xs e=>⟨⟨xs,(st.same i (st.bors i xs e)).1.trans e⟩,(st.same i (st.bors i xs e)).2⟩⟩
theorem DW{env:Ev}{H:Hp}{f:Fl}{D:Ends}(q:tS K W env (f.turn g) D σ H)
  (k:∀ε ρ H2,Nz K env σ H ε ρ H2->tS K W ε (g ε) D ρ H2->N ρ H2):tS K W env f {D with nx:=N,ct:=N,bk:=D.nx} σ H:=by
 refine⟨q.1,?_⟩
 cases f with
 |next ε=>exact fun ρ H2 N2=>k ε ρ H2 N2 (qO q N2)
 |cont ε=>exact fun ρ H2 N2=>k ε ρ H2 N2 (qO q N2)
 |brk ε=>exact q.2
 |ret r ε=>exact q.2
 |exc j ε=>exact q.2
 |bad=>exact q.2
theorem Yb{tg:Tg}{it:E}{b:S}(hp:PassesOwn (model X.prog X.w) X.A X.env X.xe)(hc:X.calm=true)(hi:GI X W c it Ξ ο)(hg:GG X tg Ξ)(hb:Pr X W c b body)
  (hs:∀x,foldedSetIterable ο X.env x=pure x):GS X W c (.for_ tg it b) (.For Ξ ο body [] pos):=by
 intro env γ s σ H D I q
 refine(WK (pos:=pos) hp hc (wi:=fun ζ H' R=>ζ=σ/\H'=H/\tI X.K W env (ev c it env) σ H R) (fun γ s ζ H' R I'⟨e1,e2,z⟩=>by subst e1 e2;exact hi env γ s _ _ R I' z) hg (tb:=fun D σ H=>∃env,tS X.K W env _ D σ H) (fun γ s σ H D I⟨env,z⟩=>hb env γ s σ H D I z) hs) γ s σ H D I ⟨rfl,rfl,?_⟩
 simp only[adI]at q
 have tur:∀δ xs J H1,Nx X.K env σ H δ H1->Gives X.K J xs H1->tS X.K W δ _ D σ H1->∃W':Nat->Nat->St->Hp->Prop,(∃m,W' 0 m σ H1)/\∀i m σ H,W' i m σ H->
   (J.stop i H/\D.nx σ H)\/(J.go i H/\∃N:St->Hp->Prop,(∀ζ H',N ζ H'->∃m',m'<m/\W' (i+1) m' ζ H')/\∀x H',J.yld i H x H'->tG X.K tg x σ H' fun ρ H2=>∃env,tS X.K W env (ex c b env) {D with nx:=N,ct:=N,bk:=D.nx} ρ H2):=fun δ xs J H1 N1 G z=>by
  refine⟨fun i m ζ H'=>i<=xs.length/\m=xs.length-i/\bN H1 H'/\∃env',tS X.K W env' (bA tg (ex c b) (xs.drop i) env') D ζ H',⟨xs.length,QIq _,by simp,bN.refl _,δ,z⟩,?_⟩
  rintro i m ζ H' ⟨hi,rfl,pe,env',z⟩
  by_cases hl:i<xs.length
  ·obtain⟨d,hd⟩:∃d,xs[i]? =some d:=⟨xs[i],by simp[hl]⟩
   rw[vK hd,bA]at z
   cases e:bD tg d env' with
   |none=>rw[e]at z;exact z.2.elim
   |some ε=>
    rw[e]at z
    refine .inr ⟨G.go H' pe i d hd,fun ρ H2=>bN H1 H2/\∃env3,tS X.K W env3 _ D ρ H2,fun ρ H2⟨p2,w⟩=>⟨xs.length- (i+1),by omega,hl,rfl,p2,w⟩,fun x H2 y=>?_⟩
    obtain⟨Dx,lay⟩:=G.yld H' pe i d hd x H2 y
    have N2:=z.1.lay lay
    refine⟨env',d,ε,N2.eV,Dx,e,fun ρ st=>⟨ε,DW (qO z (N2.z.trans st.z)) fun env3 σ3 H3 N3 w=>⟨(pe.trans N2.pers).trans N3.pers,env3,w⟩⟩⟩
  ·have e:i=xs.length:=by omega
   subst e
   rw[List.drop_length,bA]at z
   exact .inl ⟨G.stop H' pe _ (QVz _),z.2 ζ H' (Nz.refl z.1)⟩
 refine⟨q.1,?_⟩
 have go:∀(x:Rv)δ d,x.jj=some d->(match (match items d with|some xs=>bA tg (ex c b) xs δ|none=>Fl.bad)with
   |.next env'=>∀ζ H',Nz X.K env σ H env' ζ H'->D.nx ζ H'
   |.ret r env'=>∀v ζ H',Nz X.K env σ H env' ζ H'->O2 X.K env σ H H' r v->D.rt v H'
   |.brk env'=>∀ζ H',Nz X.K env σ H env' ζ H'->D.bk ζ H'
   |.cont env'=>∀ζ H',Nz X.K env σ H env' ζ H'->D.ct ζ H'
   |.exc c env'=>∀ζ H',Nz X.K env σ H env' ζ H'->W c env' ζ H'
   |.bad=>False)->∃d xs,x.jj=some d/\items d=some xs/\∀J H',Nx X.K env σ H δ H'->Gives X.K J xs H'->∃W':Nat->Nat->St->Hp->Prop,(∃m,W' 0 m σ H')/\∀i m σ H,W' i m σ H->
   (J.stop i H/\D.nx σ H)\/(J.go i H/\∃N:St->Hp->Prop,(∀ζ H',N ζ H'->∃m',m'<m/\W' (i+1) m' ζ H')/\∀x H',J.yld i H x H'->tG X.K tg x σ H' fun ρ H2=>∃env,tS X.K W env (ex c b env) {D with nx:=N,ct:=N,bk:=D.nx} ρ H2):=fun x δ d ed z=>by
  cases e1:items d with
  |none=>rw[e1]at z;exact z.elim
  |some xs=>
   rw[e1]at z
   exact⟨d,xs,ed,e1,fun J H1 N G=>tur δ xs J H1 N G (qO ⟨q.1,z⟩ N.z)⟩
 have q2:=q.2
 cases r:ev c it env with
 |bad=>rw[r]at q2;exact q2
 |exc k δ=>rw[r]at q2;exact fun H' N=>q2 σ H' N.z
 |ok x δ=>
  rw[r]at q2
  cases x with
  |val d=>exact go _ δ d rfl q2
  |new o=>exact go _ δ o.d rfl q2
  |ref i=>exact q2.elim
def Mx{t:E}{b:S}(hp:PassesOwn (model X.prog X.w) X.A X.env X.xe)(ht:GT X W c t te)(hb:Pr X W c b body):GS X W c (.while_ t b) (.While te body [] pos):=by
 intro env
 refine PS.imp (Ks hp ht (tb:=fun D σ H=>∃env,tS X.K W env _ D σ H) (fun γ s σ H D I⟨env,z⟩=>hb env γ s σ H D I z)) fun D σ H q=>?_
 refine⟨fun n ζ H'=>∃env',tS X.K W env' (bQ _ _ n env') D ζ H',⟨c.turns,env,q⟩,?_⟩
 rintro n ξ H1 ⟨δ,q1⟩
 cases n with
 |zero=>exact q1.2.elim
 |succ n=>
  refine⟨δ,JG q1 fun k ε H2 N2 q2=>?_⟩
  cases k with
  |true=>
   refine⟨fun ζ H'=>∃env',tS X.K W env' _ D ζ H',fun ζ H' w=>⟨n,Nat.lt_succ_self n,w⟩,ε,DW q2 fun env3 σ3 H3 N3 w=>⟨env3,w⟩⟩
  |false=>
   exact q2.2 ξ H2 (Nz.refl q2.1)
end
structure Cz(K:QQq)(ps:List Sl)(vs:List V)(H:Hp)(qs:List Sl)(H':Hp):Prop where
 bor:∀(i:Nat)o,ps[i]? =some (.bor o)->∃o' a,qs[i]? =some (.bor o')/\vs[i]? =some (.ref a)/\jE K H' o' a
 pers:bN H H'
 keep:∀b u,H b=some u->(∀i,¬aQ ps (vs.map some) i b)->H' b=some u
 dom:∀b,H' b=none->H b=none
noncomputable def agm(K:QQq)(H H':Hp):Rv->V->Prop
 |.val d,v=>bJ K H' d v
 |.new q,v=>∃a,v=.ref a/\jE K H' q a/\H a=none
 |_,_=>False
def noOwn(ps:List Sl):Prop:=∀(i:Nat)o,ps[i]? ≠some (.own o)
noncomputable def wj(K:QQq)(n:Nat)(f:List Sl->Res):Sp:=fun vs H Q _=>∃ps,vs.length=n/\Sat K ps (vs.map some) H/\noOwn ps/\match f ps with
 |.ok r qs=>∀v H',Cz K ps vs H qs H'->agm K H H' r v->Q v H'
 |.exc _ qs=>∀H',Cz K ps vs H qs H'->False
 |.bad=>False
def wD{ps:List Sl}{vs:List V}{b:Addr}(hl:ps.length=vs.length):aQ (ps++List.replicate k .un) (vs.map some++List.replicate k none) i b↔aQ ps (vs.map some) i b:=by
 constructor
 ·rintro ⟨⟨s,o,e1,e2⟩,e3⟩
  by_cases hi:i<ps.length
  ·rw[Qwz hi]at e1
   rw[Qwz (by simpa[<-hl]using hi)]at e3
   exact⟨⟨s,o,e1,e2⟩,e3⟩
  ·rw[QIz (by omega),List.getElem?_replicate]at e1
   split at e1
   ·cases e1;cases e2
   ·cases e1
 ·rintro ⟨⟨s,o,e1,e2⟩,e3⟩
  have hi:=(QCz.mp e1).1
  exact⟨⟨s,o,by rw[Qwz hi];exact e1,e2⟩,by rw[Qwz (by simpa[<-hl]using hi)];exact e3⟩
def Sat.pad{ps:List Sl}{vs:List V}(S:Sat K ps (vs.map some) H)k:Sat K (ps++List.replicate k .un) (vs.map some++List.replicate k none) H:=by
 have hl:ps.length=vs.length:=by simpa using S.len
 refine⟨by simp[hl],fun i s e=>?_,fun i j a h1 h2=>S.ne i j a ((wD hl).mp h1) ((wD hl).mp h2)⟩
 by_cases hi:i<ps.length
 ·rw[Qwz hi]at e
  rw[Qwz (by simpa[<-hl]using hi)]
  exact S.sl i s e
 ·rw[QIz (by omega),List.getElem?_replicate]at e
  split at e
  ·cases e;trivial
  ·cases e
def Nz.cz{ps:List Sl}{H H':Hp}{k n:Nat}{ζ:St}(S:Sat K ps (vs.map some) H)(hn:vs.length=n)(N:Nz K (ps++List.replicate k .un) (vs.map some++List.replicate k none) H env' ζ H'):Cz K ps vs H (env'.take n) H':=by
 have hl:ps.length=vs.length:=by simpa using S.len
 refine⟨fun i o e=>?_,N.pers,fun b u hb no=>N.keep b u hb fun i z=>no i ((wD hl).mp z),N.dom⟩
 have hi:=(QCz.mp e).1
 obtain⟨⟨o',e1⟩,e2⟩:=N.bors i o (by rw[Qwz hi];exact e)
 obtain⟨a,z1,z2⟩:=N.eV.sl i _ e1
 rw[e2,Qwz (by simpa[<-hl]using hi),QFz]at z1
 refine⟨o',a,by rw[List.getElem?_take_of_lt (by omega)];exact e1,?_,z2⟩
 cases q:vs[i]? with
 |none=>rw[q]at z1;cases z1
 |some v=>rw[q]at z1;simp at z1;rw[z1]
section
theorem R8{st:Stmt}{fd:FuncData}{k:Nat}{g:Fn}(F:Y5 K x qual st f fd)(S:lJ N ps (aY st))(hp:g.pars=ps.length)(hn:g.names=N.length)
  (hb:∀(cdv:Value)(A:Around)(outer:List Env)(s:Shared)(H:Hp)(E:XK),jD k (A.deeper (PyProof.Rows.envOfC qual (aY st) s.heap.objs.size f cdv))->Pr (CQ Pb P w K mg base N qual (aY st) f cdv A outer s H E).nox W0 c g.body (eG st)):
  pH P w K mg base Pb (k+1) f fd ps (wj K ps.length (iC c g)):=by
 refine F.ok S (fun vs H Q E h=>?_) (fun cdv A outer s H vs Q E hr h=>?_)
 ·obtain⟨_,h,_⟩:=h
  exact h
 ·obtain⟨sl,hl,S0,no,q⟩:=h
  refine⟨_,hb cdv A outer s H E hr (sl++List.replicate (g.names-g.pars) .un),?_⟩
  have hlen:sl.length=vs.length:=by simpa using S0.len
  have hst:L2.start N vs=vs.map some++List.replicate (g.names-g.pars) none:=by
   unfold L2.start
   rw[hn,hp,hl]
  have e0:iC c g sl=match ex c g.body (sl++List.replicate (g.names-g.pars) .un)with
    |.next σ=>.ok (.val .non) (σ.take g.pars)
    |.ret r σ=>.ok r (σ.take g.pars)
    |.exc k σ=>.exc k (σ.take g.pars)
    |_=>.bad:=by
   unfold iC
   rw[if_pos (by rw[hp,<-hl,hlen])]<;>cases ex c g.body _<;>rfl
  rw[e0]at q
  rw[hst]
  refine⟨S0.pad _,?_⟩
  have hg:vs.length=g.pars:=by rw[hl,hp]
  cases r:ex c g.body _ with
  |next env'=>rw[r]at q;exact fun ζ H' N=>q .non H' (N.cz S0 hg) rfl
  |ret rv env'=>
   rw[r]at q
   refine fun v ζ H' N z=>q v H' (N.cz S0 hg) ?_
   cases rv with
   |val d=>exact z
   |new o=>
    obtain⟨a,e1,e2,e3⟩:=z
    refine⟨a,e1,e2,?_⟩
    rcases e3 with e3|⟨i,ys,e3,_⟩
    ·exact e3
    ·by_cases hi:i<sl.length
     ·rw[Qwz hi]at e3
      exact absurd e3 (no i ys)
     ·rw[QIz (by omega),List.getElem?_replicate]at e3
      split at e3<;>cases e3
   |ref i=>exact z.elim
  |brk env'=>rw[r]at q;exact q.elim
  |cont env'=>rw[r]at q;exact q.elim
  |exc j env'=>rw[r]at q;exact fun ζ H' N=>q H' (N.cz S0 hg)
  |bad=>rw[r]at q;exact q.elim
end
inductive En(K:QQq)(env:Ev)(σ:St)(H0 H:Hp):List Rv->List Sl->List V->Prop
 |nil:En K env σ H0 H [] [] []
 |val {d:D} {v:V} {rs:List Rv} {ps:List Sl} {vs:List V}:bJ K H d v->En K env σ H0 H rs ps vs->En K env σ H0 H (.val d::rs) (.val d::ps) (v::vs)
 |ref {o:Ob} {j:Nat} {a:Addr} {s:Sl} {rs:List Rv} {ps:List Sl} {vs:List V}:env[j]? =some s->isOwn s=some o->σ[j]? =some (some (.ref a))->jE K H o a->Rv.ref j∉rs->En K env σ H0 H rs ps vs->En K env σ H0 H (.ref j::rs) (.bor o::ps) (.ref a::vs)
section
theorem nF(S:Sat K env σ H):∀{rs:List Rv}{ps:List Sl}{vs:List V},enter rs env=some ps->iR K σ H0 H rs vs->En K env σ H0 H rs ps vs
 |[],ps,vs,h,r=>by
  cases h
  have:=r
  subst this
  exact .nil
 |x::rs,ps,vs,h,r=>by
  obtain⟨v,vr,rfl,h1,h2⟩:=r
  cases x with
  |val d=>
   simp only[enter]at h
   cases e:enter rs env with
   |none=>rw[e]at h;cases h
   |some ps'=>rw[e]at h;cases h;exact .val h1 (nF S e h2)
  |new o=>cases h
  |ref j=>
   simp only[enter]at h
   split at h
   ·cases h
   ·rename_i hn
    have nr:Rv.ref j∉rs:=fun hq=>hn (List.any_eq_true.mpr ⟨_,hq,by simp[lq]⟩)
    cases e1:env[j]? with
    |none=>rw[e1]at h;cases h
    |some s=>
     rw[e1]at h
     have h1':=h1
     cases s with
     |un=>cases h
     |val d=>cases h
     |own o=>
      cases e:enter rs env with
      |none=>simp only[e]at h;cases h
      |some ps'=>
       simp only[e]at h
       cases h
       obtain⟨a,z1,z2⟩:=S.sl j _ e1
       rw[h1']at z1
       cases z1
       exact .ref e1 rfl h1' z2 nr (nF S e h2)
     |bor o=>
      cases e:enter rs env with
      |none=>simp only[e]at h;cases h
      |some ps'=>
       simp only[e]at h
       cases h
       obtain⟨a,z1,z2⟩:=S.sl j _ e1
       rw[h1']at z1
       cases z1
       exact .ref e1 rfl h1' z2 nr (nF S e h2)
def En.len{ps:List Sl}(h:En K env σ H0 H rs ps vs):ps.length=vs.length/\rs.length=vs.length:=by
 induction h with
 |nil=>exact⟨rfl,rfl⟩
 |val _ _ ih=>simp[ih.1,ih.2]
 |ref _ _ _ _ _ _ ih=>simp[ih.1,ih.2]
theorem En.noOwn{ps:List Sl}(h:En K env σ H0 H rs ps vs):noOwn ps:=by
 induction h with
 |nil=>intro i o e;simp at e
 |val _ _ ih=>intro i o e;cases i with
  |zero=>simp at e
  |succ i=>exact ih i o (by simpa using e)
 |ref _ _ _ _ _ _ ih=>intro i o e;cases i with
  |zero=>simp at e
  |succ i=>exact ih i o (by simpa using e)
def En.lent{ps:List Sl}(h:En K env σ H0 H rs ps vs):∀{i:Nat}{a:Addr},aQ ps (vs.map some) i a->∃j,rs[i]? =some (.ref j)/\aQ env σ j a:=by
 induction h with
 |nil=>rintro i a ⟨⟨s,o,e,_⟩,_⟩;simp at e
 |val _ _ ih=>
  rintro i a ⟨⟨s,o,e1,e2⟩,e3⟩
  cases i with
  |zero=>simp at e1;subst e1;cases e2
  |succ i=>simpa using ih ⟨⟨s,o,by simpa using e1,e2⟩,by simpa using e3⟩
 | @ref o j b s rs ps vs e1 e2 e3 oa nr _ ih=>
  rintro i a ⟨⟨s',o',z1,z2⟩,z3⟩
  cases i with
  |zero=>
   simp at z3
   subst z3
   exact⟨j,rfl,⟨⟨s,o,e1,e2⟩,e3⟩⟩
  |succ i=>simpa using ih ⟨⟨s',o',by simpa using z1,z2⟩,by simpa using z3⟩
def En.eV(S0:Sat K env0 σ H0)(S:Sat K env σ H)(sub:∀(i:Nat)a,aQ env σ i a->aQ env0 σ i a){ps:List Sl}(h:En K env σ H0 H rs ps vs):Sat K ps (vs.map some) H:=by
 refine⟨by simpa using h.len.1,?_,?_⟩
 ·clear S0 sub
  induction h with
  |nil=>intro i s e;simp at e
  |val hd _ ih=>
   intro i s e
   cases i with
   |zero=>simp at e;subst e;exact⟨_,rfl,hd⟩
   |succ i=>simpa using ih i s (by simpa using e)
  |ref _ _ _ oa _ _ ih=>
   intro i s e
   cases i with
   |zero=>simp at e;subst e;exact⟨_,rfl,oa⟩
   |succ i=>simpa using ih i s (by simpa using e)
 ·--no two slots have one address
  induction h with
  |nil=>rintro i j a ⟨⟨s,o,e,_⟩,_⟩;simp at e
  |val hd t ih=>
   rintro i j a ⟨⟨s,o,e1,e2⟩,e3⟩ ⟨⟨s',o',e1',e2'⟩,e3'⟩
   cases i with
   |zero=>simp at e1;subst e1;cases e2
   |succ i=>cases j with
    |zero=>simp at e1';subst e1';cases e2'
    |succ j=>rw[ih i j a ⟨⟨s,o,by simpa using e1,e2⟩,by simpa using e3⟩ ⟨⟨s',o',by simpa using e1',e2'⟩,by simpa using e3'⟩]
  | @ref o k b s0 rs ps vs z1 z2 z3 oa nr t ih=>
   have ok:aQ env σ k b:=⟨⟨s0,o,z1,z2⟩,z3⟩
   have clash:∀i,¬aQ ps _ i b:=fun i z=>by
    obtain⟨q,e,ow⟩:=t.lent z
    have:=S.ne k q b ok ow
    subst this
    exact nr (QBz e)
   rintro i j a ⟨⟨s,o,e1,e2⟩,e3⟩ ⟨⟨s',o',e1',e2'⟩,e3'⟩
   cases i with
   |zero=>
    simp at e3
    subst e3
    cases j with
    |zero=>rfl
    |succ j=>exact absurd ⟨⟨s',o',by simpa using e1',e2'⟩,by simpa using e3'⟩ (clash j)
   |succ i=>cases j with
    |zero=>
     simp at e3'
     subst e3'
     exact absurd ⟨⟨s,o,by simpa using e1,e2⟩,by simpa using e3⟩ (clash i)
    |succ j=>rw[ih i j a ⟨⟨s,o,by simpa using e1,e2⟩,by simpa using e3⟩ ⟨⟨s',o',by simpa using e1',e2'⟩,by simpa using e3'⟩]
end
def Sl.Fg(o':Ob):Sl->Option Sl
 |.own _=>some (.own o')
 |.bor _=>some (.bor o')
 |_=>none
def Ju{o':Ob}(h:cT j (fun _=>some o') env=some env'):∃s s',env[j]? =some s/\s.Fg o'=some s'/\env'=env.set j s':=by
 obtain⟨o,q,e,hh⟩:=qK h
 cases e
 rcases hh with ⟨e,rfl⟩|⟨e,rfl⟩
 ·exact⟨_,_,e,rfl,rfl⟩
 ·exact⟨_,_,e,rfl,rfl⟩
theorem o4:∀{rs:List Rv}{qs:List Sl}{env ε:Ev},giveBack rs qs env=some ε->ε.length=env.length/\∀j:Nat,
  ((∀i:Nat,rs[i]? ≠some (Rv.ref j))/\ε[j]? =env[j]?)\/∃(i:Nat)(o':Ob)(s s':Sl),rs[i]? =some (.ref j)/\qs[i]? =some (.bor o')/\env[j]? =some s/\s.Fg o'=some s'/\ε[j]? =some s'
 |[],[],env,ε,h=>by
  cases h
  exact⟨rfl,fun j=>.inl ⟨fun i=>by simp,rfl⟩⟩
 |[],_::_,env,ε,h=>by cases h
 |x::rs,[],env,ε,h=>by cases x<;>cases h
 |x::rs,q::qs,env,ε,h=>by
  have skip:giveBack rs qs env=some ε->(∀j,x≠ .ref j)->ε.length=env.length/\∀j:Nat,
    ((∀i:Nat,(x::rs)[i]? ≠some _)/\ε[j]? =env[j]?)\/∃(i:Nat)(o':Ob)(s s':Sl),(x::rs)[i]? =some _/\(q::qs)[i]? =some (.bor o')/\env[j]? =some s/\s.Fg o'=some s'/\ε[j]? =some s':=fun h nx=>by
   obtain⟨l,g⟩:=o4 h
   refine⟨l,fun j=>?_⟩
   rcases g j with ⟨g1,g2⟩|⟨i,o',s,s',g1,g2,g3⟩
   ·refine .inl ⟨fun i e=>?_,g2⟩
    cases i with
    |zero=>simp at e;exact nx j e
    |succ i=>exact g1 i (by simpa using e)
   ·exact .inr ⟨i+1,o',s,s',by simpa using g1,by simpa using g2,g3⟩
  cases x with
  |val d=>exact skip h fun j z=>by cases z
  |new o=>exact skip h fun j z=>by cases z
  |ref k=>
   cases q with
   |bor o=>
    change Option.bind _ _=some ε at h
    cases e:cT k _ env with
    |none=>rw[e]at h;cases h
    |some δ=>
     rw[e]at h
     obtain⟨s0,s1,z1,z2,rfl⟩:=Ju e
     have hk:=(QCz.mp z1).1
     obtain⟨l,g⟩:=o4 h
     refine⟨by simpa using l,fun j=>?_⟩
     rcases g j with ⟨g1,g2⟩|⟨i,o',s,s',g1,g2,g3,g4,g5⟩
     ·by_cases hj:k=j
      ·subst hj
       rw[Qwq hk]at g2
       exact .inr ⟨0,o,s0,s1,rfl,rfl,z1,z2,g2⟩
      ·rw[Qxz hj]at g2
       refine .inl ⟨fun i e=>?_,g2⟩
       cases i with
       |zero=>simp at e;exact hj e
       |succ i=>exact g1 i (by simpa using e)
     ·by_cases hj:k=j
      ·subst hj
       rw[Qwq hk]at g3
       cases g3
       refine .inr ⟨i+1,o',s0,s',by simpa using g1,by simpa using g2,z1,?_,g5⟩
       cases s0 with
       |own q=>cases z2;exact g4
       |bor q=>cases z2;exact g4
       |un=>cases z2
       |val d=>cases z2
      ·rw[Qxz hj]at g3
       exact .inr ⟨i+1,o',s,s',by simpa using g1,by simpa using g2,g3,g4,g5⟩
   |un=>cases h
   |val d=>cases h
   |own o=>cases h
def Lr{o':Ob}(h:s.Fg o'=some s'):(∃o,isOwn s=some o)/\isOwn s'=some o':=by
 cases s with
 |own q=>cases h;exact⟨⟨q,rfl⟩,rfl⟩
 |bor q=>cases h;exact⟨⟨q,rfl⟩,rfl⟩
 |un=>cases h
 |val d=>cases h
section
def En.Wn(h:En K env σ H0 H rs ps vs):∀{i j:Nat},rs[i]? =some (.ref j)->∃o a,ps[i]? =some (.bor o)/\vs[i]? =some (.ref a)/\σ[j]? =some (some (.ref a)):=by
 induction h with
 |nil=>intro i j e;simp at e
 |val _ _ ih=>intro i j e;cases i with
  |zero=>simp at e
  |succ i=>simpa using ih (by simpa using e)
 | @ref o k a s rs ps vs e1 e2 e3 oa nr t ih=>
  intro i j e
  cases i with
  |zero=>simp at e;subst e;exact⟨o,a,rfl,rfl,e3⟩
  |succ i=>simpa using ih (by simpa using e)
def Sx(S0:Sat K env0 σ H0)(N:Nx K env0 σ H0 env H)(E:En K env σ H0 H rs ps vs)(C:Cz K ps vs H qs H2)(g:giveBack rs qs env=some ε):Nx K env0 σ H0 ε H2:=by
 have S:=N.eV
 have sub:=N.sub
 obtain⟨gl,gs⟩:=o4 g
 have own2:∀j b,aQ ε σ j b->aQ env σ j b:=fun j b z=>by
  obtain⟨⟨s,o,e1,e2⟩,e3⟩:=z
  rcases gs j with ⟨_,g2⟩|⟨i,o',s0,s1,_,_,g3,g4,g5⟩
  ·rw[g2]at e1;exact⟨⟨s,o,e1,e2⟩,e3⟩
  ·obtain⟨⟨q,hq⟩,_⟩:=Lr g4
   exact⟨⟨s0,q,g3,hq⟩,e3⟩
 have notLent:∀j b,aQ env σ j b->(∀i:Nat,rs[i]? ≠some _)->∀i,¬aQ ps _ i b:=fun j b ow nr i z=>by
  obtain⟨k,e,ow'⟩:=E.lent z
  have:=S.ne j k b ow ow'
  subst this
  exact nr i e
 refine⟨⟨by rw[gl];exact S.len,fun j s e=>?_,fun j k b z w=>S.ne j k b (own2 j b z) (own2 k b w)⟩,fun j b z=>sub j b (own2 j b z),N.pers.trans C.pers,fun b u hb no=>C.keep b u (N.keep b u hb no) fun i z=>?_,fun b z=>N.dom b (C.dom b z),fun j xs e=>?_⟩
 ·rcases gs j with ⟨g1,g2⟩|⟨i,o',s0,s1,g1,g2,g3,g4,g5⟩
  ·rw[g2]at e
   exact(S.sl j s e).keep C.pers fun b u ho ev hb=>C.keep b u hb (notLent j b (wF e ho ev) g1)
  ·rw[g5]at e
   cases e
   obtain⟨o,a,p1,p2,p3⟩:=E.Wn g1
   obtain⟨o'',a',c1,c2,c3⟩:=C.bor i o p1
   rw[g2]at c1
   cases c1
   rw[p2]at c2
   cases c2
   cases s0 with
   |own q=>cases g4;exact⟨a,by rw[p3];rfl,c3⟩
   |bor q=>cases g4;exact⟨a,by rw[p3];rfl,c3⟩
   |un=>cases g4
   |val d=>cases g4
 ·obtain⟨k,e,ow⟩:=E.lent z
  exact no k (sub k b ow)
 ·obtain⟨xs,e⟩:=N.bors j xs e
  rcases gs j with ⟨g1,g2⟩|⟨i,o',s0,s1,g1,g2,g3,g4,g5⟩
  ·exact⟨xs,by rw[g2];exact e⟩
  ·rw[e]at g3
   cases g3
   cases g4
   exact⟨o',g5⟩
end
section
theorem R5(F:pH X.prog X.w X.K X.mg X.base Pb k f fd ps (wj X.K ps.length (c.fn g)))(hr:jD k X.A)(hg:Gl X x)(hm:X.mg x=some (.ref f))(hk:PySem.W.keepIn X.K (.ref f)=true)(hb:Binds X.K fd ps [])
  (hd:(x==("__debug__":Str))=false)(ha:GA X W c m (e::es))(he:starEach (e::es) X.env=(false,eval e X.env)::starEach es X.env)(hpl:(backTo pos (starEach es X.env)).any (·.1)=false)(hn:∀sl,c.fn g sl=.bad\/sl.length=ps.length):
  GE X W c (.call g m) (.Call (.Name x p) (e::es) [] pos):=by
 intro env γ s σ H Q I q
 refine Q5 F hr hg hm hk hb .nil abz (t:=fun ζ H' R=>ζ=σ/\H'=H/\T3 X.K W env (evs c m env) σ H R) (fun p γ s ζ H' R I'⟨e1,e2,z⟩=>by subst e1 e2;exact ha env p γ s _ _ R I' z) hd he hpl γ s σ H Q I ⟨rfl,rfl,?_⟩
 simp only[VM]at q
 obtain⟨S,q⟩:=q
 refine⟨S,?_⟩
 cases r:evs c m env with
 |bad=>rw[r]at q;exact q
 |exc j δ=>rw[r]at q;exact q
 |ok rs δ=>
  rw[r]at q
  simp only[Out.bind,tQ]at q
  intro vs H1 N rv
  rw[List.append_nil]
  cases e1:enter rs δ with
  |none=>rw[e1]at q;exact q.elim
  |some sl=>
   rw[e1]at q
   simp only at q
   have E:=nF N.eV e1 rv
   refine⟨sl,?_,E.eV S N.eV N.sub,E.noOwn,?_⟩
   ·rcases hn sl with z|z
    ·rw[z]at q;exact q.elim
    ·rw[<-E.len.1,z]
   ·cases e2:c.fn g sl with
    |bad=>rw[e2]at q;exact q.elim
    |ok rv qs=>
     rw[e2]at q
     simp only at q
     intro v H2 C z
     cases e3:giveBack rs qs δ with
     |none=>rw[e3]at q;exact q.elim
     |some ε=>
      rw[e3]at q
      refine q v H2 (Sx S N E C e3) ?_
      cases rv with
      |val d=>exact z
      |new o=>obtain⟨a,z1,z2,z3⟩:=z;exact⟨a,z1,z2,N.dom a z3⟩
      |ref i=>exact z.elim
    |exc j qs=>rw[e2]at q;exact q.elim
end
def Hc c g sl:iC c g sl=.bad\/sl.length=g.pars:=by
 unfold iC
 split
 ·exact .inr (by assumption)
 ·exact .inl rfl
end Mini
end
section
namespace Mini
open PySem L2 PyProof.Rows
structure z9(z TI TO i1 i2:Addr)(b1 b2:Bool)(l1 l2:Addr)(k:Nat)(h:Heap):Prop where
 zr:∃f0 f1,jt h z TI TO f0 f1/\F0 f0
 ti:IsPair h TI (.ref i1) (.ref i2)
 to:∃a b,IsPair h TO a b
 it1:uf b1 h i1 l1 k
 it2:uf b2 h i2 l2 k
section
variable{E:QZq}
def vP{b1 b2:Bool}{xs ys:Array Value}(hl1:xZ b1 s.heap l1 xs)(hl2:xZ b2 s.heap l2 ys)
  (h:∀h',z9 (s.heap.objs.size+4) (s.heap.objs.size+2) (s.heap.objs.size+3) s.heap.objs.size (s.heap.objs.size+1) b1 b2 l1 l2 0 h'->h'.objs.size=s.heap.objs.size+5->
   (∀c o,s.heap.get? c=some o->h'.get? c=some o)->Q (.ref (s.heap.objs.size+4)) {s with heap:=h'}):
  wpAny (model prog w) A (call (.type "zip") [.ref l1,.ref l2]) Q E s:=by
 refine callType_new PySem.F.called_zip (by decide) (PySem.F.typeCall_zip_2 _ _) (PySem.F.newCall_zip_2 _ _) (fun obj=>PySem.F.args_object_init_3 obj _ _) PySem.F.entry_zip_new
  (Jj b1 b2 l1 l2 xs ys) ⟨hl1,hl2,?_⟩
 have z1:(zH1 b1 s.heap l1).objs.size=s.heap.objs.size+1:=Heap.size_push ..
 have z2:(zH2 b1 b2 s.heap l1 l2).objs.size=s.heap.objs.size+2:=by rw[Heap.size_push,z1]
 have z3:(zH3 b1 b2 s.heap l1 l2).objs.size=s.heap.objs.size+3:=by rw[Heap.size_push,z2]
 have z4:(zH4 b1 b2 s.heap l1 l2).objs.size=s.heap.objs.size+4:=by rw[Heap.size_push,z3]
 have g5:(Y7 b1 b2 s.heap l1 l2).get? (zH4 b1 b2 s.heap l1 l2).objs.size=some _:=Qzq _ rfl
 have g4:(Y7 b1 b2 s.heap l1 l2).get? (zH3 b1 b2 s.heap l1 l2).objs.size=some _:=QWq _ (Qzq _ rfl)
 have g3:(Y7 b1 b2 s.heap l1 l2).get? (zH2 b1 b2 s.heap l1 l2).objs.size=some _:=QWq _ (QWq _ (Qzq _ rfl))
 have g2:(Y7 b1 b2 s.heap l1 l2).get? (zH1 b1 s.heap l1).objs.size=some _:=QWq _ (QWq _ (QWq _ (Qzq _ rfl)))
 rw[z2,z3,z4]at g5
 rw[z1,z2]at g3
 rw[z3]at g4
 rw[z1]at g2
 rw[z4]
 have i1:uf b1 (Y7 b1 b2 s.heap l1 l2) s.heap.objs.size l1 0:=by cases b1<;>exact⟨_,(QWq _ (QWq _ (QWq _ (QWq _ (Qzq _ rfl))))),rfl,rfl⟩
 exact⟨⟨_,g5,rfl⟩,h _ ⟨⟨_,_,g5,.inl rfl⟩,g3,⟨_,_,g4⟩,i1,(by cases b2<;>exact⟨_,g2,rfl,rfl⟩)⟩ (by rw[Heap.size_push,z4]) fun c o x=>
  QWq _ (QWq _ (QWq _ (QWq _ (QWq _ x))))⟩
end
def uD(h1:l1<n)(h2:l2<n):ZipApart (n+4) (n+2) (n+3) n (n+1) l1 l2:=zipApart_new h1 h2
def Inv.PX{X:Cx}{σ:L2.St}{H:Hp}{h':Heap}{ch:List Addr}(I:Inv X γ σ H s)(k:∀b o,b∉ch->s.heap.get? b=some o->h'.get? b=some o)(hf:∀b∈ch,fZ X γ H b):
  Inv X γ σ H {s with heap:=h',toks:=t'}:=by
 have nit:∀b u,H b=some u->b∉ch:=fun b u e z=>by rw[(hf b z).1]at e;cases e
 refine I.step (fun b hb=>⟨(hf b hb).2.2.2.1,(hf b hb).2.1,(hf b hb).2.2.2.2.1,(hf b hb).2.2.2.2.2⟩) (fun b o _ _ hc e _=>k b o hc e) (fun b o _ _ hc e _=>⟨o.slots,k b o hc e⟩) (fun _ _ _ _ n=>n)
  (fun b o hc e=>⟨o,k b o hc e⟩) (fun _ _ e=>e) (fun _ _ _ e=>e) (fun b ps e=>⟨#[],by rw[e];simp⟩) (fun m hm=>?_) (fun b u e=>?_) I.bare
 ·obtain⟨o,es,ep,ho,r⟩:=hm
  exact⟨o,es,ep,k _ o (fun z=>(hf _ z).2.1 rfl) ho,r⟩
 ·refine(I.hok b u e).stay (fun c v hc q=>k c v ?_ q) (fun _ q=>q) fun _ _ q=>q
  rcases hc with z|z
  ·rw[z];exact nit b u e
  ·exact nit c _ z
def Inv.GF{X:Cx}{σ:L2.St}{H:Hp}{h':Heap}{ch:List Addr}{a:Addr}(I:Inv X γ σ H s)(k:∀b o,b∉ch->s.heap.get? b=some o->h'.get? b=some o)(hf:∀b∈ch,fZ X γ H b)
  (ha:s.heap.objs.size<=a)(new:cA X.prog X.w (upd H a u) h' a u):Inv X γ σ (upd H a u) {s with heap:=h',toks:=t'}:=by
 have nit:∀b u,H b=some u->b∉ch:=fun b u e z=>by rw[(hf b z).1]at e;cases e
 have ne:∀b w,H b=some w->b≠a:=fun b w e z=>by subst z;rw[I.hok.fresh ha]at e;cases e
 refine I.step (fun b hb=>⟨(hf b hb).2.2.2.1,(hf b hb).2.1,(hf b hb).2.2.2.2.1,(hf b hb).2.2.2.2.2⟩) (fun b o _ _ hc e _=>k b o hc e) (fun b o _ _ hc e _=>⟨o.slots,k b o hc e⟩)
  (fun b o _ e n=>by rw[aC (Qvz (Qvq (Qqz e) ha))];exact n)
  (fun b o hc e=>⟨o,k b o hc e⟩) (fun b xs e=>by rw[aC (ne b _ e)];exact e) (fun b o w e=>by rw[aC (ne b _ e)];exact e) (fun b ps e=>⟨#[],by rw[aC (ne b _ e),e];simp⟩) (fun m hm=>?_) (fun b w e=>?_) I.bare
 ·obtain⟨o,es,ep,ho,r⟩:=hm
  exact⟨o,es,ep,k _ o (fun z=>(hf _ z).2.1 rfl) ho,r⟩
 ·by_cases hb:b=a
  ·subst hb
   rw[aP]at e
   cases e
   exact new
  ·rw[aC hb]at e
   refine(I.hok b w e).stay (fun c v hc q=>k c v ?_ q) (fun c q=>by rw[aC (ne c _ q)];exact q) fun c xs q=>by rw[aC (ne c _ q)];exact q
   rcases hc with z|z
   ·rw[z];exact nit b w e
   ·exact nit c _ z
def OJ(K:QQq)(b:Bool)(H:Hp)(l:Addr)(vs:List V):Prop:=match b with|true=>O5 K H l vs|false=>iQ K H l vs
def bN.wg{K:QQq}{b:Bool}{l:Addr}(p:bN H H')(h:OJ K b H l vs):OJ K b H' l vs:=by
 cases b with
 |true=>exact p.R7 h
 |false=>exact p.yz h
def Inv.wg{X:Cx}{σ:L2.St}{H:Hp}{b:Bool}{l:Addr}(I:Inv X γ σ H s)(h:OJ X.K b H l vs):∃its:List Value,Vals vs its/\xZ b s.heap l its.toArray/\vs.length<=sizeLine/\l<s.heap.objs.size:=by
 cases b with
 |true=>
  obtain⟨its,r,p,z⟩:=I.list (O5.sq h)
  obtain⟨o,e,_⟩:=p.isList
  exact⟨its,r,p.isList,z,Qqz e⟩
 |false=>
  obtain⟨its,r,p,z⟩:=I.tuple h
  obtain⟨o,e,_⟩:=id p
  exact⟨its,r,p,z,Qqz e⟩
noncomputable def Itz(K:QQq)(b1 b2:Bool)(l1 l2:Addr)(vs ws:List V):It:=
 ⟨fun i H=>OJ K b1 H l1 vs/\OJ K b2 H l2 ws/\∃v u,vs[i]? =some v/\ws[i]? =some u,
  fun i H x H'=>∃p v u,H p=none/\x=.ref p/\vs[i]? =some v/\ws[i]? =some u/\H'=upd H p (.tup [v,u]),
  fun i H=>OJ K b1 H l1 vs/\OJ K b2 H l2 ws/\(vs.length<=i\/ws.length<=i)⟩
theorem jH{w:World}{K:QQq}{z TI TO i1 i2 l1 l2:Addr}{b1 b2:Bool}(D:ZipApart z TI TO i1 i2 l1 l2):
  Turn P w K tg (Itz K b1 b2 l1 l2 vs ws) [z,TI,TO,i1,i2] z (fun i h=>z9 z TI TO i1 i2 b1 b2 l1 l2 i h) where
 mem:=by simp
 obj:=fun i h st b hb=>by
  obtain⟨f0,f1,zr,_⟩:=st.zr
  obtain⟨x,y,to⟩:=st.to
  simp only[QCq,QAz,or_false]at hb
  rcases hb with rfl|rfl|rfl|rfl|rfl
  ·exact⟨_,zr,fun v z=>by cases z⟩
  ·exact⟨_,st.ti,fun v z=>by cases z⟩
  ·exact⟨_,to,fun v z=>by cases z⟩
  ·exact st.it1.obj
  ·exact st.it2.obj
 keep:=fun i h h' st k=>by
  obtain⟨f0,f1,zr,hf⟩:=st.zr
  obtain⟨x,y,to⟩:=st.to
  exact⟨⟨f0,f1,k z (by simp) _ zr,hf⟩,k TI (by simp) _ st.ti,⟨x,y,k TO (by simp) _ to⟩,st.it1.at fun o e=>k i1 (by simp) o e,st.it2.at fun o e=>k i2 (by simp) o e⟩
 item:=by
  intro X hP hw hK hc i γ s σ H E I hf st hg
  subst hP hw hK
  obtain⟨hq1,hq2,v,u,ev,eu⟩:=hg
  obtain⟨its,r1,p1,_,_⟩:=Inv.wg I hq1
  obtain⟨its2,r2,p2,_,_⟩:=Inv.wg I hq2
  obtain⟨x,ex,rx⟩:=r1.get ev
  obtain⟨y,ey,ry⟩:=r2.get eu
  obtain⟨f0,f1,zr,h0⟩:=st.zr
  obtain⟨a,b,to⟩:=st.to
  refine qd D zr h0 st.ti to st.it1 st.it2 p1 p2 (by simpa using ex) (by simpa using ey) fun h' T=>?_
  obtain⟨g0,g1,zr',h0'⟩:=T.zr
  refine⟨_,rfl,HN zr' h0' fun h'' q0 zr'' hq0 sb=>?_⟩
  have f1':∀b∈[z,TO,i1,i2],fZ X γ H b:=fun b hb=>hf b (by
   simp only[QCq,QAz,or_false]at hb⊢
   rcases hb with h|h|h|h<;>simp[h])
  have kk:∀b o,b∉[z,TO,i1,i2]->s.heap.get? b=some o->h''.get? b=some o:=fun b o hb e=>by
   simp only[QCq,QAz,or_false,not_or]at hb
   exact sb.extBut _ _ hb.1 (T.keep b o hb.1 hb.2.1 hb.2.2.1 hb.2.2.2 e)
  have new'':=sb.extBut _ _ (by
   obtain⟨q,e,_⟩:∃q,s.heap.get? z=some q/\True:=⟨_,zr,trivial⟩
   exact Nat.ne_of_gt (Qqz e)) T.new
  have I1:Inv X γ σ (upd H s.heap.objs.size (.tup [v,u])) {s with heap:=h''}:=by
   refine Inv.GF I kk f1' (QVz _) ⟨by show 2<=sizeLine;rw[sizeLine_eq];decide,[x,y],.cons rx (.cons ry .nil),_,new'',rfl,rfl,_,rfl⟩
  refine⟨.ref s.heap.objs.size,upd H s.heap.objs.size _,I1,rfl,⟨_,v,u,I.hok.fresh (QVz _),rfl,ev,eu,rfl⟩,?_,fun b hb=>?_⟩
  ·have up:∀c o,c≠z->h'.get? c=some o->h''.get? c=some o:=fun c o hcz e=>sb.extBut _ _ hcz e
   obtain⟨a',b',to'⟩:=T.to
   exact⟨⟨q0,g1,zr'',hq0⟩,up _ _ D.TIz T.ti,⟨a',b',up _ _ D.TOz to'⟩,T.it1.at fun o e=>up _ o D.i1z e,T.it2.at fun o e=>up _ o D.i2z e⟩
  ·have lt:b<s.heap.objs.size:=by
    simp only[QCq,QAz,or_false]at hb
    rcases hb with rfl|rfl|rfl|rfl|rfl
    ·exact Qqz zr
    ·exact Qqz st.ti
    ·exact Qqz to
    ·exact st.it1.lt
    ·exact st.it2.lt
   rw[aC (Qvz lt)]
   exact(hf b hb).1
 done:=by
  intro X hP hw hK hc i γ s σ H E I hf st hg
  subst hP hw hK
  obtain⟨hq1,hq2,hend⟩:=hg
  obtain⟨its,r1,p1,_,_⟩:=Inv.wg I hq1
  obtain⟨its2,r2,p2,_,_⟩:=Inv.wg I hq2
  have l1:=r1.length
  have l2:=r2.length
  obtain⟨f0,f1,zr,h0⟩:=st.zr
  obtain⟨a,b,to⟩:=st.to
  refine rD (I.ok.hd hc) D zr h0 st.ti to st.it1 st.it2 p1 p2 ?_ fun h' kk=>⟨rfl,?_⟩
  ·rcases hend with h|h
   ·exact .inl (by simp;omega)
   ·exact .inr (by simp;omega)
  ·refine Inv.PX (ch:=[z,TO,i1,i2]) I (fun b o hb e=>?_) fun b hb=>hf b (by
    simp only[QCq,QAz,or_false]at hb⊢
    rcases hb with h|h|h|h<;>simp[h])
   simp only[QCq,QAz,or_false,not_or]at hb
   exact kk b o hb.1 hb.2.1 hb.2.2.1 hb.2.2.2 e
 self:=fun A i s Q E st h=>by
  obtain⟨f0,f1,zr,h0⟩:=st.zr
  exact iY zr h
end Mini
end
section
namespace Mini
open PySem L2
theorem qH:∀{xs ys:List D}{i:Nat}{d:D},(aW xs ys)[i]? =some d->∃x y,xs[i]? =some x/\ys[i]? =some y/\d=.tup [x,y]
 |[],_,i,d,h=>by simp[aW]at h
 |_::_,[],i,d,h=>by simp[aW]at h
 |x::xs,y::ys,0,d,h=>by simp[aW]at h;exact⟨x,y,rfl,rfl,h.symm⟩
 |x::xs,y::ys,i+1,d,h=>by
  rw[aW,List.getElem?_cons_succ]at h
  simpa using qH h
theorem qG:∀(xs ys:List D),(aW xs ys).length=min xs.length ys.length
 |[],ys=>by simp[aW]
 |_::_,[]=>by simp[aW]
 |x::xs,y::ys=>by rw[aW,QBq,qG xs ys,QBq,QBq];omega
theorem vH{H:Hp}{b1 b2:Bool}{vs ws:List V}(h1:OJ K b1 H l1 vs)(h2:OJ K b2 H l2 ws)(d1:aq K H xs vs)(d2:aq K H ys ws)(hz:vs.length<=sizeLine):
  Gives K (Itz K b1 b2 l1 l2 vs ws) (aW xs ys) H where
 go:=fun H1 p i d e=>by
  obtain⟨x,y,ex,ey,_⟩:=qH e
  obtain⟨v,ev,_⟩:=d1.get ex
  obtain⟨u,eu,_⟩:=d2.get ey
  exact⟨p.wg h1,p.wg h2,v,u,ev,eu⟩
 yld:=fun H1 p i d e x H2 y=>by
  obtain⟨a,v,u,hn,rfl,ev,eu,rfl⟩:=y
  obtain⟨dx,dy,ex,ey,rfl⟩:=qH e
  obtain⟨v',ev',dv⟩:=d1.get ex
  obtain⟨u',eu',du⟩:=d2.get ey
  rw[ev]at ev'
  rw[eu]at eu'
  cases ev'
  cases eu'
  have pp:bN H1 (upd H1 a (.tup [v,u])):=by
   refine⟨fun b xs q=>?_,fun b o w q=>?_⟩
   ·rw[aC (fun z=>by subst z;rw[hn]at q;cases q)];exact q
   ·rw[aC (fun z=>by subst z;rw[hn]at q;cases q)];exact q
  exact⟨dD (.inl (.inl aP)) (aq.cV ((dv.mono p).mono pp) (aq.cV ((du.mono p).mono pp) aq.eQ)),.inr ⟨a,_,hn,rfl⟩⟩
 stop:=fun H1 p i hi=>by
  rw[qG]at hi
  have:=d1.length
  have:=d2.length
  exact⟨p.wg h1,p.wg h2,by omega⟩
 len:=by rw[qG];have:=d1.length;omega
def bJ.wg{H:Hp}{xs:List D}(h:bJ K H d v)(e:bu d=some xs):∃b l vs,v=.ref l/\OJ K b H l vs/\aq K H xs vs:=by
 cases d with
 |tup ys=>cases e;obtain⟨a,vs,rfl,hq,l⟩:=bZ h;exact⟨false,a,vs,rfl,hq,l⟩
 |lst ys=>cases e;obtain⟨a,vs,rfl,hq,l⟩:=cP h;exact⟨true,a,vs,rfl,hq,l⟩
 |_=>cases e
section
def aaJ{H1:Hp}(h:tI K W env r σ H R)(N:Nx K env σ H δ H1):tI K W δ r σ H1 R:=by
 obtain⟨_,h⟩:=h
 refine⟨N.eV,?_⟩
 cases r with
 |bad=>exact h
 |exc c ε=>exact fun H' N'=>h H' (N.trans N')
 |ok x ε=>
  obtain⟨d,xs,e1,e2,z⟩:=h
  exact⟨d,xs,e1,e2,fun J H' N' G=>z J H' (N.trans N') G⟩
theorem yr{f:D->Ev->Out Rv}(h:tI K W env (r.au f) σ H R)
  (k:∀d δ v H1,Nx K env σ H δ H1->bJ K H1 d v->tI K W δ (f d δ) σ H1 R->R' v H1):tD K W env r σ H R':=by
 have step:∀d δ,r.au f=f d δ->∀v H1,Nx K env σ H δ H1->bJ K H1 d v->R' v H1:=fun d δ e v H1 N D=>by
  rw[e]at h
  exact k d δ v H1 N D (aaJ h N)
 obtain⟨S,h⟩:=h
 refine⟨S,?_⟩
 cases r with
 |bad=>exact h
 |exc c δ=>exact h
 |ok x δ=>
  cases x with
  |val d=>exact fun v H1 N D=>step d δ rfl v H1 N D
  |new xs=>exact fun v H1 N D=>step xs.d δ rfl v H1 N D
  |ref i=>exact h
end
section
theorem Ye(ha:GE X W c m1 a)(hb:GE X W c m2 b)(hg:Gl X "zip")(hm:X.mg "zip"=none)(hs:starEach [a,b] X.env=[(false,eval a X.env),(false,eval b X.env)])(hs2:starEach [b] X.env=[(false,eval b X.env)]):
  GI X W c (.zip m1 m2) tg (.Call (.Name "zip" p) [a,b] [] pos):=by
 intro env γ s σ H R I q
 let RR:List V->Hp->Prop:=fun vs H'=>∃ε d1 d2 xs ys v1 v2,vs=[v1,v2]/\bJ X.K H' d1 v1/\bJ X.K H' d2 v2/\bu d1=some xs/\bu d2=some ys/\Sat X.K ε σ H'/\∀J H2,Nx X.K ε σ H' ε H2->Gives X.K J (aW xs ys) H2->R J H2
 have go:aD X W c m1 σ H fun v1 H1=>aD X W c m2 σ H1 fun v2 H2=>RR [v1,v2] H2:=by
  refine⟨env,yr q fun d1 δ v1 H1 N1 D1 q1=>⟨δ,yr q1 fun d2 ε v2 H2 N2 D2 q2=>?_⟩⟩
  cases e1:bu d1 with
  |none=>rw[e1]at q2;exact q2.2.elim
  |some xs=>
   cases e2:bu d2 with
   |none=>rw[e1,e2]at q2;exact q2.2.elim
   |some ys=>
    rw[e1,e2]at q2
    obtain⟨S,d,zs,z1,z2,z3⟩:=q2
    cases z1
    cases z2
    exact⟨ε,d1,d2,xs,ys,v1,v2,rfl,D1.mono N2.pers,D2,e1,e2,S,z3⟩
 refine wpAny_Call_Name_kw (jP I hg hm PyProof.Rows.boot_zip ?_ (by decide) (by decide))
 refine PyProof.Rows.callWith_type1 (b7 (cI ha.d (cI hb.d fJ hs2) (by rw[hs,hs2]) pos γ s σ H RR I go) fun us s1⟨vs,H1,I1,r1,q1⟩=>?_) (by rw[hs,hs2]) (by rw[hs2];rfl)
 obtain⟨ε,d1,d2,xs,ys,v1,v2,rfl,D1,D2,e1,e2,S2,q3⟩:=q1
 obtain⟨b1,l1,vs,rfl,h1,dl1⟩:=D1.wg e1
 obtain⟨b2,l2,ws,rfl,h2,dl2⟩:=D2.wg e2
 obtain⟨u1,u2,rfl,ru1,ru2⟩:=Vals.two r1
 cases ru1
 cases ru2
 obtain⟨its,rr1,p1,z1,lt1⟩:=Inv.wg I1 h1
 obtain⟨its2,rr2,p2,z2,lt2⟩:=Inv.wg I1 h2
 refine vP p1 p2 fun h' st sz kk=>?_
 obtain⟨f0,f1,zr,h0⟩:=st.zr
 refine iY zr ?_
 refine⟨s1.heap.objs.size+4,[s1.heap.objs.size+4,s1.heap.objs.size+2,s1.heap.objs.size+3,s1.heap.objs.size,s1.heap.objs.size+1],_,_,H1,rfl,I1.kept kk,jH (uD lt1 lt2),st,fun b hb=>?_,q3 _ H1 (Nx.refl S2) (vH h1 h2 dl1 dl2 z1)⟩
 have hb':s1.heap.objs.size<=b:=by
  simp only[QCq,QAz,or_false]at hb
  rcases hb with rfl|rfl|rfl|rfl|rfl<;>omega
 exact I1.Cr hb' (I1.hok.fresh hb')
end
def Nx.chg{env:Ev}{H0 H:Hp}{u u':HO}(N:Nx K env σ H0 env H)(S:Sat K env σ H0)(h0:H0 d=none)(h:H d=some u)(hu:O9 u):Nx K env σ H0 env (upd H d u'):=by
 have p:=gn (u':=u') h hu
 refine⟨N.eV.keep p fun i b w ow hb=>?_,N.sub,N.pers.trans p,fun b w q n=>?_,fun b q=>?_,N.bors⟩
 ·rw[aC (fun z=>by subst z;exact S.rM h0 i (N.sub i b ow))];exact hb
 ·rw[aC (fun z=>by subst z;rw[h0]at q;cases q)];exact N.keep b w q n
 ·refine N.dom b ?_
  by_cases hb:b=d
  ·subst hb;rw[aP]at q;cases q
  ·rw[aC hb]at q;exact q
def NZ:O9 (.dK kvs):=by
 constructor
 all_goals (intros;intro z;cases z)
def Gs:O9 (.lst vs):=by
 constructor
 all_goals (intros;intro z;cases z)
def Cx.under(X:Cx)(A:Around):Cx:={X with A:=A}
theorem Inv.under{A:Around}{σ:St}{H:Hp}(I:Inv X γ σ H s)(h1:A.handled=X.A.handled)(h2:A.frames=X.A.frames):Inv (Cx.under X A) γ σ H s:=
 ⟨⟨I.ok.mod,I.ok.kind,I.ok.glob,I.ok.blt,I.ok.above,I.ok.inj,I.ok.has,I.ok.cab,fun hc=>h1.trans (I.ok.hd hc),h2.trans I.ok.frames,I.ok.stk,I.ok.exf,I.ok.bs,I.ok.bsz,I.ok.noex,I.ok.exfs,I.ok.mj,I.ok.frf⟩,
  I.os,I.bare,I.base,I.loc,I.cell,I.free,I.freeC,I.pin,I.hok,I.len⟩
def Inv.back{A:Around}{σ:St}{H:Hp}(I:Inv (Cx.under X A) γ σ H s)(h1:X.A.handled=A.handled)(h2:X.A.frames=A.frames):Inv X γ σ H s:=
 Inv.under (X:=Cx.under X A) I h1 h2
def w5{M:Model}{β:Type}{p:Pos}{m:Sem β}{Q:β->Shared->Prop}{E:QZq}
  (h:wpAny M A (letOwnedTupleGo (.Name x p) it u) (fun _ s=>wpAny M A m Q E s) E s):wpAny M A m Q E s:=by
 have:=QKq h
 exact this
def dH:entryFor table "dict.update.loop"=some Builtin.«dict.update.loop»:=entryFor_of_tree (by kernel_rfl)
def bR:plainId "dict.update.loop"=true:=by decide+kernel
def zQ{d:D}(h:dictOf ks vs (d::r)=some p):∃k v,d=.tup [k,v]/\keyOk k=true/\dictOf (putD k v ks vs).1 (putD k v ks vs).2 r=some p:=by
 unfold dictOf at h
 split at h
 ·rename_i e;cases e
 ·rename_i k v r' e
  cases e
  split at h
  ·rename_i hk
   exact⟨k,v,rfl,hk,h⟩
  ·cases h
 ·cases h
def xn{xs:List D}(h:i<xs.length):∃d,xs[i]? =some d/\xs.drop i=d::xs.drop (i+1):=⟨xs[i],QXq h,List.drop_eq_getElem_cons h⟩
def CK{d:D}(h:iK ks vs (d::r)=some p):∃k v,d=.tup [k,v]/\ik k=true/\iK (putD k v ks vs).1 (putD k v ks vs).2 r=some p:=by
 unfold iK at h
 split at h
 ·rename_i e;cases e
 ·rename_i k v r' e
  cases e
  split at h
  ·rename_i hk
   exact⟨k,v,rfl,hk,h⟩
  ·cases h
 ·cases h
def NT:O9 (.dS xs):=by
 constructor
 all_goals (intros;intro z;cases z)
def Nh{w:World}(h:Heap)(hb:sysModules<h.objs.size):cA P w H (h.push {cls:=.type "dict",data:=.dict #[]}) h.objs.size (.dS []):=
 ⟨QIq _,beq_eq_false_iff_ne.mpr (Ne.symm (Qvz hb)),List.nodup_nil,[],_, #[],0,.nil,Qzq _ rfl,⟨rfl,rfl,rfl⟩,rfl,rfl⟩
noncomputable def zT(xs:List D):Option Ob:=((dictOf [] [] xs).map fun p=>Ob.dct p.1 p.2).or ((iK [] [] xs).map fun p=>Ob.sdt p.1 p.2)
def zY xs:SJ .dict xs=(zT xs).map .new:=by
 unfold zT
 simp only[SJ]
 cases dictOf [] [] xs<;>cases iK [] [] xs<;>rfl
def Nv{o:Ob}(h:zT xs=some o):(∃p,dictOf [] [] xs=some p/\o=.dct p.1 p.2)\/∃p,iK [] [] xs=some p/\o=.sdt p.1 p.2:=by
 unfold zT at h
 cases e:dictOf [] [] xs with
 |some p=>rw[e]at h;cases h;exact .inl ⟨p,rfl,rfl⟩
 |none=>
  rw[e]at h
  cases e2:iK [] [] xs with
  |some p=>rw[e2]at h;cases h;exact .inr ⟨p,rfl,rfl⟩
  |none=>rw[e2]at h;cases h
section
theorem Iv(hA:X.A=A.in1)(hc:X.calm=true)(T:Turn X.prog X.w X.K (.Name x p) J fp it tn)(G:Gives X.K J xs H1)(S:Sat X.K env τ H0)(h0:H0 d=none)
  (fin:∀s H,Inv X γ σ H s->Nx X.K env τ H0 env H->jE X.K H (.dct ks' vs') d->R (.ok (.ret .none)) s):
  ∀(n i:Nat)(s:Shared)(H:Hp)(kvs:List (Key×V))(vs:List D),xs.length-i=n->Inv X γ σ H s->(∀b∈fp,fZ X γ H b)->tn i s.heap->bN H1 H->Nx X.K env τ H0 env H->H d=some (.dK kvs)->
   aq X.K H vs (kvs.map (·.2))->dictOf (kvs.map fun q=>dJ q.1) vs (xs.drop i)=some (ks',vs')->kvs.length<=i->i<=xs.length->
   codeAny (model X.prog X.w) A (.builtin "dict.update.loop" ⟨[.ref d,.ref it,rawInt ((i:Nat):Int),.none],[]⟩) R s:=by
 intro n
 induction n with
 |zero=>
  intro i s H kvs vs hn I hf st P N hd dl ho hk hi
  refine codeAny_builtin dH ?_
  rw[Around.under_plainId bR _,<-hA]
  refine QKq (QGq (T.done X rfl rfl rfl hc i γ s σ H _ I hf st (G.stop H P i (by omega))) (fun r s1 h=>?_) fun _ _ h=>h)
  obtain⟨rfl,I1⟩:=h
  rw[List.drop_eq_nil_of_le (by omega)]at ho
  cases ho
  exact QKq (QKz (QKz (fin s1 H I1 N ⟨_,hd,kvs,rfl,rfl,dl⟩)))
 |succ n ih=>
  intro i s H kvs vs hn I hf st P N hd dl ho hk hi
  have hlt:i<xs.length:=by omega
  obtain⟨dd,ed,edr⟩:=xn hlt
  rw[edr]at ho
  obtain⟨k,v,rfl,hkk,ho'⟩:=zQ ho
  refine codeAny_builtin dH ?_
  rw[Around.under_plainId bR _,<-hA]
  refine QKq (QGq (T.item X rfl rfl rfl hc i γ s σ H _ I hf st (G.go H P i _ ed)) (fun r s1 h=>?_) fun _ _ h=>h)
  obtain⟨u,rfl,h⟩:=h
  refine w5 (QGq h (fun _ s2 h2=>?_) fun _ _ h=>h)
  obtain⟨y,H',I',ry,yl,st',nf⟩:=h2
  obtain⟨Dy,hH⟩:=G.yld H P i _ ed y H' yl
  obtain⟨a,ws,rfl,hq,l⟩:=bZ Dy
  cases ry
  obtain⟨vk,r1,rfl,Dk,l⟩:=aq.aG.mp l
  obtain⟨vv,r2,rfl,Dv,l⟩:=aq.aG.mp l
  have:=aq.bj.mp l
  subst this
  obtain⟨kk,rfl⟩:=f9 hkk
  have ek:=lF Dk
  subst ek
  obtain⟨its,rr,pt,_⟩:=I'.tuple hq
  obtain⟨uk,uv,rfl,rk,rv⟩:=Vals.two rr
  obtain⟨o,eo,ec,nn,edt⟩:=pt
  have N':Nx X.K env τ H0 env H'/\bN H H'/\H' d=some (.dK kvs):=by
   rcases hH with rfl|⟨q,ws,hq0,rfl⟩
   ·exact⟨N,bN.refl _,hd⟩
   ·have NL:=Nx.laid (o:=.tup ws) N.eV hq0
    exact⟨N.trans NL,NL.pers,by rw[aC (fun z=>by subst z;rw[hq0]at hd;cases hd)];exact hd⟩
  obtain⟨N',PP,hd'⟩:=N'
  refine QKq (Qqq ?_)
  refine QKq (wpAny_tryCatch ?_)
  have hty:s2.TypeIs (.ref a) "tuple":=⟨o,eo,ec⟩
  refine QKq (wpAny_typeOf hty ?_)
  refine QKq (wpAny_seqItems eo edt (QKz ?_))
  refine Qqq ?_
  obtain⟨z,hds,vvs,rel,dd⟩:=Nj I'.hok hd'
  have hz:vvs.length<=sizeLine:=by rw[<-rel.length];exact z
  have hG:=G.len
  have hl:(putK kvs kk vv).length<=i+1:=by have:=pO kvs kk vv;omega
  refine wpAny_dictSet_pairs (vA rk) dd fun h' dd' hs=>?_
  have he:∃q,h'.get? d=some q:=let ⟨q,_,_,hq,_⟩:=dd';⟨q,hq⟩
  have I2:Inv X γ σ (upd H' d (.dK (putK kvs kk vv))) {s2 with heap:=h',toks:=s2.toks+1}:=nH I' (by rw[hd'];exact True.intro) hs he (Nk (by omega) hds (rel.put kk rv) dd')
  have N2:=Nx.chg (u':=.dK (putK kvs kk vv)) N' S h0 hd' NZ
  have p2:=gn (u':=.dK (putK kvs kk vv)) hd' NZ
  obtain⟨g1,g2⟩:=Em Dv (dl.mono PP)
  refine QKz ⟨plainId_quiet bR _,?_⟩
  refine ih (i+1) _ _ (putK kvs kk vv) _ (by omega) I2 (fun b hb=>?_) (T.keep _ _ _ st' fun b hb o e=>?_) ((P.trans PP).trans p2) N2 aP (g2.mono p2) ?_ hl (by omega)
  ·have nb:b≠d:=fun e=>by subst e;rw[nf b hb]at hd';cases hd'
   exact⟨by rw[aC nb];exact nf b hb,(hf b hb).2⟩
  ·have nb:b≠d:=fun e=>by subst e;rw[nf b hb]at hd';cases hd'
   exact(hs.2 b nb).trans e
  ·rw[<-g1];exact ho'
theorem CJ(hA:X.A=A.in1)(hu:X.A.units+1<cLine)(hc:X.calm=true)(T:Turn X.prog X.w X.K (.Name x p) J fp it tn)(G:Gives X.K J xs H1)(S:Sat X.K env τ H0)(h0:H0 d=none)
  (fin:∀s H,Inv X γ σ H s->Nx X.K env τ H0 env H->jE X.K H (.sdt ks' vs') d->R (.ok (.ret .none)) s):
  ∀(n i:Nat)(s:Shared)(H:Hp)(kvs:List SV)(vs:List D),xs.length-i=n->Inv X γ σ H s->(∀b∈fp,fZ X γ H b)->tn i s.heap->bN H1 H->Nx X.K env τ H0 env H->H d=some (.dS kvs)->
   (∀x∈kvs,bU X.K H x.1 x.2.1)->aq X.K H vs (kvs.map (·.2.2))->iK (kvs.map fun q=>eX q.1) vs (xs.drop i)=some (ks',vs')->kvs.length<=i->i<=xs.length->
   codeAny (model X.prog X.w) A (.builtin "dict.update.loop" ⟨[.ref d,.ref it,rawInt ((i:Nat):Int),.none],[]⟩) R s:=by
 intro n
 induction n with
 |zero=>
  intro i s H kvs vs hn I hf st P N hd hk0 dl ho hk hi
  refine codeAny_builtin dH ?_
  rw[Around.under_plainId bR _,<-hA]
  refine QKq (QGq (T.done X rfl rfl rfl hc i γ s σ H _ I hf st (G.stop H P i (by omega))) (fun r s1 h=>?_) fun _ _ h=>h)
  obtain⟨rfl,I1⟩:=h
  rw[List.drop_eq_nil_of_le (by omega)]at ho
  cases ho
  exact QKq (QKz (QKz (fin s1 H I1 N ⟨_,hd,kvs,rfl,rfl,hk0,dl⟩)))
 |succ n ih=>
  intro i s H kvs vs hn I hf st P N hd hk0 dl ho hk hi
  have hlt:i<xs.length:=by omega
  obtain⟨dd,ed,edr⟩:=xn hlt
  rw[edr]at ho
  obtain⟨k,v,rfl,hkk,ho'⟩:=CK ho
  refine codeAny_builtin dH ?_
  rw[Around.under_plainId bR _,<-hA]
  refine QKq (QGq (T.item X rfl rfl rfl hc i γ s σ H _ I hf st (G.go H P i _ ed)) (fun r s1 h=>?_) fun _ _ h=>h)
  obtain⟨u,rfl,h⟩:=h
  refine w5 (QGq h (fun _ s2 h2=>?_) fun _ _ h=>h)
  obtain⟨y,H',I',ry,yl,st',nf⟩:=h2
  obtain⟨Dy,hH⟩:=G.yld H P i _ ed y H' yl
  obtain⟨a,ws,rfl,hq,l⟩:=bZ Dy
  cases ry
  obtain⟨vk,r1,rfl,Dk,l⟩:=aq.aG.mp l
  obtain⟨vv,r2,rfl,Dv,l⟩:=aq.aG.mp l
  have:=aq.bj.mp l
  subst this
  obtain⟨kk,rfl⟩:=gA hkk
  obtain⟨ka,rfl,hka⟩:=lU Dk
  obtain⟨its,rr,pt,_⟩:=I'.tuple hq
  obtain⟨uk,uv,rfl,rk,rv⟩:=Vals.two rr
  cases rk
  obtain⟨o,eo,ec,nn,edt⟩:=pt
  have N':Nx X.K env τ H0 env H'/\bN H H'/\H' d=some (.dS kvs):=by
   rcases hH with rfl|⟨q,ws,hq0,rfl⟩
   ·exact⟨N,bN.refl _,hd⟩
   ·have NL:=Nx.laid (o:=.tup ws) N.eV hq0
    exact⟨N.trans NL,NL.pers,by rw[aC (fun z=>by subst z;rw[hq0]at hd;cases hd)];exact hd⟩
  obtain⟨N',PP,hd'⟩:=N'
  have hk1:∀x∈kvs,bU X.K H' x.1 x.2.1:=fun x hx=>let ⟨b,q1,q2⟩:=hk0 x hx;⟨b,PP.yz q1,PP.yz q2⟩
  refine QKq (Qqq ?_)
  refine QKq (wpAny_tryCatch ?_)
  have hty:s2.TypeIs (.ref a) "tuple":=⟨o,eo,ec⟩
  refine QKq (wpAny_typeOf hty ?_)
  refine QKq (wpAny_seqItems eo edt (QKz ?_))
  refine Qqq ?_
  obtain⟨ys,pr,dd,y,z⟩:=lE I' (.inl hd') hk1
  have hz:ys.length<=sizeLine:=by
   have:=congrArg List.length (kZ pr)
   simp at this
   omega
  have hG:=G.len
  have hl:(lY kk ka vv kvs).length<=i+1:=by have:=El (k:=kk) (a:=ka) (xs:=kvs) vv;omega
  refine wpAny_dictSet_heap (knd:=oA X.prog X.w) (hsz:=hz) hu (jQ I' hka) dd fun h' dd' hs=>?_
  have he:∃q,h'.get? d=some q:=let ⟨q,_,_,hq,_⟩:=dd';⟨q,hq⟩
  have I2:Inv X γ σ (upd H' d (.dS (lY kk ka vv kvs))) {s2 with heap:=h',toks:=s2.toks+(oA X.prog X.w).draws kk}:=nH I' (by rw[hd'];exact True.intro) hs he (J0 (by omega) y (rE rv pr) dd')
  have N2:=Nx.chg (u':=.dS (lY kk ka vv kvs)) N' S h0 hd' NT
  have p2:=gn (u':=.dS (lY kk ka vv kvs)) hd' NT
  obtain⟨g1,g3,g2⟩:=Ko (k:=kk) (a:=ka) Dv hka hk1 (dl.mono PP)
  refine QKz ⟨plainId_quiet bR _,?_⟩
  refine ih (i+1) _ _ (lY kk ka vv kvs) _ (by omega) I2 (fun b hb=>?_) (T.keep _ _ _ st' fun b hb o e=>?_) ((P.trans PP).trans p2) N2 aP (fun x hx=>let ⟨b,q1,q2⟩:=g3 x hx;⟨b,p2.yz q1,p2.yz q2⟩) (g2.mono p2) ?_ hl (by omega)
  ·have nb:b≠d:=fun e=>by subst e;rw[nf b hb]at hd';cases hd'
   exact⟨by rw[aC nb];exact nf b hb,(hf b hb).2⟩
  ·have nb:b≠d:=fun e=>by subst e;rw[nf b hb]at hd';cases hd'
   exact(hs.2 b nb).trans e
  ·rw[<-g1];exact ho'
end
section
variable{E:QZq}
def tO(hc:X.calm=true)(hu:X.A.units+60<cLine)(I:Inv X γ σ H s)(S:Sat X.K env τ H)(ho:s.heap.get? o=some ob)(hcl:ob.cls=.type T)(hT:(T !="dict")=true)(hd:zT xs=some oo)
  (hkey:∀(s1:Shared)(E:QZq)(Q:Option Value->Shared->Prop),s1.heap.get? o=some ob->(∀h' tk,(∀b u,s1.heap.get? b=some u->h'.get? b=some u)->Q none {s1 with heap:=h',toks:=tk})->
   wpAny (model X.prog X.w) X.A.in1.in1 (getAttr? (.ref o) "keys") Q E s1)
  (hit:∀(s1:Shared)(u:HO)(E:QZq)(Q:QZq),Inv (Cx.under X X.A.in1.in1) γ σ (upd H s.heap.objs.size u) s1->Nx X.K env τ H env (upd H s.heap.objs.size u)->(∀b u,s.heap.get? b=some u->s1.heap.get? b=some u)->
   (∀s2 it fp tn J,Inv (Cx.under X X.A.in1.in1) γ σ (upd H s.heap.objs.size u) s2->Turn X.prog X.w X.K (.Name x p) J fp it tn->tn 0 s2.heap->(∀b∈fp,fZ X γ (upd H s.heap.objs.size u) b)->Gives X.K J xs (upd H s.heap.objs.size u)->Q (.ref it) s2)->
   wpAny (model X.prog X.w) X.A.in1.in1 (pyIter (.ref o)) Q E s1)
  (h:∀a s' H',Inv X γ σ H' s'->Nx X.K env τ H env H'->jE X.K H' oo a->H a=none->Q (.ref a) s'):
  wpAny (model X.prog X.w) X.A (call (.type "dict") [.ref o]) Q E s:=by
 have hfr:=I.hok.fresh (QVz _)
 have LP:∃u0,(∀H',cA X.prog X.w H' (s.heap.push {cls:=.type "dict",data:=.dict #[]}) s.heap.objs.size u0)/\∀s3 it fp tn J R,(∀s4 H4,Inv (Cx.under X X.A.in1.in1) γ σ H4 s4->Nx X.K env τ H env H4->jE X.K H4 oo s.heap.objs.size->R (.ok (.ret .none)) s4)->
   Inv (Cx.under X X.A.in1.in1) γ σ (upd H s.heap.objs.size u0) s3->Turn X.prog X.w X.K (.Name x p) J fp it tn->tn 0 s3.heap->(∀b∈fp,fZ X γ (upd H s.heap.objs.size u0) b)->Gives X.K J xs (upd H s.heap.objs.size u0)->Nx X.K env τ H env (upd H s.heap.objs.size u0)->
   codeAny (model X.prog X.w) X.A.in1 (.builtin "dict.update.loop" ⟨[.ref s.heap.objs.size,.ref it,rawInt ((0:Nat)),.none],[]⟩) R s3:=by
  have hu2:(Cx.under X X.A.in1.in1).A.units+1<cLine:=by
   show X.A.in1.in1.units+1<cLine
   have:X.A.in1.in1.units<=X.A.units+2:=by simp[Around.in1]
   omega
  rcases Nv hd with ⟨pr,hd1,rfl⟩|⟨pr,hd1,rfl⟩
  ·exact⟨.dK [],fun H'=>zO s.heap I.big,fun s3 it fp tn J R fin I3 Tn st hf G N1=>Iv (X:=Cx.under X X.A.in1.in1) rfl hc Tn G S hfr fin xs.length 0 s3 _ [] [] rfl I3 hf st (bN.refl _) N1 aP aq.eQ hd1 (QVz _) (QIq _)⟩
  ·exact⟨.dS [],fun H'=>Nh s.heap I.big,fun s3 it fp tn J R fin I3 Tn st hf G N1=>CJ rfl hu2 hc Tn G S hfr fin xs.length 0 s3 _ [] [] rfl I3 hf st (bN.refl _) N1 aP (fun _ hx=>nomatch hx) aq.eQ hd1 (QVz _) (QIq _)⟩
 obtain⟨u0,ok0,LP⟩:=LP
 refine callType_codes (Q₁:=fun obj ι=>obj=.ref s.heap.objs.size/\ι={s with heap:=s.heap.push {cls:=.type "dict",data:=.dict #[]}}) PySem.F.kt_called_dict (PySem.F.kt_typeCall_dict_1 _) PySem.F.entry_dict_init (kt_code_dict_new _ ⟨rfl,rfl⟩) ?_
 rintro obj ι ⟨rfl,rfl⟩
 have hnew:(s.heap.push {cls:=.type "dict",data:=.dict #[]}).DictOf (fX X.prog X.w) s.heap.objs.size []:=Heap.DictOf.new s.heap
 have k1:∀b u,s.heap.get? b=some u->(s.heap.push {cls:=.type "dict",data:=.dict #[]}).get? b=some u:=fun _ _ q=>QWq _ q
 have I1:=I.laid (t':=s.toks) k1 (QVz _) (ok0 _)
 have N1:=Nx.laid (o:=u0) S hfr
 refine⟨hnew.typeIs,PySem.F.args_dict_init_2 _ _,?_⟩
 refine QKq ?_
 refine QKq (wpAny_notOrdered_dict hnew.typeIs ?_)
 refine QKz ?_
 show wpAny _ _ _ _ _ _
 have hty:(⟨s.heap.push {cls:=.type "dict",data:=.dict #[]},s.gens,s.drawn,s.toks,s.os⟩:Shared).TypeIs (.ref o) T:=⟨ob,k1 o ob ho,hcl⟩
 refine QKq (wpAny_typeOf hty ?_)
 have ht:((Value.type T) !=(Value.type "dict"))=true:=by
  have:T≠"dict":=by simpa using hT
  simpa using this
 rw[if_pos ht]
 refine QKq (hkey _ _ _ (k1 o ob ho) fun h2 tk k2=>?_)
 refine QKq (wpAny_rule ?_)
 have I2:=I1.kept (t':=tk) k2
 refine QKq (hit _ _ _ _ (Inv.under I2 rfl rfl) N1 (fun b u q=>k2 b u (k1 b u q)) fun s3 it fp tn J I3 Tn st hf G=>?_)
 refine QKq (QKz (QKz ⟨plainId_quiet bR _,?_⟩))
 exact LP s3 it fp tn J _ (fun s4 H4 I4 N4 O4=>⟨rfl,h _ s4 H4 (Inv.back I4 rfl rfl) N4 O4 hfr⟩) I3 Tn st hf G N1
end
def Ah:typeLookup (.type "zip") "__len__"=pure none:=by rw[typeLookup_type,builtinLookup_eq_fast];kernel_rfl
def yc:typeLookup (.type "zip") "__length_hint__"=pure none:=by rw[typeLookup_type,builtinLookup_eq_fast];kernel_rfl
section
def Inv.abr{s:Shared}{y:V}{u:Value}{E:QZq}(I:Inv X γ σ H s)(hd:H d=some (.lst vs))(ry:RelV y u)(hz:vs.length<sizeLine)
  (h:∀h',(∀b o,b≠d->s.heap.get? b=some o->h'.get? b=some o)->Inv X γ σ (upd H d (.lst (vs++[y]))) {s with heap:=h'}->Q () {s with heap:=h'}):
  wpAny (model X.prog X.w) A (updateSeq d (·.push u)) Q E s:=by
 obtain⟨z,its,n,r,e⟩:=(I.hok d _ hd)
 have hl:=r.length
 refine wpAny_updateSeq e rfl ?_ (by show its.toArray.size<=_;rw[Qyq];omega) (by show(its.toArray.push u).size<=_;rw[Array.size_push,Qyq];omega)
 have es:=Heap.get?_update_self (Obj.mapSeq (·.push u)) e rfl
 have oth:∀b o,b≠d->s.heap.get? b=some o->(s.heap.update d (Obj.mapSeq (·.push u))).get? b=some o:=fun b o hb q=>(Heap.get?_update_other _ _ (Ne.symm hb)).trans q
 refine h _ oth (I.write (by rw[hd];exact True.intro) (.inl rfl) (fun b q hb z=>oth b q hb z) ⟨_,es⟩ ?_)
 have ea:(its++[u]).toArray=its.toArray.push u:=by simp
 exact⟨by simp;omega,its++[u],_,Vals.append r (.cons ry .nil),by rw[ea];exact es⟩
theorem HJ(hA:X.A=A.in1)(hc:X.calm=true)(T:Turn X.prog X.w X.K (.Name x p) J fp it tn)(G:Gives X.K J xs H1)(S:Sat X.K env τ H0)(h0:H0 d=none)
  (fin:∀s H,Inv X γ σ H s->Nx X.K env τ H0 env H->jE X.K H (.lst xs) d->R (.ok (.ret .none)) s):
  ∀(n i:Nat)(s:Shared)(H:Hp)(vs:List V),xs.length-i=n->Inv X γ σ H s->(∀b∈fp,fZ X γ H b)->tn i s.heap->bN H1 H->Nx X.K env τ H0 env H->H d=some (.lst vs)->
   aq X.K H (xs.take i) vs->i<=xs.length->
   codeAny (model X.prog X.w) A (.builtin "list.extend.loop" ⟨[.ref d,.ref it,.none],[]⟩) R s:=by
 intro n
 induction n with
 |zero=>
  intro i s H vs hn I hf st P N hd dl hi
  refine codeAny_builtin PySem.F.entry_extend_loop ?_
  rw[Around.under_plainId PySem.F.plain_extend_loop _,<-hA]
  refine QKq (QGq (T.done X rfl rfl rfl hc i γ s σ H _ I hf st (G.stop H P i (by omega))) (fun r s1 h=>?_) fun _ _ h=>h)
  obtain⟨rfl,I1⟩:=h
  rw[List.take_of_length_le (by omega)]at dl
  exact QKz (fin s1 H I1 N ⟨_,hd,vs,rfl,dl⟩)
 |succ n ih=>
  intro i s H vs hn I hf st P N hd dl hi
  have hlt:i<xs.length:=by omega
  obtain⟨dd,ed,edr⟩:=xn hlt
  refine codeAny_builtin PySem.F.entry_extend_loop ?_
  rw[Around.under_plainId PySem.F.plain_extend_loop _,<-hA]
  refine QKq (QGq (T.item X rfl rfl rfl hc i γ s σ H _ I hf st (G.go H P i _ ed)) (fun r s1 h=>?_) fun _ _ h=>h)
  obtain⟨u,rfl,h⟩:=h
  refine w5 (QGq h (fun _ s2 h2=>?_) fun _ _ h=>h)
  obtain⟨y,H',I',ry,yl,st',nf⟩:=h2
  obtain⟨Dy,hH⟩:=G.yld H P i _ ed y H' yl
  have N':Nx X.K env τ H0 env H'/\bN H H'/\H' d=some (.lst vs):=by
   rcases hH with rfl|⟨q,ws,hq0,rfl⟩
   ·exact⟨N,bN.refl _,hd⟩
   ·have NL:=Nx.laid (o:=.tup ws) N.eV hq0
    exact⟨N.trans NL,NL.pers,by rw[aC (fun z=>by subst z;rw[hq0]at hd;cases hd)];exact hd⟩
  obtain⟨N',PP,hd'⟩:=N'
  have hG:=G.len
  have lv:=dl.length
  rw[List.length_take]at lv
  refine QKq (Inv.abr I' hd' ry (by omega) fun h' oth I2=>?_)
  have p2:=gn (u':=.lst (vs++[y])) hd' Gs
  refine QKz ⟨plainId_quiet PySem.F.plain_extend_loop _,?_⟩
  refine ih _ _ _ _ (by omega) I2 (fun b hb=>?_) (T.keep _ _ _ st' fun b hb o e=>?_) ((P.trans PP).trans p2) (Nx.chg (u':=.lst (vs++[y])) N' S h0 hd' Gs) aP ?_ (by omega)
  ·exact⟨by rw[aC (fun e=>by subst e;rw[nf b hb]at hd';cases hd')];exact nf b hb,(hf b hb).2⟩
  ·exact oth b o (fun e=>by subst e;rw[nf b hb]at hd';cases hd') e
  ·have:xs.take (i+1)=xs.take i++[dd]:=by rw[List.take_add_one,ed];rfl
   rw[this]
   exact((dl.mono PP).append (aq.cV Dy aq.eQ)).mono p2
end
section
variable{E:QZq}
def Di(hc:X.calm=true)(I:Inv X γ σ H s)(S:Sat X.K env τ H)(ho:s.heap.get? o=some ob)(hcl:ob.cls=.type "zip")
  (hself:∀(s1:Shared)(E:QZq)(Q:QZq),(∀b u,s.heap.get? b=some u->s1.heap.get? b=some u)->Q (.ref o) s1->wpAny (model X.prog X.w) X.A.in1.in1 (pyIter (.ref o)) Q E s1)
  (hit:∀(s1:Shared)(u:HO),Nx X.K env τ H env (upd H s.heap.objs.size u)->(∀b u,s.heap.get? b=some u->s1.heap.get? b=some u)->
   ∃fp tn J,Turn X.prog X.w X.K (.Name x p) J fp o tn/\tn 0 s1.heap/\(∀b∈fp,fZ X γ (upd H s.heap.objs.size u) b)/\Gives X.K J xs (upd H s.heap.objs.size u))
  (h:∀a s' H',Inv X γ σ H' s'->Nx X.K env τ H env H'->jE X.K H' (.lst xs) a->H a=none->Q (.ref a) s'):
  wpAny (model X.prog X.w) X.A (call (.type "list") [.ref o]) Q E s:=by
 refine callType_codes (Q₁:=fun obj ι=>obj=.ref s.heap.objs.size/\ι={s with heap:=s.heap.push {cls:=.type "list",data:=.seq #[]}}) PySem.F.called_list (PySem.F.typeCall_list_1 _) PySem.F.entry_list_init
  (code_list_new _ ⟨rfl,rfl⟩) fun obj ι ω=>?_
 obtain⟨rfl,rfl⟩:=ω
 have hS:(s.heap.push {cls:=.type "list",data:=.seq #[]}).get? s.heap.objs.size=some {cls:=.type "list",data:=.seq #[]}:=Qzq _ rfl
 have hfr:=I.hok.fresh (QVz _)
 have hne:s.heap.objs.size≠o:=fun e=>absurd (Qqz ho) (by rw[e];exact Nat.lt_irrefl _)
 have oth:∀f(h':Heap)b u,b≠s.heap.objs.size->h'.get? b=some u->(h'.update s.heap.objs.size (Obj.mapSeq f)).get? b=some u:=
  fun f h' b u hb e=>(Heap.get?_update_other _ _ (Ne.symm hb)).trans e
 have old:∀b u,s.heap.get? b=some u->b≠s.heap.objs.size:=fun b u e=>Qvz (Qqz e)
 refine⟨⟨_,hS,rfl⟩,PySem.F.args_list_init_2 _ _,?_⟩
 refine QKq ?_
 refine QKq (wpAny_seqItems hS rfl (QKz ?_))
 refine QKq (wpAny_updateSeq hS rfl ?_)
 have hS₂:=Heap.get?_update_self (Obj.mapSeq (fun _=>(#[]))) hS rfl
 have k2:∀b u,s.heap.get? b=some u->((s.heap.push {cls:=.type "list",data:=.seq #[]}).update s.heap.objs.size (Obj.mapSeq (fun _=>(#[])))).get? b=some u:=fun b u e=>oth _ _ b u (old b u e) ((fun _ _ q=>QWq _ q) b u e)
 refine QKq (wpAny_letGo ?_)
 have hty:(⟨(s.heap.push {cls:=.type "list",data:=.seq #[]}).update s.heap.objs.size (Obj.mapSeq (fun _=>(#[]))),s.gens,s.drawn,s.toks,s.os⟩:Shared).TypeIs (.ref o) "zip":=⟨ob,k2 o ob ho,hcl⟩
 refine QKq (wpAny_typeOf hty ?_)
 have h1:Builtin.List.listSameRef (.ref s.heap.objs.size) (.ref o)=false:=by simp[Builtin.List.listSameRef,hne]
 have h2:(Value.type "zip"==Value.type "list")=false:=by decide
 have h3:(Value.type "zip"==Value.type "tuple")=false:=by decide
 simp only[h1,h2,h3,Bool.or_false,Qxq,if_false]
 refine QKq (hself _ _ _ k2 ?_)
 refine QKq (Qqq ?_)
 refine QKq (wpAny_specialOf hty Ah ?_)
 refine QKq (wpAny_specialOf hty yc ?_)
 refine QKz ?_
 refine QKq (wpAny_rule ?_)
 refine QKq ?_
 refine QKq (wpAny_updateSeq hS₂ rfl ?_)
 have hS₃:=Heap.get?_update_self (Obj.mapSeq (·.push Value.none)) hS₂ rfl
 refine wpAny_updateSeq hS₃ rfl ?_
 have k4:∀b u,s.heap.get? b=some u->((((s.heap.push {cls:=.type "list",data:=.seq #[]}).update s.heap.objs.size (Obj.mapSeq (fun _=>(#[])))).update s.heap.objs.size (Obj.mapSeq (·.push Value.none))).update s.heap.objs.size (Obj.mapSeq (·.pop))).get? b=some u:=
  fun b u e=>oth _ _ b u (old b u e) (oth _ _ b u (old b u e) (k2 b u e))
 have N1:=Nx.laid (o:=.lst []) S hfr
 obtain⟨fp,tn,J,Tn,st,hf,G⟩:=hit {s with heap:=_} _ N1 k4
 refine QKz ⟨plainId_quiet PySem.F.plain_extend_loop _,?_⟩
 exact HJ (X:=Cx.under X X.A.in1.in1) rfl hc Tn G S hfr (fun s4 H4 I4 N4 O4=>⟨rfl,h _ s4 H4 (Inv.back I4 rfl rfl) N4 O4 hfr⟩) xs.length 0 _ _ [] rfl (Inv.under (I.laid (o:=.lst []) (t':=s.toks) k4 (QVz _) ⟨QIq _,[],_,.nil,Heap.get?_update_self (Obj.mapSeq (·.pop)) hS₃ rfl⟩) rfl rfl) hf st (bN.refl _) N1 aP aq.eQ (QIq _)
end
def Gives.mono{J:It}{H H':Hp}(g:Gives K J xs H)(p:bN H H'):Gives K J xs H':=
 ⟨fun H1 q=>g.go H1 (p.trans q),fun H1 q=>g.yld H1 (p.trans q),fun H1 q=>g.stop H1 (p.trans q),g.len⟩
def Inv.Te{E:QZq}{σ:St}{H:Hp}(I:Inv X γ σ H s):Inv {X with xe:=E} γ σ H s:=
 ⟨⟨I.ok.mod,I.ok.kind,I.ok.glob,I.ok.blt,I.ok.above,I.ok.inj,I.ok.has,I.ok.cab,I.ok.hd,I.ok.frames,I.ok.stk,I.ok.exf,I.ok.bs,I.ok.bsz,I.ok.noex,I.ok.exfs,I.ok.mj,I.ok.frf⟩,
  I.os,I.bare,I.base,I.loc,I.cell,I.free,I.freeC,I.pin,I.hok,I.len⟩
def Inv.unE{E:QZq}{σ:St}{H:Hp}(I:Inv {X with xe:=E} γ σ H s):Inv X γ σ H s:=Inv.Te (X:={X with xe:=E}) I
theorem Inv.seqObj{X:Cx}{σ:St}{H:Hp}{b:Bool}{l:Addr}(I:Inv X γ σ H s)(h:OJ X.K b H l vs):
  ∃(its:Array Value)(k:Nat)(sl:Array (Option Value)),s.heap.get? l=some {cls:=.type (if b then "list" else "tuple"),dict:=none,data:=.seq its k,slots:=sl}:=by
 cases b with
 |true=>
  obtain⟨its,r,⟨o,n,e,c,d,dt⟩,z⟩:=I.list (O5.sq h)
  obtain⟨oc,od,odt,os⟩:=o
  subst c d dt
  exact⟨_,_,_,e⟩
 |false=>
  obtain⟨its,r,⟨o,e,c,d,n,dt⟩,z⟩:=I.Aq h
  obtain⟨oc,od,odt,os⟩:=o
  subst c d dt
  exact⟨_,_,_,e⟩
def wW{xs:List D}(h:bu d=some xs):items d=some xs:=by
 cases d<;>simp[bu]at h<;>simp[items,h]
noncomputable def Ui(K:QQq):List V->Hp->VK->Prop:=fun us H Q=>∃env τ v d xs pr,us=[v]/\Sat K env τ H/\bJ K H d v/\bu d=some xs/\zT xs=some pr/\
 ∀a H',Nx K env τ H env H'->jE K H' pr a->H a=none->Q (.ref a) H'
section
def Dj(hc:X.calm=true)(hu:X.A.units+60<cLine):fV X (.type "dict") (Ui X.K):=by
 intro γ s σ H us ws Q I r h
 obtain⟨env,τ,v,d,xs,pr,rfl,S,Dv,es,hd,q⟩:=h
 obtain⟨u,rfl,ru⟩:=vals1 r
 obtain⟨bb,l,vs,rfl,hq,dl⟩:=Dv.wg es
 cases ru
 obtain⟨its,k,sl,eo⟩:=Inv.seqObj I hq
 refine tO (x:=("_")) (p:=default) hc hu I S eo rfl (by cases bb<;>decide) hd (fun s1 E Q e1 k1=>?_) (fun s1 u E Q I1 N1 k1 hQ=>?_) fun a s' H' I' N' O' h'=>⟨.ref a,H',I',rfl,q a H' N' O' h'⟩
 ·cases bb with
  |true=>exact rZ e1 (I.ok.hd hc) k1
  |false=>exact qi e1 (I.ok.hd hc) k1
 ·refine QGq (Ma (tg:=.Name ("_") default) (R:=fun J H'=>Gives X.K J xs H'/\H'=upd H s.heap.objs.size u) (Inv.Te I1) (show RelV (.ref l) _ from rfl) (Dv.mono N1.pers) (wW es) fun J g=>⟨g,rfl⟩) (fun v2 s2 h2=>?_) fun _ _ h=>h
  obtain⟨it,fp,tn,J,H',rfl,I2,T,st,hf,g,rfl⟩:=h2
  exact hQ s2 it fp tn J (Inv.unE I2) T st hf g
def Np{σ:St}{Q:VK}(hv:m.aB=none)(q:tM X.K W env (ev c (.bi .dict m) env) σ H Q):aD X W c m σ H fun v H1=>Ui X.K [v] H1 Q:=by
 simp only[mU,hv]at q
 refine⟨env,aR q fun d δ v H1 N1 D1 q1=>?_⟩
 obtain⟨z,ez,S,q3⟩:=cg q1
 simp only[b1]at ez
 cases es:bu d with
 |none=>rw[es]at ez;cases ez
 |some xs=>
  rw[es]at ez
  simp only[QHq,zY]at ez
  cases ed:zT xs with
  |none=>rw[ed]at ez;cases ez
  |some pr=>
   rw[ed]at ez
   cases ez
   exact⟨δ,σ,v,d,xs,pr,rfl,S,D1,es,ed,fun a H' N O h0=>q3 _ H' N ⟨a,rfl,O,h0⟩⟩
def R3(hc:X.calm=true)(hu:X.A.units+60<cLine)(ha:GE X W c m a)(hv:m.aB=none)(hg:Gl X "dict")(hm:X.mg "dict"=none)(hs:starEach [a] X.env=[(false,eval a X.env)]):
  GE X W c (.bi .dict m) (.Call (.Name "dict" p) [a] [] pos):=fun env=>
 PE.imp (oM (Dj hc hu) hg hm PyProof.Rows.boot_dict (cI ha.d fJ hs) (by decide) (by decide) hs rfl) fun σ H Q h=>Np hv h
structure agj(X:Cx)(W:Wi)(γ:QQz)(σ:St)(Q:VK)(f:D->Ev->Out Rv)(v:Value)(s:Shared):Prop where
 go:∃z TI TO i1 i2 b1 b2 l1 l2 vs ws xs ys env H,v=.ref z/\Inv X γ σ H s/\z9 z TI TO i1 i2 b1 b2 l1 l2 0 s.heap/\ZipApart z TI TO i1 i2 l1 l2/\(∀b∈[z,TI,TO,i1,i2],fZ X γ H b)/\
  Gives X.K (Itz X.K b1 b2 l1 l2 vs ws) (aW xs ys) H/\tM X.K W env (f (.lst (aW xs ys)) env) σ H Q
theorem yd{env:Ev}{s:Shared}{σ:St}{Q:VK}(ha:GE X W c m1 a)(hb:GE X W c m2 b)(hg:Gl X "zip")(hm:X.mg "zip"=none)
  (hs:starEach [a,b] X.env=[(false,eval a X.env),(false,eval b X.env)])(hs2:starEach [b] X.env=[(false,eval b X.env)])(I:Inv X γ σ H s)(q:tM X.K W env ((ev c (.zip m1 m2) env).au f) σ H Q):
  wpAny (model X.prog X.w) X.A (eval (.Call (.Name "zip" p) [a,b] [] pos) X.env) (agj X W γ σ Q f) X.xe s:=by
 simp only[VJ]at q
 let RR:List V->Hp->Prop:=fun vs H'=>∃ε d1 d2 xs ys v1 v2,vs=[v1,v2]/\bJ X.K H' d1 v1/\bJ X.K H' d2 v2/\bu d1=some xs/\bu d2=some ys/\tM X.K W ε (f (.lst (aW xs ys)) ε) σ H' Q
 have asc:∀(o:Out Rv)g,(o.au g).au f=o.au fun d e=>(g d e).au f:=fun o g=>by
  cases o with
  |ok x e=>cases x<;>rfl
  |exc c e=>rfl
  |bad=>rfl
 rw[asc]at q
 have go:aD X W c m1 σ H fun v1 H1=>aD X W c m2 σ H1 fun v2 H2=>RR [v1,v2] H2:=by
  refine⟨env,aR q fun d1 δ v1 H1 N1 D1 q1=>⟨δ,?_⟩⟩
  rw[asc]at q1
  refine aR q1 fun d2 ε v2 H2 N2 D2 q2=>?_
  cases e1:bu d1 with
  |none=>rw[e1]at q2;exact q2.2.elim
  |some xs=>
   cases e2:bu d2 with
   |none=>rw[e1,e2]at q2;exact q2.2.elim
   |some ys=>
    rw[e1,e2]at q2
    exact⟨ε,d1,d2,xs,ys,v1,v2,rfl,D1.mono N2.pers,D2,e1,e2,q2⟩
 refine wpAny_Call_Name_kw (jP I hg hm PyProof.Rows.boot_zip ?_ (by decide) (by decide))
 refine PyProof.Rows.callWith_type1 (b7 (cI ha.d (cI hb.d fJ hs2) (by rw[hs,hs2]) pos γ s σ H RR I go) fun us s1⟨vs,H1,I1,r1,q1⟩=>?_) (by rw[hs,hs2]) (by rw[hs2];rfl)
 obtain⟨ε,d1,d2,xs,ys,v1,v2,rfl,D1,D2,e1,e2,q3⟩:=q1
 obtain⟨b1,l1,vs,rfl,h1,dl1⟩:=D1.wg e1
 obtain⟨b2,l2,ws,rfl,h2,dl2⟩:=D2.wg e2
 obtain⟨u1,u2,rfl,ru1,ru2⟩:=Vals.two r1
 cases ru1
 cases ru2
 obtain⟨its,rr1,p1,z1,lt1⟩:=Inv.wg I1 h1
 obtain⟨its2,rr2,p2,z2,lt2⟩:=Inv.wg I1 h2
 refine vP p1 p2 fun h' st sz kk=>?_
 refine⟨s1.heap.objs.size+4,s1.heap.objs.size+2,s1.heap.objs.size+3,s1.heap.objs.size,s1.heap.objs.size+1,b1,b2,l1,l2,vs,ws,xs,ys,ε,H1,rfl,I1.kept kk,st,uD lt1 lt2,fun b hb=>?_,vH h1 h2 dl1 dl2 z1,q3⟩
 have hb':s1.heap.objs.size<=b:=by
  simp only[QCq,QAz,or_false]at hb
  rcases hb with rfl|rfl|rfl|rfl|rfl<;>omega
 exact I1.Cr hb' (I1.hok.fresh hb')
theorem z9.lt{z TI TO i1 i2:Addr}{b1 b2:Bool}{k:Nat}(st:z9 z TI TO i1 i2 b1 b2 l1 l2 k h):∀b∈[z,TI,TO,i1,i2],b<h.objs.size:=by
 intro b hb
 obtain⟨f0,f1,zr,_⟩:=st.zr
 obtain⟨x,y,to⟩:=st.to
 simp only[QCq,QAz,or_false]at hb
 rcases hb with rfl|rfl|rfl|rfl|rfl
 ·exact Qqz zr
 ·exact Qqz st.ti
 ·exact Qqz to
 ·exact st.it1.lt
 ·exact st.it2.lt
theorem Cp(hc:X.calm=true)(hu:X.A.units+60<cLine)(ha:GE X W c m1 a)(hb:GE X W c m2 b)(hg:Gl X "zip")(hm:X.mg "zip"=none)
  (hs:starEach [a,b] X.env=[(false,eval a X.env),(false,eval b X.env)])(hs2:starEach [b] X.env=[(false,eval b X.env)])(hg':Gl X "dict")(hm':X.mg "dict"=none)
  (hs':starEach [.Call (.Name "zip" q1) [a,b] [] q2] X.env=[(false,eval (.Call (.Name "zip" q1) [a,b] [] q2) X.env)]):
  GE X W c (.bi .dict (.zip m1 m2)) (.Call (.Name "dict" p) [.Call (.Name "zip" q1) [a,b] [] q2] [] pos):=by
 intro env γ s σ H Q I q
 simp only[mU,E.aB]at q
 refine wpAny_Call_Name_kw (jP I hg' hm' PyProof.Rows.boot_dict ?_ (by decide) (by decide))
 refine PyProof.Rows.callWith_type1 ?_ hs' rfl
 refine Calls.spliced_cons (b7 (yd ha hb hg hm hs hs2 I (by simpa only[mU]using q)) fun u s1 h1=>Calls.spliced_nil ?_)
 obtain⟨z,TI,TO,i1,i2,b1,b2,l1,l2,vs,ws,xs,ys,δ,H1,rfl,I1,st,ap,hf,G,q1⟩:=h1.go
 obtain⟨r,er,S,q3⟩:=cg q1
 simp only[Mini.b1,bu,QHq,zY]at er
 cases ed:zT _ with
 |none=>rw[ed]at er;cases er
 |some pr=>
  rw[ed]at er
  cases er
  obtain⟨f0,f1,zr,h0⟩:=st.zr
  refine tO (x:=("_")) (p:=default) hc hu I1 S zr rfl (by decide) ed (fun s2 E Q e1 k1=>uy e1 (I1.ok.hd hc) k1) (fun s2 u E Q I2 N2 k2 hQ=>?_)
   fun a s' H' I' N' O' h'=>⟨.ref a,H',I',rfl,q3 _ H' N' ⟨a,rfl,O',h'⟩⟩
  refine iY (k2 _ _ zr) (hQ s2 z [z,TI,TO,i1,i2] _ _ I2 (jH ap) ((jH (P:=X.prog) (w:=X.w) (K:=X.K) (tg:=.Name ("_") default) (vs:=vs) (ws:=ws) ap).keep 0 _ _ st fun b _ o e=>k2 b o e) (fun b hb=>⟨?_,(hf b hb).2⟩) (G.mono N2.pers))
  rw[aC (Qvz (st.lt b hb))]
  exact(hf b hb).1
def Ck(hc:X.calm=true)(ha:GE X W c m1 a)(hb:GE X W c m2 b)(hg:Gl X "zip")(hm:X.mg "zip"=none)
  (hs:starEach [a,b] X.env=[(false,eval a X.env),(false,eval b X.env)])(hs2:starEach [b] X.env=[(false,eval b X.env)])(hg':Gl X "list")(hm':X.mg "list"=none)
  (hs':starEach [.Call (.Name "zip" q1) [a,b] [] q2] X.env=[(false,eval (.Call (.Name "zip" q1) [a,b] [] q2) X.env)]):
  GE X W c (.bi .list (.zip m1 m2)) (.Call (.Name "list" p) [.Call (.Name "zip" q1) [a,b] [] q2] [] pos):=by
 intro env γ s σ H Q I q
 simp only[mU,E.aB]at q
 refine wpAny_Call_Name_kw (jP I hg' hm' PyProof.Rows.boot_list ?_ (by decide) (by decide))
 refine PyProof.Rows.callWith_type1 ?_ hs' rfl
 refine Calls.spliced_cons (b7 (yd ha hb hg hm hs hs2 I (by simpa only[mU]using q)) fun u s1 h1=>Calls.spliced_nil ?_)
 obtain⟨z,TI,TO,i1,i2,b1,b2,l1,l2,vs,ws,xs,ys,δ,H1,rfl,I1,st,ap,hf,G,q1⟩:=h1.go
 obtain⟨r,er,S,q3⟩:=cg q1
 cases er
 obtain⟨f0,f1,zr,h0⟩:=st.zr
 refine Di (x:=("_")) (p:=default) hc I1 S zr rfl (fun s2 E Q k2 hQ=>iY (k2 _ _ zr) hQ) (fun s2 u N2 k2=>?_)
  fun a s' H' I' N' O' h'=>⟨.ref a,H',I',rfl,q3 _ H' N' ⟨a,rfl,O',h'⟩⟩
 refine⟨[z,TI,TO,i1,i2],_,_,jH ap,(jH (P:=X.prog) (w:=X.w) (K:=X.K) (tg:=.Name ("_") default) (vs:=vs) (ws:=ws) ap).keep 0 _ _ st fun b _ o e=>k2 b o e,fun b hb=>⟨?_,(hf b hb).2⟩,G.mono N2.pers⟩
 rw[aC (Qvz (st.lt b hb))]
 exact(hf b hb).1
end
section
variable{E:QZq}
def xN{Q:QZq}(h:Q (.bool (!a&&b)) s):wpAny (model prog w) A (call (.builtin "int.__lt__") [.bool a,.bool b]) Q E s:=by
 refine Qzz PySem.F.slot_bool_lt (PyProof.Rows.typeIs_bool' s a) PySem.F.entry_int_lt ?_ (PySem.F.args_int_lt_2 _ _)
 have e:(decide ((if a=true then 1 else 0)< (if b=true then(1:Int)else 0)))=(!a&&b):=by cases a<;>cases b<;>rfl
 show wpAny _ _ (ret (.bool (decide ((if a=true then 1 else 0)< (if b=true then 1 else 0))))) _ _ s
 rw[e]
 exact QKz ⟨_,rfl,h⟩
def yU{Q:Bool->Shared->Prop}(h:Q (!a&&b) s):wpAny (model prog w) A (PyProof.Rows.oneLt' true (.bool a) (.bool b)) Q E s:=by
 rw[PyProof.Rows.oneLt'_eq]
 refine QKq (wpAny_cRoomFor_byValue rfl ?_)
 refine QKq (wpAny_callSpecialIfBound?_slot (PyProof.Rows.typeIs_bool' s a) PySem.F.slot_bool_lt (xN ?_))
 exact wpAny_truthy_bool h
def By{Q:Bool->Shared->Prop}(h:Q (!a&&b) s):wpAny (model prog w) A (PyProof.Rows.oneLt' c (.bool a) (.bool b)) Q E s:=by
 cases c with
 |true=>exact yU h
 |false=>exact PySem.W.kat_one _ _ (uR A s a b prog w _ _ h)
theorem vz{b fin:Bool}{Q:Bool->Shared->Prop}{nx ny:Nat}:∀{vs ws:List Value}{ns ms:List Bool}(i:Nat),BoolsAre vs ns->BoolsAre ws ms->ns.length+ny=ms.length+nx->fin=decide (nx<ny)->Q (lK ns ms) s->
  PySem.W.KatLex prog w A b fin Q (vs.zip ws) i s
 |_,_,_,_,i,.nil,hw=>fun hl hf h=>by
  refine PySem.W.kat_nil ?_
  cases hw with
  |nil=>rw[Fj]at h;rw[hf];simp at hl;rw[QEz (by omega)];exact h
  |cons c hw=>rw[Fo]at h;rw[hf];simp at hl;rw[QFq (by omega)];exact h
 |_,_,_,_,i,.cons a hv,.nil=>fun hl hf h=>by
  refine PySem.W.kat_nil ?_
  rw[hf]
  simp at hl
  rw[QEz (by omega)]
  exact h
 |_,_,_,_,i,.cons a hv,.cons c hw=>fun hl hf h=>by
  rw[vm]at h
  simp only[QBq]at hl
  refine PySem.W.kat_cons (SeqAt.EqAt.bool_bool a c prog w _ _ ?_)
  by_cases hac:a=c
  ·subst hac
   rw[if_pos rfl]at h
   rw[beq_self_eq_true]
   exact PySem.W.kat_yes (vz _ hv hw (by omega) hf h)
  ·rw[if_neg hac]at h
   rw[beq_eq_false_iff_ne.mpr hac]
   exact PySem.W.kat_no (By h)
def zx{x y:Addr}{ns ms:List Bool}(hx:∃o n,s.heap.get? x=some o/\o.data=.seq xs n)(hy:∃o n,s.heap.get? y=some o/\o.data=.seq ys n)(bx:BoolsAre xs.toList ns)(by':BoolsAre ys.toList ms)
  (h:Q (lK ns ms) s):wpAny (model prog w) A (PyProof.Rows.keyLt' (PyProof.Rows.tuples' b) (.ref x) (.ref y)) Q E s:=by
 obtain⟨ox,nx,ex,dx⟩:=hx
 obtain⟨oy,ny,ey,dy⟩:=hy
 have l1:=bx.length
 have l2:=by'.length
 simp at l1 l2
 exact PySem.W.kat_lt ex dx ey dy (vz 0 bx by' (by omega) rfl h)
end
end Mini
end
section
namespace Mini
open PySem L2 PyProof.Rows
section
variable{E:QZq}
def wM{vs out:List Value}{P:PySem.Fin->Shared->Prop}(ho:s.heap.get? a=some (seqObj "list" vs.toArray n))(h64:vs.length<64)(hl:out.length=vs.length)
  (h1:vs.length<2->out=vs)
  (h2:2<=vs.length->∀h':Heap,(∀b o,b≠a->s.heap.get? b=some o->h'.get? b=some o)->wpAny (model prog w) A (keyKind' vs.toArray) (fun κ s'=>s'={s with heap:=h'}/\
   (PySem.W.kas_sort vs.length).kasWp (PySem.W.kas_ask prog w A κ vs) (fun p s''=>s''={s with heap:=h'}/\(p.toList.map fun i=>vs.getD i Value.none)=out) s') (fun _ _=>False) {s with heap:=h'})
  (h:P (.done (.ret .none)) {s with heap:=sortedHeap s.heap a vs out.toArray}):
  wpAny (model prog w) A (Builtin.«list.sort» ⟨[.ref a],[]⟩) P E s:=by
 rw[list_sort_plain]
 have ha:=Qqz ho
 have hz:vs.length<=sizeLine:=by rw[sizeLine_eq];omega
 refine QKq (listItems_at ho rfl ?_)
 refine QKq (listUpdate_at ho rfl ?_ (by rw[Qyq];exact hz) (QIq _))
 obtain⟨e1,ho1⟩:∃e1,(s.heap.update a _).get? a=some (seqObj "list" #[] e1):=⟨_,get?_update_seq ho (fun _=> #[])⟩
 refine QKq (seqEpoch_at ho1 rfl ?_)
 refine QKq (wpAny_newTuple ?_ (by show vs.length<=_;exact hz))
 refine QKq (wpAny_newList ?_ (QIq _))
 refine Qqq ?_
 have ho6:(((s.heap.update a (Obj.mapSeq fun _=> #[])).push (seqObj "tuple" vs.toArray 0)).push (seqObj "list" #[] 0)).get? a=some (seqObj "list" #[] e1):=by
  rw[Heap.get?_push_ne _ _ _ (by rw[size_push',Heap.size_update];exact Qvz (Nat.lt_succ_of_lt ha)),Heap.get?_push_ne _ _ _ (by rw[Heap.size_update];exact Qvz ha)]
  exact ho1
 have kp:∀b o,b≠a->s.heap.get? b=some o->(((s.heap.update a (Obj.mapSeq fun _=> #[])).push (seqObj "tuple" vs.toArray 0)).push (seqObj "list" #[] 0)).get? b=some o:=fun b o hb e=>
  QWq _ (QWq _ ((Heap.get?_update_other _ _ (Ne.symm hb)).trans e))
 by_cases hn:vs.toArray.size<2
 ·rw[if_pos hn,if_pos hn]
  refine QKq (QKz ?_)
  refine QKq (QKz ?_)
  have em:(arrOf (SortSt.mk' general' (vs.toArray.zip vs.toArray) #[] 7 none)).map (·.2)=out.toArray:=by
   rw[h1 (by simpa using hn)]
   apply Array.toList_inj.mp
   simp[List.map_snd_zip]
  refine QKq (seqEpoch_at ho6 rfl ?_)
  rw[em]
  refine QKq (listUpdate_at ho6 rfl ?_ (QIq _) (by show out.toArray.size<=_;rw[Qyq];omega))
  simp only[bne_self_eq_false,Qxq,if_false]
  exact QKz h
 ·rw[if_neg hn,if_neg hn]
  have hn2:2<=vs.length:=by simpa using hn
  refine QKq (QGq (h2 hn2 _ kp) (fun κ s0 hk=>?_) fun _ _ x=>x.elim)
  obtain⟨rfl,hk⟩:=hk
  refine QKq (QGq (PySem.W.kat_run (Q:=fun st' s'=>∃p:Array Nat,arrOf st'=p.map _/\failedOf st'=none/\s'={s with heap:=((s.heap.update a _).push _).push _}/\(p.toList.map fun i=>vs.getD i Value.none)=out)
   rfl hn2 h64 (fun p' st' s' a1 a2 a3 a4=>⟨p',a2,a3,a4.1,a4.2⟩) hk) ?_ fun _ _ e=>e)
  rintro ⟨⟨⟩,st'⟩ s' ⟨p,har,hf,rfl,hp⟩
  have em:(arrOf st').map (·.2)=out.toArray:=by rw[PySem.W.kat_snds rfl har,hp]
  refine QKq (seqEpoch_at ho6 rfl ?_)
  rw[em]
  refine QKq (listUpdate_at ho6 rfl ?_ (QIq _) (by show out.toArray.size<=_;rw[Qyq];omega))
  rw[hf]
  simp only[bne_self_eq_false,Qxq,if_false]
  exact QKz h
def uK{vs out:List Value}(hls:s.heap.IsList l vs.toArray)(h64:vs.length<64)(hl:out.length=vs.length)(h1:vs.length<2->out=vs)
  (h2:2<=vs.length->∀h':Heap,(∀b o,s.heap.get? b=some o->h'.get? b=some o)->wpAny (model prog w) A.in1.in1 (keyKind' vs.toArray) (fun κ s'=>s'={s with heap:=h'}/\
   (PySem.W.kas_sort vs.length).kasWp (PySem.W.kas_ask prog w A.in1.in1 κ vs) (fun p s''=>s''={s with heap:=h'}/\(p.toList.map fun i=>vs.getD i Value.none)=out) s') (fun _ _=>False) {s with heap:=h'})
  (h:Q (.ref (s.heap.objs.size+1)) {s with heap:=sortedAll s.heap vs out.toArray}):
  wpAny (model prog w) A (call (.builtin "sorted") [.ref l]) Q E s:=by
 refine Calls.call_function_entry kind_sorted plain_sorted entry_sorted (args_sorted1 _) ?_
 have hz:vs.length<=sizeLine:=by rw[sizeLine_eq];omega
 refine QKq (QKz ?_)
 refine QKq (collect_list hls ?_ hz)
 refine QKq (wpAny_newList ?_ hz)
 have hsz:((s.heap.push (seqObj "list" #[] 0)).update s.heap.objs.size (Obj.mapSeq (· ++vs.toArray))).objs.size=s.heap.objs.size+1:=by
  rw[Heap.size_update,size_push']
 have hoL:(((s.heap.push (seqObj "list" #[] 0)).update s.heap.objs.size (Obj.mapSeq (· ++vs.toArray))).push (seqObj "list" vs.toArray 0)).get? (s.heap.objs.size+1)=some (seqObj "list" vs.toArray 0):=by
  rw[<-hsz];exact Qzq _ rfl
 have keep:∀b o,s.heap.get? b=some o->(((s.heap.push _).update s.heap.objs.size _).push (seqObj "list" vs.toArray 0)).get? b=some o:=fun b o q=>by
  have hlt:=Qqz q
  rw[Heap.get?_push_ne _ _ _ (by rw[hsz];exact Qvz (Nat.lt_succ_of_lt hlt)),Heap.get?_update_ne _ _ _ _ (Qvz hlt),Heap.get?_push_ne _ _ _ (Qvz hlt)]
  exact q
 rw[hsz]
 refine QKq (Qqq (Qzz slot_list_sort ⟨_,hoL,rfl⟩ entry_list_sort (wM hoL h64 hl h1 (fun hn h' kp=>?_) ⟨_,rfl,?_⟩) (args_list_sort _)))
 ·exact h2 hn h' fun b o e=>kp b o (Qvz (Nat.lt_succ_of_lt (Qqz e))) (keep b o e)
 ·exact QKz ⟨_,rfl,h⟩
theorem sr{α:Type}{cmp:Nat->Nat->(Bool->Shared->Prop)->Shared->Prop}{f:Nat->Nat->Option Bool}{Q:α->Shared->Prop}{a:α}(hc:∀i j b(C:Bool->Shared->Prop),f i j=some b->C b s->cmp i j C s):
  ∀(t:PySem.W.KasT α),J1 f t=some a->Q a s->t.kasWp cmp Q s
 |.ret x,e,q=>by cases e;exact q
 |.ask i j k,e,q=>by
  simp only[J1]at e
  cases z:f i j with
  |none=>rw[z]at e;cases e
  |some b=>rw[z]at e;exact hc i j b _ z (sr hc (k b) e q)
end
end Mini
end
section
namespace Mini
open PySem L2
inductive fP(h:Heap):List Value->List (List Bool)->Prop
 |nil:fP h [] []
 |cons {a:Addr} {o:Obj} {arr:Array Value} {n:Nat} {b:Bool} {bs:List Bool} {vs:List Value} {rs:List (List Bool)}:h.get? a=some o->o.cls=.type "tuple"->o.data=.seq arr n->BoolsAre arr.toList (b::bs)->fP h vs rs->fP h (.ref a::vs) ((b::bs)::rs)
theorem fP.mono(k:∀b o,h.get? b=some o->h'.get? b=some o):∀{vs:List Value}{rs:List (List Bool)},fP h vs rs->fP h' vs rs
 |_,_,.nil=>.nil
 |_,_,.cons e c d b r=>.cons (k _ _ e) c d b (fP.mono k r)
theorem fP.tups:∀{vs:List Value}{rs:List (List Bool)},fP h vs rs->∃fs,PySem.W.KatTups h vs fs/\fs.length=vs.length/\∀v∈fs,∃b,v=.bool b
 |_,_,.nil=>⟨[],PySem.W.KatTups.nil,rfl,fun v z=>nomatch z⟩
 |_,_,.cons (b:=b) e c d bb r=>by
  obtain⟨fs,t,l,f⟩:=r.tups
  have h0:∃x,(‹Array Value›)[0]? =some x/\x=.bool b:=by
   rename_i arr _ _ _ _
   cases q:arr.toList with
   |nil=>rw[q]at bb;cases bb
   |cons x xs=>
    rw[q]at bb
    cases bb
    refine⟨.bool b,?_,rfl⟩
    have:arr=(Value.bool b::xs).toArray:=by rw[<-q]
    rw[this]
    rfl
  obtain⟨x,hx,rfl⟩:=h0
  refine⟨.bool b::fs,PySem.W.KatTups.cons e c d hx t,by simp[l],fun v z=>?_⟩
  rcases QCq.mp z with rfl|z
  ·exact⟨b,rfl⟩
  ·exact f v z
theorem fP.at{h:Heap}:∀{vs:List Value}{rs:List (List Bool)},fP h vs rs->∀{i:Nat}{r:List Bool},rs[i]? =some r->∃a o arr n,vs.getD i Value.none=.ref a/\h.get? a=some o/\o.data=.seq arr n/\BoolsAre arr.toList r
 |_,_,.cons e c d b t,0,r,q=>by cases q;exact⟨_,_,_,_,rfl,e,d,b⟩
 |_,_,.cons e c d b t,i+1,r,q=>by
  obtain⟨a,o,arr,n,z⟩:=t.at (by simpa using q)
  exact⟨a,o,arr,n,by simpa using z⟩
theorem tR{K:QQq}{H:Hp}:∀{ys:List D}{bs:List Bool}{vs:List V}{us:List Value},bools ys=some bs->aq K H ys vs->Vals vs us->BoolsAre us bs
 |[],bs,vs,us,e,d,v=>by
  cases e
  rw[aq.bj.mp d]at v
  cases v
  exact .nil
 |y::ys,bs,vs,us,e,d,v=>by
  obtain⟨w,ws,rfl,h1,h2⟩:=aq.aG.mp d
  cases v with
  |cons r t=>
   cases y with
   |bl b=>
    simp only[bools]at e
    cases q:bools ys with
    |none=>rw[q]at e;cases e
    |some bs'=>
     rw[q]at e
     cases e
     cases h1
     cases r
     exact .cons b (tR q h2 t)
   |_=>simp[bools]at e
theorem Eh{X:Cx}{γ:QQz}{σ:St}{H:Hp}{s:Shared}(I:Inv X γ σ H s):∀{xs:List D}{rs:List (List Bool)}{vs:List V}{us:List Value},ju xs=some rs->aq X.K H xs vs->Vals vs us->fP s.heap us rs
 |[],rs,vs,us,e,d,v=>by
  cases e
  rw[aq.bj.mp d]at v
  cases v
  exact .nil
 |y::ys,rs,vs,us,e,d,v=>by
  obtain⟨w,ws,rfl,h1,h2⟩:=aq.aG.mp d
  cases v with
  |cons r t=>
   cases y with
   |tup zs=>
    simp only[ju]at e
    cases q:bools zs with
    |none=>rw[q]at e;cases e
    |some bs=>
     cases bs with
     |nil=>rw[q]at e;cases e
     |cons b bs=>
      rw[q]at e
      cases q2:ju ys with
      |none=>rw[q2]at e;cases e
      |some rs'=>
       rw[q2]at e
       cases e
       obtain⟨a,us',rfl,hq,l⟩:=bZ h1
       cases r
       obtain⟨its,rr,⟨o,eo,c,n,dt⟩,_⟩:=I.tuple hq
       exact .cons eo c dt (by simpa using tR q l rr) (Eh I q2 h2 t)
   |_=>simp[ju]at e
theorem pR{H:Hp}{vs:List V}(d:aq K H xs vs)(v:Vals vs us):∀{is:List Nat}{ys:List D},sJ xs is=some ys->∃ws,aq K H ys ws/\Vals ws (is.map fun i=>us.getD i Value.none)
 |[],ys,e=>by cases e;exact⟨[],aq.eQ,.nil⟩
 |i::is,ys,e=>by
  simp only[sJ]at e
  cases q:xs[i]? with
  |none=>rw[q]at e;cases e
  |some x=>
   rw[q]at e
   cases q2:sJ xs is with
   |none=>rw[q2]at e;cases e
   |some ys'=>
    rw[q2]at e
    cases e
    obtain⟨ws,h1,h2⟩:=pR d v q2
    obtain⟨w,ew,dw⟩:=d.get q
    obtain⟨u,eu,ru⟩:=v.get ew
    refine⟨w::ws,aq.cV dw h1,?_⟩
    rw[Qyz]
    have:us.getD i Value.none=u:=by simp[List.getD,eu]
    rw[this]
    exact .cons ru h2
def cR.ae5{H:Hp}{v:V}(h:cR K H (.lst xs) v):∃a vs,v=.ref a/\jA K H a vs/\aq K H xs vs:=by
 rcases h with h|⟨o,a,q,rfl,u,ha,hq⟩
 ·obtain⟨a,vs,rfl,hq,l⟩:=cP h
  exact⟨a,vs,rfl,hq.sq,l⟩
 ·cases o<;>cases q
  obtain⟨vs,rfl,l⟩:=hq
  exact⟨a,vs,rfl,.inl (.inl ha),l⟩
noncomputable def Ua(K:QQq):List V->Hp->VK->Prop:=fun us H Q=>∃l vs xs ys,us=[.ref l]/\jA K H l vs/\aq K H xs vs/\pL xs=some ys/\∀ws,aq K H ys ws->∀a,H a=none->Q (.ref a) (upd H a (.lst ws))
section
def xK:fV X (.builtin "sorted") (Ua X.K):=by
 intro γ s σ H us ws Q I r h
 obtain⟨l,vs,xs,ys,rfl,hq,dl,es,q⟩:=h
 obtain⟨u,rfl,ru⟩:=vals1 r
 cases ru
 obtain⟨its,rr,pl,hz⟩:=I.list hq
 have lx:=dl.length
 have lv:=rr.length
 have fin:∀zs out,aq X.K H ys zs->Vals zs out->out.length<=sizeLine->EP X γ σ Q _ {s with heap:=PyProof.Rows.sortedAll s.heap its out.toArray}:=fun zs out d v lz=>by
  obtain⟨e,ea⟩:=PyProof.Rows.sortedAll_at s.heap its out.toArray
  exact⟨.ref _,_,I.laid (fun b o x=>PyProof.Rows.sortedAll_old x) (Nat.le_succ _) (show cA X.prog X.w _ _ _ (.lst zs)from⟨by rw[v.length];exact lz,out,e,v,ea⟩),rfl,q zs d _ (I.hok.fresh (Nat.le_succ _))⟩
 unfold pL at es
 by_cases h1:xs.length<2
 ·rw[if_pos h1]at es
  cases es
  exact uK pl.isList (by omega) rfl (fun _=>rfl) (fun z=>absurd z (by omega)) (fin vs its dl rr (by omega))
 ·rw[if_neg h1]at es
  by_cases h64:xs.length<64
  ·rw[if_pos h64]at es
   unfold acy at es
   cases e1:ju xs with
   |none=>
    rw[e1]at es
    cases es
   |some rs=>
    rw[e1]at es
    simp only[QHq]at es
    cases e2:J1 _ _ with
    |none=>rw[e2]at es;cases es
    |some p=>
     rw[e2]at es
     simp only[QHq]at es
     by_cases e3:p.size=xs.length
     ·rw[if_pos e3]at es
      obtain⟨zs,d,v⟩:=pR dl rr es
      have lo:(p.toList.map fun i=>its.getD i Value.none).length=its.length:=by rw[QAq,Array.length_toList];omega
      refine uK pl.isList (by omega) lo (fun z=>absurd z (by omega)) (fun _ h' kp=>?_) (fin zs _ d v (by omega))
      have RA':=(Eh I e1 dl rr).mono kp
      obtain⟨fs,t,lf,fb⟩:=RA'.tups
      refine PySem.W.kat_kind (T:=.type "bool") t (by omega) (fun v hv=>?_) (by decide) ⟨rfl,?_⟩
      ·obtain⟨b,rfl⟩:=fb v hv
       exact PySem.W.Looks.of_pure rfl
      ·have el:its.length=xs.length:=by omega
       rw[el]
       refine sr (fun i j b C e c=>?_) _ e2 ⟨rfl,rfl⟩
       unfold acz at e
       cases ei:rs[i]? with
       |none=>rw[ei]at e;cases e
       |some ri=>
        cases ej:rs[j]? with
        |none=>rw[ei,ej]at e;cases e
        |some rj=>
         rw[ei,ej]at e
         cases e
         obtain⟨ai,oi,arri,ni,x1,x2,x3,x4⟩:=RA'.at ei
         obtain⟨aj,oj,arrj,nj,y1,y2,y3,y4⟩:=RA'.at ej
         show wpAny _ _ _ _ _ _
         rw[x1,y1]
         exact zx ⟨oi,ni,x2,x3⟩ ⟨oj,nj,y2,y3⟩ x4 y4 c
     ·rw[if_neg e3]at es;cases es
  ·rw[if_neg h64]at es;cases es
def Bc:qt X (Ua X.K) (b1 .sorted):=by
 intro env σ H x z v Q S Dx e q
 simp only[b1]at e
 cases x with
 |lst xs=>
  simp only[iG,QHq,SJ]at e
  cases es:pL xs with
  |none=>rw[es]at e;cases e
  |some ys=>
   rw[es]at e
   cases e
   obtain⟨a,vs,rfl,hq,l⟩:=Dx.ae5
   exact⟨a,vs,xs,ys,rfl,hq,l,es,fun ws d p hp=>q _ _ (Nx.laid S hp) (iZ S d hp)⟩
 |_=>simp[iG]at e
end
section
def Yk{x:Str}(nm:iT X k x):GE X W c (.ref k) (.Name x pos):=by
 intro env
 refine PE.imp nm.pe fun σ H Q q=>?_
 simp only[PN]at q
 have go:∀o,(env[k]? =some (.own o)\/env[k]? =some (.bor o))->tM X.K W env (.ok (.ref k) env) σ H Q->JD k σ H Q:=fun o e q=>by
  have:∃a,(σ[k]?).join=some (.ref a):=by
   rcases e with e|e
   ·obtain⟨a,z,_⟩:=q.1.sl k _ e;exact⟨a,z⟩
   ·obtain⟨a,z,_⟩:=q.1.sl k _ e;exact⟨a,z⟩
  obtain⟨a,z⟩:=this
  exact⟨.ref a,bV z,q.2 _ H (Nx.refl q.1) (bV z)⟩
 cases e:env[k]? with
 |none=>rw[e]at q;exact q.2.elim
 |some s=>
  rw[e]at q
  cases s with
  |un=>exact q.2.elim
  |val d=>exact q.2.elim
  |own o=>exact go o (.inl e) q
  |bor o=>exact go o (.inr e) q
theorem JF{env:Ev}{H:Hp}{f:Bool->Ev->Out Rv}(h:tT K W env (r.cu gY f) σ H Q)
  (k:∀b δ H1,Nx K env σ H δ H1->tT K W δ (f b δ) σ H1 Q->R b H1):tT K W env r σ H R:=by
 have step:∀d δ x,x.jj=some d->r=.ok x δ->∃b,gY d=some b/\∀H1,Nx K env σ H δ H1->R b H1:=fun d δ x ex er=>by
  subst er
  cases q:gY d with
  |none=>
   cases x with
   |val d'=>cases ex;simp only[Out.cu,Out.au,q]at h;exact h.2.elim
   |new xs=>cases ex;simp only[Out.cu,Out.au,q]at h;exact h.2.elim
   |ref i=>cases ex
  |some b=>
   refine⟨b,rfl,fun H1 N=>k b δ H1 N (TX ?_ N)⟩
   cases x with
   |val d'=>cases ex;simp only[Out.cu,Out.au,q]at h;exact h
   |new xs=>cases ex;simp only[Out.cu,Out.au,q]at h;exact h
   |ref i=>cases ex
 refine⟨h.1,?_⟩
 cases r with
 |bad=>exact h.2
 |exc c δ=>exact h.2
 |ok x δ=>
  cases x with
  |val d=>obtain⟨b,e,q⟩:=step d δ _ rfl rfl;exact⟨d,b,rfl,e,q⟩
  |new xs=>obtain⟨b,e,q⟩:=step xs.d δ _ rfl rfl;exact⟨xs.d,b,rfl,e,q⟩
  |ref i=>exact h.2.elim
def X5(ht:GT X W c m1 t)(ha:GT X W c m2 a)(hb:GT X W c m3 b):GT X W c (.ite m1 m2 m3) (.IfExp t a b pos):=by
 intro γ s σ H Q I ⟨env,q⟩
 have e:∀w,isTrue (.IfExp t a b pos) X.env w=(isTrue t X.env _>>=fun q=>if q=true then isTrue a X.env _ else isTrue b X.env _):=fun w=>by first|rfl|rw[PySem.isTrue]|simp only[PySem.isTrue]
 refine QKq (b7 (ht γ s σ H (fun k H1=>∃δ,tT X.K W δ _ σ H1 Q) I ⟨env,JF q fun k δ H1 N q1=>⟨δ,q1⟩⟩) fun k s1⟨H1,I1,δ,q1⟩=>?_)
 cases k with
 |true=>rw[if_pos rfl]at q1⊢;exact ha γ s1 σ H1 Q I1 ⟨δ,q1⟩
 |false=>rw[if_neg Qjz]at q1⊢;exact hb γ s1 σ H1 Q I1 ⟨δ,q1⟩
end
section
variable{X:Cx}{W:Wi}{c:Cf}{m m1 m2 m3:E}{o a b e:Expr}{pos p p2 apos cpos:Pos}{name:Str}
end
section
def MJ{H:Hp}{v y w:V}{Q:VK}(D1:cR K H d v)(D2:bJ K H k y)(D3:bJ K H x w)(e:sO d k x=some z)(q:∀u,bJ K H z u->Q u H):∃a,v=.ref a/\∃o,uC H a y o/\Q (o.getD w) H:=by
 cases d with
 |cG ks ds=>
  simp only[sO]at e
  split at e
  ·rename_i hk
   cases e
   obtain⟨kk,rfl⟩:=f9 hk
   have ek:=lF D2
   subst ek
   obtain⟨a,kvs,rfl,ha,rfl,l⟩:=lG D1
   refine⟨a,rfl,jF kvs kk,⟨kvs,kk,ha,rfl,rfl⟩,q _ ?_⟩
   cases e1:cN _ _ ds with
   |some d=>
    obtain⟨w,e2,e3⟩:=oU kk e1 l
    rw[e2]
    exact e3
   |none=>
    have n:=j9 (kvs:=kvs) kk
    have e4:∀{ks vs:List D},vs.length=ks.length->cN (dJ kk) ks vs=none->aL (dJ kk) ks=false:=by
     intro ks
     induction ks with
     |nil=>intro vs _ _;rfl
     |cons k' ks ih=>
      intro vs hl h
      cases vs with
      |nil=>simp at hl
      |cons v vs=>
       simp only[cN]at h
       split at h
       ·cases h
       ·rename_i ne
        simp[aL,ne,ih (by simpa using hl) h]
    rw[e4 (by have:=l.length;simpa using this) e1]at n
    have e5:jF kvs kk=none:=by
     cases e6:jF kvs kk with
     |none=>rfl
     |some w=>rw[e6]at n;cases n
    rw[e5]
    exact D3
  ·cases e
 |_=>cases e
def Mg{H:Hp}{v:V}(D1:cR K H d v)(e:sy (some d)=true):∃a,v=.ref a/\IsD H a:=by
 cases d with
 |cG ks ds=>
  obtain⟨a,kvs,rfl,ha,_⟩:=lG D1
  exact⟨a,rfl,kvs,ha⟩
 |_=>cases e
def RZ(hu:X.A.units+1<cLine)(M:M2 X o "get" apos e f cpos)(hv:∀k,m1.aB=some k->∃x p,o=.Name x p/\iT X k x)(hd:GE X W c m1 o)(hk:GE X W c m2 e)(hx:GE X W c m3 f):GE X W c (.get2 m1 m2 m3) (.Call (.Attribute o "get" apos) [e,f] [] cpos):=by
 intro env
 cases qv:m1.aB with
 |some i=>
  obtain⟨x,p,rfl,nm⟩:=hv i qv
  refine PE.imp (K1 hu nm.pe hk.d hx.d M) fun σ H Q q=>?_
  simp only[VG,qv]at q
  cases e0:sy _ with
  |false=>rw[e0]at q;exact q.2.elim
  |true=>
   rw[e0]at q
   cases e1:aZ i env with
   |none=>rw[e1]at e0;cases e0
   |some d0=>
    rw[e1]at e0
    obtain⟨u,eu,D0⟩:=dB q.1 e1
    obtain⟨a,rfl,ia⟩:=Mg D0 e0
    refine⟨.ref a,eu,a,rfl,ia,env,aR q fun k ε y H2 N2 D2 q2=>⟨ε,aR q2 fun x env3 z H3 N3 D3 q3=>?_⟩⟩
    obtain⟨r,er,S,q4⟩:=cg q3
    cases e2:aZ i env3 with
    |none=>rw[e2]at er;cases er
    |some d3=>
     rw[e2]at er
     simp only[Option.bind]at er
     obtain⟨u',eu',D4⟩:=dB S e2
     rw[eu]at eu'
     cases eu'
     cases e3:sO d3 k x with
     |none=>rw[e3]at er;cases er
     |some w=>
      rw[e3]at er
      cases er
      obtain⟨a',ea,o,g,q5⟩:=MJ D4 (D2.mono N3.pers) D3 e3 fun u hu=>q4 u H3 (Nx.refl S) hu
      cases ea
      exact⟨o,g,q5⟩
 |none=>
  intro γ s σ H Q I q
  simp only[VG,qv]at q
  exact q.2.elim
def aA(X:Cx)(W:Wi)(c:Cf)(m:E):TE:=fun σ H Q=>∃env,tA X.K W env (ev c m env) σ H Q
inductive Kv(X:Cx)(W:Wi)(c:Cf):E->List (Option Expr)->List Expr->List (TE×TE)->Prop
 |nil:Kv X W c .nil [] [] []
 |cons {k v r:E} {ke ve:Expr} {ks:List (Option Expr)} {vs:List Expr} {nT:List (TE×TE)}:GE X W c k ke->GE X W c v ve->Kv X W c r ks vs nT->Kv X W c (.cons k (.cons v r)) (some ke::ks) (ve::vs) ((aA X W c k,aA X W c v)::nT)
def yp{env:Ev}{H:Hp}{Q:VK}(q:T3 K W env (evs c (.cons m1 m2) env) σ H R)(k:∀v H1 δ,T3 K W δ (evs c m2 δ) σ H1 (fun vs H2=>R (v::vs) H2)->Q v H1):tA K W env (ev c m1 env) σ H Q:=by
 obtain⟨S,q⟩:=q
 refine⟨S,?_⟩
 simp only[evs]at q
 cases r:ev c m1 env with
 |bad=>rw[r]at q;exact q.elim
 |exc k δ=>rw[r]at q;exact q
 |ok x δ=>
  rw[r]at q
  intro v H1 N1 k1
  refine k v H1 δ ⟨N1.eV,?_⟩
  simp only[Out.bind]at q
  cases r2:evs c m2 δ with
  |bad=>rw[r2]at q;exact q.elim
  |exc k ε=>rw[r2]at q;exact fun H2 N2=>q H2 (N1.trans N2)
  |ok xs ε=>
   rw[r2]at q
   intro vs H2 N2 k2
   exact q _ H2 (N1.trans N2) ⟨v,vs,rfl,k1.on S N1 N2,k2.weaken N1.dom⟩
def nY:List (V×V)->List V
 |[]=>[]
 |p::r=>p.1::p.2::nY r
theorem qI:∀{a b:List (V×V)},nY a=nY b->a=b
 |[],[]=>fun _=>rfl
 |[],_::_=>fun h=>by cases h
 |_::_,[]=>fun h=>by cases h
 |(x,y)::a,_::b=>fun h=>by
  simp only[nY,List.cons.injEq]at h
  obtain⟨rfl,rfl,h⟩:=h
  rw[qI h]
def Kv.pps{ks:List (Option Expr)}{nT:List (TE×TE)}(h:Kv X W c es ks vs nT):PPs X pos ks vs nT:=by
 induction h with
 |nil=>exact QT
 |cons hk hv _ ih=>exact Kw (fun γ s σ H Q I⟨env,q⟩=>hk.ag env γ s σ H Q I q) (fun γ s σ H Q I⟨env,q⟩=>hv.ag env γ s σ H Q I q) ih
def Kv.go{ks:List (Option Expr)}{nT:List (TE×TE)}(h:Kv X W c es ks vs nT):∀{env:Ev}{σ:St}{H:Hp}{R:List V->Hp->Prop},T3 X.K W env (evs c es env) σ H R->v8 nT σ H fun ps H2=>R (nY ps) H2:=by
 induction h with
 |nil=>
  intro env σ H R q
  obtain⟨S,q⟩:=q
  exact q [] H (Nx.refl S) rfl
 |cons hk hv _ ih=>
  intro env σ H R q
  exact⟨env,yp q fun x H1 δ q1=>⟨δ,yp q1 fun y H2 ε q2=>ih q2⟩⟩
def Nx.relaid{env δ:Ev}{σ:St}{p:Addr}(S:Sat K env σ H)(hp:H p=none)(hu:O9 u)(N:Nx K env σ (upd H p u) δ H2):H2 p=some u/\Nx K env σ H δ (upd H2 p u'):=by
 have no:=S.rM hp
 have e:=N.keep p u aP no
 have N0:=(Nx.laid S hp).trans N
 have P:=gn (u':=u') e hu
 refine⟨e,⟨N.eV.keep P fun i b w o q=>?_,N0.sub,N0.pers.trans P,fun b w q n=>?_,fun b q=>?_,N0.bors⟩⟩
 ·rw[aC (fun z=>by subst z;exact no i (N.sub i _ o))];exact q
 ·rw[aC ((fun b w q z=>by subst z;rw[hp]at q;cases q) b w q)];exact N0.keep b w q n
 ·by_cases hb:b=p
  ·subst hb;exact hp
  ·rw[aC hb]at q;exact N0.dom b q
def Ng{r:Rv}(h:CG ds=some r):∃(k:SK)(v:D),ds=[eX k,v]/\r=.new (.sdt [eX k] [v]):=by
 unfold CG at h
 split at h
 ·split at h
  ·rename_i hk
   obtain⟨k,rfl⟩:=gA hk
   cases h
   exact⟨k,_,rfl,rfl⟩
  ·cases h
 ·cases h
def Ys(hu:X.A.units+2<cLine){ks:List (Option Expr)}{nT:List (TE×TE)}(h:Kv X W c es ks vs nT)(hall:ks.all (·.isSome)=true)(hl:ks.length=vs.length)(h0:ks≠[])(h15:ks.length<=15):GE X W c (.dsp es) (.Dict ks vs pos):=by
 intro env
 refine PE.imp (Q3 hu h.pps hall hl h0 h15) fun σ H Q q p hp=>?_
 simp only[adL]at q
 obtain⟨S,q⟩:=q
 have go:T3 X.K W env (evs c es env) σ (upd H p (.dK [])) (fun us H2=>H2 p=some (.dK [])/\∃k a v,us=nY [(.ref a,v)]/\bU X.K H2 k a/\Q (.ref p) (upd H2 p (sD [(k,a,v)]))):=by
  refine⟨(Nx.laid (o:=.dK []) S hp).eV,?_⟩
  cases r:evs c es env with
  |bad=>rw[r]at q;exact q.elim
  |exc k δ=>rw[r]at q;exact fun H2 N=>q H2 ((Nx.laid S hp).trans N)
  |ok rs δ=>
   rw[r]at q
   simp only[Out.bind]at q
   cases e1:aO rs with
   |none=>rw[e1]at q;exact q.elim
   |some ds=>
    rw[e1]at q
    simp only[QHq]at q
    unfold uA at q
    by_cases hd:(decide (ds.length<=30)&& !ds.isEmpty)=true
    ·rw[if_pos hd]at q
     cases e0:CG ds with
     |some rv0=>
      rw[e0]at q
      intro us H2 N rv
      obtain⟨k,v,rfl,rfl⟩:=Ng e0
      obtain⟨x,w1,rfl,h1,l1⟩:=aq.aG.mp (iR.ds (by rw[zM es env r];exact rv) e1)
      obtain⟨y,w2,rfl,h2,l2⟩:=aq.aG.mp l1
      cases aq.bj.mp l2
      obtain⟨a,rfl,ka⟩:=lU h1
      obtain⟨b1,b2⟩:=Nx.relaid S hp (by constructor<;>(intros;intro z;cases z)) N
      have P:=gn (u':=sD [(k,a,y)]) b1 (by constructor<;>(intros;intro z;cases z))
      refine⟨b1,⟨k,a,y,rfl,ka,q _ _ b2 ⟨p,rfl,⟨_,aP,[(k,a,y)],rfl,rfl,fun x hx=>?_,?_⟩,hp⟩⟩⟩
      ·cases QDz.mp hx
       obtain⟨b,q1,q2⟩:=ka
       exact⟨b,P.yz q1,P.yz q2⟩
      ·exact aq.aG.mpr ⟨y,[],rfl,h2.mono P,aq.eQ⟩
     |none=>rw[e0]at q;exact q.elim
    ·rw[if_neg hd]at q;exact q.elim
 have:=h.go go
 refine cast ?_ this
 congr 1
 funext ps H2
 refine propext ⟨fun⟨z,f⟩=>⟨z,?_⟩,fun⟨z,f⟩=>⟨z,?_⟩⟩
 ·obtain⟨k,a,v,e,h⟩:=f
  exact⟨k,a,v,qI e,h⟩
 ·obtain⟨k,a,v,e,h⟩:=f
  exact⟨k,a,v,by rw[e],h⟩
end
end Mini
end
section
namespace Mini
open PySem
structure Ct where
 N:List Str
 sc:Scope
 fns:List (Str×List Bool)
 nU:List Str
 exs:List Str:=[]
 rz:List Str:=[]
noncomputable def oW:List Str->Str->Option Nat
 |[],_=>none
 |y::r,x=>if x=y then some 0 else(oW r x).map (· +1)
noncomputable def NK:Const->Option D
 |.none=>some .non
 |.bool b=>some (.bl b)
 |.int i=>some (.int i)
 |.str x=>some (.str x)
 |_=>none
noncomputable def VF(sc:Scope)(x:Str):Bool:=match sc.names.lookup x with
 |some .local=>true
 |some .cell=>true
 |some .free=>true
 |_=>false
def Af(sc:Scope)(x:Str):Bool:=sc.names.lookup x==some .globalImplicit
def Hx(x:Str):Bool:= !(x==("__debug__":Str))&& !(x==("__classdict__":Str))
noncomputable def iU(C:Ct)(x:Str):Option E:=
 if Hx x then
  match oW C.N x with
  |some k=>if VF C.sc x then some (.var k)else none
  |none=>if Af C.sc x then(oW C.nU x).map .glob else none
 else none
noncomputable def opB:Operator->Option YZ
 |.Add=>some .add
 |.Sub=>some .sub
 |.Mult=>some .mul
 |.Mod=>some .mod
 |.FloorDiv=>some .fdiv
 |.Pow=>some .pow
 |_=>none
noncomputable def cmB:CmpOp->Option Cm
 |.Eq=>some .eq
 |.NotEq=>some .ne
 |.Lt=>some .lt
 |.LtE=>some .le
 |.Gt=>some .gt
 |.GtE=>some .ge
 |.In=>some .isin
 |.NotIn=>some .notin
 |.Is=>some .jx
 |.IsNot=>some .notN
noncomputable def tyB(x:Str):Option Ty:=
 if x="tuple" then some .tup else if x="list" then some .lst else if x="str" then some .str else if x="bool" then some .bool else if x="int" then some .int else if x="dict" then some .cG else none
noncomputable def Z0(x:Str):Option Bi:=
 if x="len" then some .len else if x="int" then some .int else if x="tuple" then some .tuple else if x="list" then some .list else if x="all" then some .all else if x="any" then some .any
 else if x="sorted" then some .sorted else if x="dict" then some .dict else none
noncomputable def plain:Expr->Bool
 |.BoolOp .. |.BinOp .. |.UnaryOp .. |.IfExp .. |.ListComp .. |.Compare .. |.Call .. |.Constant .. |.Subscript .. |.Name .. |.List .. |.Tuple .. |.Dict .. =>true
 |_=>false
def E.Mi:E->Bool
 |.nil=>true
 |_=>false
noncomputable def fnAt(C:Ct)(x:Str):Option (Nat×List Bool):=(oW (C.fns.map (·.1)) x).bind fun g=>(C.fns[g]?).map fun p=>(g,p.2)
noncomputable def q9(scope outer:Scope):Scope:=
 {scope with names:=scope.names.map fun(n,k)=>if (k== .free&&outer.kind== .function&&outer.names.lookup n==some .cell)then(n,.cell)else(n,k)}
def qX(η N:List Str):List Str:=η++N.map fun x=>if η.contains x then(".":Str)++x else x
def uq:Expr->Option Str
 |.Name x _=>some x
 |_=>none
noncomputable def V1:Expr->Option (List Str×Tg)
 |.Name x _=>some ([x],.name 0)
 |.Tuple es _ _=>(es.mapM uq).map fun xs=>(xs,.tup (List.range xs.length))
 |_=>none
noncomputable def Wl(outer inner:Scope)(η N:List Str):Bool:=
 decide (inner.kind=.function)&&decide ((qX η N).Nodup)
 &&(inner.names.all fun p=>(p.2 != .local)||((η.contains p.1||p.1==(".0":Str))&&inner.names.lookup p.1==some .local))
 &&(η.all fun x=>inner.names.lookup x==some .local)
 &&(inner.names.all fun p=>p.2 != .cell)
 &&(inner.names.all fun p=>(p.2 != .free)||outer.names.lookup p.1==some .cell||outer.names.lookup p.1==some .free)
 &&(N.all fun x=> !η.contains x||(inner.names.lookup ((".":Str)++x)).isNone)
 && !N.contains (".0":Str)
def isCall:Expr->Bool
 |.Call .. =>true
 |_=>false
def BK(ap cp:Pos):Bool:=ap.endLine==cp.line
mutual
noncomputable def dq:Nat->Ct->Expr->Option E
 |0,_,_=>none
 |n+1,C,e=>match e with
  |.Constant k _ _=>(NK k).map .con
  |.Name x _=>iU C x
  |.Tuple es _ _=>(v7 n C es).map .tup
  |.List es _=>(v7 n C es).map .lis
  |.BinOp a o b _=>(opB o).bind fun o=>(dq n C a).bind fun a=>(dq n C b).map fun b=>.op o a b
  |.UnaryOp o a _=>match o with
   |.USub=>(dq n C a).map .neg
   |.Not=>(dq n C a).map .not
   |_=>none
  |.BoolOp o es _=>(v7 n C es).bind fun m=>if m.Mi then none else match o with
   |.And=>some (.and m)
   |.Or=>some (.or m)
  |.Compare a ops cs _=>match ops,cs with
   |[o],[b]=>(cmB o).bind fun o=>(dq n C a).bind fun a=>(dq n C b).map fun b=>.cmp o a b
   |[o,o2],[b,d]=>(cmB o).bind fun o=>(cmB o2).bind fun o2=>(dq n C a).bind fun a=>(dq n C b).bind fun b=>(dq n C d).map fun d=>.chain o o2 a b d
   |_,_=>none
  |.IfExp t a b _=>(dq n C t).bind fun t=>(dq n C a).bind fun a=>(dq n C b).map fun b=>.ite t a b
  |.Subscript a i _=>match i with
   |.Slice lo hi st _=>match st with
    |none=>(dq n C a).bind fun a=>(Zm n C lo).bind fun lo=>(Zm n C hi).map fun hi=>.slc a lo hi
    |some st=>if lo.isNone&&hi.isNone then(dq n C st).bind fun s=>if RK s then(dq n C a).map .rev else none else none
   |i=>(dq n C a).bind fun a=>(dq n C i).map fun i=>.idx a i
  |.Call f args kw cp=>match kw with
   |[]=>match f with
    |.Name x _=>if Hx x&&Af C.sc x then(match fnAt C x with
      |some (g,fl)=>(GP n C fl args).bind fun m=>if m.Mi then none else some (.call g m)
      |none=>trB n C x args)else none
    |.Attribute o name ap=>if BK ap cp then(match args with
      |[e]=>if name="count" then(dq n C o).bind fun m1=>(if plain o&& !isCall o then some ()else none).bind fun _=>(dq n C e).map fun m2=>.count m1 m2
       else if name="pop" then(match o with
        |.Name x _=>(iU C x).bind fun m=>match m with
         |.var k=>(dq n C e).map fun m2=>.popAt k m2
         |_=>none
        |_=>none)
       else none
      |[e,f]=>if name="get" then(dq n C o).bind fun m1=>(if plain o&& !isCall o then some ()else none).bind fun _=>(dq n C e).bind fun m2=>(dq n C f).map fun m3=>.get2 m1 m2 m3 else none
      |_=>none)else none
    |_=>none
   |_=>none
  |.Dict ks vs _=>if ks.length=vs.length&&decide (ks.length<=15)&& !ks.isEmpty then(GK n C ks vs).map .dsp else none
  |.ListComp elt gens sc _=>match gens with
   |[g]=>trC n C elt g sc
   |_=>none
  |_=>none
noncomputable def GK:Nat->Ct->List (Option Expr)->List Expr->Option E
 |0,_,_,_=>none
 |n+1,C,ks,vs=>match ks,vs with
  |[],[]=>some .nil
  |some k::ks,v::vs=>(dq n C k).bind fun k=>(dq n C v).bind fun v=>(GK n C ks vs).map fun r=>.cons k (.cons v r)
  |_,_=>none
noncomputable def trC:Nat->Ct->Expr->Comprehension->Scope->Option E
 |0,_,_,_,_=>none
 |n+1,C,elt,g,sc=>if g.is_async=0 then(V1 g.target).bind fun(η,tg)=>
   if Wl C.sc sc η C.N then
    let C2:Ct:={C with N:=qX η C.N,sc:=q9 sc C.sc}
    (Zn n C g.iter).bind fun it=>(match g.ifs with
     |[]=>some (E.con (.bl true))
     |[c]=>dq n C2 c
     |_=>none).bind fun cond=>(dq n C2 elt).map fun m=>.comp η.length tg it cond m
   else none else none
noncomputable def Zn:Nat->Ct->Expr->Option E
 |0,_,_=>none
 |n+1,C,e=>match e with
  |.Call f args kw cp=>match f,args,kw with
   |.Name x _,[a],[]=>if x="range"&&Af C.sc x&&(fnAt C x).isNone then(dq n C a).map .range1 else dq n C e
   |.Name x _,[a,b],[]=>if x="zip"&&Af C.sc x&&(fnAt C x).isNone then(dq n C a).bind fun a=>(dq n C b).map fun b=>.zip a b else dq n C e
   |_,_,_=>dq n C e
  |_=>dq n C e
noncomputable def trB:Nat->Ct->Str->List Expr->Option E
 |0,_,_,_=>none
 |n+1,C,x,args=>match args with
  |[a,t]=>if x="isinstance" then(match t with
    |.Name y _=>if Af C.sc y then(tyB y).bind fun t=>(dq n C a).map fun a=>.isi a t else none
    |_=>none)else none
  |[a]=>match a with
   |.Call f zs kw _=>(match f,zs,kw with
    |.Name z _,[p,q],[]=>if z="zip"&&Af C.sc z&&(fnAt C z).isNone then
      (if x="dict" then(dq n C p).bind fun p=>(dq n C q).map fun q=>.bi .dict (.zip p q)
       else if x="list" then(dq n C p).bind fun p=>(dq n C q).map fun q=>.bi .list (.zip p q)else none)
     else(Z0 x).bind fun b=>(dq n C a).bind fun m=>if b=.dict&&m.aB.isSome then some (.bi b (.rd m))else some (.bi b m)
    |_,_,_=>(Z0 x).bind fun b=>(dq n C a).bind fun m=>if b=.dict&&m.aB.isSome then some (.bi b (.rd m))else some (.bi b m))
   |a=>(Z0 x).bind fun b=>(dq n C a).bind fun m=>if b=.dict&&m.aB.isSome then some (.bi b (.rd m))else some (.bi b m)
  |_=>none
noncomputable def GP:Nat->Ct->List Bool->List Expr->Option E
 |0,_,_,_=>none
 |n+1,C,fl,es=>match fl,es with
  |[],[]=>some .nil
  |false::fl,e::es=>(dq n C e).bind fun m=>(GP n C fl es).map fun ms=>.cons m ms
  |true::fl,e::es=>(match e with
    |.Name x _=>(iU C x).bind fun m=>match m with
     |.var k=>some (E.ref k)
     |_=>none
    |_=>none).bind fun m=>(GP n C fl es).map fun ms=>.cons m ms
  |_,_=>none
noncomputable def Zm:Nat->Ct->Option Expr->Option E
 |0,_,_=>none
 |n+1,C,o=>match o with
  |none=>some .noneE
  |some e=>dq n C e
noncomputable def v7:Nat->Ct->List Expr->Option E
 |0,_,_=>none
 |n+1,C,es=>match es with
  |[]=>some .nil
  |e::es=>(dq n C e).bind fun m=>(v7 n C es).map fun ms=>.cons m ms
end
noncomputable def J7(C:Ct)(e f:Option Expr):Nat:=match e,f with
 |some (.Call (.Name x _) [.Constant (.str _) _ _] [] _),none=>if Af C.sc x&&Hx x then(match oW C.exs x with|some k=>k+1|none=>0)else 0
 |_,_=>0
def HH(sc:Scope)(x:Str):Bool:=sc.names.lookup x==some .local||sc.names.lookup x==some .cell
noncomputable def slotsOf(C:Ct):List Expr->Option (List Nat)
 |[]=>some []
 |.Name x _::es=>if HH C.sc x then(oW C.N x).bind fun i=>(slotsOf C es).map (i:: ·)else none
 |_=>none
noncomputable def Jy(C:Ct):Expr->Option Tg
 |.Name x _=>if HH C.sc x then(oW C.N x).map .name else none
 |.Tuple es _ _=>(slotsOf C es).map .tup
 |_=>none
def isTup:Expr->Bool
 |.Tuple .. =>true
 |_=>false
def oX:Expr->Bool
 |.ListComp .. =>true
 |_=>false
def isSlice:Expr->Bool
 |.Slice .. =>true
 |_=>false
def rzB(C:Ct):Expr->Bool
 |.Name x _=>C.rz.contains x
 |_=>false
noncomputable def trX(n:Nat)(C:Ct)(f:Expr)(args:List Expr)(kw:List Keyword):Option S:=
 match f,kw with
 |.Name x _,[]=>if Hx x&&Af C.sc x then(match fnAt C x with
   |some (g,fl)=>(GP n C fl args).bind fun m=>if m.Mi then none else some (.callx g m)
   |none=>none)else none
 |_,_=>none
mutual
noncomputable def TQ:Nat->Ct->Stmt->Option S
 |0,_,_=>none
 |n+1,C,st=>match st with
  |.Return v _=>match v with
   |none=>some (.ret ABX)
   |some e=>(dq n C e).map .ret
  |.Assign ts e _=>match ts with
   |[t]=>match t with
    |.Name x _=>if HH C.sc x then(oW C.N x).bind fun i=>(dq n C e).map fun m=>.set i m else none
    |.Tuple es _ _=>if isTup e||oX e then none else(slotsOf C es).bind fun is=>(dq n C e).map fun m=>.setT is m
    |.Subscript o ix _=>match o with
     |.Name x _=>if oX e||isSlice ix then none else(iU C x).bind fun v=>match v with
      |.var k=>(dq n C ix).bind fun i=>(dq n C e).map fun m=>.setIx k i m
      |_=>none
     |_=>none
    |_=>none
   |_=>none
  |.Expr e _=>match e with
   |.Call f args kw cp=>match f,args,kw with
    |.Attribute o name ap,[a],[]=>match o with
     |.Name x _=>if BK ap cp&&name="append" then(iU C x).bind fun v=>(match v with
       |.var k=>(dq n C a).map fun m=>.append k m
       |_=>none)
      else if BK ap cp&&name="extend" then(iU C x).bind fun v=>(match v with
       |.var k=>(dq n C a).map fun m=>.extend k m
       |_=>none)
      else(dq n C e).map .expr
     |_=>none
    |f,args,kw=>if rzB C f then trX n C f args kw else(dq n C e).map .expr
   |_=>none
  |.If t a b _=>(dq n C t).bind fun t=>(qN n C a).bind fun a=>(qN n C b).map fun b=>.ite t a b
  |.For tg it b el _=>match el with
   |[]=>(Jy C tg).bind fun tg'=>(Zn n C it).bind fun it=>(qN n C b).map fun b=>.for_ tg' it b
   |_=>none
  |.While t b el _=>match el with
   |[]=>(dq n C t).bind fun t=>(qN n C b).map fun b=>.while_ t b
   |_=>none
  |.Raise e f _=>some (.raise (J7 C e f))
  |_=>none
noncomputable def qN:Nat->Ct->List Stmt->Option S
 |0,_,_=>none
 |n+1,C,ss=>match ss with
  |[]=>some .nil
  |s::ss=>(TQ n C s).bind fun m=>(qN n C ss).map fun ms=>.cons m ms
end
end Mini
end
section
namespace Mini
open PySem L2
noncomputable def nO:List Str:=["isinstance","tuple","list","str","bool","int","dict","len","all","any","sorted","zip","range","enumerate"]
def Y6(X:Cx)(c:Cf)(g:Nat)(x:Str):Prop:=∃k f fd ps,pH X.prog X.w X.K X.mg X.base Pb k f fd ps (wj X.K ps.length (c.fn g))/\jD k X.A/\X.mg x=some (.ref f)/\PySem.W.keepIn X.K (.ref f)=true/\Binds X.K fd ps []/\∀sl,c.fn g sl=.bad\/sl.length=ps.length
structure jz(C:Ct)(X:Cx)(c:Cf):Prop where
 N:X.N=C.N
 sc:X.env.scope=C.sc
 nd:C.N.Nodup
 calm:X.calm=true
 hu:X.A.units+60<cLine
 bi:∀x∈nO,X.mg x=none
 gl:∀k x,C.nU[k]? =some x->∃d,c.gl k=some d/\acM X x d
 fn:∀g x fl,C.fns[g]? =some (x,fl)->Y6 X c g x
structure Sd(X:Cx)(c:Cf)(m:E)(e:Expr):Prop where
 ge:GE X W0 c m e
 gt:GT X W0 c m e
 pl:plain e=true
 va:∀k,m.aB=some k->∃x p,e=.Name x p/\iT X k x
 nn:m.jx=false
theorem jf:∀{N:List Str}{x:Str}{k:Nat},oW N x=some k->N[k]? =some x
 |[],_,_,h=>by cases h
 |y::r,x,k,h=>by
  unfold oW at h
  split at h
  ·rename_i e;cases h;subst e;rfl
  ·cases q:oW r x with
   |none=>rw[q]at h;cases h
   |some j=>rw[q]at h;cases h;simpa using jf q
def VD{x:Str}(h:VF sc x=true):Vis sc x:=by
 unfold VF at h
 unfold Vis
 cases q:sc.names.lookup x with
 |none=>rw[q]at h;cases h
 |some k=>rw[q]at h;cases k<;>simp at h<;>simp
def Eu(h:Hx x=true):(x==("__debug__":Str))=false/\(x==("__classdict__":Str))=false:=by
 unfold Hx at h
 rw[QUq]at h
 exact⟨by simpa using h.1,by simpa using h.2⟩
section
def nA(O:jz C X c)(h:Af C.sc x=true):Gl X x:=by
 unfold Af at h
 show X.env.scope.names.lookup x=_
 rw[O.sc]
 simpa using h
def bB(h:plain e=true)es env:starEach (e::es) env=(false,eval e env)::starEach es env:=by
 cases e<;>first|rfl|exact absurd (h) Qjz
def rR(h:plain e=true)o:behindInMarks o e=false:=by
 cases e<;>first|rfl|exact absurd (h) Qjz
def xf(h:plain e=true)env x:foldedSetIterable e env x=pure x:=by
 cases e<;>first|rfl|exact absurd (h) Qjz
def Bv(h:plain e=true):xV e:=by
 intro o i
 cases e<;>first|rfl|exact absurd (h) Qjz
def tame:Expr->Bool
 |.UnaryOp .Not .. |.BoolOp .. |.IfExp .. |.Compare .. =>false
 |_=>true
def Mu(h:GE X W0 c m e)(hp:plain e=true)(ht:tame e=true):GT X W0 c m e:=by
 refine h.t fun whole=>?_
 cases e with
 |UnaryOp o a q=>cases o<;>first|rfl|exact absurd (ht) Qjz
 |_=>first|rfl|exact absurd (hp) Qjz|exact absurd (ht) Qjz
def Ef(O:jz C X c)(h:iU C x=some m):Sd X c m (.Name x p):=by
 unfold iU at h
 split at h
 ·rename_i nb
  obtain⟨n1,n2⟩:=Eu nb
  cases q:oW C.N x with
  |some k=>
   rw[q]at h
   simp only at h
   split at h
   ·rename_i hv
    cases h
    have nm:iT X k x:=⟨by rw[O.N];exact jf q,by rw[O.sc];exact VD hv,n1,n2⟩
    exact⟨nm.ge,Mu nm.ge rfl rfl,rfl,fun k' e=>by cases e;exact⟨x,p,rfl,nm⟩,rfl⟩
   ·cases h
  |none=>
   rw[q]at h
   simp only at h
   split at h
   ·rename_i hg
    cases q2:oW C.nU x with
    |none=>rw[q2]at h;cases h
    |some k=>
     rw[q2]at h
     cases h
     obtain⟨d,hk,ok⟩:=O.gl k x (jf q2)
     have ge:GE X W0 c _ (.Name x p):=RX hk ok (nA O hg) n1
     exact⟨ge,Mu ge rfl rfl,rfl,fun k' e=>(by cases e),rfl⟩
   ·cases h
 ·cases h
def yZ(O:jz C X c)(h:iU C x=some (.var k)):iT X k x:=by
 obtain⟨y,q,e,nm⟩:=(Ef (p:=default) O h).va k rfl
 cases e
 exact nm
inductive Al(X:Cx)(c:Cf):E->List Expr->Prop
 |nil:Al X c .nil []
 |cons {m ms:E} {e:Expr} {es:List Expr}:Sd X c m e->Al X c ms es->Al X c (.cons m ms) (e::es)
theorem Al.ga:∀{ms:E}{es:List Expr},Al X c ms es->GA X W0 c ms es
 |_,_,.nil=>M3
 |_,_,.cons h t=>FT h.ge t.ga (bB h.pl _ _)
theorem Al.and{es:List Expr}:∀{m ms:E}{e:Expr},Al X c (.cons m ms) (e::es)->GE X W0 c (.and (.cons m ms)) (.BoolOp .And (e::es) pos)/\GW X W0 c (.and (.cons m ms)) (.BoolOp .And (e::es) pos):=by
 induction es with
 |nil=>intro m ms e h;cases h with|cons h t=>cases t;exact⟨R6 h.ge,RP h.gt⟩
 |cons e2 es ih=>intro m ms e h;cases h with|cons h t=>cases t with|cons h2 t=>exact⟨Yv h.ge (ih (.cons h2 t)).1,X7 h.gt (ih (.cons h2 t)).2⟩
theorem Al.or{es:List Expr}:∀{m ms:E}{e:Expr},Al X c (.cons m ms) (e::es)->GE X W0 c (.or (.cons m ms)) (.BoolOp .Or (e::es) pos)/\GW X W0 c (.or (.cons m ms)) (.BoolOp .Or (e::es) pos):=by
 induction es with
 |nil=>intro m ms e h;cases h with|cons h t=>cases t;exact⟨Yl h.ge,X3 h.gt⟩
 |cons e2 es ih=>intro m ms e h;cases h with|cons h t=>cases t with|cons h2 t=>exact⟨ace h.ge (ih (.cons h2 t)).1,ab9 h.gt (ih (.cons h2 t)).2⟩
def Xf{q:YZ}(h:opB o=some q):o=abG q:=by
 cases o<;>first|(cases (h);rfl)|cases (h)
def CW{q:Cm}(h:cmB o=some q):o=eO q:=by
 cases o<;>first|(cases (h);rfl)|cases (h)
def NB{d:D}(h:NK k=some d):Es d k=true:=by
 cases k<;>simp[NK]at h<;>subst h<;>simp[Es]
def V0(h:tyB x=some t):x=Str.ofString (tyN t)/\x∈nO:=by
 unfold tyB at h
 split at h
 ·rename_i e;cases h;subst e;exact⟨rfl,by decide⟩
 split at h
 ·rename_i e;cases h;subst e;exact⟨rfl,by decide⟩
 split at h
 ·rename_i e;cases h;subst e;exact⟨rfl,by decide⟩
 split at h
 ·rename_i e;cases h;subst e;exact⟨rfl,by decide⟩
 split at h
 ·rename_i e;cases h;subst e;exact⟨rfl,by decide⟩
 split at h
 ·rename_i e;cases h;subst e;exact⟨rfl,by decide⟩
 cases h
def U5(O:jz C X c){bb:Bi}(h:Z0 x=some bb)(hg:Af C.sc x=true)(ha:Sd X c m a)(hd:bb=.dict->m.aB=none):GE X W0 c (.bi bb m) (.Call (.Name x p) [a] [] pos):=by
 have hs:=bB ha.pl [] X.env
 have hG:=nA O hg
 unfold Z0 at h
 split at h
 ·rename_i e;cases h;subst e;exact xd IW Qw ha.ge ha.va hG (O.bi _ (by decide)) PySem.boot_len (by decide) (by decide) hs
 split at h
 ·rename_i e;cases h;subst e;exact Cq I8 Qx ha.ge ha.va hG (O.bi _ (by decide)) PyProof.Rows.boot_int (by decide) (by decide) hs
 split at h
 ·rename_i e;cases h;subst e;exact Cq uB Hd ha.ge ha.va hG (O.bi _ (by decide)) PyProof.Rows.boot_tuple (by decide) (by decide) hs
 split at h
 ·rename_i e;cases h;subst e;exact Cq (Dh O.calm) J2 ha.ge ha.va hG (O.bi _ (by decide)) PyProof.Rows.boot_list (by decide) (by decide) hs
 split at h
 ·rename_i e;cases h;subst e;exact xd (Ja O.calm) Qz ha.ge ha.va hG (O.bi _ (by decide)) PyProof.Rows.boot_all (by decide) (by decide) hs
 split at h
 ·rename_i e;cases h;subst e;exact xd (I9 O.calm) Qy ha.ge ha.va hG (O.bi _ (by decide)) PyProof.Rows.boot_any (by decide) (by decide) hs
 split at h
 ·rename_i e;cases h;subst e;exact xd xK Bc ha.ge ha.va hG (O.bi _ (by decide)) PyProof.Rows.boot_sorted (by decide) (by decide) hs
 split at h
 ·rename_i e;cases h;subst e;exact R3 O.calm O.hu ha.ge (hd rfl) hG (O.bi _ (by decide)) hs
 cases h
end
def Bf{env:Env}(h:env.scope=outer):relabel sc env=q9 sc outer:=by
 subst h
 rfl
def JX{η N:List Str}(h:Wl outer inner η N=true):(qX η N).Nodup:=by
 unfold Wl at h
 simp only[QUq,QUz]at h
 exact h.1.1.1.1.1.1.2
def JW{η N:List Str}(h:Wl outer inner η N=true):Je outer inner η N:=by
 unfold Wl at h
 simp only[QUq,QUz,List.all_eq_true,Bool.or_eq_true,bne_iff_ne,beq_iff_eq,Bool.not_eq_true',ne_eq]at h
 obtain⟨⟨⟨⟨⟨⟨⟨h1,h2⟩,h3⟩,h4⟩,h5⟩,h6⟩,h7⟩,h8⟩:=h
 refine⟨h1,h2,fun x hx=>?_,fun p hp hl=>?_,h4,h5,fun p hp hf=>?_,fun x hx ht=>?_,fun hx=>?_⟩
 ·rcases h3 _ (PySem.mem_of_lookup hx)with z|z
  ·exact absurd rfl z
  ·rcases z.1 with z|z
   ·exact .inl (by simpa using z)
   ·exact .inr z
 ·rcases h3 p hp with z|z
  ·exact absurd hl z
  ·exact z.2
 ·rcases h6 p hp with (z|z)|z
  ·exact absurd hf z
  ·exact .inl z
  ·exact .inr z
 ·rcases h7 x hx with z|z
  ·rw[ht]at z;cases z
  ·simpa using z
 ·have:N.contains (".0")=true:=by simpa using hx
  rw[this]at h8;cases h8
section
variable{sc:Scope}
theorem jz.blk(O:jz C X c)(hs:Wl C.sc sc η C.N=true){fp:List Addr}{H₀:Hp}:jz {C with N:=qX η C.N,sc:=q9 sc C.sc} (Mini.blk X sc cl (bT η X.N) fp s₀ H₀) c:=
 ⟨by show bT η X.N=qX η C.N;rw[O.N];rfl,Bf O.sc,JX hs,O.calm,O.hu,O.bi,O.gl,O.fn⟩
theorem rK{sc:Scope}{N:List Str}:∀{es:List Expr}{xs:List Str}(k:Nat),es.mapM uq=some xs->(∀j x,xs[j]? =some x->N[k+j]? =some x)->(∀x∈xs,sc.names.lookup x=some .local)->gR sc N (List.range' k xs.length) es=true
 |[],xs,k,h,_,_=>by
  simp at h;subst h;rfl
 |e::es,xs,k,h,hN,hl=>by
  rw[List.mapM_cons]at h
  cases q:uq e with
  |none=>rw[q]at h;cases h
  |some x=>
   rw[q]at h
   cases q2:es.mapM uq with
   |none=>rw[q2]at h;cases h
   |some ys=>
    rw[q2]at h
    cases h
    cases e<;>simp[uq]at q
    subst q
    rw[QBq,List.range'_succ]
    unfold gR
    rw[rK _ q2 (fun j y e=>by have:=hN (j+1) y (by simpa using e);rw[<-this];congr 1;omega) (fun y hy=>hl y (QYq _ hy))]
    have:=hN 0 _ rfl
    simp at this
    simp[this,hl _ QYz]
theorem rQ:∀{es:List Expr}{xs:List Str},es.mapM uq=some xs->(assignEach es env).length=xs.length/\(assignEach es env).findIdx? (·.1)=none
 |[],xs,h=>by simp at h;subst h;exact⟨rfl,rfl⟩
 |e::es,xs,h=>by
  rw[List.mapM_cons]at h
  cases q:uq e with
  |none=>rw[q]at h;cases h
  |some x=>
   rw[q]at h
   cases q2:es.mapM uq with
   |none=>rw[q2]at h;cases h
   |some ys=>
    rw[q2]at h
    cases h
    obtain⟨i1,i2⟩:=rQ (env:=env) q2
    cases e<;>simp[uq]at q
    constructor
    ·show(_::assignEach es env).length=_
     simp[i1]
    ·show(List.findIdx? (·.1) ((false,_)::assignEach es env))=none
     rw[List.findIdx?_cons]
     simp[i2]
def aaB(O:jz C X c){Ξ:Expr}(ht:V1 Ξ=some (η,tg))(hs:Wl C.sc sc η C.N=true):(∀i∈slots tg,i<η.length)/\∀(cl:List (Str×Addr))(fp:List Addr)(s₀:Shared)(H₀:Hp),GG (Mini.blk X sc cl (bT η X.N) fp s₀ H₀) tg Ξ:=by
 have lc:∀x∈η,∀cl fp s₀ H₀,(Mini.blk X sc cl (bT η X.N) fp s₀ H₀).env.scope.names.lookup x=some .local:=fun x hx cl fp s₀ H₀=>lookup_relabel_local ((JW hs).tg x hx)
 have nd:∀cl fp s₀ H₀,(Mini.blk X sc cl (bT η X.N) fp s₀ H₀).N.Nodup:=fun cl fp s₀ H₀=>by
  rw[O.N]
  exact JX hs
 cases Ξ<;>simp only[V1]at ht<;>try (cases ht;done)
 ·rename_i x q
  cases ht
  refine⟨fun i hi=>?_,fun cl fp s₀ H₀=>w6 (nd cl fp s₀ H₀) rfl (.inl (lc x (by simp) cl fp s₀ H₀)) (.inr (lc x (by simp) cl fp s₀ H₀))⟩
  simp[slots]at hi
  subst hi
  simp
 ·rename_i es k q
  cases qm:es.mapM uq with
  |none=>rw[qm]at ht;cases ht
  |some xs=>
   rw[qm]at ht
   cases ht
   refine⟨fun i hi=>by simpa[slots]using hi,fun cl fp s₀ H₀=>?_⟩
   obtain⟨l1,l2⟩:=rQ qm
   refine Cj (nd cl fp s₀ H₀) O.calm (La ?_) (by simp[l1]) l2
   have:=rK (N:=(Mini.blk X sc cl (bT η X.N) fp s₀ H₀).N) 0 qm (fun j x e=>?_) (fun x hx=>lc x hx cl fp s₀ H₀)
   ·rwa[List.range_eq_range']
   ·show(bT η X.N)[0+j]? =some x
    unfold bT
    rw[Nat.zero_add,Qwz (QCz.mp e).1]
    exact e
end
inductive Ar(X:Cx)(c:Cf):E->List Expr->Prop
 |nil:Ar X c .nil []
 |cons {m ms:E} {e:Expr} {es:List Expr}:GE X W0 c m e->plain e=true->Ar X c ms es->Ar X c (.cons m ms) (e::es)
theorem Ar.ga{c:Cf}:∀{ms:E}{es:List Expr},Ar X c ms es->GA X W0 c ms es
 |_,_,.nil=>M3
 |_,_,.cons h p t=>FT h t.ga (bB p _ _)
theorem Ar.plain{c:Cf}:∀{ms:E}{es:List Expr},Ar X c ms es->(backTo pos (starEach es X.env)).any (·.1)=false
 |_,_,.nil=>rfl
 |_,_,.cons h p t=>by
  rw[bB p]
  have:=t.plain (pos:=pos)
  simpa[backTo]using this
def DK(X:Cx)(c:Cf)(m:E)(elt:Expr)(g:Comprehension)(sc:Scope):Prop:=
 ∃η tg it cond m',m=.comp η.length tg it cond m'/\Ab X c sc η tg cond m' g.target elt g.ifs/\GI X W0 c it g.target g.iter/\plain g.iter=true/\g.is_async=0
structure Ih(c:Cf)(n:Nat):Prop where
 e:∀C X e m,jz C X c->dq n C e=some m->Sd X c m e
 es:∀C X es m,jz C X c->v7 n C es=some m->Al X c m es
 a:∀C X fl es m,jz C X c->GP n C fl es=some m->Ar X c m es
 o:∀C X o m,jz C X c->Zm n C o=some m->GO X W0 c m o
 b:∀C X x args m p pos,jz C X c->Af C.sc x=true->trB n C x args=some m->GE X W0 c m (.Call (.Name x p) args [] pos)/\m.aB=none/\m.jx=false
 i:∀C X tg e m,jz C X c->Zn n C e=some m->GI X W0 c m tg e/\plain e=true
 k:∀C X elt g sc m,jz C X c->trC n C elt g sc=some m->DK X c m elt g sc
 d:∀C X ks vs m,jz C X c->GK n C ks vs=some m->∃nT,Kv X W0 c m ks vs nT/\ks.all (·.isSome)=true
def ih0 c:Ih c 0:=by
 constructor
 all_goals (intros;rename_i h;first|(rw[dq]at h;cases h)|(rw[v7]at h;cases h)|(rw[GP]at h;cases h)|(rw[Zm]at h;cases h)|(rw[trB]at h;cases h)|(rw[Zn]at h;cases h)|(rw[trC]at h;cases h)|(rw[GK]at h;cases h))
section
def Qe(I:Ih c n)(O:jz C X c)(h:v7 (n+1) C es=some m):Al X c m es:=by
 cases es with
 |nil=>rw[v7]at h;cases h;exact .nil
 |cons e es=>
  rw[v7]at h
  simp only[QJq,QJz]at h
  obtain⟨m1,h1,m2,h2,rfl⟩:=h
  exact .cons (I.e C X e m1 O h1) (I.es C X es m2 O h2)
def Wa(I:Ih c n)(O:jz C X c){vs:List Expr}(h:GK (n+1) C ks vs=some m):∃nT,Kv X W0 c m ks vs nT/\ks.all (·.isSome)=true:=by
 unfold GK at h
 split at h
 ·cases h;exact⟨[],.nil,rfl⟩
 ·simp only[QJq,QJz]at h
  obtain⟨k1,h1,v1,h2,r,h3,rfl⟩:=h
  obtain⟨nT,K,a⟩:=I.d C X _ _ r O h3
  exact⟨_,.cons (I.e C X _ k1 O h1).ge (I.e C X _ v1 O h2).ge K,by simpa using a⟩
 ·cases h
def V6(I:Ih c n)(O:jz C X c)(h:Zm (n+1) C o=some m):GO X W0 c m o:=by
 cases o with
 |none=>rw[Zm]at h;cases h;exact .inl ⟨rfl,rfl⟩
 |some e=>
  have s:=I.e C X e m O h
  exact .inr ⟨e,rfl,s.nn,s.ge⟩
def Wc(I:Ih c n)(O:jz C X c){es:List Expr}(h:GP (n+1) C fl es=some m):Ar X c m es:=by
 cases fl with
 |nil=>
  cases es with
  |nil=>rw[GP]at h;cases h;exact .nil
  |cons e es=>rw[GP]at h<;>first|cases h|(intros;simp_all)
 |cons f fl=>
  cases es with
  |nil=>rw[GP]at h<;>first|cases h|(intros;simp_all)
  |cons e es=>
   cases f with
   |false=>
    rw[GP]at h
    simp only[QJq,QJz]at h
    obtain⟨m1,h1,m2,h2,rfl⟩:=h
    have s:=I.e C X e m1 O h1
    exact .cons s.ge s.pl (I.a C X fl es m2 O h2)
   |true=>
    by_cases hN:∃x p,e=.Name x p
    ·obtain⟨x,p,rfl⟩:=hN
     rw[GP]at h
     simp only[QJq,QJz]at h
     obtain⟨m1,⟨m3,h3,h4⟩,m2,h2,rfl⟩:=h
     split at h4
     ·cases h4
      exact .cons (Yk (yZ O h3)) rfl (I.a C X fl es m2 O h2)
     ·cases h4
    ·rw[GP]at h
     ·simp only[QJq,QJz]at h
      obtain⟨m1,h3,_⟩:=h
      cases h3
     ·exact fun x p z=>hN ⟨x,p,z⟩
def Wq{x:Str}(O:jz C X c)(h:(decide (x="range")&&Af C.sc x&&(fnAt C x).isNone)=true):x="range"/\Gl X "range":=by
 simp only[QUq,QUz]at h
 obtain⟨⟨rfl,h2⟩,_⟩:=h
 exact⟨rfl,nA O h2⟩
def aag{x:Str}(O:jz C X c)(h:(decide (x="zip")&&Af C.sc x&&(fnAt C x).isNone)=true):x="zip"/\Gl X "zip":=by
 simp only[QUq,QUz]at h
 obtain⟨⟨rfl,h2⟩,_⟩:=h
 exact⟨rfl,nA O h2⟩
def V8(I:Ih c n)(O:jz C X c)(h:Zn (n+1) C e=some m):GI X W0 c m tg e/\plain e=true:=by
 have dflt:dq n C e=some m->GI X W0 c m tg e/\plain e=true:=fun h=>let s:=I.e C X e m O h;⟨acd s.ge,s.pl⟩
 unfold Zn at h
 split at h
 ·split at h
  ·split at h
   ·rename_i hr
    obtain⟨rfl,hg⟩:=Wq O hr
    simp only[QJz]at h
    obtain⟨m1,h1,rfl⟩:=h
    have s:=I.e C X _ m1 O h1
    exact⟨Iu s.ge hg (O.bi _ (by decide)) (bB s.pl _ _),rfl⟩
   ·exact dflt h
  ·split at h
   ·rename_i hr
    obtain⟨rfl,hg⟩:=aag O hr
    simp only[QJq,QJz]at h
    obtain⟨m1,h1,m2,h2,rfl⟩:=h
    have s1:=I.e C X _ m1 O h1
    have s2:=I.e C X _ m2 O h2
    exact⟨Ye s1.ge s2.ge hg (O.bi _ (by decide)) (by rw[bB s1.pl,bB s2.pl];rfl) (bB s2.pl _ _),rfl⟩
   ·exact dflt h
  ·exact dflt h
 ·exact dflt h
def V7(I:Ih c n)(O:jz C X c){g:Comprehension}(h:trC (n+1) C elt g sc=some m):DK X c m elt g sc:=by
 rw[trC]at h
 split at h
 ·rename_i ha
  simp only[QJq]at h
  obtain⟨⟨η,tg⟩,ht,h⟩:=h
  split at h
  ·rename_i hs
   simp only[QJq,QJz]at h
   obtain⟨it,h1,cond,h2,m',h3,rfl⟩:=h
   obtain⟨sm,gg⟩:=aaB O ht hs
   obtain⟨gi,gp⟩:=I.i C X g.target g.iter it O h1
   refine⟨η,tg,it,cond,m',rfl,⟨by rw[O.sc,O.N];exact JW hs,sm,fun cl fp s₀ H₀ _=>gg cl fp s₀ H₀,?_,fun cl fp s₀ H₀ _=>(I.e _ _ elt m' (O.blk hs) h3).ge⟩,gi,gp,ha⟩
   split at h2
   ·rename_i hi
    cases h2
    exact .inl ⟨hi,rfl⟩
   ·rename_i ce hi
    exact .inr ⟨ce,hi,fun cl fp s₀ H₀ _=>(I.e _ _ ce cond (O.blk hs) h2).gt⟩
   ·cases h2
  ·cases h
 ·cases h
end
section
theorem K6(I:Ih c n)(O:jz C X c){a:Expr}(hg:Af C.sc x=true)(h:((Z0 x).bind fun b=>(dq n C a).bind fun m=>if (decide (b=.dict)&&m.aB.isSome)=true then some (E.bi b (.rd m))else some (E.bi b m))=some m):
  GE X W0 c m (.Call (.Name x p) [a] [] pos)/\m.aB=none/\m.jx=false:=by
 simp only[QJq]at h
 obtain⟨bb,h1,m1,h2,h3⟩:=h
 split at h3
 ·cases h3
  have s:=I.e C X a m1 O h2
  exact⟨U5 O h1 hg ⟨(fun env=>PE.imp (s.ge env) fun σ H Q q=>by simpa only[PL]using q),fun γ sh σ H Q I⟨env,q⟩=>s.gt γ sh σ H Q I ⟨env,by simpa only[PL]using q⟩,s.pl,fun k z=>(by cases z),rfl⟩ fun _=>rfl,rfl,rfl⟩
 ·rename_i hn
  cases h3
  refine⟨U5 O h1 hg (I.e C X a m1 O h2) (fun z=>?_),rfl,rfl⟩
  subst z
  cases q:m1.aB with
  |none=>rfl
  |some k=>rw[q]at hn;exact absurd rfl hn
def Wb(I:Ih c n)(O:jz C X c){x:Str}{args:List Expr}{p pos:Pos}(hg:Af C.sc x=true)(h:trB (n+1) C x args=some m):GE X W0 c m (.Call (.Name x p) args [] pos)/\m.aB=none/\m.jx=false:=by
 unfold trB at h
 split at h
 ·--isinstance
  split at h
  ·rename_i hx
   subst hx
   split at h
   ·split at h
    ·rename_i hy
     simp only[QJq,QJz]at h
     obtain⟨t,h1,m1,h2,rfl⟩:=h
     have s:=I.e C X _ m1 O h2
     obtain⟨e1,e2⟩:=V0 h1
     exact⟨Yq s.ge e1 (nA O hy) (O.bi _ e2) (nA O hg) (O.bi _ (by decide)) (bB s.pl _ _),rfl,rfl⟩
    ·cases h
   ·cases h
  ·cases h
 ·split at h
  ·split at h
   ·split at h
    ·rename_i hz
     obtain⟨rfl,hgz⟩:=aag O hz
     split at h
     ·rename_i hx
      subst hx
      simp only[QJq,QJz]at h
      obtain⟨m1,h1,m2,h2,rfl⟩:=h
      have s1:=I.e C X _ m1 O h1
      have s2:=I.e C X _ m2 O h2
      exact⟨Cp O.calm O.hu s1.ge s2.ge hgz (O.bi _ (by decide)) (by rw[bB s1.pl,bB s2.pl];rfl) (bB s2.pl _ _) (nA O hg) (O.bi _ (by decide)) rfl,rfl,rfl⟩
     ·split at h
      ·rename_i hx
       subst hx
       simp only[QJq,QJz]at h
       obtain⟨m1,h1,m2,h2,rfl⟩:=h
       have s1:=I.e C X _ m1 O h1
       have s2:=I.e C X _ m2 O h2
       exact⟨Ck O.calm s1.ge s2.ge hgz (O.bi _ (by decide)) (by rw[bB s1.pl,bB s2.pl];rfl) (bB s2.pl _ _) (nA O hg) (O.bi _ (by decide)) rfl,rfl,rfl⟩
      ·cases h
    ·exact K6 I O hg h
   ·exact K6 I O hg h
  ·exact K6 I O hg h
 ·cases h
def gm(ge:GE X W0 c m e)(hp:plain e=true)(hv:m.aB=none)(hi:m.jx=false)(ht:tame e=true):Sd X c m e:=
 ⟨ge,Mu ge hp ht,hp,fun k z=>(by rw[hv]at z;cases z),hi⟩
def hu1(O:jz C X c):X.A.units+1<cLine:=by have:=O.hu;omega
def R9{g:Nat}(h:fnAt C x=some (g,fl)):C.fns[g]? =some (x,fl):=by
 unfold fnAt at h
 simp only[QJq,QJz]at h
 obtain⟨g',h1,⟨y,fl'⟩,h2,h3⟩:=h
 cases h3
 have:=jf h1
 rw[QFz,h2]at this
 simp at this
 rw[h2,this]
def nP{name:Str}(h:isCall o=false):attributeBase o name env (eval o env)=eval o env:=by
 cases o<;>first|rfl|simp[isCall]at h
def V9(I:Ih c n)(O:jz C X c){e:Expr}(h:dq (n+1) C e=some m):Sd X c m e:=by
 have no:∀{P:Prop},(none:Option E)=some m->P:=fun z=>nomatch z
 unfold dq at h
 split at h
 ·simp only[QJz]at h
  obtain⟨d,h1,rfl⟩:=h
  exact gm (Yt (NB h1)) rfl rfl rfl rfl
 ·exact Ef O h
 ·simp only[QJz]at h
  obtain⟨m1,h1,rfl⟩:=h
  exact gm (Yh (I.es C X _ m1 O h1).ga) rfl rfl rfl rfl
 ·simp only[QJz]at h
  obtain⟨m1,h1,rfl⟩:=h
  exact gm (Yo (I.es C X _ m1 O h1).ga) rfl rfl rfl rfl
 ·simp only[QJq,QJz]at h
  obtain⟨o,h0,m1,h1,m2,h2,rfl⟩:=h
  rw[Xf h0]
  exact gm (acf (I.e C X _ m1 O h1).ge (I.e C X _ m2 O h2).ge) rfl rfl rfl rfl
 ·split at h
  ·simp only[QJz]at h
   obtain⟨m1,h1,rfl⟩:=h
   exact gm (Yn (I.e C X _ m1 O h1).ge) rfl rfl rfl rfl
  ·simp only[QJz]at h
   obtain⟨m1,h1,rfl⟩:=h
   have s:=I.e C X _ m1 O h1
   exact⟨Ym s.ge,X4 s.gt,rfl,fun k z=>(by cases z),rfl⟩
  ·exact no h
 ·simp only[QJq]at h
  obtain⟨m1,h1,h2⟩:=h
  have A:=I.es C X _ m1 O h1
  split at h2
  ·exact no h2
  ·rename_i hn
   cases A with
   |nil=>exact absurd rfl hn
   |cons s t=>
    split at h2
    ·cases h2
     exact⟨(Al.cons s t).and.1,(Al.cons s t).and.2.t,rfl,fun k z=>(by cases z),rfl⟩
    ·cases h2
     exact⟨(Al.cons s t).or.1,(Al.cons s t).or.2.t,rfl,fun k z=>(by cases z),rfl⟩
 ·split at h
  ·simp only[QJq,QJz]at h
   obtain⟨o,h0,m1,h1,m2,h2,rfl⟩:=h
   rw[CW h0]
   have s1:=I.e C X _ m1 O h1
   have s2:=I.e C X _ m2 O h2
   exact⟨Yu (oH O.hu o) s1.ge s2.ge s2.va (rR s2.pl _),X6 (oH O.hu o) s1.ge s2.ge s2.va (rR s2.pl _),rfl,fun k z=>(by cases z),rfl⟩
  ·simp only[QJq,QJz]at h
   obtain⟨o,h0,o2,h02,m1,h1,m2,h2,m3,h3,rfl⟩:=h
   rw[CW h0,CW h02]
   have s1:=I.e C X _ m1 O h1
   have s2:=I.e C X _ m2 O h2
   have s3:=I.e C X _ m3 O h3
   have hm:∀b,lastMarks [eO o,eO o2] [b,_]=false:=fun b=>rR s3.pl (eO o2)
   exact⟨MT (oH O.hu o) (oH O.hu o2) s1.ge s2.ge s3.ge (hm _),Mv (oH O.hu o) (oH O.hu o2) s1.ge s2.ge s3.ge (hm _),rfl,fun k z=>(by cases z),rfl⟩
  ·exact no h
 ·simp only[QJq,QJz]at h
  obtain⟨m1,h1,m2,h2,m3,h3,rfl⟩:=h
  have s1:=I.e C X _ m1 O h1
  have s2:=I.e C X _ m2 O h2
  have s3:=I.e C X _ m3 O h3
  exact⟨Yp s1.gt s2.ge s3.ge,X5 s1.gt s2.gt s3.gt,rfl,fun k z=>(by cases z),rfl⟩
 ·split at h
  ·split at h
   ·simp only[QJq,QJz]at h
    obtain⟨m1,h1,m2,h2,m3,h3,rfl⟩:=h
    exact gm (Yi (I.e C X _ m1 O h1).ge (I.o C X _ m2 O h2) (I.o C X _ m3 O h3)) rfl rfl rfl rfl
   ·split at h
    ·rename_i hx
     simp only[QUq,Option.isNone_iff_eq_none]at hx
     obtain⟨rfl,rfl⟩:=hx
     simp only[QJq]at h
     obtain⟨m2,h2,h⟩:=h
     split at h
     ·rename_i hm
      simp only[QJz]at h
      obtain⟨m1,h1,rfl⟩:=h
      exact gm (Yj (I.e C X _ m1 O h1).ge (I.e C X _ m2 O h2).ge hm) rfl rfl rfl rfl
     ·exact no h
    ·exact no h
  ·simp only[QJq,QJz]at h
   obtain⟨m1,h1,m2,h2,rfl⟩:=h
   have s1:=I.e C X _ m1 O h1
   have s2:=I.e C X _ m2 O h2
   exact gm (Yr (by have:=O.hu;omega) s1.ge s2.ge s1.va (Bv s2.pl)) rfl rfl rfl rfl
 ·split at h
  ·split at h
   ·split at h
    ·rename_i hx
     rw[QUq]at hx
     split at h
     ·rename_i g fl hf
      simp only[QJq]at h
      obtain⟨m1,h1,h2⟩:=h
      split at h2
      ·exact no h2
      ·rename_i hn
       cases h2
       have A:=I.a C X _ _ m1 O h1
       obtain⟨k,f,fd,ps,F,hr,hm,hk,hb,hl⟩:=O.fn g _ fl (R9 hf)
       cases A with
       |nil=>exact absurd rfl hn
       |cons ge pl t=>
        exact gm (R5 F hr (nA O hx.2) hm hk hb (Eu hx.1).1 (Ar.cons ge pl t).ga (bB pl _ _) t.plain hl) rfl rfl rfl rfl
     ·obtain⟨ge,h1,h2⟩:=I.b C X _ _ m _ _ O hx.2 h
      exact gm ge rfl h1 h2 rfl
    ·exact no h
   ·split at h
    ·rename_i hl
     split at h
     ·split at h
      ·rename_i hx
       subst hx
       simp only[QJq,QJz]at h
       obtain⟨m1,h1,u,h0,m2,h2,rfl⟩:=h
       split at h0
       ·rename_i hp
        rw[QUq]at hp
        have s1:=I.e C X _ m1 O h1
        have s2:=I.e C X _ m2 O h2
        exact gm (MP O.hu ⟨nP (by simpa using hp.2),hl,bB s2.pl _ _⟩ s1.ge s2.ge) rfl rfl rfl rfl
       ·cases h0
      ·split at h
       ·rename_i hx
        subst hx
        split at h
        ·simp only[QJq]at h
         obtain⟨v,h1,h2⟩:=h
         split at h2
         ·simp only[QJz]at h2
          obtain⟨m2,h3,rfl⟩:=h2
          have s2:=I.e C X _ m2 O h3
          exact gm (MN ⟨rfl,hl,bB s2.pl _ _⟩ (yZ O h1) s2.ge) rfl rfl rfl rfl
         ·exact no h2
        ·exact no h
       ·exact no h
     ·split at h
      ·rename_i hx
       subst hx
       simp only[QJq,QJz]at h
       obtain⟨m1,h1,u,h0,m2,h2,m3,h3,rfl⟩:=h
       split at h0
       ·rename_i hp
        rw[QUq]at hp
        have s1:=I.e C X _ m1 O h1
        have s2:=I.e C X _ m2 O h2
        have s3:=I.e C X _ m3 O h3
        exact gm (RZ (hu1 O) ⟨nP (by simpa using hp.2),by rw[bB s2.pl,bB s3.pl];rfl,hl,by rw[bB s2.pl,bB s3.pl];rfl⟩ s1.va s1.ge s2.ge s3.ge) rfl rfl rfl rfl
       ·cases h0
      ·exact no h
     ·exact no h
    ·exact no h
   ·exact no h
  ·exact no h
 ·split at h
  ·rename_i hx
   simp only[QUq,QUz]at hx
   simp only[QJz]at h
   obtain⟨m1,h1,rfl⟩:=h
   obtain⟨nT,K,a⟩:=I.d C X _ _ m1 O h1
   exact gm (Ys (by have:=O.hu;omega) K a hx.1.1 (fun z=>by rw[z]at hx;simp at hx) hx.1.2) rfl rfl rfl rfl
  ·exact no h
 ·split at h
  ·rename_i elt sc pos g
   obtain⟨η,tg,it,cond,m',rfl,B,gi,gp,ha⟩:=I.k C X _ _ _ m O h
   obtain⟨ta,ti,tf,tn⟩:=g
   simp only at ha
   subst ha
   exact gm (R4 B gi O.calm (fun x=>xf gp _ _)) rfl rfl rfl rfl
  ·exact no h
 ·exact no h
end
theorem ih c:∀n,Ih c n
 |0=>ih0 c
 |n+1=>let I:=ih c n
  ⟨fun C X e m O h=>V9 I O h,fun C X es m O h=>Qe I O h,fun C X fl es m O h=>Wc I O h,fun C X o m O h=>V6 I O h,fun C X x args m p pos O hg h=>Wb I O hg h,fun C X tg e m O h=>V8 I O h,fun C X elt g sc m O h=>V7 I O h,fun C X ks vs m O h=>Wa I O h⟩
def NE{α:Type}(r:Out α):Prop:=∀k σ,r≠ .exc k σ
section
theorem NE.ok(a:α)σ:NE (.ok a σ):=fun _ _ z=>nomatch z
theorem NE.bad:NE (.bad:Out α):=fun _ _ z=>nomatch z
theorem NE.lift σ(o:Option α):NE (lift σ o):=by cases o<;>(intro _ _ z;cases z)
theorem NE.bind{f:α->Ev->Out β}(h:NE r)(g:∀a σ,NE (f a σ)):NE (r.bind f):=by
 cases r with
 |ok a σ=>exact g a σ
 |exc k σ=>exact absurd rfl (h k σ)
 |bad=>exact NE.bad
theorem NE.au{f:D->Ev->Out β}(h:NE r)(g:∀a σ,NE (f a σ)):NE (r.au f):=by
 cases r with
 |ok a σ=>cases a<;>first|exact g _ _|exact NE.bad
 |exc k σ=>exact absurd rfl (h k σ)
 |bad=>exact NE.bad
theorem NE.cu{r:Out Rv}{f:Bool->Ev->Out β}(h:NE r)(g:∀a σ,NE (f a σ)):NE (r.cu tr f):=
 NE.au h fun d σ=>by
  cases tr d with
  |none=>exact NE.bad
  |some b=>exact g b σ
def NE.ite{p:Prop}[Decidable p]{a b:Out α}(h:NE a)(g:NE b):NE (if p then a else b):=by split<;>assumption
end
def Rq c f as σ:NE (tQ c f as σ):=by
 unfold tQ
 split
 ·exact NE.bad
 ·split
  ·split
   ·exact NE.ok _ _
   ·exact NE.bad
  ·exact NE.bad
def Xh k y σ:NE (rF k y σ):=by
 unfold rF
 split
 ·refine NE.ite NE.bad ?_
  split
  ·split
   ·exact NE.ok _ _
   ·exact NE.bad
  ·exact NE.bad
 ·exact NE.bad
def Rp k σ:NE (rm k σ):=by
 unfold rm
 split<;>first|exact NE.ok _ _|exact NE.bad
def wK(c:Cf):∀(m:E)(σ:Ev),NE (ev c m σ)/\NE (evs c m σ)/\NE (gW c m σ)/\NE (nD c m σ):=by
 have k3:∀{m:E},(∀σ,NE (ev c m σ))->(∀σ,evs c m σ=.bad)->(∀σ,gW c m σ=.bad)->(∀σ,nD c m σ=.bad)->∀σ,NE (ev c m σ)/\NE (evs c m σ)/\NE (gW c m σ)/\NE (nD c m σ):=fun h a b d σ=>by
  rw[a,b,d]
  exact⟨h σ,NE.bad,NE.bad,NE.bad⟩
 intro m
 induction m with
 |var i=>exact k3 (fun σ=>Rp i σ) (fun _=>rfl) (fun _=>rfl) fun _=>rfl
 |con d=>exact k3 (fun σ=>NE.ok _ _) (fun _=>rfl) (fun _=>rfl) fun _=>rfl
 |glob k=>exact k3 (fun σ=>by rw[v_2];split<;>first|exact NE.ok _ _|exact NE.bad) (fun _=>rfl) (fun _=>rfl) fun _=>rfl
 |nil=>exact fun σ=>⟨NE.bad,NE.ok _ _,NE.bad,NE.bad⟩
 |cons h t ih jh=>
  intro σ
  refine⟨NE.bad,NE.bind (ih σ).1 fun x σ=>NE.bind (jh σ).2.1 fun _ _=>NE.ok _ _,?_,?_⟩
  ·cases t with
   |nil=>exact(ih σ).1
   |_=>exact NE.au (ih σ).1 fun x σ=>(by split<;>first|exact(jh σ).2.2.1|exact NE.ok _ _|exact NE.bad)
  ·cases t with
   |nil=>exact(ih σ).1
   |_=>exact NE.au (ih σ).1 fun x σ=>(by split<;>first|exact(jh σ).2.2.2|exact NE.ok _ _|exact NE.bad)
 |tup es ih=>exact k3 (fun σ=>NE.bind (ih σ).2.1 fun _ _=>NE.lift _ _) (fun _=>rfl) (fun _=>rfl) fun _=>rfl
 |lis es ih=>exact k3 (fun σ=>NE.bind (ih σ).2.1 fun _ _=>NE.lift _ _) (fun _=>rfl) (fun _=>rfl) fun _=>rfl
 |op o a b ih jh=>exact k3 (fun σ=>NE.au (ih σ).1 fun _ σ=>NE.au (jh σ).1 fun _ _=>NE.lift _ _) (fun _=>rfl) (fun _=>rfl) fun _=>rfl
 |neg a ih=>exact k3 (fun σ=>NE.au (ih σ).1 fun _ σ=>NE.lift _ _) (fun _=>rfl) (fun _=>rfl) fun _=>rfl
 |cmp o a b ih jh=>exact k3 (fun σ=>NE.au (ih σ).1 fun _ σ=>by split<;>first|exact NE.lift _ _|exact NE.au (jh σ).1 fun _ _=>NE.lift _ _) (fun _=>rfl) (fun _=>rfl) fun _=>rfl
 |chain o p a b d ih jh kh=>exact k3 (fun σ=>NE.au (ih σ).1 fun _ σ=>NE.au (jh σ).1 fun _ σ=>NE.bind (NE.lift _ _) fun _ σ=>NE.ite (NE.au (kh σ).1 fun _ _=>NE.lift _ _) (NE.ok _ _)) (fun _=>rfl) (fun _=>rfl) fun _=>rfl
 |and es ih=>exact k3 (fun σ=>(ih σ).2.2.1) (fun _=>rfl) (fun _=>rfl) fun _=>rfl
 |or es ih=>exact k3 (fun σ=>(ih σ).2.2.2) (fun _=>rfl) (fun _=>rfl) fun _=>rfl
 |not a ih=>exact k3 (fun σ=>NE.cu (ih σ).1 fun _ _=>NE.ok _ _) (fun _=>rfl) (fun _=>rfl) fun _=>rfl
 |ite t a b ih jh kh=>exact k3 (fun σ=>NE.cu (ih σ).1 fun _ σ=>NE.ite (jh σ).1 (kh σ).1) (fun _=>rfl) (fun _=>rfl) fun _=>rfl
 |idx a i ih jh=>exact k3 (fun σ=>by rw[Jr];split<;>first|exact NE.ite NE.bad (NE.au (jh σ).1 fun _ _=>NE.lift _ _)|exact NE.au (ih σ).1 fun _ σ=>NE.au (jh σ).1 fun _ _=>NE.lift _ _) (fun _=>rfl) (fun _=>rfl) fun _=>rfl
 |slc a lo hi ih jh kh=>exact k3 (fun σ=>NE.au (ih σ).1 fun _ σ=>NE.au (jh σ).1 fun _ σ=>by split<;>first|exact NE.bad|exact NE.au (kh σ).1 fun _ _=>NE.lift _ _) (fun _=>rfl) (fun _=>rfl) fun _=>rfl
 |noneE=>exact k3 (fun σ=>NE.ok _ _) (fun _=>rfl) (fun _=>rfl) fun _=>rfl
 |call f as ih=>exact k3 (fun σ=>NE.bind (ih σ).2.1 fun _ _=>Rq _ _ _ _) (fun _=>rfl) (fun _=>rfl) fun _=>rfl
 |ref i=>exact k3 (fun σ=>by rw[PN];split<;>first|exact NE.ok _ _|exact NE.bad) (fun _=>rfl) (fun _=>rfl) fun _=>rfl
 |rd e ih=>exact k3 (fun σ=>(ih σ).1) (fun _=>rfl) (fun _=>rfl) fun _=>rfl
 |isi a t ih=>exact k3 (fun σ=>NE.au (ih σ).1 fun _ _=>NE.ok _ _) (fun _=>rfl) (fun _=>rfl) fun _=>rfl
 |bi b a ih=>exact k3 (fun σ=>by rw[mU];split<;>first|exact NE.lift _ _|exact NE.au (ih σ).1 fun _ _=>NE.lift _ _) (fun _=>rfl) (fun _=>rfl) fun _=>rfl
 |range1 a ih=>exact k3 (fun σ=>NE.au (ih σ).1 fun _ _=>NE.lift _ _) (fun _=>rfl) (fun _=>rfl) fun _=>rfl
 |zip a b ih jh=>exact k3 (fun σ=>NE.au (ih σ).1 fun _ σ=>NE.au (jh σ).1 fun _ _=>NE.lift _ _) (fun _=>rfl) (fun _=>rfl) fun _=>rfl
 |count a b ih jh=>exact k3 (fun σ=>NE.au (ih σ).1 fun _ σ=>NE.ite NE.bad (NE.au (jh σ).1 fun _ _=>NE.lift _ _)) (fun _=>rfl) (fun _=>rfl) fun _=>rfl
 |popAt i a ih=>exact k3 (fun σ=>NE.ite NE.bad (NE.au (ih σ).1 fun _ _=>Xh _ _ _)) (fun _=>rfl) (fun _=>rfl) fun _=>rfl
 |index a b ih jh=>exact k3 (fun σ=>NE.au (ih σ).1 fun _ σ=>NE.ite NE.bad (NE.au (jh σ).1 fun _ _=>NE.lift _ _)) (fun _=>rfl) (fun _=>rfl) fun _=>rfl
 |get2 a b d ih jh kh=>
  refine k3 (fun σ=>?_) (fun _=>rfl) (fun _=>rfl) fun _=>rfl
  rw[VG]
  split
  ·exact NE.ite NE.bad (NE.au (jh σ).1 fun _ σ=>NE.au (kh σ).1 fun _ _=>NE.lift _ _)
  ·exact NE.bad
 |dsp es ih=>exact k3 (fun σ=>NE.bind (ih σ).2.1 fun _ _=>NE.lift _ _) (fun _=>rfl) (fun _=>rfl) fun _=>rfl
 |rev a ih=>exact k3 (fun σ=>NE.au (ih σ).1 fun _ _=>NE.lift _ _) (fun _=>rfl) (fun _=>rfl) fun _=>rfl
 |comp nl tg it cond elt ih _ _=>
  refine k3 (fun σ=>?_) (fun _=>rfl) (fun _=>rfl) fun _=>rfl
  rw[lQ]
  refine NE.au (ih σ).1 fun _ σ=>?_
  split
  ·split
   ·exact NE.ok _ _
   ·exact NE.bad
  ·exact NE.bad
section
def GE.w(h:GE X W0 c m e):GE X W c m e:=fun env=>PE.imp (h env) fun σ H Q⟨S,q⟩=>by
 refine⟨S,?_⟩
 cases r:ev c m env with
 |exc k ζ=>exact absurd r ((wK c m env).1 k ζ)
 |_=>rw[r]at q;exact q
def GA.w(h:GA X W0 c m es):GA X W c m es:=fun env p γ s σ H R I q=>h env p γ s σ H R I (by
 obtain⟨S,q⟩:=q
 refine⟨S,?_⟩
 cases r:evs c m env with
 |exc k ζ=>exact absurd r ((wK c m env).2.1 k ζ)
 |_=>rw[r]at q;exact q)
def GT.w(h:GT X W0 c m e):GT X W c m e:=PT.imp h fun σ H Q⟨env,S,q⟩=>by
 refine⟨env,S,?_⟩
 cases r:ev c m env with
 |exc k ζ=>exact absurd r ((wK c m env).1 k ζ)
 |_=>rw[r]at q;exact q
def GI.w(h:GI X W0 c m tg e):GI X W c m tg e:=fun env γ s σ H R I q=>h env γ s σ H R I (by
 obtain⟨S,q⟩:=q
 refine⟨S,?_⟩
 cases r:ev c m env with
 |exc k ζ=>exact absurd r ((wK c m env).1 k ζ)
 |_=>rw[r]at q;exact q)
end
structure Top(C:Ct)(X:Cx)(W:Wi)(c:Cf):Prop where
 fn:∀x,X.fn x=true
 po:PassesOwn (model X.prog X.w) X.A X.env X.xe
 ra:∀e f p n m,TQ (n+1) C (.Raise e f p)=some m->GS X W c m (.Raise e f p)
 cx:∀f args kw cp p n m,Ih c n->rzB C f=true->trX n C f args kw=some m->GS X W c m (.Expr (.Call f args kw cp) p)
section
theorem Ss(O:jz C X c):∀{n:Nat}{elt:Expr}{gens:List Comprehension}{sc:Scope}{pos:Pos},dq n C (.ListComp elt gens sc pos)=some m->∃g,gens=[g]/\DK X c m elt g sc
 |0,_,_,_,_,h=>by rw[dq]at h;cases h
 |n+1,elt,gens,sc,pos,h=>by
  unfold dq at h
  simp only at h
  split at h
  ·exact⟨_,rfl,(ih c n).k C X _ _ _ m O h⟩
  ·cases h
def rT(O:jz C X c)(h:HH C.sc x=true):Loc X.env.scope x:=by
 unfold HH at h
 rw[O.sc]
 rw[Bool.or_eq_true]at h
 rcases h with h|h
 ·exact .inl (by simpa using h)
 ·exact .inr (by simpa using h)
def mW{t:Option Expr}{env:Env}(hp:plain e=true)(hc:oX e=false):swapsWith e t l env=pure false:=by
 cases e<;>first|rfl|exact absurd (hp) Qjz|exact absurd (hc) (fun h=>Qjz h.symm)
def Aw{es:List Expr}{q:Pos}(h:isTup e=false):swappedStores [.Tuple es k q] e env=pure none:=by
 cases e<;>first|rfl|exact absurd (h) (fun h=>Qjz h.symm)
def yu{q:Pos}:swappedStores [.Subscript o i q] e env=pure none:=by
 cases e<;>rfl
def Ec{l:Nat}:swapsWithSole [t] e l env=swapsWith e (some t) l env:=rfl
def SQ{tp:Pos}{v:Value}(h:isSlice i=false):assign (.Subscript o i tp) env v=(do
   let ov<-holding [v] (eval o env)
   let iv<-holding [v,ov] (eval i env)
   standAt tp
   holding [v,ov,iv] (setItem ov iv v)
   release [v,ov,iv] []):=by
 cases i<;>first|rfl|(simp[isSlice]at h;done)
theorem qU(O:jz C X c)(T:Top C X W c):∀{es:List Expr}{is:List Nat},slotsOf C es=some is->ue X is es/\(assignEach es X.env).length=is.length/\(assignEach es X.env).findIdx? (·.1)=none
 |[],is,h=>by cases h;exact⟨.nil,rfl,rfl⟩
 |e::es,is,h=>by
  cases e<;>simp only[slotsOf]at h<;>try (cases h;done)
  rename_i x q
  split at h
  ·rename_i hl
   simp only[QJq,QJz]at h
   obtain⟨i,h1,js,h2,rfl⟩:=h
   obtain⟨a1,a2,a3⟩:=qU O T h2
   refine⟨.cons (by rw[O.N];exact jf h1) (rT O hl) (.inl (T.fn x)) a1,?_,?_⟩
   ·show(_::assignEach es X.env).length=_
    simp[a2]
   ·show(List.findIdx? (·.1) ((false,_)::assignEach es X.env))=none
    rw[List.findIdx?_cons]
    simp[a3]
  ·cases h
def u9(O:jz C X c):X.N.Nodup:=by rw[O.N];exact O.nd
def Jx(O:jz C X c)(T:Top C X W c){e:Expr}(h:Jy C e=some tg):GG X tg e:=by
 cases e<;>simp only[Jy]at h<;>try (cases h;done)
 ·rename_i x q
  split at h
  ·rename_i hl
   simp only[QJz]at h
   obtain⟨i,h1,rfl⟩:=h
   exact w6 (u9 O) (by rw[O.N];exact jf h1) (rT O hl) (.inl (T.fn x))
  ·cases h
 ·simp only[QJz]at h
  obtain⟨is,h1,rfl⟩:=h
  obtain⟨a1,a2,a3⟩:=qU O T h1
  exact Cj (u9 O) O.calm a1 a2 a3
theorem Il(O:jz C X c)(T:Top C X W c){scope:Scope}{tg:Tg}{it cond elt:E}{ifs:List Expr}{i:Nat}(B:Ab X c scope η tg cond elt Ξ Δ ifs)(hi:GI X W c it Ξ ο)(gp:plain ο=true)
  (ge:GE X W c (.comp η.length tg it cond elt) (.ListComp Δ [⟨Ξ,ο,ifs,0⟩] scope cp))(hN:X.N[i]? =some x)(hl:HH C.sc x=true):
  GS X W c (.set i (.comp η.length tg it cond elt)) (.Assign [.Name x np] (.ListComp Δ [⟨Ξ,ο,ifs,0⟩] scope cp) sp):=by
 have key:∃b:Bool,swapsWith (.ListComp Δ [⟨Ξ,ο,ifs,0⟩] scope cp) (some (.Name x np)) sp.line X.env=pure b:=⟨_,rfl⟩
 obtain⟨b,hb⟩:=key
 cases b with
 |false=>exact Mz ge (u9 O) hN (rT O hl) (.inl (T.fn x)) hb
 |true=>exact Ci B hi O.calm (fun x=>xf gp _ _) (u9 O) hN (rT O hl) (.inl (T.fn x)) hb
structure IhS(c:Cf)(n:Nat):Prop where
 s:∀C X W st m,jz C X c->Top C X W c->TQ n C st=some m->GS X W c m st
 ss:∀C X W st m,jz C X c->Top C X W c->qN n C st=some m->Pr X W c m st
def afK c:IhS c 0:=by
 constructor
 all_goals (intros;rename_i h;first|(rw[TQ]at h;cases h)|(rw[qN]at h;cases h))
def Qd(I:IhS c n)(O:jz C X c)(T:Top C X W c){m:S}(h:qN (n+1) C st=some m):Pr X W c m st:=by
 cases st with
 |nil=>rw[qN]at h;cases h;exact RQ
 |cons s st=>
  rw[qN]at h
  simp only[QJq,QJz]at h
  obtain⟨m1,h1,m2,h2,rfl⟩:=h
  exact Mw (I.s C X W s m1 O T h1) (I.ss C X W st m2 O T h2)
def V5(I:IhS c n)(O:jz C X c)(T:Top C X W c){st:Stmt}{m:S}(h0:TQ (n+1) C st=some m):GS X W c m st:=by
 have J:=ih c n
 have no:∀{P:Prop},(none:Option S)=some m->P:=fun z=>nomatch z
 have h:=h0
 unfold TQ at h
 split at h
 ·split at h
  ·cases h;exact RV
  ·simp only[QJz]at h
   obtain⟨m1,h1,rfl⟩:=h
   have s:=J.e C X _ m1 O h1
   exact X8 s.ge.w s.va
 ·split at h
  ·split at h
   ·rename_i e _ _ _ x _
    split at h
    ·rename_i hl
     simp only[QJq,QJz]at h
     obtain⟨i,h1,m1,h2,rfl⟩:=h
     have s:=J.e C X _ m1 O h2
     have hN:X.N[i]? =some x:=by rw[O.N];exact jf h1
     cases hc:oX e with
     |false=>exact Mz s.ge.w (u9 O) hN (rT O hl) (.inl (T.fn x)) (mW s.pl hc)
     |true=>
      cases e<;>simp[oX]at hc
      rename_i elt gens sc cp
      obtain⟨g,rfl,η,tg,it,cond,m',rfl,B,gi,gp,ha⟩:=Ss O h2
      obtain⟨ta,ti,tf,tn⟩:=g
      simp only at ha
      subst ha
      exact Il O T B gi.w gp s.ge.w hN hl
    ·exact no h
   ·split at h
    ·exact no h
    ·rename_i hx
     rw[Bool.not_eq_true,Bool.or_eq_false_iff]at hx
     simp only[QJq,QJz]at h
     obtain⟨is,h1,m1,h2,rfl⟩:=h
     have s:=J.e C X _ m1 O h2
     obtain⟨a1,a2,a3⟩:=qU O T h1
     exact RT s.ge.w (Cj (u9 O) O.calm a1 a2 a3) (by rw[Ec];exact mW s.pl hx.2) (Aw hx.1) rfl
   ·split at h
    ·split at h
     ·exact no h
     ·rename_i hx
      rw[Bool.not_eq_true,Bool.or_eq_false_iff]at hx
      simp only[QJq]at h
      obtain⟨v,h1,h⟩:=h
      split at h
      ·simp only[QJq,QJz]at h
       obtain⟨i,h2,m1,h3,rfl⟩:=h
       have s1:=J.e C X _ i O h2
       have s:=J.e C X _ m1 O h3
       exact My (yZ O h1) s.ge.w s1.ge.w (fun v=>SQ hx.2) (by rw[Ec];exact mW s.pl hx.1) yu (by have:=O.hu;omega) rfl
      ·exact no h
    ·exact no h
   ·exact no h
  ·exact no h
 ·--an expression alone
  split at h
  ·have dflt:∀(e:Expr)(q:Pos),oX e=false->(dq n C e).map S.expr=some m->GS X W c m (.Expr e q):=fun e q hc z=>by
    simp only[QJz]at z
    obtain⟨m1,h1,rfl⟩:=z
    have s:=J.e C X _ m1 O h1
    exact RW s.ge.w (mW s.pl hc)
   split at h
   ·split at h
    ·split at h
     ·rename_i hx
      simp only[QUq,QUz]at hx
      obtain⟨hl,rfl⟩:=hx
      simp only[QJq]at h
      obtain⟨v,h1,h⟩:=h
      split at h
      ·simp only[QJz]at h
       obtain⟨m1,h2,rfl⟩:=h
       have s:=J.e C X _ m1 O h2
       exact Io ⟨rfl,hl,bB s.pl _ _⟩ (yZ O h1) s.ge.w
      ·exact no h
     ·split at h
      ·rename_i hx
       simp only[QUq,QUz]at hx
       obtain⟨hl,rfl⟩:=hx
       simp only[QJq]at h
       obtain⟨v,h1,h⟩:=h
       split at h
       ·simp only[QJz]at h
        obtain⟨m1,h2,rfl⟩:=h
        have s:=J.e C X _ m1 O h2
        exact Im ⟨rfl,hl,bB s.pl _ _⟩ (yZ O h1) s.ge.w
       ·exact no h
      ·exact dflt _ _ rfl h
    ·exact no h
   ·split at h
    ·rename_i hz
     exact T.cx _ _ _ _ _ _ _ J hz h
    ·exact dflt _ _ rfl h
  ·exact no h
 ·simp only[QJq,QJz]at h
  obtain⟨t,h1,a,h2,b,h3,rfl⟩:=h
  exact aca (J.e C X _ t O h1).gt.w (I.ss C X W _ a O T h2) (I.ss C X W _ b O T h3)
 ·split at h
  ·simp only[QJq,QJz]at h
   obtain⟨tg,h1,it,h2,b,h3,rfl⟩:=h
   obtain⟨gi,gp⟩:=J.i C X _ _ it O h2
   exact Yb T.po O.calm gi.w (Jx O T h1) (I.ss C X W _ b O T h3) (fun x=>xf gp _ _)
  ·exact no h
 ·split at h
  ·simp only[QJq,QJz]at h
   obtain⟨t,h1,b,h3,rfl⟩:=h
   exact Mx T.po (J.e C X _ t O h1).gt.w (I.ss C X W _ b O T h3)
  ·exact no h
 ·exact T.ra _ _ _ _ _ h0
 ·exact no h
end
def QG{e f:Option Expr}{n:Nat}(h:TQ (n+1) C (.Raise e f p)=some m):m=.raise (J7 C e f):=by
 unfold TQ at h
 cases h
 rfl
def aa2(hz:C.rz=[])f:rzB C f=false:=by
 cases f<;>first|rfl|(unfold rzB;rw[hz];rfl)
def Top.plain{X:Cx}(hf:∀x,X.fn x=true)(hp:PassesOwn (model X.prog X.w) X.A X.env X.xe)(hz:C.rz=[]):Top C X W0 c:=
 ⟨hf,hp,fun e f p n m h=>by rw[QG h];exact MF,fun f _ _ _ _ _ _ _ z=>by rw[aa2 hz f]at z;cases z⟩
theorem ihS c:∀n,IhS c n
 |0=>afK c
 |n+1=>let I:=ihS c n
  ⟨fun C X W st m O T h=>V5 I O T h,fun C X W st m O T h=>Qd I O T h⟩
structure Df where
 x:Str
 st:Stmt
 N:List Str
 ps:List Str
 fl:List Bool
 exs:List Str:=[]
 rz:List Str:=[]
def ad1(ds:List Df):List (Str×List Bool):=ds.map fun d=>(d.x,d.fl)
noncomputable def acn(ds:List Df)(nU:List Str)(d:Df):Ct:={N:=d.N,sc:=aY d.st,fns:=ad1 ds,nU:=nU,exs:=d.exs}
noncomputable def fnOf(ds:List Df)(nU:List Str)(d:Df):Option Fn:=(qN 60 (acn ds nU d) (eG d.st)).map fun b=>{pars:=d.ps.length,names:=d.N.length,body:=b}
structure vZ(K:QQq)(mg:QZz)(d:Df)(f:Addr)(fd:FuncData):Prop where
 fu:Y5 K d.x d.x d.st f fd
 bi:Binds K fd d.ps []
 at_:mg d.x=some (.ref f)
section
variable{P:Program}{w:World}{base:Heap}{p:Pg}{fa:Nat->Addr}{fd:Nat->FuncData}
theorem Eo(hfn:∀i d,ds[i]? =some d->vZ K mg d (fa i) (fd i))(hsc:∀d∈ds,lJ d.N d.ps (aY d.st))(htr:∀(i:Nat)d,ds[i]? =some d->∃g,p.fns[i]? =some g/\fnOf ds nU d=some g)
  (hbi:∀x∈nO,mg x=none)(hgl:∀(k:Nat)x,nU[k]? =some x->∃d v u,p.gl k=some d/\mg x=some u/\RelV v u/\∀H,bJ K H d v):
  ∀(n i:Nat)d,ds[i]? =some d->pH P w K mg base Pb n (fa i) (fd i) d.ps (wj K d.ps.length (p.fn n i))
 |0,i,d,e=>by
  have no:∀vs H Q E,¬wj K d.ps.length (p.fn 0 i) vs H Q E:=fun vs H Q E h=>by
   obtain⟨_,_,_,_,z⟩:=h
   exact z
  exact⟨fun vs H Q E h=>absurd h (no vs H Q E),fun A outer s H args us vs Q E _ _ _ _ h=>absurd h (no vs H Q E)⟩
 |n+1,i,d,e=>by
  have IH:=Eo hfn hsc htr hbi hgl n
  have D:=hfn i d e
  obtain⟨g,hg,ht⟩:=htr i d e
  unfold fnOf at ht
  simp only[QJz]at ht
  obtain⟨b,hb,rfl⟩:=ht
  have S:=hsc d (QBz e)
  have hp:p.fn (n+1) i=iC (p.cf n) {pars:=d.ps.length,names:=d.N.length,body:=b}:=by
   funext sl
   show(match p.fns[i]? with|some g=>iC (p.cf n) g sl|none=>p.pf (p.cf n) i sl)=_
   rw[hg]
  rw[hp]
  refine R8 D.fu S rfl rfl fun cdv A outer s H E hr=>?_
  refine(ihS (p.cf n) 60).ss (acn ds nU d) _ W0 _ b ⟨rfl,rfl,S.nd,rfl,?_,hbi,fun k x hk=>?_,fun g x fl hk=>?_⟩ (.plain (fun _=>rfl) PassesOwn.never rfl) hb
  ·have:=hr.un
   show(A.deeper _).units+60<cLine
   omega
  ·obtain⟨dd,v,u,h1,h2,h3,h4⟩:=hgl k x hk
   exact⟨dd,h1,v,u,h2,h3,h4⟩
  ·have hk':(ds.map fun d=>(d.x,d.fl))[g]? =some (x,fl):=hk
   rw[QFz]at hk'
   cases q:ds[g]? with
   |none=>rw[q]at hk';cases hk'
   |some d2=>
    rw[q]at hk'
    simp at hk'
    obtain⟨rfl,rfl⟩:=hk'
    have D2:=hfn g d2 q
    refine⟨n,fa g,fd g,d2.ps,IH g d2 q,hr,D2.at_,D2.fu.kp,D2.bi,fun sl=>?_⟩
    show p.fn n g sl=.bad\/_
    cases n with
    |zero=>exact .inl rfl
    |succ n=>
     obtain⟨g2,hg2,ht2⟩:=htr g d2 q
     unfold fnOf at ht2
     simp only[QJz]at ht2
     obtain⟨b2,hb2,rfl⟩:=ht2
     have:p.fn (n+1) g sl=iC (p.cf n) {pars:=d2.ps.length,names:=d2.N.length,body:=b2} sl:=by
      show(match p.fns[g]? with|some g=>iC (p.cf n) g sl|none=>p.pf (p.cf n) g sl)=_
      rw[hg2]
     rw[this]
     exact Hc (p.cf n) _ sl
end
theorem We{K:QQq}{H:Hp}{ns:List Int}(hO:Only H)(hS:jA K H a (ns.map V.int))(hf:∃qs,f [.val (.lst (ns.map D.int))]=.ok (.val (.bl true)) qs)E:
  wj K 1 f [.ref a] H (fun v _=>v=.bl true) E:=by
 have den:bJ K H (.lst (ns.map D.int)) (.ref a):=by
  have fr:O5 K H a (ns.map V.int):=by
   rcases hS with (h|⟨o,h⟩)|h
   ·rcases hO a with z|⟨o,xs,z⟩
    ·rw[z]at h;cases h
    ·rw[z]at h;cases h
   ·exact .inl ⟨o,h⟩
   ·exact .inr h
  have l:∀(ns:List Int),aq K H (ns.map D.int) (ns.map V.int):=fun ns=>by
   induction ns with
   |nil=>exact aq.eQ
   |cons i r ih=>exact aq.cV rfl ih
  exact⟨a,_,rfl,fr,l ns⟩
 obtain⟨qs,hf⟩:=hf
 refine⟨[.val (.lst (ns.map D.int))],rfl,⟨rfl,fun i s e=>?_,fun i j b h1=>?_⟩,fun i o e=>?_,?_⟩
 ·cases i with
  |zero=>simp at e;subst e;exact⟨.ref a,rfl,den⟩
  |succ i=>simp at e
 ·obtain⟨⟨s,o,e1,e2⟩,_⟩:=h1
  cases i with
  |zero=>simp at e1;subst e1;cases e2
  |succ i=>simp at e1
 ·cases i with
  |zero=>simp at e
  |succ i=>simp at e
 ·rw[hf]
  exact fun v H' _ z=>z
def W2(a:Arguments):List Str:=a.args.map (·.arg)
noncomputable def namesOf(st:Stmt):List Str:=W2 (eN st)++(((aY st).names.filter fun p=>(p.2== .local||p.2== .cell)&& !(W2 (eN st)).contains p.1).map (·.1))
noncomputable def bH(x:Str)(st:Stmt)(fl:List Bool):Df:={x:=x,st:=st,N:=namesOf st,ps:=W2 (eN st),fl:=fl}
noncomputable def JV(d:Df):Bool:=
 decide ((aY d.st).kind=.function)&& !(aY d.st).isCoroutine&& !(aY d.st).isGenerator&&decide d.N.Nodup&&decide (d.N.take d.ps.length=d.ps)
 &&(d.ps.all fun x=>(aY d.st).names.lookup x==some .local||(aY d.st).names.lookup x==some .cell)&&((aY d.st).names.all fun y=>y.2 != .free)
def Ql(h:JV d=true):lJ d.N d.ps (aY d.st):=by
 unfold JV at h
 simp only[QUq,QUz,Bool.not_eq_true',List.all_eq_true,Bool.or_eq_true,beq_iff_eq,bne_iff_ne,ne_eq]at h
 obtain⟨⟨⟨⟨⟨⟨h1,h2⟩,h3⟩,h4⟩,h5⟩,h6⟩,h7⟩:=h
 exact⟨h1,h2,h3,h4,h5,h6,h7⟩
noncomputable def vIs:Value->D->Bool
 |.none,.non=>true
 |.bool a,.bl b=>a==b
 |.int i _,.int j=>i==j
 |.str x _,.str y=>decide (x=y)
 |_,_=>false
noncomputable def GC:List Value->List D->Bool
 |[],[]=>true
 |u::us,d::ds=>vIs u d&&GC us ds
 |_,_=>false
noncomputable def Jv(o:Obj)(ds:List D):Bool:=o.cls== .type "tuple"&&o.dict.isNone&&match o.data with
 |.seq its _=>GC its.toList ds&&decide (its.size<=1000)
 |_=>false
def Tc(K:QQq)(mg:QZz)(x:Str)(d:D):Prop:=∃v u,mg x=some u/\RelV v u/\∀H,bJ K H d v
def Js{u:Value}(h:vIs u d=true):∃v,RelV v u/\∀H,bJ K H d v:=by
 cases u<;>cases d<;>simp[vIs]at h
 ·exact⟨.non,rfl,fun H=>rfl⟩
 ·subst h;exact⟨.bl _,rfl,fun H=>rfl⟩
 ·subst h;exact⟨.int _,⟨_,rfl⟩,fun H=>rfl⟩
 ·subst h;exact⟨.str _,⟨_,rfl⟩,fun H=>rfl⟩
theorem DQ:∀{us:List Value}{ds:List D},GC us ds=true->∃vs,Vals vs us/\∀H,aq K H ds vs
 |[],[]=>fun _=>⟨[],.nil,fun H=>aq.eQ⟩
 |u::us,d::ds=>fun h=>by
  unfold GC at h
  rw[QUq]at h
  obtain⟨v,r,e⟩:=Js h.1
  obtain⟨vs,rs,es⟩:=DQ h.2
  exact⟨v::vs,.cons r rs,fun H=>aq.cV (e H) (es H)⟩
 |[],_::_=>fun h=>by simp[GC]at h
 |_::_,[]=>fun h=>by simp[GC]at h
section
def Yc(X:K.In h)(G:h.Ns mainGlobals mg)(e:PySem.W.nsIn K mainGlobals x=some (some u))(hv:vIs u d=true):Tc K mg x d:=by
 obtain⟨v,r,q⟩:=Js hv
 exact⟨v,u,PySem.W.mg_of X G e,r,q⟩
def Yd(X:K.In h)(G:h.Ns mainGlobals mg)(e:PySem.W.nsIn K mainGlobals x=some (some (.ref a)))(l:K.lookup a=some o)(hv:Jv o ds=true):Tc K mg x (.tup ds):=by
 unfold Jv at hv
 simp only[QUq,beq_iff_eq,Option.isNone_iff_eq_none]at hv
 obtain⟨⟨hc,hd⟩,hv⟩:=hv
 split at hv
 ·rename_i its n hs
  rw[QUq,QUz]at hv
  obtain⟨vs,r,q⟩:=DQ hv.1
  exact⟨.ref a,_,PySem.W.mg_of X G e,rfl,fun H=>dD (.inr ⟨o,its,n,l,hc,hd,hs,Nat.le_of_lt (G8 hv.2),r⟩) (q H)⟩
 ·cases hv
end
noncomputable def Ad(K:QQq)(mg:QZz):List Df->List (Addr×FuncData)->Prop
 |[],[]=>True
 |d::ds,(f,fd)::r=>vZ K mg d f fd/\Ad K mg ds r
 |_,_=>False
theorem Ad.at{K:QQq}{mg:QZz}:∀{ds:List Df}{fs:List (Addr×FuncData)},Ad K mg ds fs->∀(i:Nat)d,ds[i]? =some d->∃q,fs[i]? =some q/\vZ K mg d q.1 q.2
 |[],_,_,i=>fun d e=>by simp at e
 |_::_,[],h,_=>fun _ _=>h.elim
 |d::ds,(f,fd)::r,h,0=>fun d' e=>by cases e;exact⟨(f,fd),rfl,h.1⟩
 |d::ds,_::r,h,i+1=>fun d' e=>h.2.at i d' e
noncomputable def Ac(K:QQq)(mg:QZz):List Str->List D->Prop
 |[],[]=>True
 |x::xs,d::ds=>Tc K mg x d/\Ac K mg xs ds
 |_,_=>False
theorem Ac.at{K:QQq}{mg:QZz}:∀{xs:List Str}{ds:List D},Ac K mg xs ds->∀(k:Nat)x,xs[k]? =some x->∃d,ds[k]? =some d/\Tc K mg x d
 |[],_,_,k=>fun x e=>by simp at e
 |_::_,[],h,_=>fun _ _=>h.elim
 |x::xs,d::ds,h,0=>fun x' e=>by cases e;exact⟨d,rfl,h.1⟩
 |x::xs,d::ds,h,k+1=>fun x' e=>h.2.at k x' e
noncomputable def KH(ds:List Df)(nU:List Str)(vals:List D)(turns:Nat):Pg:=
 {fns:=ds.map fun d=>(fnOf ds nU d).getD {pars:=0,names:=0,body:=.nil},gl:=fun k=>vals[k]?,turns:=turns}
def P0{w:World}{mg:QZz}{ds:List Df}{vals:List D}{fs:List (Addr×FuncData)}(hD:Ad K mg ds fs)(hG:Ac K mg nU vals)
  (hS:ds.all JV=true)(hT:ds.all (fun d=>(fnOf ds nU d).isSome)=true)(hB:∀x∈nO,mg x=none)n i d f fd(hd:ds[i]? =some d)(hf:fs[i]? =some (f,fd)):
  pH P w K mg base Pb n f fd d.ps (wj K d.ps.length ((KH ds nU vals turns).fn n i)):=by
 have z1:∀(i:Nat)d,ds[i]? =some d->vZ K mg d (((fs[i]?).map (·.1)).getD 0) (((fs[i]?).map (·.2)).getD fd):=fun i d e=>by
  obtain⟨q,e1,e2⟩:=hD.at i d e
  simp only[e1,Option.map_some,Option.getD_some]
  exact e2
 have z2:∀i d,ds[i]? =some d->∃g,(KH ds nU vals turns).fns[i]? =some g/\fnOf ds nU d=some g:=fun i d e=>by
  have hs:=List.all_eq_true.mp hT d (QBz e)
  obtain⟨g,hg⟩:=Option.isSome_iff_exists.mp hs
  refine⟨g,?_,hg⟩
  show(ds.map fun d=>(fnOf ds nU d).getD {pars:=0,names:=0,body:=.nil})[i]? =some g
  rw[QFz,e]
  simp[hg]
 have z3:∀k x,nU[k]? =some x->∃d v u,(KH ds nU vals turns).gl k=some d/\mg x=some u/\RelV v u/\∀H,bJ K H d v:=fun k x e=>by
  obtain⟨dd,e1,v,u,z1,z2,z3⟩:=hG.at k x e
  exact⟨dd,v,u,e1,z1,z2,z3⟩
 have Z:=Eo (P:=P) (w:=w) (base:=base)
  z1 (fun d hd=>Ql (List.all_eq_true.mp hS d hd)) z2 hB z3 n i d hd
 simp only[hf,Option.map_some,Option.getD_some]at Z
 exact Z
def O6(K:QQq)(x:Str)(st:Stmt):Prop:=∃(f:Addr)(od an:Option Addr)(sl:Array (Option Value))(oc kV dc pm cd ct:Value),
 PySem.W.nsIn K mainGlobals x=some (some (.ref f))/\K.lookup f=some ⟨oc,od,.func (PySem.W.fnOf x x (eN st) (eG st) (aY st) .none kV dc pm an cd ct),sl⟩/\PySem.W.codeIn K cd x=true/\PySem.W.keepIn K (.ref f)=true
def dIn{x:Str}{f:Addr}{od an:Option Addr}{oc kV dc pm cd ct:Value}(a:PySem.W.nsIn K mainGlobals x=some (some (.ref f)))
  (l:K.lookup f=some ⟨oc,od,.func (PySem.W.fnOf x x (eN st) (eG st) (aY st) .none kV dc pm an cd ct),sl⟩)(c:PySem.W.codeIn K cd x=true)(p:PySem.W.keepIn K (.ref f)=true):O6 K x st:=⟨f,od,an,sl,oc,kV,dc,pm,cd,ct,a,l,c,p⟩
def AllIn(K:QQq):List (Str×Stmt)->Prop
 |[]=>True
 |(x,s)::r=>O6 K x s/\AllIn K r
def Bd(d:Df):Prop:=∀(kV dc pm:Value)(an:Option Addr)(cd ct:Value)(us:List Value),us.length=d.ps.length->bindArgs (PySem.W.fnOf d.x d.x (eN d.st) (eG d.st) (aY d.st) .none kV dc pm an cd ct) ⟨us,[]⟩=pure (d.ps.zip us)
def ut{us:List Value}(h:us.length=1):∃a,us=[a]:=List.length_eq_one_iff.mp h
def RB{us:List Value}(h:us.length=n+1):∃a r,us=a::r/\r.length=n:=by
 cases us with
 |nil=>simp at h
 |cons a r=>exact⟨a,r,rfl,by simpa using h⟩
def jC{us:List Value}(h:us.length=2):∃a b,us=[a,b]:=by
 obtain⟨a,r,rfl,h2⟩:=RB h;obtain⟨b,rfl⟩:=ut h2;exact⟨a,b,rfl⟩
def iH{us:List Value}(h:us.length=3):∃a b c,us=[a,b,c]:=by
 obtain⟨a,r,rfl,h2⟩:=RB h;obtain⟨b,c,rfl⟩:=jC h2;exact⟨a,b,c,rfl⟩
def qe{us:List Value}(h:us.length=4):∃a b c d,us=[a,b,c,d]:=by
 obtain⟨a,r,rfl,h2⟩:=RB h;obtain⟨b,c,d,rfl⟩:=iH h2;exact⟨a,b,c,d,rfl⟩
def abQ{us:List Value}(h:us.length=5):∃a b c d e,us=[a,b,c,d,e]:=by
 obtain⟨a,r,rfl,h2⟩:=RB h;obtain⟨b,c,d,e,rfl⟩:=qe h2;exact⟨a,b,c,d,e,rfl⟩
def Gy:List Df->Prop
 |[]=>True
 |d::r=>Bd d/\Gy r
inductive Y4(K:QQq)(x:Str):D->Prop
 |v {u:Value} {d:D}:PySem.W.nsIn K mainGlobals x=some (some u)->vIs u d=true->Y4 K x d
 |t {a:Addr} {o:Obj} {ds:List D}:PySem.W.nsIn K mainGlobals x=some (some (.ref a))->K.lookup a=some o->Jv o ds=true->Y4 K x (.tup ds)
noncomputable def xX(K:QQq):List Str->List D->Prop
 |[],[]=>True
 |x::xs,d::ds=>Y4 K x d/\xX K xs ds
 |_,_=>False
noncomputable def Ph(K:QQq):List Str->Prop
 |[]=>True
 |x::r=>PySem.W.nsIn K mainGlobals x=some none/\Ph K r
section
theorem Oo(X:K.In h)(G:h.Ns mainGlobals mg):∀(ds:List Df),Gy ds->AllIn K (ds.map fun d=>(d.x,d.st))->
  ∃fs,Ad K mg ds fs/\∀(i:Nat)d,ds[i]? =some d->∃q,fs[i]? =some q/\vZ K mg d q.1 q.2/\∀(s:Shared)(us:List Value),us.length=d.ps.length->BindsTo s q.2 ⟨us,[]⟩ (d.ps.zip us)
 |[],_,_=>⟨[],trivial,fun i d e=>by simp at e⟩
 |d::ds,⟨b,bs⟩,⟨⟨f,od,an,sl,oc,kV,dc,pm,cd,ct,a,l,c,p⟩,is⟩=>by
  obtain⟨fs,A,B⟩:=Oo X G ds bs is
  have F:=Yw l c p
  have D:vZ K mg d f _:=⟨F,F.binds b,PySem.W.mg_of X G a⟩
  refine⟨(f,_)::fs,⟨D,A⟩,fun i e he=>?_⟩
  cases i with
  |zero=>cases he;exact⟨_,rfl,D,fun s us hl=>.of_eq (b kV dc pm an cd ct us hl)⟩
  |succ i=>exact B i e he
theorem Om(X:K.In h)(G:h.Ns mainGlobals mg):∀(xs:List Str)(ds:List D),xX K xs ds->Ac K mg xs ds
 |[],[],_=>trivial
 |_::xs,_::ds,⟨g,r⟩=>⟨by cases g with
  |v e hv=>exact Yc X G e hv
  |t e l hv=>exact Yd X G e l hv,Om X G xs ds r⟩
 |[],_::_,h=>h.elim
 |_::_,[],h=>h.elim
theorem Ol(X:K.In h)(G:h.Ns mainGlobals mg):∀(xs:List Str),Ph K xs->∀x∈xs,mg x=none
 |[],_=>fun x hx=>by cases hx
 |_::r,⟨e,es⟩=>fun x hx=>by
  rcases QCq.mp hx with rfl|hx
  ·exact PySem.W.mg_none_of X G e
  ·exact Ol X G r es x hx
def S5{l:PySem.W.OpenLaw}{fa:Addr}{ds:List Df}{vals:List D}{dL:Df}(X:K.In h)(G:h.Ns mainGlobals mg)(hfa:mg "law"=some (.ref fa))(hx:dL.x="law")(hy:dL.ps=[y])(hL:ds[L]? =some dL)(b:Gy ds)
  (scp:ds.all JV=true)(nT:ds.all (fun d=>(fnOf ds nU d).isSome)=true)(A:AllIn K (ds.map fun d=>(d.x,d.st)))(B:xX K nU vals)(Z:Ph K nO):
  ∃fd:FuncData,(∀(s:Shared)(v:Value),BindsTo s fd ⟨[v],[]⟩ [(y,v)])/\∀base:Heap,K.In base->base.Ns mainGlobals mg->pH l.prog w K mg base Pb n fa fd [y] (wj K 1 ((KH ds nU vals 1000).fn n L)):=by
 obtain⟨fs,A,C⟩:=Oo X G ds b A
 obtain⟨q,e1,e2,e3⟩:=C L dL hL
 have e:=hfa.symm.trans (hx▸e2.at_)
 cases e
 refine⟨q.2,fun s v=>?_,fun base _ _=>?_⟩
 ·have:=e3 s [v] (by rw[hy];rfl)
  rw[hy]at this
  exact this
 ·have:=P0 (P:=l.prog) (w:=w) (base:=base) (turns:=1000) A (Om X G nU vals B) scp nT (Ol X G _ Z) n L dL q.1 q.2 hL e1
  rw[hy]at this
  exact this
end
def Jm{l:PySem.W.OpenLaw}{loose:List Str}{YP:World->Heap->Prop}{K:Params->QQq}{p:Pg}{L:Nat}(hn:l.most=some 63)(hdf:d.params.defaults=[])
  (hY:∀(w:World)(h:Heap),YP w h->(K w.params).In h)(math:∀ns:List Int,ns.length<=63->∃qs,p.fn 60 L [.val (.lst (ns.map D.int))]=.ok (.val (.bl true)) qs)
  (F:∀(w:World)(mg:QZz)(fa:Addr)(h:Heap),(K w.params).In h->h.Ns mainGlobals mg->mg d.name=some (.ref fa)->
   ∃fd:FuncData,(∀(s:Shared)(u:Value),BindsTo s fd ⟨[u],[]⟩ [(y,u)])/\∀base:Heap,(K w.params).In base->base.Ns mainGlobals mg->pH l.prog w (K w.params) mg base Pb 60 fa fd [y] (wj (K w.params) 1 (p.fn 60 L))):
  PySem.W.WalkO q loose XP YP l.row.toRowW d [] (fun f vs=>PySem.call f vs):=
 L2.Pu hn (by decide) hdf ⟨rfl,by decide,by decide⟩ hY F (fun _ _ a ns hl hO hS=>We hO hS (math ns hl) _) fun _ _ _ _ _ z=>z
section
@[simp]theorem adv{f:α->Ev->Out β}:(Out.ok a σ).bind f=f a σ:=rfl
@[simp]theorem acv{f:α->Ev->Out β}:(Out.exc k σ).bind f=.exc k σ:=rfl
@[simp]theorem acw{f:α->Ev->Out β}:(Out.bad:Out α).bind f=.bad:=rfl
@[simp]theorem bK{f:D->Ev->Out β}:(Out.ok (.val d) σ).au f=f d σ:=rfl
@[simp]theorem gj{f:D->Ev->Out β}:(Out.ok (.new o) σ).au f=f o.d σ:=rfl
@[simp]theorem ZX{f:D->Ev->Out β}:(Out.exc k σ).au f=.exc k σ:=rfl
@[simp]theorem ZZ{f:D->Ev->Out β}:(Out.bad).au f=.bad:=rfl
@[simp]theorem cW{f:Bool->Ev->Out β}:(Out.ok (.val (.bl b)) σ).cu gY f=f b σ:=rfl
@[simp]theorem ZS{f:Bool->Ev->Out β}:(Out.ok (.val (.int i)) σ).cu gY f=f (i !=0) σ:=rfl
@[simp]theorem ZQ{f:Bool->Ev->Out β}:(Out.ok (.val (.tup xs)) σ).cu gY f=f (!xs.isEmpty) σ:=rfl
@[simp]theorem ZR{f:Bool->Ev->Out β}:(Out.ok (.val (.lst xs)) σ).cu gY f=f (!xs.isEmpty) σ:=rfl
@[simp]theorem ZV{f:Bool->Ev->Out β}:(Out.exc k σ).cu gY f=.exc k σ:=rfl
@[simp]theorem ZW{f:Bool->Ev->Out β}:(Out.bad).cu gY f=.bad:=rfl
@[simp]theorem agK{a:α}:(Out.ok a σ).fl f=f a σ:=rfl
@[simp]theorem afT:(Out.exc k σ:Out α).fl f=.exc k σ:=rfl
@[simp]theorem afU:(Out.bad:Out α).fl f=.bad:=rfl
@[simp]theorem adg:(Out.ok (.val d) σ).nW f=f d σ:=rfl
@[simp]theorem adh:(Out.ok (.new o) σ).nW f=f o.d σ:=rfl
@[simp]theorem adi:(Out.exc k σ).nW f=.exc k σ:=rfl
@[simp]theorem adk:(Out.bad).nW f=.bad:=rfl
@[simp]theorem afV:(Out.ok (.val (.bl b)) σ).Ag f=f b σ:=rfl
@[simp]theorem ade:(Out.exc k σ).Ag f=.exc k σ:=rfl
@[simp]theorem adf:(Out.bad).Ag f=.bad:=rfl
@[simp]theorem vg{a:α}:Mini.lift σ (some a)=.ok a σ:=rfl
@[simp]theorem Zy:Mini.lift σ (none:Option α)=.bad:=rfl
@[simp]theorem aaZ:(Fl.next σ).seq f=f σ:=rfl
@[simp]theorem acY{f:Ev->Fl}:(Fl.ret r σ).seq f=.ret r σ:=rfl
@[simp]theorem acZ:(Fl.exc k σ).seq f=.exc k σ:=rfl
@[simp]theorem ac0:(Fl.brk σ).seq f=.brk σ:=rfl
@[simp]theorem aa0:(Fl.cont σ).seq f=.cont σ:=rfl
@[simp]theorem ac1:(Fl.bad).seq f=.bad:=rfl
@[simp]theorem nZ:(Fl.next σ).turn f=f σ:=rfl
@[simp]theorem Zk:(Fl.cont σ).turn f=f σ:=rfl
@[simp]theorem aav:(Fl.brk σ).turn f=.next σ:=rfl
@[simp]theorem aat{f:Ev->Fl}:(Fl.ret r σ).turn f=.ret r σ:=rfl
@[simp]theorem aau:(Fl.exc k σ).turn f=.exc k σ:=rfl
@[simp]theorem aaw:(Fl.bad).turn f=.bad:=rfl
@[simp]theorem aa3:ul (.val d) σ=.ret (.val d) σ:=rfl
@[simp]theorem aa4:ul (.new o) σ=.ret (.new o) σ:=rfl
@[simp]theorem abI:yV (some τ)=.next τ:=rfl
@[simp]theorem abJ:yV none=.bad:=rfl
@[simp]theorem acE:argv (.val d)=.val d:=rfl
@[simp]theorem acG:argv (.new o)=.val o.d:=rfl
@[simp]theorem acF:argv (.ref k)=.ref k:=rfl
@[simp]theorem aaT:Rv.Ba (.val d)=some (.val d):=rfl
@[simp]theorem aaU:Rv.Ba (.new o)=some (.own o):=rfl
@[simp]theorem adq:Rv.jj (.val d)=some d:=rfl
@[simp]theorem adt:Rv.jj (.new o)=some o.d:=rfl
@[simp]theorem Ve:Ob.d (.lst xs)=.lst xs:=rfl
@[simp]theorem ahe:Ob.d (.dct xs ys)=.cG xs ys:=rfl
@[simp]theorem ac6:HQ (.tup xs)=some xs.length:=rfl
@[simp]theorem ac7:HQ (.lst xs)=some xs.length:=rfl
@[simp]theorem ady:b1 .len (.tup xs)=some (.val (.int xs.length)):=rfl
@[simp]theorem adA:b1 .len (.lst xs)=some (.val (.int xs.length)):=rfl
@[simp]theorem adB:b1 .int (.int i)=some (.val (.int i)):=rfl
@[simp]theorem adC:b1 .int (.bl b)=some (.val (.int (b2i b))):=rfl
@[simp]theorem acx:b1 .tuple d=(bu d).bind fun xs=>some (.val (.tup xs)):=rfl
@[simp]theorem adx:b1 .list d=(JS d).bind fun xs=>some (.new (.lst xs)):=rfl
@[simp]theorem ad2 xs:JS (.tup xs)=some xs:=rfl
@[simp]theorem ad4 xs:JS (.lst xs)=some xs:=rfl
@[simp]theorem ad3 ks vs:JS (.fQ ks vs)=some ks:=rfl
@[simp]theorem Dr:b1 .all d=(bu d).bind fun xs=>(bools xs).map fun bs=>.val (.bl (bs.all id)):=rfl
@[simp]theorem agg:b1 .any d=(bu d).bind fun xs=>(bools xs).map fun bs=>.val (.bl (bs.any id)):=rfl
@[simp]theorem SM:b1 .dict d=(bu d).bind fun xs=>((dictOf [] [] xs).map fun p=>Rv.new (.dct p.1 p.2)).or ((iK [] [] xs).map fun p=>.new (.sdt p.1 p.2)):=rfl
@[simp]theorem Z1:b1 .sorted d=(iG d).bind fun xs=>(pL xs).map fun ys=>.new (.lst ys):=rfl
@[simp]theorem Zq:bu (.tup xs)=some xs:=rfl
@[simp]theorem uM:bu (.lst xs)=some xs:=rfl
@[simp]theorem Zw:iG (.lst xs)=some xs:=rfl
@[simp]theorem adb:getD (.tup xs) (.int i)=at? xs i:=rfl
@[simp]theorem adc:getD (.lst xs) (.int i)=at? xs i:=rfl
@[simp]theorem add_int:binop .add (.int i) (.int j)=some (.val (.int (i+j))):=rfl
@[simp]theorem sub_int:binop .sub (.int i) (.int j)=some (.val (.int (i-j))):=rfl
@[simp]theorem mul_int:binop .mul (.int i) (.int j)=if small i||small j then some (.val (.int (i*j)))else none:=rfl
@[simp]theorem mod_int:binop .mod (.int i) (.int j)=if 0<j then some (.val (.int (i%j)))else none:=rfl
@[simp]theorem lt_int:aJ .lt (.int i) (.int j)=some (decide (i<j)):=rfl
@[simp]theorem gt_int:aJ .gt (.int i) (.int j)=some (decide (j<i)):=rfl
@[simp]theorem le_int:aJ .le (.int i) (.int j)=some (decide (i<=j)):=rfl
@[simp]theorem ge_int:aJ .ge (.int i) (.int j)=some (decide (j<=i)):=rfl
@[simp]theorem agI:aJ .jx d .non=some (bf d):=rfl
@[simp]theorem ae0:aJ .notN d .non=some (!bf d):=rfl
@[simp]theorem ZD:bf (.tup xs)=false:=rfl
@[simp]theorem ZF:bf .non=true:=rfl
@[simp]theorem eq_int:aJ .eq (.int i) (.int j)=some (i==j):=rfl
@[simp]theorem ne_int:aJ .ne (.int i) (.int j)=some (!(i==j)):=rfl
@[simp]theorem ahd:aJ .eq (.bl b) (.bl c)=some (b==c):=rfl
@[simp]theorem agD:aJ .ne (.bl b) (.bl c)=some (!(b==c)):=rfl
@[simp]theorem eq_str:aJ .eq (.str x) (.str y)=some (decide (x=y)):=rfl
@[simp]theorem ne_str:aJ .ne (.str x) (.str y)=some (!decide (x=y)):=rfl
@[simp]theorem Z3:E.aB (.var k)=some k:=rfl
@[simp]theorem aac d:E.aB (.con d)=none:=rfl
@[simp]theorem YS k:E.aB (.glob k)=none:=rfl
@[simp]theorem Z4 a:E.aB (.tup a)=none:=rfl
@[simp]theorem Z8 a:E.aB (.lis a)=none:=rfl
@[simp]theorem acC o a b:E.aB (.op o a b)=none:=rfl
@[simp]theorem Z7 a:E.aB (.neg a)=none:=rfl
@[simp]theorem aad o a b:E.aB (.cmp o a b)=none:=rfl
@[simp]theorem Vk o p a b c:E.aB (.chain o p a b c)=none:=rfl
@[simp]theorem aae a:E.aB (.and a)=none:=rfl
@[simp]theorem acB a:E.aB (.or a)=none:=rfl
@[simp]theorem Z6 a:E.aB (.not a)=none:=rfl
@[simp]theorem Z9 a b c:E.aB (.ite a b c)=none:=rfl
@[simp]theorem aab a b:E.aB (.idx a b)=none:=rfl
@[simp]theorem Z5 a b c:E.aB (.slc a b c)=none:=rfl
@[simp]theorem YT f a:E.aB (.call f a)=none:=rfl
@[simp]theorem acD b a:E.aB (.bi b a)=none:=rfl
@[simp]theorem aaa a t:E.aB (.isi a t)=none:=rfl
@[simp]theorem Z2 a b:E.aB (.zip a b)=none:=rfl
@[simp]theorem SX a:E.aB (.range1 a)=none:=rfl
@[simp]theorem Vj a b:E.aB (.count a b)=none:=rfl
@[simp]theorem Vi i a:E.aB (.popAt i a)=none:=rfl
@[simp]theorem tY n tg a b c:E.aB (.comp n tg a b c)=none:=rfl
@[simp]theorem acA a:E.aB (.rd a)=none:=rfl
def iw xs(j:Nat)(h:j<xs.length):at? xs (j:Int)=xs[j]? :=by
 unfold at? ix?
 rw[if_neg (by omega:¬(j:Int)<0),if_pos ⟨by omega,by omega⟩]
 simp
@[simp]theorem at0:at? (a::xs) 0=some a:=(iw _ 0 (by simp)).trans rfl
@[simp]theorem at1{a b:D}:at? (a::b::xs) 1=some b:=(iw _ 1 (by simp)).trans rfl
@[simp]theorem at2{a b c:D}:at? (a::b::c::xs) 2=some c:=(iw _ 2 (by simp)).trans rfl
@[simp]theorem at3{a b c e:D}:at? (a::b::c::e::xs) 3=some e:=(iw _ 3 (by simp)).trans rfl
end
@[simp]theorem adz{ks vs:List D}:b1 .len (.fQ ks vs)=some (.val (.int ks.length)):=rfl
def aF(bs:List Bool):D:=.tup (bs.map .bl)
noncomputable def dN:Nat->List (List Bool)
 |0=>[[]]
 |k+1=>(dN k).map (· ++[false])++(dN k).map (· ++[true])
noncomputable def masks:Nat->List (List Bool)
 |0=>[[]]
 |k+1=>(masks k).map (false:: ·)++(masks k).map (true:: ·)
theorem vf:∀(bs:List Bool),bs∈masks bs.length
 |[]=>by simp[masks]
 |b::bs=>by
  have:=vf bs
  cases b<;>simp[masks,this]
noncomputable def m8{α:Type}:List Bool->List α->List α
 |b::bs,x::xs=>if b then x::m8 bs xs else m8 bs xs
 |_,_=>[]
def zF:List (List Bool)->Bool
 |a::b::r=>lK a b&&zF (b::r)
 |_=>true
noncomputable def qQ(k:Nat)(bs:List Bool):Bool:=match pL (m8 bs ((dN k).map aF))with
 |some ws=>if ws.isEmpty then true else match ju ws with
  |some rs=>(rs.all fun r=>r.length==k)&&zF rs
  |none=>false
 |none=>false
def aaS:(masks 2).all (qQ 1)=true:=by decide+kernel
def aaR:(masks 4).all (qQ 2)=true:=by decide+kernel
def aaQ:(masks 8).all (qQ 3)=true:=by decide+kernel
theorem vQ:∀{ys:List D}{bs:List Bool},bools ys=some bs->ys=bs.map .bl
 |[],bs,e=>by cases e;rfl
 |y::ys,bs,e=>by
  cases y with
  |bl b=>
   simp only[bools]at e
   cases q:bools ys with
   |none=>rw[q]at e;cases e
   |some r=>rw[q]at e;cases e;rw[vQ q];rfl
  |_=>cases e
theorem uP:∀{xs:List D}{rs:List (List Bool)},ju xs=some rs->xs=rs.map aF
 |[],rs,e=>by cases e;rfl
 |y::ys,rs,e=>by
  cases y with
  |tup zs=>
   simp only[ju]at e
   cases q:bools zs with
   |none=>rw[q]at e;cases e
   |some bs=>
    cases bs with
    |nil=>rw[q]at e;cases e
    |cons b bs=>
     rw[q]at e
     cases q2:ju ys with
     |none=>rw[q2]at e;cases e
     |some rs'=>
      rw[q2]at e
      cases e
      rw[uP q2,vQ q]
      rfl
  |_=>cases e
theorem oG:∀k,(dN k).length=2 ^k
 |0=>rfl
 |k+1=>by simp[dN,oG k];omega
def G6 k(h1:1<=k)(h3:k<=3)bs(hl:bs.length=2 ^k):∃rs,pL (m8 bs ((dN k).map aF))=some (rs.map aF)/\(∀r∈rs,r.length=k)/\zF rs=true:=by
 have ok:qQ k bs=true:=by
  have hm:=vf bs
  rw[hl]at hm
  rcases (by omega:k=1\/k=2\/k=3)with rfl|rfl|rfl
  ·exact List.all_eq_true.mp aaS bs hm
  ·exact List.all_eq_true.mp aaR bs hm
  ·exact List.all_eq_true.mp aaQ bs hm
 unfold qQ at ok
 cases q:pL _ with
 |none=>rw[q]at ok;cases ok
 |some ws=>
  rw[q]at ok
  simp only at ok
  split at ok
  ·rename_i he
   have:ws=[]:=by simpa using he
   subst this
   exact⟨[],rfl,fun r h=>(by cases h),rfl⟩
  ·cases q2:ju ws with
   |none=>rw[q2]at ok;cases ok
   |some rs=>
    rw[q2]at ok
    simp only[QUq,List.all_eq_true,beq_iff_eq]at ok
    exact⟨rs,by rw[uP q2],ok.1,ok.2⟩
theorem filter_tt{α:Type}:∀(xs:List α),xs.filter (fun _=>true)=xs
 |[]=>rfl
 |x::xs=>by rw[List.filter_cons_of_pos rfl,filter_tt xs]
def bL(s:Sl):Prop:=s=.un\/∃d,s=.val d
def kj(h:bL s)d(r:Ev):bD (.name 0) d (s::r)=some (.val d::r):=by
 rcases h with rfl|⟨e,rfl⟩<;>rfl
def uL(h:bL s)(h':bL t)a b(r:Ev):bD (.tup [0,1]) (.tup [a,b]) (s::t::r)=some (.val a:: .val b::r):=by
 rcases h with rfl|⟨e,rfl⟩<;>rcases h' with rfl|⟨e',rfl⟩<;>rfl
def xG c d σ:ev c (.con d) σ=.ok (.val d) σ:=rfl
section
variable{cond elt:Ev->Out Rv}
theorem ZL{f:D->D}{p:D->Bool}:∀(xs acc:List D)(s:Sl),bL s->(∀x∈xs,cond (.val x::τ)=.ok (.val (.bl (p x))) (.val x::τ))->(∀x∈xs,p x=true->elt (.val x::τ)=.ok (.val (f x)) (.val x::τ))->
  ∃s',bL s'/\aU (.name 0) cond elt xs acc (s::τ)=.ok (acc++(xs.filter p).map f) (s'::τ)
 |[]=>fun acc s hs _ _=>⟨s,hs,by simp[aU]⟩
 |x::xs=>fun acc s hs hc he=>by
  rw[aU,kj hs]
  simp only
  rw[hc x QYz,cW]
  cases q:p x with
  |true=>
   obtain⟨s',a1,a2⟩:=ZL xs _ _ (.inr ⟨x,rfl⟩) (fun y hy=>hc y (QYq _ hy)) (fun y hy=>he y (QYq _ hy))
   refine⟨s',a1,?_⟩
   rw[if_pos rfl,he x QYz q,bK,a2]
   simp[q]
  |false=>
   obtain⟨s',a1,a2⟩:=ZL xs acc _ (.inr ⟨x,rfl⟩) (fun y hy=>hc y (QYq _ hy)) (fun y hy=>he y (QYq _ hy))
   refine⟨s',a1,?_⟩
   rw[if_neg (by simp),a2]
   simp[q]
def pairD(p:D×D):D:=.tup [p.1,p.2]
theorem go2{f:D×D->D}{p:D×D->Bool}:∀(xs:List (D×D))(acc:List D)(s t:Sl),bL s->bL t->(∀x∈xs,cond (.val x.1:: .val x.2::τ)=.ok (.val (.bl (p x))) (.val x.1:: .val x.2::τ))->
  (∀x∈xs,p x=true->elt (.val x.1:: .val x.2::τ)=.ok (.val (f x)) (.val x.1:: .val x.2::τ))->
  ∃s' t',aU (.tup [0,1]) cond elt (xs.map pairD) acc (s::t::τ)=.ok (acc++(xs.filter p).map f) (s'::t'::τ)
 |[]=>fun acc s t hs ht _ _=>⟨s,t,by simp[aU]⟩
 |x::xs=>fun acc s t hs ht hc he=>by
  rw[Qyz,aU,show pairD x=.tup [x.1,x.2]from rfl,uL hs ht]
  simp only
  rw[hc x QYz,cW]
  cases q:p x with
  |true=>
   obtain⟨s',t',a2⟩:=go2 xs _ _ _ (.inr ⟨_,rfl⟩) (.inr ⟨_,rfl⟩) (fun y hy=>hc y (QYq _ hy)) (fun y hy=>he y (QYq _ hy))
   refine⟨s',t',?_⟩
   rw[if_pos rfl,he x QYz q,bK,a2]
   simp[q]
  |false=>
   obtain⟨s',t',a2⟩:=go2 xs acc _ _ (.inr ⟨_,rfl⟩) (.inr ⟨_,rfl⟩) (fun y hy=>hc y (QYq _ hy)) (fun y hy=>he y (QYq _ hy))
   refine⟨s',t',?_⟩
   rw[if_neg (by simp),a2]
   simp[q]
end
section
def jT f p(hi:ev c it σ=.ok r τ)(hr:r.jj=some d)(hd:items d=some xs)(hc:∀x∈xs,ev c co (.val x::τ)=.ok (.val (.bl (p x))) (.val x::τ))(he:∀x∈xs,p x=true->ev c el (.val x::τ)=.ok (.val (f x)) (.val x::τ)):
  ev c (.comp 1 (.name 0) it co el) σ=.ok (.new (.lst ((xs.filter p).map f))) τ:=by
 obtain⟨s',_,a⟩:=ZL xs [] .un (.inl rfl) hc he
 rw[lQ,hi]
 have b:∀{β:Type}(g:D->Ev->Out β),(Out.ok r τ).au g=g d τ:=fun g=>by cases r<;>simp[Rv.jj]at hr<;>subst hr<;>rfl
 rw[b]
 simp only[hd]
 rw[show List.replicate 1 Sl.un++τ=.un::τ from rfl,a]
 simp
def nJ f(hi:ev c it σ=.ok r τ)(hr:r.jj=some d)(hd:items d=some xs)(he:∀x∈xs,ev c el (.val x::τ)=.ok (.val (f x)) (.val x::τ)):
  ev c (.comp 1 (.name 0) it AAL el) σ=.ok (.new (.lst (xs.map f))) τ:=by
 have:=jT f (fun _=>true) hi hr hd (fun x _=>xG c _ _) (fun x hx _=>he x hx)
 rw[filter_tt]at this
 exact this
def YH{ps:List (D×D)}f p(hi:ev c it σ=.ok r τ)(hr:r.jj=some d)(hd:items d=some (ps.map pairD))(hc:∀x∈ps,ev c co (.val x.1:: .val x.2::τ)=.ok (.val (.bl (p x))) (.val x.1:: .val x.2::τ))
  (he:∀x∈ps,p x=true->ev c el (.val x.1:: .val x.2::τ)=.ok (.val (f x)) (.val x.1:: .val x.2::τ)):
  ev c (.comp 2 (.tup [0,1]) it co el) σ=.ok (.new (.lst ((ps.filter p).map f))) τ:=by
 obtain⟨s',t',a⟩:=go2 ps [] .un .un (.inl rfl) (.inl rfl) hc he
 rw[lQ,hi]
 have b:∀{β:Type}(g:D->Ev->Out β),(Out.ok r τ).au g=g d τ:=fun g=>by cases r<;>simp[Rv.jj]at hr<;>subst hr<;>rfl
 rw[b]
 simp only[hd]
 rw[show List.replicate 2 Sl.un++τ=.un:: .un::τ from rfl,a]
 simp
def Vf{ps:List (D×D)}f(hi:ev c it σ=.ok r τ)(hr:r.jj=some d)(hd:items d=some (ps.map pairD))(he:∀x∈ps,ev c el (.val x.1:: .val x.2::τ)=.ok (.val (f x)) (.val x.1:: .val x.2::τ)):
  ev c (.comp 2 (.tup [0,1]) it AAL el) σ=.ok (.new (.lst (ps.map f))) τ:=by
 have:=YH f (fun _=>true) hi hr hd (fun x _=>xG c _ _) (fun x hx _=>he x hx)
 rw[filter_tt]at this
 exact this
end
section
theorem YJ{xs:List D}f p(hi:ev c it σ=.ok r τ0)(hr:r.jj=some d)(hd:items d=some (x0::xs))(hc0:ev c co (.val x0::τ0)=.ok (.val (.bl (p x0))) (.val x0::τ))(hc:∀x∈xs,ev c co (.val x::τ)=.ok (.val (.bl (p x))) (.val x::τ))
  (he:∀x∈x0::xs,p x=true->ev c el (.val x::τ)=.ok (.val (f x)) (.val x::τ)):ev c (.comp 1 (.name 0) it co el) σ=.ok (.new (.lst (((x0::xs).filter p).map f))) τ:=by
 rw[lQ,hi]
 have b:∀{β:Type}(g:D->Ev->Out β),(Out.ok r τ0).au g=g d τ0:=fun g=>by cases r<;>simp[Rv.jj]at hr<;>subst hr<;>rfl
 rw[b]
 simp only[hd]
 rw[show List.replicate 1 Sl.un++τ0=.un::τ0 from rfl,aU,kj (.inl rfl)]
 simp only
 rw[hc0,cW]
 cases q:p x0 with
 |true=>
  obtain⟨s',_,a⟩:=ZL xs _ _ (.inr ⟨_,rfl⟩) hc (fun x hx=>he x (QYq _ hx))
  rw[if_pos rfl,he x0 QYz q,bK,a]
  simp[q]
 |false=>
  obtain⟨s',_,a⟩:=ZL xs [] _ (.inr ⟨_,rfl⟩) hc (fun x hx=>he x (QYq _ hx))
  rw[if_neg (by simp),a]
  simp[q]
theorem YG{ps:List (D×D)}f p(hi:ev c it σ=.ok r τ0)(hr:r.jj=some d)(hd:items d=some ((x0::ps).map pairD))(hc0:ev c co (.val x0.1:: .val x0.2::τ0)=.ok (.val (.bl (p x0))) (.val x0.1:: .val x0.2::τ))
  (hc:∀x∈ps,ev c co (.val x.1:: .val x.2::τ)=.ok (.val (.bl (p x))) (.val x.1:: .val x.2::τ))
  (he:∀x∈x0::ps,p x=true->ev c el (.val x.1:: .val x.2::τ)=.ok (.val (f x)) (.val x.1:: .val x.2::τ)):ev c (.comp 2 (.tup [0,1]) it co el) σ=.ok (.new (.lst (((x0::ps).filter p).map f))) τ:=by
 rw[lQ,hi]
 have b:∀{β:Type}(g:D->Ev->Out β),(Out.ok r τ0).au g=g d τ0:=fun g=>by cases r<;>simp[Rv.jj]at hr<;>subst hr<;>rfl
 rw[b]
 simp only[hd]
 rw[show List.replicate 2 Sl.un++τ0=.un:: .un::τ0 from rfl,Qyz,aU,show pairD x0=.tup [x0.1,x0.2]from rfl,uL (.inl rfl) (.inl rfl)]
 simp only
 rw[hc0,cW]
 cases q:p x0 with
 |true=>
  obtain⟨s',t',a⟩:=go2 ps _ _ _ (.inr ⟨_,rfl⟩) (.inr ⟨_,rfl⟩) hc (fun x hx=>he x (QYq _ hx))
  rw[if_pos rfl,he x0 QYz q,bK,a]
  simp[q]
 |false=>
  obtain⟨s',t',a⟩:=go2 ps [] _ _ (.inr ⟨_,rfl⟩) (.inr ⟨_,rfl⟩) hc (fun x hx=>he x (QYq _ hx))
  rw[if_neg (by simp),a]
  simp[q]
end
theorem jU:∀(bs:List Bool),bools (bs.map D.bl)=some bs
 |[]=>rfl
 |b::bs=>by simp[bools,jU bs]
theorem tU:∀{α:Type}(xs:List α),bools (xs.map fun _=>D.bl true)=some (xs.map fun _=>true)
 |_,[]=>rfl
 |_,x::xs=>by simp[bools,tU xs]
theorem Dt:∀{α:Type}(xs:List α),(xs.map fun _=>true).all id=true
 |_,[]=>rfl
 |_,x::xs=>by simpa using Dt xs
section
def all1(hi:ev c it σ=.ok r τ)(hr:r.jj=some d)(hd:items d=some xs)(he:∀x∈xs,ev c el (.val x::τ)=.ok (.val (.bl true)) (.val x::τ)):
  ev c (.bi .all (.comp 1 (.name 0) it AAL el)) σ=.ok (.val (.bl true)) τ:=by
 rw[mU]
 simp only[tY]
 rw[nJ _ hi hr hd he,gj]
 simp only[Ve,Dr,uM,QHq]
 rw[tU]
 simp only[Option.map_some,vg,Dt]
def all2{ps:List (D×D)}(hi:ev c it σ=.ok r τ)(hr:r.jj=some d)(hd:items d=some (ps.map pairD))(he:∀x∈ps,ev c el (.val x.1:: .val x.2::τ)=.ok (.val (.bl true)) (.val x.1:: .val x.2::τ)):
  ev c (.bi .all (.comp 2 (.tup [0,1]) it AAL el)) σ=.ok (.val (.bl true)) τ:=by
 rw[mU]
 simp only[tY]
 rw[Vf _ hi hr hd he,gj]
 simp only[Ve,Dr,uM,QHq]
 rw[tU]
 simp only[Option.map_some,vg,Dt]
end
theorem cM:∀(xs ys:List D),aW xs ys=(xs.zip ys).map pairD
 |[],_=>by simp[aW]
 |_::_,[]=>by simp[aW]
 |x::xs,y::ys=>by simp[aW,cM xs ys,pairD]
end Mini
end
section
namespace Mini
open PySem
@[simp]def fin(k:Nat):Fl->Res
 |.next σ=>.ok (.val .non) (σ.take k)
 |.ret r σ=>.ok r (σ.take k)
 |.exc c σ=>.exc c (σ.take k)
 |_=>.bad
def Qq c f ps(h:ps.length=f.pars):iC c f ps=fin f.pars (ex c f.body (ps++List.replicate (f.names-f.pars) .un)):=by
 unfold iC
 rw[if_pos h]
 cases ex c f.body _<;>rfl
def vX{α:Type}(b:Bool)(r:Out α):Out α:=if b then .bad else r
def YM(b:Bool)(r:Fl):Fl:=if b then .bad else r
def BL{α:Type}(b:Bool)(r:Option α):Option α:=if b then none else r
@[simp]theorem adw(r:Out α):vX false r=r:=rfl
@[simp]theorem agf r:YM false r=r:=rfl
@[simp]theorem abM(r:Option α):BL false r=r:=rfl
@[simp]theorem abL(r:Option α):BL true r=none:=rfl
@[simp]def aa5(i:Nat)(σ:Ev):Option Sl->Out Rv
 |some (.val d)=>.ok (.val d) σ
 |some (.own o)=>.ok (.val o.d) (σ.set i (.val o.d))
 |_=>.bad
@[simp]theorem J4 i σ:rm i σ=aa5 i σ σ[i]? :=rfl
@[simp]def abP:Option Sl->Option D
 |some (.val d)=>some d
 |some (.own o)=>some o.d
 |some (.bor o)=>some o.d
 |_=>none
@[simp]theorem abO i σ:aZ i σ=abP σ[i]? :=rfl
noncomputable def p7(i:Nat)(σ:Ev)(s:Sl):Option Sl->Option Ev
 |some (.bor _)=>none
 |some _=>some (σ.set i s)
 |none=>none
@[simp]theorem aaV i s σ:cD i s σ=p7 i σ s σ[i]? :=rfl
@[simp]theorem aaW(i σ s d):p7 i σ s (some (.val d))=some (σ.set i s):=rfl
@[simp]theorem aaX(i σ s o):p7 i σ s (some (.own o))=some (σ.set i s):=rfl
@[simp]theorem acX(i σ s):p7 i σ s (some .un)=some (σ.set i s):=rfl
@[simp]theorem aaY(i σ s o):p7 i σ s (some (.bor o))=none:=rfl
@[simp]def Bu(i:Nat)(σ:Ev)(q:Ob):Ev:=σ.set i (.own q)
@[simp]def Wz(i:Nat)(σ:Ev)(q:Ob):Ev:=σ.set i (.bor q)
@[simp]def aay(i:Nat)(f:Ob->Option Ob)(σ:Ev):Option Sl->Option Ev
 |some (.own o)=>(f o).map (Bu i σ)
 |some (.bor o)=>(f o).map (Wz i σ)
 |_=>none
@[simp]theorem aax i f σ:cT i f σ=aay i f σ σ[i]? :=rfl
@[simp]def Xg(r:Rv):Option Ev->Out Rv
 |some σ=>.ok r σ
 |none=>.bad
@[simp]def acr(as:List Rv)(σ:Ev):Res->Out Rv
 |.ok r qs=>Xg r (giveBack as qs σ)
 |_=>.bad
@[simp]def acs(c:Cf)(f:Nat)(as:List Rv)(σ:Ev):Option (List Sl)->Out Rv
 |none=>.bad
 |some ps=>acr as σ (c.fn f ps)
@[simp]theorem acu c f as σ:tQ c f as σ=acs c f as σ (enter as σ):=rfl
@[simp]theorem adp(σ):enter [] σ=some []:=rfl
@[simp]theorem ado(d as σ):enter (.val d::as) σ=(enter as σ).map (.val d:: ·):=rfl
@[simp]def af9(r:Option (List Sl)):Option Sl->Option (List Sl)
 |some (.own o)=>r.map (.bor o:: ·)
 |some (.bor o)=>r.map (.bor o:: ·)
 |_=>none
@[simp]theorem adn(i as σ):enter (.ref i::as) σ=BL (as.any (lq i)) (af9 (enter as σ) σ[i]?):=rfl
@[simp]theorem af6 c(i σ):ev c (.var i) σ=rm i σ:=rfl
@[simp]theorem aiB c(d σ):ev c (.con d) σ=.ok (.val d) σ:=rfl
@[simp]theorem aiA c(k σ):ev c (.glob k) σ=match c.gl k with|some d=>.ok (.val d) σ|none=>.bad:=rfl
@[simp]def adR(ds:List D):Option Rv:=if fits ds.length then some (.val (.tup ds))else none
@[simp]def ae8(ds:List D):Option Rv:=if fits ds.length then some (.new (.lst ds))else none
@[simp]def afc(rs:List Rv)(σ:Ev):Out Rv:=lift σ ((aO rs).bind adR)
@[simp]def afk(rs:List Rv)(σ:Ev):Out Rv:=lift σ ((aO rs).bind ae8)
@[simp]theorem aiz c(es σ):ev c (.tup es) σ=(evs c es σ).bind afc:=rfl
@[simp]theorem aiy c(es σ):ev c (.lis es) σ=(evs c es σ).bind afk:=rfl
@[simp]def afi(o:YZ)(x y:D)(σ:Ev):Out Rv:=lift σ (binop o x y)
@[simp]def kOp(c:Cf)(o:YZ)(b:E)(x:D)(σ:Ev):Out Rv:=(ev c b σ).au (afi o x)
@[simp]theorem aix c(o a b σ):ev c (.op o a b) σ=(ev c a σ).au (kOp c o b):=rfl
@[simp]theorem aiw c(a σ):ev c (.neg a) σ=(ev c a σ).au fun x σ=>lift σ (match x with|.int i=>some (.val (.int (-i)))|_=>none):=rfl
@[simp]def qV(q:Bool):Rv:=.val (.bl q)
@[simp]def agc(o:Cm)(x d:D):Option Rv:=(aJ o x d).map qV
@[simp]def LC(o:Cm)(x y:D)(σ:Ev):Out Rv:=lift σ ((aJ o x y).map qV)
@[simp]def afv(c:Cf)(o:Cm)(b:E)(x:D)(σ:Ev):Option Nat->Out Rv
 |some k=>lift σ ((aZ k σ).bind (agc o x))
 |none=>(ev c b σ).au (LC o x)
@[simp]def ab4(c:Cf)(o:Cm)(b:E)(x:D)(σ:Ev):Out Rv:=afv c o b x σ b.aB
@[simp]theorem aiv c(o a b σ):ev c (.cmp o a b) σ=(ev c a σ).au (ab4 c o b):=rfl
noncomputable def XD(c:Cf)(o:Cm)(d:E)(y:D)(q:Bool)(σ:Ev):Out Rv:=if q then(ev c d σ).au (LC o y)else .ok (.val (.bl false)) σ
@[simp]theorem afw(c o d y σ):XD c o d y true σ=(ev c d σ).au (LC o y):=rfl
@[simp]theorem afx(c o d y σ):XD c o d y false σ=.ok (.val (.bl false)) σ:=rfl
@[simp]def afy(c:Cf)(o p:Cm)(d:E)(x y:D)(σ:Ev):Out Rv:=(lift σ (aJ o x y)).bind (XD c p d y)
@[simp]def kCh(c:Cf)(o p:Cm)(b d:E)(x:D)(σ:Ev):Out Rv:=(ev c b σ).au (afy c o p d x)
@[simp]theorem aiu c(π υ a b d σ):ev c (.chain π υ a b d) σ=(ev c a σ).au (kCh c π υ b d):=rfl
@[simp]theorem ait c(es σ):ev c (.and es) σ=gW c es σ:=rfl
@[simp]theorem ahc c(es σ):ev c (.or es) σ=nD c es σ:=rfl
@[simp]def afj(b:Bool)(σ:Ev):Out Rv:=.ok (.val (.bl (!b))) σ
@[simp]theorem ahb c(a σ):ev c (.not a) σ=(ev c a σ).cu gY afj:=rfl
def Lz(c:Cf)(a b:E)(q:Bool)(σ:Ev):Out Rv:=if q then ev c a σ else ev c b σ
@[simp]theorem ac8(c a b σ):Lz c a b true σ=ev c a σ:=rfl
@[simp]theorem ac9(c a b σ):Lz c a b false σ=ev c b σ:=rfl
@[simp]theorem aha c(t a b σ):ev c (.ite t a b) σ=(ev c t σ).cu gY (Lz c a b):=rfl
@[simp]def afP(y d:D):Option Rv:=(getD d y).map Rv.val
@[simp]def afp(k:Nat)(y:D)(σ:Ev):Out Rv:=lift σ ((aZ k σ).bind (afP y))
@[simp]def abY(x y:D)(σ:Ev):Out Rv:=lift σ ((getD x y).map Rv.val)
@[simp]def abZ(c:Cf)(i:E)(x:D)(σ:Ev):Out Rv:=(ev c i σ).au (abY x)
@[simp]def afL(c:Cf)(a i:E)(σ:Ev):Option Nat->Out Rv
 |some k=>vX (aZ k σ).isNone ((ev c i σ).au (afp k))
 |none=>(ev c a σ).au (abZ c i)
@[simp]theorem ag9 c(a i σ):ev c (.idx a i) σ=afL c a i σ a.aB:=rfl
@[simp]def afd(hi:E)(x:D)(l:Option Int)(h:D)(σ:Ev):Out Rv:=lift σ ((cH hi.jx h).bind (dX x l))
@[simp]def slM(c:Cf)(hi:E)(x:D)(σ:Ev):Option (Option Int)->Out Rv
 |none=>.bad
 |some l=>(ev c hi σ).au (afd hi x l)
@[simp]def afe(c:Cf)(lo hi:E)(x l:D)(σ:Ev):Out Rv:=slM c hi x σ (cH lo.jx l)
@[simp]def kSl(c:Cf)(lo hi:E)(x:D)(σ:Ev):Out Rv:=(ev c lo σ).au (afe c lo hi x)
@[simp]theorem ag8 c(a lo hi σ):ev c (.slc a lo hi) σ=(ev c a σ).au (kSl c lo hi):=rfl
@[simp]theorem ag7 c(σ):ev c .noneE σ=.ok (.val .non) σ:=rfl
@[simp]theorem ag6 c(f as σ):ev c (.call f as) σ=(evs c as σ).bind (tQ c f):=rfl
@[simp]def aeV(i:Nat)(σ:Ev):Option Sl->Out Rv
 |some (.own _)=>.ok (.ref i) σ
 |some (.bor _)=>.ok (.ref i) σ
 |_=>.bad
@[simp]theorem ag5 c(i σ):ev c (.ref i) σ=aeV i σ σ[i]? :=rfl
@[simp]theorem ag4 c(e σ):ev c (.rd e) σ=ev c e σ:=rfl
@[simp]def afo(t:Ty)(x:D)(σ:Ev):Out Rv:=.ok (.val (.bl (cF t x))) σ
@[simp]theorem ag3 c(a t σ):ev c (.isi a t) σ=(ev c a σ).au (afo t):=rfl
@[simp]def kBi(b:Bi)(x:D)(σ:Ev):Out Rv:=lift σ (b1 b x)
@[simp]def biM(c:Cf)(b:Bi)(a:E)(σ:Ev):Option Nat->Out Rv
 |some k=>lift σ ((aZ k σ).bind (b1 b))
 |none=>(ev c a σ).au (kBi b)
@[simp]theorem ag2 c(b a σ):ev c (.bi b a) σ=biM c b a σ a.aB:=rfl
noncomputable def abU(x:D)(σ:Ev):Out Rv:=lift σ (match x with|.int n=>if fits n.toNat&&Ez n then some (.val (.lst (cB 0 n.toNat)))else none|_=>none)
@[simp]theorem abT n(σ):abU (.int n) σ=lift σ (if fits n.toNat&&Ez n then some (.val (.lst (cB 0 n.toNat)))else none):=rfl
@[simp]theorem ag1 c(a σ):ev c (.range1 a) σ=(ev c a σ).au abU:=rfl
@[simp]def adG(xs ys:List D):Rv:=.val (.lst (aW xs ys))
@[simp]def adH(y:D)(xs:List D):Option Rv:=(bu y).map (adG xs)
@[simp]def abR(x y:D)(σ:Ev):Out Rv:=lift σ ((bu x).bind (adH y))
@[simp]def afb(c:Cf)(b:E)(x:D)(σ:Ev):Out Rv:=(ev c b σ).au (abR x)
@[simp]theorem ag0 c(a b σ):ev c (.zip a b) σ=(ev c a σ).au (afb c b):=rfl
@[simp]def ab3(x y:D)(σ:Ev):Out Rv:=lift σ (tH x y)
@[simp]def afu(c:Cf)(b:E)(x:D)(σ:Ev):Out Rv:=vX (bu x).isNone ((ev c b σ).au (ab3 x))
@[simp]theorem agZ c(a b σ):ev c (.count a b) σ=(ev c a σ).au (afu c b):=rfl
@[simp]theorem ada(ks vs):sy (some (.cG ks vs))=true:=rfl
@[simp]theorem agY c(k a σ):ev c (.popAt k a) σ=vX (!di (aZ k σ)) ((ev c a σ).au (rF k)):=rfl
@[simp]def ab2(c:Cf)(nl:Nat)(tg:Tg)(cond elt:E)(x:D)(σ:Ev):Out Rv:=match items x with
  |some xs=>match aU tg (ev c cond) (ev c elt) xs [] (List.replicate nl .un++σ)with
   |.ok ys τ=>.ok (.new (.lst ys)) (τ.drop nl)
   |_=>.bad
  |none=>.bad
@[simp]theorem agX c(nl tg it cond elt σ):ev c (.comp nl tg it cond elt) σ=(ev c it σ).au (ab2 c nl tg cond elt):=rfl
@[simp]def ab1(x:Rv)(xs:List Rv)(σ:Ev):Out (List Rv):=.ok (argv x::xs) σ
@[simp]def afs(c:Cf)(t:E)(x:Rv)(σ:Ev):Out (List Rv):=(evs c t σ).bind (ab1 x)
@[simp]theorem agS c(σ):evs c .nil σ=.ok [] σ:=rfl
@[simp]theorem agR c(h t σ):evs c (.cons h t) σ=(ev c h σ).bind (afs c t):=rfl
@[simp]theorem ais c(σ):ex c .nil σ=.next σ:=rfl
@[simp]theorem air c(h t σ):ex c (.cons h t) σ=(ex c h σ).seq (ex c t):=rfl
@[simp]theorem aiq c(σ):ex c .brk σ=.brk σ:=rfl
@[simp]theorem aip c(σ):ex c .cont σ=.cont σ:=rfl
@[simp]def Wj(i:Nat)(σ:Ev)(s:Sl):Option Ev:=cD i s σ
@[simp]def afg(i:Nat)(x:Rv)(σ:Ev):Fl:=yV (x.Ba.bind (Wj i σ))
@[simp]theorem aio c(i e σ):ex c (.set i e) σ=(ev c e σ).fl (afg i):=rfl
@[simp]def abS(is:List Nat)(x:D)(σ:Ev):Fl:=yV (bD (.tup is) x σ)
@[simp]theorem ain c(is e σ):ex c (.setT is e) σ=(ev c e σ).nW (abS is):=rfl
@[simp]def afl(k:Nat)(x y:D)(σ:Ev):Fl:=yV (cT k (yQ y x) σ)
@[simp]def kIx(c:Cf)(k:Nat)(ix:E)(x:D)(σ:Ev):Fl:=YM (aZ k σ).isNone ((ev c ix σ).nW (afl k x))
@[simp]theorem aim c(k ix e σ):ex c (.setIx k ix e) σ=(ev c e σ).nW (kIx c k ix):=rfl
@[simp]def abV(_:D)(σ:Ev):Fl:=.next σ
@[simp]theorem ail c(e σ):ex c (.expr e) σ=(ev c e σ).nW abV:=rfl
@[simp]def agh(x:D)(xs:List D):Option (List D):=if fits (xs.length+1)then some (xs++[x])else none
@[simp]def afz(k:Nat)(x:D)(σ:Ev):Fl:=yV (cT k (wI (agh x)) σ)
@[simp]theorem aik c(k e σ):ex c (.append k e) σ=YM (!di (aZ k σ)) ((ev c e σ).nW (afz k)):=rfl
@[simp]theorem agQ(c:Cf)(k e σ):ex c (.extend k e) σ=if !di (aZ k σ)then .bad else(ev c e σ).nW fun x σ=>yV ((iG x).bind fun ys=>cT k (wI fun xs=>if fits (xs.length+ys.length)then some (xs++ys)else none) σ):=rfl
@[simp]def aeT(c:Cf)(e:E)(i:Nat)(σ:Ev):Option Sl->Fl
 |some (.own o)=>.ret (.new o) (σ.set i .un)
 |_=>(ev c e σ).fl ul
@[simp]def aeU(c:Cf)(e:E)(σ:Ev):Option Nat->Fl
 |some i=>aeT c e i σ σ[i]?
 |none=>(ev c e σ).fl ul
@[simp]theorem agP c(e σ):ex c (.ret e) σ=aeU c e σ e.aB:=rfl
def Xz(c:Cf)(a b:S)(q:Bool)(σ:Ev):Fl:=if q then ex c a σ else ex c b σ
@[simp]theorem afm(c a b σ):Xz c a b true σ=ex c a σ:=rfl
@[simp]theorem afn(c a b σ):Xz c a b false σ=ex c b σ:=rfl
@[simp]theorem agO c(t a b σ):ex c (.ite t a b) σ=(ev c t σ).Ag (Xz c a b):=rfl
@[simp]def kFor(c:Cf)(tg:Tg)(b:S)(σ:Ev):Option (List D)->Fl
 |some xs=>bA tg (ex c b) xs σ
 |none=>.bad
@[simp]def ab0(c:Cf)(tg:Tg)(b:S)(x:D)(σ:Ev):Fl:=kFor c tg b σ (items x)
@[simp]theorem agN c(tg it b σ):ex c (.for_ tg it b) σ=(ev c it σ).nW (ab0 c tg b):=rfl
@[simp]theorem agM c(t b σ):ex c (.while_ t b) σ=bQ (ev c t) (ex c b) c.turns σ:=rfl
@[simp]theorem agL c(k σ):ex c (.raise k) σ=.exc k σ:=rfl
@[simp]def afA(c:Cf)(e:E)(x:D)(σ:Ev):Out Rv:=match x with|.bl true=>gW c e σ|.bl false=>.ok (.val (.bl false)) σ|_=>.bad
@[simp]def kOr(c:Cf)(e:E)(x:D)(σ:Ev):Out Rv:=match x with|.bl true=>.ok (.val (.bl true)) σ|.bl false=>nD c e σ|_=>.bad
@[simp]theorem adm c(h σ):gW c (.cons h .nil) σ=ev c h σ:=rfl
@[simp]theorem adl c(h a b σ):gW c (.cons h (.cons a b)) σ=(ev c h σ).au (afA c (.cons a b)):=rfl
@[simp]theorem af8 c(h σ):nD c (.cons h .nil) σ=ev c h σ:=rfl
@[simp]theorem af7 c(h a b σ):nD c (.cons h (.cons a b)) σ=(ev c h σ).au (kOr c (.cons a b)):=rfl
@[simp high]theorem ajy x0:at? [x0] 0=some x0:=rfl
@[simp high]theorem ajx x0 x1:at? [x0,x1] 0=some x0:=rfl
@[simp high]theorem ajw x0 x1:at? [x0,x1] 1=some x1:=rfl
@[simp high]theorem ajv x0 x1 x2:at? [x0,x1,x2] 0=some x0:=rfl
@[simp high]theorem aju x0 x1 x2:at? [x0,x1,x2] 1=some x1:=rfl
@[simp high]theorem ajt x0 x1 x2:at? [x0,x1,x2] 2=some x2:=rfl
@[simp high]theorem ajs x0 x1 x2 x3:at? [x0,x1,x2,x3] 0=some x0:=rfl
@[simp high]theorem ajr x0 x1 x2 x3:at? [x0,x1,x2,x3] 1=some x1:=rfl
@[simp high]theorem ajq x0 x1 x2 x3:at? [x0,x1,x2,x3] 2=some x2:=rfl
@[simp high]theorem ajp x0 x1 x2 x3:at? [x0,x1,x2,x3] 3=some x3:=rfl
@[simp]theorem aij(σ):giveBack [] [] σ=some σ:=rfl
@[simp]theorem aii(i as o ps σ):giveBack (.ref i::as) (.bor o::ps) σ=(cT i (fun _=>some o) σ).bind (giveBack as ps):=rfl
@[simp]theorem aih(d as p ps σ):giveBack (.val d::as) (p::ps) σ=giveBack as ps σ:=rfl
@[simp]theorem ahP(i j):lq i (.ref j)=(i==j):=rfl
@[simp]theorem ahO(i d):lq i (.val d)=false:=rfl
@[simp]theorem ahN(i o):lq i (.new o)=false:=rfl
@[simp]theorem ahv(xs):cF .tup (.tup xs)=true:=rfl
@[simp]theorem ahu(xs):cF .lst (.lst xs)=true:=rfl
@[simp]theorem aht(x):cF .str (.str x)=true:=rfl
@[simp]theorem ahs(b):cF .bool (.bl b)=true:=rfl
def adP(i):cF .bool (.int i)=false:=rfl
@[simp]theorem ahr(i):cF .int (.int i)=true:=rfl
@[simp]theorem af4:fits 0=true:=rfl
@[simp]theorem af3:fits 1=true:=rfl
@[simp]theorem af2:fits 2=true:=rfl
@[simp]theorem af1:fits 3=true:=rfl
@[simp]theorem af0:fits 4=true:=rfl
@[simp]theorem afZ:fits 5=true:=rfl
@[simp]theorem afY:fits 6=true:=rfl
@[simp]theorem afX:fits 7=true:=rfl
@[simp]theorem afW:fits 8=true:=rfl
@[simp]theorem aci i j:binop .fdiv (.int i) (.int j)=if 0<j/\j<1073741824 then some (.val (.int (i/j)))else none:=rfl
@[simp]theorem pow_int i j:binop .pow (.int i) (.int j)=if 0<=j/\j<=64/\small i=true then some (.val (.int (i ^j.toNat)))else none:=rfl
@[simp↓]theorem ite_tt{α:Type}(a b:α):(if true=true then a else b)=a:=rfl
@[simp↓]theorem ite_ff{α:Type}(a b:α):(if false=true then a else b)=b:=rfl
@[simp]theorem adD xs ys:binop .add (.tup xs) (.tup ys)=if fits (xs.length+ys.length)then some (.val (.tup (xs++ys)))else none:=rfl
@[simp]theorem adE xs ys:binop .add (.lst xs) (.lst ys)=if fits (xs.length+ys.length)then some (.new (.lst (xs++ys)))else none:=rfl
@[simp]def abW(x y:D)(σ:Ev):Out Rv:=lift σ (ab6 x y)
@[simp]def abX(c:Cf)(b:E)(x:D)(σ:Ev):Out Rv:=vX (iG x).isNone ((ev c b σ).au (abW x))
@[simp]theorem agW(c:Cf)(a b σ):ev c (.index a b) σ=(ev c a σ).au (abX c b):=rfl
@[simp]def ahU(k:Nat)(x:D)(σ:Ev):Fl:=yV (cT k (adN x) σ)
@[simp]def gtK(k x y:D):Option Rv:=(sO y k x).map Rv.val
@[simp]def afq(i:Nat)(k x:D)(σ:Ev):Out Rv:=lift σ ((aZ i σ).bind (gtK k x))
@[simp]def afr(c:Cf)(i:Nat)(x:E)(k:D)(σ:Ev):Out Rv:=(ev c x σ).au (afq i k)
@[simp]def afO(c:Cf)(d k x:E)(σ:Ev):Option Nat->Out Rv
 |some i=>vX (!sy (aZ i σ)) ((ev c k σ).au (afr c i x))
 |none=>.bad
@[simp]theorem agV c(d k x σ):ev c (.get2 d k x) σ=afO c d k x σ d.aB:=rfl
@[simp]def aft(rs:List Rv)(σ:Ev):Out Rv:=lift σ ((aO rs).bind uA)
@[simp]theorem agU c(es σ):ev c (.dsp es) σ=(evs c es σ).bind aft:=rfl
@[simp high]theorem aig a0(r:Ev):(a0::r)[0]? =some a0:=rfl
@[simp high]theorem ahL a0 v(r:Ev):List.set (a0::r) 0 v=v::r:=rfl
@[simp high]theorem aif a0 a1(r:Ev):(a0::a1::r)[1]? =some a1:=rfl
@[simp high]theorem ahK a0 a1 v(r:Ev):List.set (a0::a1::r) 1 v=a0::v::r:=rfl
@[simp high]theorem aie a0 a1 a2(r:Ev):(a0::a1::a2::r)[2]? =some a2:=rfl
@[simp high]theorem ahJ a0 a1 a2 v(r:Ev):List.set (a0::a1::a2::r) 2 v=a0::a1::v::r:=rfl
@[simp high]theorem aid a0 a1 a2 a3(r:Ev):(a0::a1::a2::a3::r)[3]? =some a3:=rfl
@[simp high]theorem ahI a0 a1 a2 a3 v(r:Ev):List.set (a0::a1::a2::a3::r) 3 v=a0::a1::a2::v::r:=rfl
@[simp high]theorem aic a0 a1 a2 a3 a4(r:Ev):(a0::a1::a2::a3::a4::r)[4]? =some a4:=rfl
@[simp high]theorem ahH a0 a1 a2 a3 a4 v(r:Ev):List.set (a0::a1::a2::a3::a4::r) 4 v=a0::a1::a2::a3::v::r:=rfl
@[simp high]theorem aib a0 a1 a2 a3 a4 a5(r:Ev):(a0::a1::a2::a3::a4::a5::r)[5]? =some a5:=rfl
@[simp high]theorem ahG a0 a1 a2 a3 a4 a5 v(r:Ev):List.set (a0::a1::a2::a3::a4::a5::r) 5 v=a0::a1::a2::a3::a4::v::r:=rfl
@[simp high]theorem aia a0 a1 a2 a3 a4 a5 a6(r:Ev):(a0::a1::a2::a3::a4::a5::a6::r)[6]? =some a6:=rfl
@[simp high]theorem ahF a0 a1 a2 a3 a4 a5 a6 v(r:Ev):List.set (a0::a1::a2::a3::a4::a5::a6::r) 6 v=a0::a1::a2::a3::a4::a5::v::r:=rfl
@[simp high]theorem ah9 a0 a1 a2 a3 a4 a5 a6 a7(r:Ev):(a0::a1::a2::a3::a4::a5::a6::a7::r)[7]? =some a7:=rfl
@[simp high]theorem ahE a0 a1 a2 a3 a4 a5 a6 a7 v(r:Ev):List.set (a0::a1::a2::a3::a4::a5::a6::a7::r) 7 v=a0::a1::a2::a3::a4::a5::a6::v::r:=rfl
@[simp high]theorem ah8 a0 a1 a2 a3 a4 a5 a6 a7 a8(r:Ev):(a0::a1::a2::a3::a4::a5::a6::a7::a8::r)[8]? =some a8:=rfl
@[simp high]theorem ahD a0 a1 a2 a3 a4 a5 a6 a7 a8 v(r:Ev):List.set (a0::a1::a2::a3::a4::a5::a6::a7::a8::r) 8 v=a0::a1::a2::a3::a4::a5::a6::a7::v::r:=rfl
@[simp high]theorem ah7 a0 a1 a2 a3 a4 a5 a6 a7 a8 a9(r:Ev):(a0::a1::a2::a3::a4::a5::a6::a7::a8::a9::r)[9]? =some a9:=rfl
@[simp high]theorem ahC a0 a1 a2 a3 a4 a5 a6 a7 a8 a9 v(r:Ev):List.set (a0::a1::a2::a3::a4::a5::a6::a7::a8::a9::r) 9 v=a0::a1::a2::a3::a4::a5::a6::a7::a8::v::r:=rfl
@[simp]def aeS(xs:List D):Rv:=.new (.lst xs.reverse)
@[simp]def afh(x:D)(σ:Ev):Out Rv:=lift σ ((iG x).map aeS)
@[simp]theorem agT(c:Cf)(a σ):ev c (.rev a) σ=(ev c a σ).au afh:=rfl
end Mini
end
section
namespace Tx
open PySem L2 Mini
abbrev d0:Df:=bH "checked" s0 [false]
abbrev d1:Df:=bH "is_net" s1 [false]
abbrev d2:Df:=bH "has_parts" s2 [false]
abbrev d3:Df:=bH "is_tuple" s3 [false,false,false]
abbrev d4:Df:=bH "is_number" s4 [false,false,false]
abbrev d5:Df:=bH "is_name" s5 [false]
abbrev d6:Df:=bH "are_unlike" s6 [false]
abbrev d7:Df:=bH "is_row" s7 [false,false]
abbrev d8:Df:=bH "is_wire" s8 [false,false]
abbrev d9:Df:=bH "are_wires" s9 [false,false,false,false]
abbrev d10:Df:=bH "are_rows" s10 [false,false]
abbrev d11:Df:=bH "is_kind" s11 [false,false,false]
abbrev d12:Df:=bH "is_held" s12 [false,false,false]
abbrev d13:Df:=bH "wire_names" s13 [false]
abbrev d14:Df:=bH "waiting_gates" s14 [false,false]
abbrev d15:Df:=bH "told" s15 [false,false,false]
abbrev d16:Df:=bH "told_held" s16 [false,false,false]
abbrev d17:Df:=bH "checked_talk" s17 [false,false]
abbrev d18:Df:=bH "is_talk" s18 [false,false]
abbrev d19:Df:=bH "is_state" s19 [false,false,false]
abbrev d20:Df:=bH "stands" s20 [false,false]
abbrev d21:Df:=bH "is_stand" s21 [false,false,false]
abbrev d22:Df:=bH "first_stand" s22 [false]
abbrev d23:Df:=bH "steps_at" s23 [false,false,false]
abbrev d24:Df:=bH "is_unasked" s24 [false,false,false]
abbrev d25:Df:=bH "led_to" s25 [false,false,false,false]
abbrev d26:Df:=bH "changed" s26 [false,false,false]
abbrev d27:Df:=bH "newly_met" s27 [false,false,false,true]
abbrev d28:Df:=bH "fault" s28 [false,false]
abbrev d29:Df:=bH "paper" s29 [false,false]
abbrev d30:Df:=bH "is_paper" s30 [false,false,false]
abbrev d31:Df:=bH "is_sound" s31 [false,false,false,false]
abbrev d32:Df:=bH "fault_at" s32 [false,false,false,false]
abbrev d33:Df:=bH "has_out" s33 [false,false]
abbrev d34:Df:=bH "fault_of_step" s34 [false,false,false,false,false]
abbrev d35:Df:=bH "_law_cell_at" s35 [false,false]
abbrev d36:Df:=bH "_law_mixed" s36 [false,false,false]
abbrev d37:Df:=bH "_law_next" s37 [false,true,false]
abbrev d38:Df:=bH "_law_some" s38 [false,true,false,false,false]
abbrev d39:Df:=bH "_law_table" s39 [false,true,false]
abbrev d40:Df:=bH "_law_kind" s40 [false,true,false,false]
abbrev d41:Df:=bH "_law_net" s41 [false,true,false,false]
abbrev d42:Df:=bH "_law_talk" s42 [false,true,false,false]
abbrev d43:Df:=bH "_law_ring" s43 [false,true]
abbrev d44:Df:=bH "_law_chain" s44 [false,true]
abbrev d45:Df:=bH "_law_meeting" s45 [false,true]
abbrev d46:Df:=bH "_law_spoilt_kind" s46 [false,true,false]
abbrev d47:Df:=bH "_law_case" s47 [false,false]
abbrev d48:Df:=bH "_law_names" s48 [false]
abbrev d49:Df:=bH "_law_tells" s49 [false,false,false]
abbrev d50:Df:=bH "_law_waiting" s50 [false,false]
abbrev d51:Df:=bH "_law_steps" s51 [false,false,false]
abbrev d52:Df:=bH "_law_led" s52 [false,false,false,false]
abbrev d53:Df:=bH "_law_stands" s53 [false,false]
abbrev d54:Df:=bH "_law_fault_at" s54 [false,false,false,false]
abbrev d55:Df:=bH "_law_is_paper" s55 [false,false,false]
abbrev d56:Df:=bH "_law_spoilt" s56 [false,false,false,false]
abbrev d57:Df:=bH "law" s57 [false]
noncomputable def ds:List Df:=[d0,d1,d2,d3,d4,d5,d6,d7,d8,d9,d10,d11,d12,d13,d14,d15,d16,d17,d18,d19,d20,d21,d22,d23,d24,d25,d26,d27,d28,d29,d30,d31,d32,d33,d34,d35,d36,d37,d38,d39,d40,d41,d42,d43,d44,d45,d46,d47,d48,d49,d50,d51,d52,d53,d54,d55,d56,d57]
noncomputable def nU:List Str:=["LETTERS","LONGEST_NAME","WORDS","MOST_INPUTS","MOST_GATES","MOST_WIRES","MOST_TABLE_WIRES","DEEPEST_HELD","MOST_STATES"]
noncomputable def vals:List D:=[.str "abcdefghijklmnopqrstuvwxyz",.int 6,.tup [.str "input",.str "gate",.str "start",.str "out",.str "state",.str "same",.str "not",.str "and",.str "or",.str "both",.str "held",.str "table",.str "on",.str "off"],.int 3,.int 5,.int 4,.int 8,.int 3,.int 12]
def pg:Pg:=KH ds nU vals 1000
def scp:ds.all JV=true:=by decide+kernel
def nT:ds.all (fun d=>(fnOf ds nU d).isSome)=true:=by decide+kernel
def bd:Gy ds:=⟨fun _ _ _ _ _ _ us hl=>by obtain⟨_,rfl⟩:=ut hl;rfl,fun _ _ _ _ _ _ us hl=>by obtain⟨_,rfl⟩:=ut hl;rfl,fun _ _ _ _ _ _ us hl=>by obtain⟨_,rfl⟩:=ut hl;rfl,fun _ _ _ _ _ _ us hl=>by obtain⟨_,_,_,rfl⟩:=iH hl;rfl,fun _ _ _ _ _ _ us hl=>by obtain⟨_,_,_,rfl⟩:=iH hl;rfl,fun _ _ _ _ _ _ us hl=>by obtain⟨_,rfl⟩:=ut hl;rfl,fun _ _ _ _ _ _ us hl=>by obtain⟨_,rfl⟩:=ut hl;rfl,fun _ _ _ _ _ _ us hl=>by obtain⟨_,_,rfl⟩:=jC hl;rfl,fun _ _ _ _ _ _ us hl=>by obtain⟨_,_,rfl⟩:=jC hl;rfl,fun _ _ _ _ _ _ us hl=>by obtain⟨_,_,_,_,rfl⟩:=qe hl;rfl,fun _ _ _ _ _ _ us hl=>by obtain⟨_,_,rfl⟩:=jC hl;rfl,fun _ _ _ _ _ _ us hl=>by obtain⟨_,_,_,rfl⟩:=iH hl;rfl,fun _ _ _ _ _ _ us hl=>by obtain⟨_,_,_,rfl⟩:=iH hl;rfl,fun _ _ _ _ _ _ us hl=>by obtain⟨_,rfl⟩:=ut hl;rfl,fun _ _ _ _ _ _ us hl=>by obtain⟨_,_,rfl⟩:=jC hl;rfl,fun _ _ _ _ _ _ us hl=>by obtain⟨_,_,_,rfl⟩:=iH hl;rfl,fun _ _ _ _ _ _ us hl=>by obtain⟨_,_,_,rfl⟩:=iH hl;rfl,fun _ _ _ _ _ _ us hl=>by obtain⟨_,_,rfl⟩:=jC hl;rfl,fun _ _ _ _ _ _ us hl=>by obtain⟨_,_,rfl⟩:=jC hl;rfl,fun _ _ _ _ _ _ us hl=>by obtain⟨_,_,_,rfl⟩:=iH hl;rfl,fun _ _ _ _ _ _ us hl=>by obtain⟨_,_,rfl⟩:=jC hl;rfl,fun _ _ _ _ _ _ us hl=>by obtain⟨_,_,_,rfl⟩:=iH hl;rfl,fun _ _ _ _ _ _ us hl=>by obtain⟨_,rfl⟩:=ut hl;rfl,fun _ _ _ _ _ _ us hl=>by obtain⟨_,_,_,rfl⟩:=iH hl;rfl,fun _ _ _ _ _ _ us hl=>by obtain⟨_,_,_,rfl⟩:=iH hl;rfl,fun _ _ _ _ _ _ us hl=>by obtain⟨_,_,_,_,rfl⟩:=qe hl;rfl,fun _ _ _ _ _ _ us hl=>by obtain⟨_,_,_,rfl⟩:=iH hl;rfl,fun _ _ _ _ _ _ us hl=>by obtain⟨_,_,_,_,rfl⟩:=qe hl;rfl,fun _ _ _ _ _ _ us hl=>by obtain⟨_,_,rfl⟩:=jC hl;rfl,fun _ _ _ _ _ _ us hl=>by obtain⟨_,_,rfl⟩:=jC hl;rfl,fun _ _ _ _ _ _ us hl=>by obtain⟨_,_,_,rfl⟩:=iH hl;rfl,fun _ _ _ _ _ _ us hl=>by obtain⟨_,_,_,_,rfl⟩:=qe hl;rfl,fun _ _ _ _ _ _ us hl=>by obtain⟨_,_,_,_,rfl⟩:=qe hl;rfl,fun _ _ _ _ _ _ us hl=>by obtain⟨_,_,rfl⟩:=jC hl;rfl,fun _ _ _ _ _ _ us hl=>by obtain⟨_,_,_,_,_,rfl⟩:=abQ hl;rfl,fun _ _ _ _ _ _ us hl=>by obtain⟨_,_,rfl⟩:=jC hl;rfl,fun _ _ _ _ _ _ us hl=>by obtain⟨_,_,_,rfl⟩:=iH hl;rfl,fun _ _ _ _ _ _ us hl=>by obtain⟨_,_,_,rfl⟩:=iH hl;rfl,fun _ _ _ _ _ _ us hl=>by obtain⟨_,_,_,_,_,rfl⟩:=abQ hl;rfl,fun _ _ _ _ _ _ us hl=>by obtain⟨_,_,_,rfl⟩:=iH hl;rfl,fun _ _ _ _ _ _ us hl=>by obtain⟨_,_,_,_,rfl⟩:=qe hl;rfl,fun _ _ _ _ _ _ us hl=>by obtain⟨_,_,_,_,rfl⟩:=qe hl;rfl,fun _ _ _ _ _ _ us hl=>by obtain⟨_,_,_,_,rfl⟩:=qe hl;rfl,fun _ _ _ _ _ _ us hl=>by obtain⟨_,_,rfl⟩:=jC hl;rfl,fun _ _ _ _ _ _ us hl=>by obtain⟨_,_,rfl⟩:=jC hl;rfl,fun _ _ _ _ _ _ us hl=>by obtain⟨_,_,rfl⟩:=jC hl;rfl,fun _ _ _ _ _ _ us hl=>by obtain⟨_,_,_,rfl⟩:=iH hl;rfl,fun _ _ _ _ _ _ us hl=>by obtain⟨_,_,rfl⟩:=jC hl;rfl,fun _ _ _ _ _ _ us hl=>by obtain⟨_,rfl⟩:=ut hl;rfl,fun _ _ _ _ _ _ us hl=>by obtain⟨_,_,_,rfl⟩:=iH hl;rfl,fun _ _ _ _ _ _ us hl=>by obtain⟨_,_,rfl⟩:=jC hl;rfl,fun _ _ _ _ _ _ us hl=>by obtain⟨_,_,_,rfl⟩:=iH hl;rfl,fun _ _ _ _ _ _ us hl=>by obtain⟨_,_,_,_,rfl⟩:=qe hl;rfl,fun _ _ _ _ _ _ us hl=>by obtain⟨_,_,rfl⟩:=jC hl;rfl,fun _ _ _ _ _ _ us hl=>by obtain⟨_,_,_,_,rfl⟩:=qe hl;rfl,fun _ _ _ _ _ _ us hl=>by obtain⟨_,_,_,rfl⟩:=iH hl;rfl,fun _ _ _ _ _ _ us hl=>by obtain⟨_,_,_,_,rfl⟩:=qe hl;rfl,fun _ _ _ _ _ _ us hl=>by obtain⟨_,rfl⟩:=ut hl;rfl,trivial⟩
noncomputable def nms:List (Str×Stmt):=("checked",s0)::("is_net",s1)::("has_parts",s2)::("is_tuple",s3)::("is_number",s4)::("is_name",s5)::("are_unlike",s6)::("is_row",s7)::("is_wire",s8)::("are_wires",s9)::("are_rows",s10)::("is_kind",s11)::("is_held",s12)::("wire_names",s13)::("waiting_gates",s14)::("told",s15)::("told_held",s16)::("checked_talk",s17)::("is_talk",s18)::("is_state",s19)::("stands",s20)::("is_stand",s21)::("first_stand",s22)::("steps_at",s23)::("is_unasked",s24)::("led_to",s25)::("changed",s26)::("newly_met",s27)::("fault",s28)::("paper",s29)::("is_paper",s30)::("is_sound",s31)::("fault_at",s32)::("has_out",s33)::("fault_of_step",s34)::("_law_cell_at",s35)::("_law_mixed",s36)::("_law_next",s37)::("_law_some",s38)::("_law_table",s39)::("_law_kind",s40)::("_law_net",s41)::("_law_talk",s42)::("_law_ring",s43)::("_law_chain",s44)::("_law_meeting",s45)::("_law_spoilt_kind",s46)::("_law_case",s47)::("_law_names",s48)::("_law_tells",s49)::("_law_waiting",s50)::("_law_steps",s51)::("_law_led",s52)::("_law_stands",s53)::("_law_fault_at",s54)::("_law_is_paper",s55)::("_law_spoilt",s56)::("law",s57)::[]
end Tx
end
section
open PySem
section
open Mini
namespace Tx
def aV{n i:Nat}{g:Fn}{ps us:List Sl}(h:pg.fns[i]? =some g:=by kernel_rfl)(e:us=ps++List.replicate (g.names-g.pars) .un:=by rfl)(l:ps.length=g.pars:=by rfl):pg.fn (n+1) i ps=fin g.pars (ex (pg.cf n) g.body us):=by
 subst e
 refine Eq.trans ?_ (Qq _ _ _ l)
 show(match pg.fns[i]? with|some g=>iC (pg.cf n) g ps|none=>pg.pf (pg.cf n) i ps)=_
 rw[h]
noncomputable def pC:Fn:=⟨1,1,(.cons (.ite (.not (.call 1 AAS)) (.cons (.raise 0) .nil) .nil) (.cons (.ret (.var 0)) .nil))⟩
def Hn(n:Nat)(p0:Sl):pg.fn (n+1) 0 [p0]=fin 1 (ex (pg.cf n) pC.body [p0]):=aV (g:=pC)
noncomputable def tX:Fn:=⟨1,2,(.cons (.ite (.or (.cons (.not (.call 3 (.cons (.var 0) (.cons AAp ACZ)))) (.cons (.not (.call 2 AAS)) .nil))) AAP .nil) (.cons (.set 1 (.call 13 AAS)) (.cons (.ite (.or (.cons (.not (.bi .all ADH)) (.cons (.not (.call 6 AAl)) .nil))) AAP .nil) (.cons (.ret (.and (.cons (.bi .all ACN) (.cons (.call 7 (.cons AAk ACe)) .nil)))) .nil))))⟩
def Kc(n:Nat)(p0:Sl):pg.fn (n+1) 1 [p0]=fin 1 (ex (pg.cf n) tX.body [p0,.un]):=aV (g:=tX)
noncomputable def j7:Fn:=⟨1,1,(.cons (.ite (.or (.cons (.not (.call 3 (.cons AAb (.cons AAH (.cons (.glob 3) .nil))))) (.cons (.not (.call 3 (.cons AAc (.cons AAG (.cons (.glob 4) .nil))))) .nil))) AAP .nil) (.cons (.ret (.bi .all (.comp 1 (.name 0) AAc AAL AAw))) .nil))⟩
def yN(n:Nat)(p0:Sl):pg.fn (n+1) 2 [p0]=fin 1 (ex (pg.cf n) j7.body [p0]):=aV (g:=j7)
noncomputable def gH:Fn:=⟨3,3,(.cons (.ret (.and (.cons (.isi (.var 0) .tup) (.cons (.chain .le .le (.var 1) ACv (.var 2)) .nil)))) .nil)⟩
def rB(n:Nat)(p0 p1 p2:Sl):pg.fn (n+1) 3 [p0,p1,p2]=fin 3 (ex (pg.cf n) gH.body [p0,p1,p2]):=aV (g:=gH)
noncomputable def fD:Fn:=⟨3,3,(.cons (.ret (.and (.cons (.isi (.var 0) .int) (.cons (.not ABs) (.cons (.chain .le .le (.var 1) (.var 0) (.var 2)) .nil))))) .nil)⟩
def pN(n:Nat)(p0 p1 p2:Sl):pg.fn (n+1) 4 [p0,p1,p2]=fin 3 (ex (pg.cf n) fD.body [p0,p1,p2]):=aV (g:=fD)
noncomputable def jr:Fn:=⟨1,1,(.cons (.ret (.bi .all ACU)) .nil)⟩
def wB(n:Nat)(p0:Sl):pg.fn (n+1) 6 [p0]=fin 1 (ex (pg.cf n) jr.body [p0]):=aV (g:=jr)
noncomputable def j6:Fn:=⟨2,2,(.cons (.ret (.and (.cons (.call 3 (.cons (.var 0) (.cons (.var 1) AAl))) (.cons (.bi .all ADf) .nil)))) .nil)⟩
def yM(n:Nat)(p0 p1:Sl):pg.fn (n+1) 7 [p0,p1]=fin 2 (ex (pg.cf n) j6.body [p0,p1]):=aV (g:=j6)
noncomputable def ph:Fn:=⟨2,2,(.cons (.ret (.and (.cons (.isi (.var 0) .str) (.cons (.cmp .isin (.var 0) (.var 1)) .nil)))) .nil)⟩
def Hj(n:Nat)(p0 p1:Sl):pg.fn (n+1) 8 [p0,p1]=fin 2 (ex (pg.cf n) ph.body [p0,p1]):=aV (g:=ph)
noncomputable def j8:Fn:=⟨4,4,(.cons (.ite (.not (.call 3 (.cons (.var 0) AAx))) AAP .nil) (.cons (.ret (.and (.cons (.bi .all ADJ) (.cons (.call 6 AAS) .nil)))) .nil))⟩
def yO(n:Nat)(p0 p1 p2 p3:Sl):pg.fn (n+1) 9 [p0,p1,p2,p3]=fin 4 (ex (pg.cf n) j8.body [p0,p1,p2,p3]):=aV (g:=j8)
noncomputable def mL:Fn:=⟨2,2,(.cons (.ite (.or (.cons (.not (.isi (.var 0) .tup)) (.cons (.not (.bi .all ADK)) .nil))) AAP .nil) (.cons (.ret (.bi .all ABp)) .nil))⟩
def Bt(n:Nat)(p0 p1:Sl):pg.fn (n+1) 10 [p0,p1]=fin 2 (ex (pg.cf n) mL.body [p0,p1]):=aV (g:=mL)
noncomputable def cY:Fn:=⟨3,5,(.cons (.ite (.or (.cons (.not (.call 3 (.cons (.var 0) (.cons AAQ ABH)))) (.cons (.not (.isi AAb .str)) .nil))) AAP .nil) (.cons (.set 3 AAb) (.cons (.set 4 ACv) (.cons (.ite (.cmp .isin (.var 3) (.tup AAZ)) (.cons (.ret (.and (.cons ADS (.cons (.call 8 (.cons AAc AAl)) .nil)))) .nil) .nil) (.cons (.ite (.cmp .isin (.var 3) (.tup (.cons ABo (.cons ABu .nil)))) (.cons (.ret (.and (.cons ADS (.cons (.call 9 (.cons AAc (.cons (.var 1) (.cons AAG (.cons (.glob 5) .nil))))) .nil)))) .nil) .nil) (.cons (.ite (.cmp .eq (.var 3) ABz) (.cons (.ret (.and (.cons ADS (.cons (.call 9 (.cons AAc (.cons (.var 1) (.cons AAQ (.cons (.glob 5) .nil))))) .nil)))) .nil) .nil) (.cons (.ite ADT (.cons (.ret (.and (.cons (.cmp .eq (.var 4) AAp) (.cons (.call 9 (.cons AAc (.cons (.var 1) (.cons AAG (.cons (.glob 6) .nil))))) (.cons (.call 10 (.cons AAk (.cons (.bi .len AAc) .nil))) .nil))))) .nil) .nil) (.cons (.ite ADU (.cons (.ret (.and (.cons (.cmp .eq (.var 4) (.con (.int 4))) (.cons (.cmp .lt (.var 2) (.glob 7)) (.cons (.call 12 (.cons (.var 0) (.cons (.var 1) ADe))) .nil))))) .nil) .nil) AAP))))))))⟩
def eY(n:Nat)(p0 p1 p2:Sl):pg.fn (n+1) 11 [p0,p1,p2]=fin 3 (ex (pg.cf n) cY.body [p0,p1,p2,.un,.un]):=aV (g:=cY)
noncomputable def pA:Fn:=⟨3,3,(.cons (.ret (.and (.cons (.call 11 (.cons AAc AAR)) (.cons (.call 8 (.cons AAk AAl)) (.cons (.isi (.idx (.var 0) AAp) .bool) .nil))))) .nil)⟩
def Hl(n:Nat)(p0 p1 p2:Sl):pg.fn (n+1) 12 [p0,p1,p2]=fin 3 (ex (pg.cf n) pA.body [p0,p1,p2]):=aV (g:=pA)
noncomputable def jm:Fn:=⟨1,1,ACP⟩
def mY(n:Nat)(p0:Sl):pg.fn (n+1) 13 [p0]=fin 1 (ex (pg.cf n) jm.body [p0]):=aV (g:=jm)
noncomputable def fL:Fn:=⟨2,3,(.cons (.set 2 (.bi .dict ACi)) (.cons (.ret (.comp 2 (.tup [0,1]) AAc AAa (.var 0))) .nil))⟩
def p8(n:Nat)(p0 p1:Sl):pg.fn (n+1) 14 [p0,p1]=fin 2 (ex (pg.cf n) fL.body [p0,p1,.un]):=aV (g:=fL)
noncomputable def Do:Fn:=⟨3,5,(.cons (.set 3 AAb) (.cons (.ite (.cmp .eq (.var 3) ABy) (.cons (.ret ACs) .nil) .nil) (.cons (.ite (.cmp .eq (.var 3) ACu) (.cons (.ret (.not ACs)) .nil) .nil) (.cons (.ite ADU ADl .nil) (.cons (.set 4 (.bi .tuple (.comp 1 (.name 0) AAc AAL (.idx (.var 3) (.var 0))))) (.cons (.ite (.cmp .eq (.var 3) ABo) ADa .nil) (.cons (.ite (.cmp .eq (.var 3) ABu) ADZ .nil) (.cons (.ite ADT ADP .nil) ABT))))))))⟩
def lX(n:Nat)(p0 p1 p2:Sl):pg.fn (n+1) 15 [p0,p1,p2]=fin 3 (ex (pg.cf n) Do.body [p0,p1,p2,.un,.un]):=aV (g:=Do)
noncomputable def jV:Fn:=⟨3,5,(.cons (.set 3 (.call 15 (.cons AAc AAR))) (.cons (.set 4 (.cmp .eq (.idx (.var 2) AAk) (.var 3))) (.cons (.ret (.ite (.cmp .eq (.var 4) (.idx (.var 0) AAp)) (.var 3) (.var 1))) .nil)))⟩
def yF(n:Nat)(p0 p1 p2:Sl):pg.fn (n+1) 16 [p0,p1,p2]=fin 3 (ex (pg.cf n) jV.body [p0,p1,p2,.un,.un]):=aV (g:=jV)
noncomputable def gJ:Fn:=⟨2,2,(.cons (.ite (.not (.call 18 (.cons (.call 0 AAS) AAl))) (.cons (.raise 0) .nil) .nil) (.cons (.ret (.var 1)) .nil))⟩
def rC(n:Nat)(p0 p1:Sl):pg.fn (n+1) 17 [p0,p1]=fin 2 (ex (pg.cf n) gJ.body [p0,p1]):=aV (g:=gJ)
noncomputable def pq:Fn:=⟨2,4,(.cons (.ite (.not (.call 3 (.cons (.var 1) (.cons AAQ (.cons AAQ .nil))))) AAP .nil) (.cons (.set 2 (.comp 1 (.name 0) AAc AAL AAb)) (.cons (.ite (.or (.cons (.not (.call 9 (.cons AAv (.cons (.var 2) (.cons AAH (.cons ABO .nil)))))) (.cons (.not (.call 3 (.cons AAj (.cons AAG (.cons (.glob 8) .nil))))) .nil))) AAP .nil) (.cons (.set 3 (.op .add AAb AAv)) (.cons (.ret (.bi .all ABm)) .nil)))))⟩
def Hk(n:Nat)(p0 p1:Sl):pg.fn (n+1) 18 [p0,p1]=fin 2 (ex (pg.cf n) pq.body [p0,p1,.un,.un]):=aV (g:=pq)
noncomputable def mG:Fn:=⟨3,3,(.cons (.ite (.or (.cons (.not (.call 3 (.cons (.var 0) (.cons AAH ACe)))) (.cons (.not (.bi .all ADg)) .nil))) AAP .nil) (.cons (.ite (.not (.call 9 (.cons (.bi .tuple (.comp 1 (.name 0) (.var 0) AAL AAb)) (.cons (.var 1) (.cons AAH ACe))))) AAP .nil) (.cons (.ret (.bi .all ABk)) .nil)))⟩
def Bo(n:Nat)(p0 p1 p2:Sl):pg.fn (n+1) 19 [p0,p1,p2]=fin 3 (ex (pg.cf n) mG.body [p0,p1,p2]):=aV (g:=mG)
noncomputable def tV:Fn:=⟨2,4,(.cons ABZ (.cons ADV (.cons (.set 3 ACm) (.cons (.while_ (.var 3) AAe) (.cons (.ret ACm) .nil)))))⟩
def J8(n:Nat)(p0 p1:Sl):pg.fn (n+1) 20 [p0,p1]=fin 2 (ex (pg.cf n) tV.body [p0,p1,.un,.un]):=aV (g:=tV)
noncomputable def dM:Fn:=⟨3,3,(.cons (.ite (.not (.call 3 (.cons (.var 2) (.cons AAQ (.cons AAQ .nil))))) AAP .nil) (.cons (.ret (.and (.cons (.call 7 (.cons AAi (.cons (.bi .len AAk) .nil))) (.cons (.call 4 (.cons AAf (.cons AAH (.cons (.op .sub (.bi .len AAj) AAG) .nil)))) .nil)))) .nil))⟩
def Bp(n:Nat)(p0 p1 p2:Sl):pg.fn (n+1) 21 [p0,p1,p2]=fin 3 (ex (pg.cf n) dM.body [p0,p1,p2]):=aV (g:=dM)
noncomputable def my:Fn:=⟨3,4,(.cons (.set 3 (.bi .dict ACY)) (.cons (.ret (.op .add (.comp 1 (.name 0) AAb ACI (.var 0)) (.call 14 AAs))) .nil))⟩
def Bh(n:Nat)(p0 p1 p2:Sl):pg.fn (n+1) 23 [p0,p1,p2]=fin 3 (ex (pg.cf n) my.body [p0,p1,p2,.un]):=aV (g:=my)
noncomputable def jq:Fn:=⟨3,3,(.cons (.ret (.and (.cons (.cmp .isin (.var 2) AAb) (.cons (.cmp .notin (.var 2) (.bi .dict (.idx AAc AAj))) .nil)))) .nil)⟩
def wA(n:Nat)(p0 p1 p2:Sl):pg.fn (n+1) 24 [p0,p1,p2]=fin 3 (ex (pg.cf n) jq.body [p0,p1,p2]):=aV (g:=jq)
noncomputable def nQ:Fn:=⟨4,5,(.cons (.ite (.call 24 ACX) AAu .nil) (.cons (.set 4 (.bi .dict ACY)) (.cons (.ret (.tup (.cons (.call 26 (.cons (.var 0) (.cons AAi AAT))) (.cons (.get2 (.var 4) (.var 3) AAf) .nil)))) .nil)))⟩
def J9(n:Nat)(p0 p1 p2 p3:Sl):pg.fn (n+1) 25 [p0,p1,p2,p3]=fin 4 (ex (pg.cf n) nQ.body [p0,p1,p2,p3,.un]):=aV (g:=nQ)
noncomputable def pD:Fn:=⟨3,3,(.cons (.ret (.bi .tuple (.comp 2 (.tup [0,1]) ACi AAL (.ite ACo (.not (.var 1)) (.var 1))))) .nil)⟩
def Ho(n:Nat)(p0 p1 p2:Sl):pg.fn (n+1) 26 [p0,p1,p2]=fin 3 (ex (pg.cf n) pD.body [p0,p1,p2]):=aV (g:=pD)
noncomputable def jW:Fn:=⟨4,7,(.cons (.set 4 ABW) (.cons (.for_ (.name 5) (.call 23 ABx) (.cons (.set 6 (.call 25 AAy)) (.cons (.ite (.and (.cons ACz ABR)) ABd .nil) .nil))) ACn))⟩
def yG(n:Nat)(p0 p1 p2 p3:Sl):pg.fn (n+1) 27 [p0,p1,p2,p3]=fin 4 (ex (pg.cf n) jW.body [p0,p1,p2,p3,.un,.un,.un]):=aV (g:=jW)
noncomputable def xQ:Fn:=⟨2,5,(.cons ABZ (.cons ADV (.cons (.set 3 ACm) (.cons (.while_ (.var 3) (.cons ABq (.cons (.ite (.cmp .notN (.var 4) ABX) ACn .nil) AAe))) AAu))))⟩
def QJ(n:Nat)(p0 p1:Sl):pg.fn (n+1) 28 [p0,p1]=fin 2 (ex (pg.cf n) xQ.body [p0,p1,.un,.un,.un]):=aV (g:=xQ)
noncomputable def xP:Fn:=⟨2,2,(.cons (.ret (.ite (.cmp .jx (.call 28 ADd) ABX) (.call 20 ADd) ABX)) .nil)⟩
def QH(n:Nat)(p0 p1:Sl):pg.fn (n+1) 29 [p0,p1]=fin 2 (ex (pg.cf n) xP.body [p0,p1]):=aV (g:=xP)
noncomputable def mJ:Fn:=⟨3,4,(.cons ABZ (.cons (.ite (.or (.cons ACr (.cons (.not (.bi .all ACM)) .nil))) AAP .nil) (.cons (.set 3 (.bi .dict (.comp 1 (.name 0) (.var 2) AAL (.tup ADc)))) (.cons (.ite ABn AAP .nil) (.cons (.ret (.bi .all ABV)) .nil)))))⟩
def Br(n:Nat)(p0 p1 p2:Sl):pg.fn (n+1) 30 [p0,p1,p2]=fin 3 (ex (pg.cf n) mJ.body [p0,p1,p2,.un]):=aV (g:=mJ)
noncomputable def mH:Fn:=⟨4,4,(.cons (.ite (.cmp .notN (.call 32 (.cons (.var 0) (.cons (.var 1) (.cons (.var 2) AAo)))) ABX) AAP .nil) (.cons (.ret (.bi .all ABL)) .nil))⟩
def Bq(n:Nat)(p0 p1 p2 p3:Sl):pg.fn (n+1) 31 [p0,p1,p2,p3]=fin 4 (ex (pg.cf n) mH.body [p0,p1,p2,p3]):=aV (g:=mH)
noncomputable def mK:Fn:=⟨4,7,(.cons (.set 4 (.call 23 ABx)) (.cons (.ite (.and (.cons (.not (.var 4)) (.cons (.call 33 AAR) .nil))) ABU .nil) (.cons (.for_ (.name 5) (.var 4) (.cons ABi (.cons (.ite ACz (.cons (.ret (.var 6)) .nil) .nil) .nil))) AAu)))⟩
def Bs(n:Nat)(p0 p1 p2 p3:Sl):pg.fn (n+1) 32 [p0,p1,p2,p3]=fin 4 (ex (pg.cf n) mK.body [p0,p1,p2,p3,.un,.un,.un]):=aV (g:=mK)
noncomputable def pB:Fn:=⟨2,2,(.cons (.ret (.bi .any (.comp 1 (.name 0) (.idx AAc AAj) AAL ACl))) .nil)⟩
def Hm(n:Nat)(p0 p1:Sl):pg.fn (n+1) 33 [p0,p1]=fin 2 (ex (pg.cf n) pB.body [p0,p1]):=aV (g:=pB)
noncomputable def fM:Fn:=⟨5,7,(.cons (.ite (.call 24 ACX) (.cons (.ret (.tup (.cons (.con (.str "unasked")) ADX))) .nil) .nil) (.cons (.set 5 (.call 14 (.cons (.var 0) (.cons (.idx (.call 25 (.cons (.var 0) ACX)) AAH) .nil)))) (.cons (.for_ (.name 6) (.call 14 AAs) (.cons (.ite ACG ACR .nil) .nil)) AAu)))⟩
def qb(n:Nat)(p0 p1 p2 p3 p4:Sl):pg.fn (n+1) 34 [p0,p1,p2,p3,p4]=fin 5 (ex (pg.cf n) fM.body [p0,p1,p2,p3,p4,.un,.un]):=aV (g:=fM)
noncomputable def dF:Fn:=⟨2,2,(.cons (.ite (.cmp .lt (.var 1) ACv) (.cons (.ret (.idx (.var 0) (.var 1))) .nil) .nil) (.cons (.ite (.cmp .eq (.var 0) ABW) (.cons (.ret AAH) .nil) .nil) (.cons (.ret (.op .add (.op .mul (.idx (.var 0) (.op .mod (.var 1) ACv)) (.con (.int 31))) (.var 1))) .nil)))⟩
def ig(n:Nat)(p0 p1:Sl):pg.fn (n+1) 35 [p0,p1]=fin 2 (ex (pg.cf n) dF.body [p0,p1]):=aV (g:=dF)
noncomputable def j4:Fn:=⟨3,4,(.cons (.set 3 (.op .mod (.op .mul (.op .add (.op .add (.call 35 ADd) (.op .mul (.con (.int 7919)) (.var 1))) AAG) (.con (.int 48271))) (.con (.int 2147483647)))) (.cons (.ret (.op .mod (.op .mod (.op .add (.op .add (.op .mul (.var 3) (.var 3)) (.op .mul (.con (.int 7)) (.var 3))) (.var 1)) (.con (.int 2147483629))) (.var 2))) .nil))⟩
def yK(n:Nat)(p0 p1 p2:Sl):pg.fn (n+1) 36 [p0,p1,p2]=fin 3 (ex (pg.cf n) j4.body [p0,p1,p2,.un]):=aV (g:=j4)
noncomputable def mF:Fn:=⟨3,3,(.cons (.setIx 1 AAH (.op .add AAv AAG)) (.cons (.ret (.call 36 (.cons (.var 0) (.cons AAv (.cons (.var 2) .nil))))) .nil))⟩
def Bm(n:Nat)(p0 p1 p2:Sl):pg.fn (n+1) 37 [p0,p1,p2]=fin 3 (ex (pg.cf n) mF.body [p0,p1,p2]):=aV (g:=mF)
noncomputable def mC:Fn:=⟨5,6,(.cons (.set 5 ACm) (.cons (.while_ ABI ABa) (.cons (.ret ACj) .nil)))⟩
def Bk(n:Nat)(p0 p1 p2 p3 p4:Sl):pg.fn (n+1) 38 [p0,p1,p2,p3,p4]=fin 5 (ex (pg.cf n) mC.body [p0,p1,p2,p3,p4,.un]):=aV (g:=mC)
noncomputable def jY:Fn:=⟨3,6,(.cons (.set 3 (.call 38 (.cons (.var 0) (.cons (.ref 1) (.cons (.var 2) (.cons AAG ACZ)))))) (.cons (.set 4 (.lis (.cons (.tup .nil) .nil))) (.cons (.for_ (.name 5) (.var 3) (.cons (.set 4 (.op .add (.comp 1 (.name 0) (.var 4) AAL (.op .add (.var 0) (.tup (.cons (.con (.bl false)) .nil)))) (.comp 1 (.name 0) (.var 4) AAL (.op .add (.var 0) (.tup ACL))))) .nil)) (.cons (.ret (.tup (.cons ABt (.cons (.var 3) (.cons (.bi .tuple (.bi .sorted (.comp 1 (.name 0) (.var 4) AAh (.var 0)))) .nil))))) .nil))))⟩
def yH(n:Nat)(p0 p1 p2:Sl):pg.fn (n+1) 39 [p0,p1,p2]=fin 3 (ex (pg.cf n) jY.body [p0,p1,p2,.un,.un,.un]):=aV (g:=jY)
noncomputable def cX:Fn:=⟨4,6,(.cons (.set 4 (.call 37 (.cons (.var 0) (.cons (.ref 1) (.cons (.con (.int 9)) .nil))))) (.cons (.ite (.or (.cons (.cmp .lt (.var 4) (.con (.int 4))) (.cons (.cmp .lt ABO AAQ) .nil))) (.cons (.ret (.tup (.cons (.idx (.lis AAZ) (.op .mod (.var 4) AAQ)) (.cons ACQ .nil)))) .nil) .nil) (.cons (.ite (.cmp .lt (.var 4) (.con (.int 7))) (.cons (.ret (.tup (.cons (.idx (.lis (.cons ABo (.cons ABu (.cons ABz .nil)))) (.op .sub (.var 4) (.con (.int 4)))) (.cons (.call 38 (.cons (.var 0) (.cons (.ref 1) (.cons (.var 2) (.cons AAQ ACZ))))) .nil)))) .nil) .nil) (.cons (.ite (.or (.cons (.cmp .eq (.var 4) (.con (.int 7))) (.cons (.cmp .eq (.var 3) AAH) .nil))) (.cons (.ret (.call 39 (.cons (.var 0) (.cons (.ref 1) (.cons (.var 2) .nil))))) .nil) .nil) (.cons (.set 5 (.call 40 (.cons (.var 0) (.cons (.ref 1) (.cons (.var 2) (.cons (.op .sub (.var 3) AAG) .nil)))))) (.cons (.ret (.tup (.cons ABh (.cons (.var 5) (.cons ACQ (.cons ACw .nil)))))) .nil))))))⟩
def iW(n:Nat)(p0 p1 p2 p3:Sl):pg.fn (n+1) 40 [p0,p1,p2,p3]=fin 4 (ex (pg.cf n) cX.body [p0,p1,p2,p3,.un,.un]):=aV (g:=cX)
noncomputable def o8:Fn:=⟨4,8,(.cons (.set 4 (.slc (.tup (.cons ABY (.cons ACW (.cons (.con (.str "come")) .nil)))) .noneE (.call 37 (.cons (.var 0) (.cons (.ref 1) ADe))))) (.cons (.set 5 (.slc (.tup ABM) .noneE ACc)) (.cons ADb (.cons (.set 7 (.bi .tuple (.comp 1 (.name 0) (.var 5) AAL (.tup ABc)))) (.cons (.ret (.tup (.cons (.var 4) (.cons (.var 7) (.cons (.bi .tuple (.comp 1 (.name 0) (.var 6) AAL AAh)) .nil))))) .nil)))))⟩
def Hh(n:Nat)(p0 p1 p2 p3:Sl):pg.fn (n+1) 41 [p0,p1,p2,p3]=fin 4 (ex (pg.cf n) o8.body [p0,p1,p2,p3,.un,.un,.un,.un]):=aV (g:=o8)
noncomputable def mz:Fn:=⟨4,9,(.cons (.set 4 (.bi .tuple (.comp 1 (.name 0) AAf ABJ AAb))) (.cons (.set 5 ACc) (.cons (.set 6 ABW) (.cons (.for_ (.name 7) (.range1 (.var 5)) (.cons (.set 8 (.comp 1 (.name 0) ADR AAh (.var 0))) (.cons (.append 6 (.bi .tuple (.comp 1 (.name 0) (.var 8) AAL (.tup ACO)))) .nil))) (.cons (.ret (.tup (.cons (.var 4) (.cons (.bi .tuple (.var 6)) .nil)))) .nil)))))⟩
def Bj(n:Nat)(p0 p1 p2 p3:Sl):pg.fn (n+1) 42 [p0,p1,p2,p3]=fin 4 (ex (pg.cf n) mz.body [p0,p1,p2,p3,.un,.un,.un,.un,.un]):=aV (g:=mz)
noncomputable def mD:Fn:=⟨2,5,(.cons (.set 2 (.slc (.lis ABM) .noneE (.op .add AAp (.call 37 (.cons (.var 0) (.cons (.ref 1) ACZ)))))) (.cons (.set 3 ABW) (.cons (.for_ (.name 4) (.range1 ABO) AAg) (.cons (.ret (.tup (.cons (.tup .nil) (.cons (.bi .tuple (.var 3)) (.cons (.bi .tuple (.comp 1 (.name 0) (.var 2) AAL AAh)) .nil))))) .nil))))⟩
def Bl(n:Nat)(p0 p1:Sl):pg.fn (n+1) 43 [p0,p1]=fin 2 (ex (pg.cf n) mD.body [p0,p1,.un,.un,.un]):=aV (g:=mD)
noncomputable def j5:Fn:=⟨2,8,(.cons (.set 2 (.slc (.lis (.cons ACg (.cons ACf (.cons (.con (.str "rr")) (.cons (.con (.str "go")) .nil))))) .noneE (.op .add AAG (.call 37 (.cons (.var 0) (.cons (.ref 1) ABH)))))) (.cons (.set 3 ABY) (.cons (.set 4 (.lis (.cons ACw .nil))) (.cons (.set 5 ABW) (.cons (.for_ (.name 6) (.var 2) AAn) (.cons (.ret (.tup (.cons (.tup (.cons (.tup (.cons ABY .nil)) (.cons ACj (.cons (.bi .tuple (.var 4)) .nil)))) (.cons (.tup (.cons (.tup (.cons (.idx (.var 2) (.neg AAG)) .nil)) (.cons (.tup (.cons (.tup (.cons (.tup (.cons ABY ACk)) .nil)) (.cons (.tup (.cons (.tup (.cons (.idx (.var 2) (.neg AAG)) ABe)) .nil)) .nil))) .nil))) .nil)))) .nil))))))⟩
def yL(n:Nat)(p0 p1:Sl):pg.fn (n+1) 44 [p0,p1]=fin 2 (ex (pg.cf n) j5.body [p0,p1,.un,.un,.un,.un,.un,.un]):=aV (g:=j5)
noncomputable def aN:Fn:=⟨2,8,(.cons (.set 2 (.call 37 (.cons (.var 0) (.cons (.ref 1) (.cons (.con (.int 6)) .nil))))) (.cons (.set 3 (.tup (.cons (.idx (.lis (.cons ABz (.cons ABz (.cons ABo (.cons ABu (.cons ABz (.cons ABz .nil))))))) (.var 2)) (.cons (.tup (.cons ABY (.cons ACW .nil))) .nil)))) (.cons (.ite (.cmp .gt (.var 2) AAp) (.cons (.set 3 (.tup (.cons ABh (.cons (.tup (.cons ABy (.cons ABY .nil))) (.cons ACW ACL))))) .nil) .nil) (.cons (.set 4 (.tup (.cons (.tup (.cons (.tup (.cons ABY ACk)) (.cons (.tup (.cons ACW (.cons AAQ .nil))) .nil))) (.cons (.tup (.cons (.tup (.cons ACW ACZ)) .nil)) (.cons (.tup (.cons (.tup (.cons ABY ACZ)) .nil)) (.cons (.tup (.cons (.tup (.cons ACg ABe)) .nil)) .nil)))))) (.cons (.set 5 (.lis (.cons (.tup (.cons ACg AAT)) .nil))) (.cons (.ite ACw (.cons (.append 5 (.tup (.cons ACf (.cons (.tup (.cons (.idx (.lis AAZ) AAd) (.cons ACg .nil))) .nil)))) .nil) .nil) (.cons (.set 6 ACw) (.cons (.set 7 (.lis (.cons (.var 6) (.cons (.var 6) ABP)))) (.cons (.ite (.cmp .gt (.bi .len (.var 5)) AAG) (.cons (.append 7 (.cmp .eq (.var 6) (.cmp .eq (.idx (.idx (.idx (.var 5) AAG) AAG) AAH) ABy))) .nil) .nil) (.cons (.ret (.tup (.cons (.tup (.cons (.tup (.cons ABY (.cons ACW .nil))) (.cons ACj (.cons (.bi .tuple (.var 7)) .nil)))) (.cons (.tup (.cons (.tup (.cons ACg .nil)) ADX)) .nil)))) .nil))))))))))⟩
def ie(n:Nat)(p0 p1:Sl):pg.fn (n+1) 45 [p0,p1]=fin 2 (ex (pg.cf n) aN.body [p0,p1,.un,.un,.un,.un,.un,.un]):=aV (g:=aN)
noncomputable def cQ:Fn:=⟨3,6,(.cons (.set 3 (.op .add AAi (.bi .tuple (.comp 1 (.name 0) AAf AAL AAb)))) (.cons (.set 4 (.call 37 (.cons (.var 0) (.cons (.ref 1) (.cons (.bi .len AAf) .nil))))) (.cons (.set 5 (.bi .list AAf)) (.cons (.setIx 5 (.var 4) (.tup (.cons (.idx (.idx (.var 5) (.var 4)) AAH) (.cons (.call 40 (.cons (.var 0) (.cons (.ref 1) (.cons (.var 3) ACk)))) .nil)))) (.cons (.ret (.tup (.cons AAi (.cons ACj (.cons (.idx (.var 2) AAQ) .nil))))) .nil)))))⟩
def mZ(n:Nat)(p0 p1 p2:Sl):pg.fn (n+1) 46 [p0,p1,p2]=fin 3 (ex (pg.cf n) cQ.body [p0,p1,p2,.un,.un,.un]):=aV (g:=cQ)
noncomputable def bG:Fn:=⟨2,6,(.cons (.set 2 (.lis AAl)) (.cons (.set 3 (.call 37 (.cons (.var 0) (.cons (.ref 2) (.cons (.con (.int 8)) .nil))))) (.cons (.ite (.cmp .lt (.var 3) AAQ) (.cons (.set 4 (.call 41 (.cons (.var 0) (.cons (.ref 2) (.cons AAQ ABH))))) (.cons (.ret (.tup (.cons (.var 4) (.cons (.call 42 (.cons (.var 0) (.cons (.ref 2) (.cons (.var 4) ABH)))) .nil)))) .nil)) .nil) (.cons (.ite (.cmp .eq (.var 3) AAQ) (.cons (.ret (.tup (.cons (.call 41 (.cons (.var 0) (.cons (.ref 2) (.cons AAH ABH)))) (.cons (.tup (.cons (.tup .nil) (.cons (.tup (.cons (.tup .nil) .nil)) .nil))) .nil)))) .nil) .nil) (.cons (.ite (.cmp .eq (.var 3) AAp) (.cons (.set 4 (.call 43 ACV)) (.cons (.ite ACS (.cons (.ret (.tup (.cons (.var 4) (.cons (.tup (.cons (.tup .nil) (.cons (.tup (.cons (.tup .nil) .nil)) .nil))) .nil)))) .nil) .nil) (.cons (.ret (.tup (.cons (.var 4) (.cons (.tup (.cons (.tup (.cons ACf .nil)) (.cons (.tup (.cons (.tup (.cons (.tup (.cons ACf ACk)) .nil)) (.cons (.tup (.cons (.tup (.cons ACf ABe)) .nil)) .nil))) .nil))) .nil)))) .nil))) .nil) (.cons (.ite (.cmp .lt (.var 3) (.con (.int 6))) (.cons (.setT [4,5] (.call 44 ACV)) .nil) (.cons (.setT [4,5] (.call 45 ACV)) .nil)) (.cons (.ite (.and (.cons (.cmp .eq (.op .mod (.var 3) AAQ) AAG) (.cons ACS .nil))) (.cons (.set 4 (.call 46 (.cons (.var 0) (.cons (.ref 2) ADX)))) .nil) .nil) (.cons (.ret (.tup (.cons (.var 4) AAV))) .nil))))))))⟩
def dI(n:Nat)(p0 p1:Sl):pg.fn (n+1) 47 [p0,p1]=fin 2 (ex (pg.cf n) bG.body [p0,p1,.un,.un,.un,.un]):=aV (g:=bG)
noncomputable def pZ:Fn:=⟨1,1,ACP⟩
def yJ(n:Nat)(p0:Sl):pg.fn (n+1) 48 [p0]=fin 1 (ex (pg.cf n) pZ.body [p0]):=aV (g:=pZ)
noncomputable def jX:Fn:=⟨3,5,(.cons (.ite (.cmp .eq AAb ABy) (.cons (.ret ACt) .nil) .nil) (.cons (.ite (.cmp .eq AAb ACu) (.cons (.ret (.not ACt)) .nil) .nil) (.cons (.ite (.cmp .eq AAb ABh) AAz .nil) (.cons (.set 4 (.comp 1 (.name 0) AAc AAL (.idx (.var 2) (.var 0)))) (.cons (.ite (.cmp .eq AAb ABt) ACh .nil) (.cons (.ite (.cmp .eq AAb ABo) ACd .nil) (.cons (.ite (.cmp .eq AAb ABu) ADN .nil) (.cons (.ite ABr (.cons (.ret (.var 2)) .nil) .nil) ADY))))))))⟩
def cU(n:Nat)(p0 p1 p2:Sl):pg.fn (n+1) 49 [p0,p1,p2]=fin 3 (ex (pg.cf n) jX.body [p0,p1,p2,.un,.un]):=aV (g:=jX)
noncomputable def iu:Fn:=⟨2,3,(.cons (.set 2 (.bi .dict (.bi .list (.zip ADh (.var 1))))) (.cons (.ret (.comp 1 (.name 0) AAc AAq AAb)) .nil))⟩
def um(n:Nat)(p0 p1:Sl):pg.fn (n+1) 50 [p0,p1]=fin 2 (ex (pg.cf n) iu.body [p0,p1,.un]):=aV (g:=iu)
noncomputable def jZ:Fn:=⟨3,4,(.cons (.set 3 (.comp 1 (.name 0) ACY ACl AAb)) (.cons ADQ (.cons (.ret (.comp 1 (.name 0) ADh ACI (.var 0))) .nil)))⟩
def yI(n:Nat)(p0 p1 p2:Sl):pg.fn (n+1) 51 [p0,p1,p2]=fin 3 (ex (pg.cf n) jZ.body [p0,p1,p2,.un]):=aV (g:=jZ)
noncomputable def o9:Fn:=⟨4,8,(.cons (.set 4 ADh) (.cons (.set 5 (.bi .tuple (.comp 1 (.name 0) (.range1 ADk) AAL (.cmp .ne ADi ACH)))) (.cons (.ite (.and (.cons (.cmp .notin (.var 3) AAb) (.cons (.cmp .notin (.var 3) AAv) .nil))) (.cons (.ret (.tup (.cons (.var 5) (.cons AAf .nil)))) .nil) .nil) (.cons (.for_ (.tup [6,7]) ACY (.cons (.ite (.cmp .eq (.var 6) (.var 3)) ACa .nil) .nil)) AAu))))⟩
def Hi(n:Nat)(p0 p1 p2 p3:Sl):pg.fn (n+1) 52 [p0,p1,p2,p3]=fin 4 (ex (pg.cf n) o9.body [p0,p1,p2,p3,.un,.un,.un,.un]):=aV (g:=o9)
noncomputable def jn:Fn:=⟨2,7,(.cons ACq (.cons (.set 3 (.dsp (.cons AAi AAo))) (.cons (.set 4 AAH) (.cons (.while_ (.cmp .lt (.var 4) ABO) (.cons (.for_ (.name 5) ACJ (.cons ABw (.cons (.ite (.and (.cons ACz ABR)) ABS .nil) .nil))) ADM)) (.cons (.ret (.tup AAx)) .nil)))))⟩
def wy(n:Nat)(p0 p1:Sl):pg.fn (n+1) 53 [p0,p1]=fin 2 (ex (pg.cf n) jn.body [p0,p1,.un,.un,.un,.un,.un]):=aV (g:=jn)
noncomputable def gG:Fn:=⟨4,9,(.cons (.set 4 (.call 51 ABx)) (.cons (.ite (.cmp .eq (.var 4) ABW) (.cons (.ite (.cmp .ne (.comp 1 (.name 0) ACY (.cmp .isin AAb AAi) (.var 0)) ABW) ABU .nil) AAu) .nil) (.cons (.for_ (.name 5) (.var 4) (.cons (.set 6 (.call 52 AAy)) (.cons (.ite (.cmp .jx (.var 6) ABX) ACT .nil) (.cons ABv (.cons (.set 8 (.comp 1 (.name 0) (.call 50 AAs) (.cmp .notin (.var 0) (.var 8)) (.var 0))) (.cons (.ite (.cmp .ne (.var 8) ABW) ABl .nil) .nil)))))) AAu)))⟩
def rA(n:Nat)(p0 p1 p2 p3:Sl):pg.fn (n+1) 54 [p0,p1,p2,p3]=fin 4 (ex (pg.cf n) gG.body [p0,p1,p2,p3,.un,.un,.un,.un,.un]):=aV (g:=gG)
noncomputable def gF:Fn:=⟨3,5,(.cons (.ite (.or (.cons ACr (.cons (.cmp .notin (.tup (.cons AAk ABe)) (.var 2)) .nil))) AAP .nil) (.cons (.for_ (.name 3) (.var 2) (.cons (.ite AAt AAP .nil) (.cons (.ite ABG AAP .nil) (.cons (.ite (.or (.cons ADW (.cons (.cmp .ne (.comp 1 (.name 0) AAr (.not ABs) (.var 0)) ABW) .nil))) AAP .nil) (.cons (.ite (.cmp .notN ACb ABX) AAP .nil) (.cons (.for_ (.name 4) ACx (.cons (.ite ABf AAP .nil) .nil)) .nil)))))) (.cons (.ret AAL) .nil)))⟩
def rn(n:Nat)(p0 p1 p2:Sl):pg.fn (n+1) 55 [p0,p1,p2]=fin 3 (ex (pg.cf n) gF.body [p0,p1,p2,.un,.un]):=aV (g:=gF)
noncomputable def jo:Fn:=⟨4,9,(.cons (.set 4 (.call 36 (.cons (.var 0) (.cons AAG (.cons (.op .pow (.con (.int 10)) (.con (.int 6))) .nil))))) (.cons (.set 5 (.op .mod (.op .fdiv (.var 4) (.con (.int 16))) (.bi .len (.var 3)))) (.cons (.setT [6,7] ADL) (.cons (.set 8 (.lis (.cons (.var 3) (.cons (.rev (.var 3)) (.cons (.op .add ABK AAm) (.cons (.op .add (.var 3) (.lis (.cons ADL .nil))) (.cons (.bi .tuple (.var 3)) (.cons ABX (.cons (.op .add (.var 3) (.lis (.cons ABX .nil))) .nil))))))))) (.cons (.append 8 (.op .add (.var 3) (.lis (.cons (.tup ABP) .nil)))) (.cons (.extend 8 (.lis (.cons (.op .add (.op .add ABK (.lis (.cons (.tup (.cons (.var 6) (.cons (.bi .len AAf) .nil))) .nil))) AAm) (.cons (.op .add (.op .add ABK (.lis (.cons (.tup (.cons (.slc (.var 6) AAG .noneE) (.cons (.var 7) .nil))) .nil))) AAm) .nil)))) (.cons (.extend 8 (.lis (.cons (.op .add (.op .add ABK (.lis (.cons (.tup (.cons (.var 6) ACL)) .nil))) AAm) (.cons (.op .add (.var 3) (.lis (.cons (.tup (.cons (.op .mul (.tup (.cons (.con (.bl false)) .nil)) ADj) ABe)) .nil))) AAo)))) (.cons (.extend 8 (.lis (.cons (.op .add (.var 3) (.lis (.cons (.tup (.cons (.op .mul (.tup ACL) ADj) (.cons (.op .sub (.bi .len AAf) AAG) .nil))) .nil))) (.cons (.op .add (.op .add ABK (.lis (.cons (.bi .list ADL) .nil))) AAm) .nil)))) (.cons (.ret (.idx (.op .add (.var 8) (.lis (.cons (.op .add (.op .add ABK (.lis (.cons (.tup (.cons (.op .mul (.tup ACk) ADj) (.cons (.var 7) .nil))) .nil))) AAm) .nil))) (.op .mod (.var 4) (.con (.int 16))))) .nil)))))))))⟩
def wz(n:Nat)(p0 p1 p2 p3:Sl):pg.fn (n+1) 56 [p0,p1,p2,p3]=fin 4 (ex (pg.cf n) jo.body [p0,p1,p2,p3,.un,.un,.un,.un,.un]):=aV (g:=jo)
noncomputable def Oh:Fn:=⟨1,9,(.cons ADG (.cons (.setT [3,4] (.call 53 AAR)) (.cons (.set 5 (.cmp .eq (.comp 1 (.name 0) (.var 3) (.cmp .notN ABQ ABX) (.var 0)) ABW)) (.cons (.set 6 (.call 29 AAR)) (.cons (.ite (.or (.cons (.cmp .ne (.var 6) (.idx (.lis (.cons ABX AAT)) (.bi .int (.var 5)))) ABg)) AAP .nil) ACp)))))⟩
def abe(n:Nat)(p0:Sl):pg.fn (n+1) 57 [p0]=fin 1 (ex (pg.cf n) Oh.body [p0,.un,.un,.un,.un,.un,.un,.un,.un]):=aV (g:=Oh)
end Tx
end
end
section
open PySem Mini
namespace Tx
abbrev sc(ns:List Int):D:=.lst (ns.map .int)
def Oj(ns:List Int)(i:Int)(h0:0<=i)(h:i<ns.length):∃r:Int,at? (ns.map D.int) i=some (.int r):=by
 unfold at? ix?
 rw[QAq,if_neg (by omega:¬i<0)]
 rw[if_pos ⟨h0,h⟩]
 have:i.toNat<ns.length:=by omega
 exact⟨ns[i.toNat],by simp[this]⟩
def Lg(ns:List Int):fK (ns.map D.int)=true:=by
 induction ns with
 |nil=>rfl
 |cons i r ih=>simp[fK,nd,ih]
def Iw(ns:List Int):eU (ns.map D.int)=0:=by
 induction ns with
 |nil=>rfl
 |cons i r ih=>simp[eU,dep,ih]
def M9(ns:List Int):aJ .eq (.lst (ns.map .int)) (.lst [])=some ns.isEmpty:=by
 cases ns with
 |nil=>rfl
 |cons i ns=>simp[aJ,mq,flat,nd,fK,dep,eU,dR,jR,Lg,Iw]
def Dg n ns k(hk:0<=k):∃r:Int,pg.fn (n+1) 35 [.val (sc ns),.val (.int k)]=.ok (.val (.int r)) [.val (sc ns),.val (.int k)]:=by
 by_cases h:k<ns.length
 ·obtain⟨r,e⟩:=Oj ns k hk h
  exact⟨r,by rw[ig];simp[dF,h,e]⟩
 ·by_cases hn:ns=[]
  ·subst hn
   have h0:¬k<0:=by omega
   exact⟨0,by rw[ig];simp[dF,h0,aO,fits,M9 []]⟩
  ·have hl':=List.length_pos_iff.mpr hn
   have hl:(0:Int)<ns.length:=by omega
   obtain⟨r,e⟩:=Oj ns (k%ns.length) (Int.emod_nonneg _ (by omega)) (Int.emod_lt_of_pos _ hl)
   have he:ns.isEmpty=false:=by simpa using hn
   exact⟨r*31+k,by rw[ig];simp[dF,h,e,aO,fits,M9,he,hl,hl',small]⟩
@[simp]theorem ahh(n:Nat):(pg.cf n).fn=pg.fn n:=rfl
@[simp]theorem ahg(n:Nat):(pg.cf n).gl=pg.gl:=rfl
@[simp]theorem acp(n:Nat):(pg.cf n).turns=1000:=rfl
def zc n ns k many(hk:0<=k)(hm:0<many):∃r:Int,0<=r/\r<many/\
  pg.fn (n+2) 36 [.val (sc ns),.val (.int k),.val (.int many)]=.ok (.val (.int r)) [.val (sc ns),.val (.int k),.val (.int many)]:=by
 obtain⟨c,e⟩:=Dg n ns k hk
 have b:∀x:Int,small (x%2147483647)=true:=fun x=>by
  simp[small]
  omega
 have s1:small 7919=true:=by decide
 have s2:small 48271=true:=by decide
 refine⟨_,?_,?_,by rw[yK];simp[j4,e,s1,s2,s3,b,hm];rfl⟩
 ·exact Int.emod_nonneg _ (by omega)
 ·exact Int.emod_lt_of_pos _ hm
def Pn{k:Int}(h:0<=k):0<=k+1:=Int.le_trans h (Int.le_add_one (Int.le_refl k))
def bw n ns k many(hk:0<=k)(hm:0<many):∃r:Int,0<=r/\r<many/\
  pg.fn (n+3) 37 [.val (sc ns),.bor (.lst [.int k]),.val (.int many)]=.ok (.val (.int r)) [.val (sc ns),.bor (.lst [.int (k+1)]),.val (.int many)]:=by
 obtain⟨r,h1,h2,e⟩:=zc n ns _ many (Pn hk) hm
 refine⟨r,h1,h2,?_⟩
 rw[Bm]
 simp[mF,at?,ix?,yQ,e]
end Tx
end
section
open PySem Mini
namespace Tx
def qR:E:=ABI
def yC:S:=ABa
abbrev someσ(ns:List Int)(k:Int)(xs:List D)(least most:Int)(row:List D):Ev:=[.val (sc ns),.bor (.lst [.int k]),.val (.tup xs),.val (.int least),.val (.int most),.own (.lst row)]
def JP n ns k(hk:0<=k)xs row least most(h0:0<row.length)(hf:row.length<=1000):
  ∃j:Nat,j<row.length/\ex (pg.cf (n+3)) yC (someσ ns k xs least most row)=.next (someσ ns (k+1) xs least most (row.eraseIdx j)):=by
 obtain⟨r,h1,h2,e⟩:=bw n ns k row.length hk (by omega)
 refine⟨r.toNat,by omega,?_⟩
 have f:fits row.length=true:=by simp[fits];omega
 have hx:ix? row.length r=some r.toNat:=by
  unfold ix?
  rw[if_neg (by omega:¬r<0),if_pos ⟨h1,h2⟩]
 have hr:row[r.toNat]? =some _:=QXq (by omega)
 simp[yC,e,di,rF,f,hx,hr,wI]
theorem G7(n:Nat)(ns:List Int)(xs:List D)(least most:Int)(hx:xs.length<=1000)(hl:0<=least)(hlm:least<=most):∀(L:Nat)(row:List D)(k:Int)(fuel:Nat),row.length=L->L<fuel->0<=k->row.Sublist xs->least<=row.length->
  ∃ys k',ys.Sublist xs/\least<=ys.length/\ys.length<=most/\0<=k'/\bQ (ev (pg.cf (n+3)) qR) (ex (pg.cf (n+3)) yC) fuel (someσ ns k xs least most row)=.next (someσ ns k' xs least most ys):=by
 intro L
 induction L with
 |zero=>
  intro row k fuel hL hf hk hs hr
  obtain⟨fuel,rfl⟩:∃f,fuel=f+1:=⟨fuel-1,by omega⟩
  have:¬least<row.length:=by omega
  exact⟨row,k,hs,hr,by omega,hk,by simp[bQ,qR,this]⟩
 |succ L ih=>
  intro row k fuel hL hf hk hs hr
  obtain⟨fuel,rfl⟩:∃f,fuel=f+1:=⟨fuel-1,by omega⟩
  have hrl:=hs.length_le
  by_cases h1:least<row.length
  ·--the row is longer than the least
   have cont:∀k1:Int,0<=k1->∃ys k',ys.Sublist xs/\least<=ys.length/\ys.length<=most/\0<=k'/\
     (ex _ yC _).turn _=.next (someσ ns k' xs least most ys):=fun k1 hk1=>by
    obtain⟨j,hj,e⟩:=JP n ns k1 hk1 xs row least most (by omega) (by omega)
    have el:(row.eraseIdx j).length=L:=by rw[List.length_eraseIdx_of_lt hj];omega
    obtain⟨ys,k',a1,a2,a3,a4,a5⟩:=ih _ (k1+1) fuel el (by omega) (by omega) ((List.eraseIdx_sublist row j).trans hs) (by omega)
    exact⟨ys,k',a1,a2,a3,a4,by rw[e];exact a5⟩
   by_cases h2:most<row.length
   ·obtain⟨ys,k',a1,a2,a3,a4,a5⟩:=cont k hk
    refine⟨ys,k',a1,a2,a3,a4,?_⟩
    rw[<-a5]
    simp[bQ,qR,h1,h2]
   ·obtain⟨r,b1,b2,e⟩:=bw n ns k 2 hk (by omega)
    by_cases h3:r=1
    ·subst h3
     obtain⟨ys,k',a1,a2,a3,a4,a5⟩:=cont (k+1) (by omega)
     refine⟨ys,k',a1,a2,a3,a4,?_⟩
     rw[<-a5]
     simp[bQ,qR,h1,h2,e]
    ·exact⟨row,k+1,hs,by omega,by omega,by omega,by simp[bQ,qR,h1,h2,e,h3]⟩
  ·exact⟨row,k,hs,by omega,by omega,hk,by simp[bQ,qR,h1]⟩
def Eb n ns k(hk:0<=k)xs least most(hx:xs.length<=900)(hl:0<=least)(hlm:least<=most)(hxl:least<=xs.length):
  ∃ys k',ys.Sublist xs/\least<=ys.length/\ys.length<=most/\0<=k'/\
   pg.fn (n+4) 38 [.val (sc ns),.bor (.lst [.int k]),.val (.tup xs),.val (.int least),.val (.int most)]=.ok (.val (.tup ys)) [.val (sc ns),.bor (.lst [.int k']),.val (.tup xs),.val (.int least),.val (.int most)]:=by
 obtain⟨ys,k',a1,a2,a3,a4,a5⟩:=G7 n ns xs least most (by omega) hl hlm xs.length xs k 1000 rfl (by omega) hk (List.Sublist.refl _) hxl
 refine⟨ys,k',a1,a2,a3,a4,?_⟩
 rw[Bk]
 have hb:mC.body=.cons _ (.cons (.while_ qR yC) _):=rfl
 rw[hb]
 simp[a5]
end Tx
end
section
open PySem Mini
namespace Tx
def ug(s:Sl):Prop:=s=.un\/∃d,s=.val d
def jL(h:ug s)d(r:Ev):bD (.name 0) d (s::r)=some (.val d::r):=by
 rcases h with rfl|⟨e,rfl⟩<;>simp[bD]
def pY:E:=AAh
def xJ n ns k(hk:0<=k)d(rest:Ev):∃b:Bool,ev (pg.cf (n+3)) pY (.val d:: .val (sc ns):: .bor (.lst [.int k])::rest)=.ok (.val (.bl b)) (.val d:: .val (sc ns):: .bor (.lst [.int (k+1)])::rest):=by
 obtain⟨r,h1,h2,e⟩:=bw n ns k 2 hk (by omega)
 exact⟨r==1,by simp[pY,e]⟩
theorem NQ(n:Nat)(ns:List Int)(rest:Ev):∀(xs acc:List D)(k:Int)(s:Sl),0<=k->ug s->∃bs k' s',bs.length=xs.length/\0<=k'/\ug s'/\
  aU (.name 0) (ev (pg.cf (n+3)) pY) (ev (pg.cf (n+3)) (.var 0)) xs acc (s:: .val (sc ns):: .bor (.lst [.int k])::rest)=.ok (acc++m8 bs xs) (s':: .val (sc ns):: .bor (.lst [.int k'])::rest)
 |[]=>fun acc k s hk hs=>⟨[],k,s,rfl,hk,hs,by simp[aU,m8]⟩
 |x::xs=>fun acc k s hk hs=>by
  obtain⟨b,e⟩:=xJ n ns k hk x rest
  cases b with
  |true=>
   obtain⟨bs,k',s',a1,a2,a3,a4⟩:=NQ n ns rest xs _ (k+1) _ (by omega) (.inr ⟨x,rfl⟩)
   refine⟨true::bs,k',s',by simp[a1],a2,a3,?_⟩
   rw[aU,jL hs]
   simp only[e,cW,if_true]
   have e0:ev (pg.cf (n+3)) (.var 0) (.val x:: .val (sc ns):: .bor (.lst [.int (k+1)])::rest)=.ok (.val x) (.val x:: .val (sc ns):: .bor (.lst [.int (k+1)])::rest):=by simp
   rw[e0,bK,a4]
   simp[m8]
  |false=>
   obtain⟨bs,k',s',a1,a2,a3,a4⟩:=NQ n ns rest xs acc (k+1) _ (by omega) (.inr ⟨x,rfl⟩)
   refine⟨false::bs,k',s',by simp[a1],a2,a3,?_⟩
   rw[aU,jL hs]
   simp only[e,cW,Qxq,if_false]
   rw[a4]
   simp[m8]
noncomputable def S7(b:Bool):E:=(.comp 1 (.name 0) (.var 4) AAL (.op .add (.var 0) (.tup (.cons (.con (.bl b)) .nil))))
def wu:S:=(.cons (.set 4 (.op .add (S7 false) (S7 true))) .nil)
theorem Ow(c:Cf)(b:Bool)(rest:Ev):∀(rs:List (List Bool))(acc:List D)(s:Sl),ug s->(∀r∈rs,r.length<=1000)->∃s',ug s'/\
  aU (.name 0) (ev c AAL) (ev c (.op .add (.var 0) (.tup (.cons (.con (.bl b)) .nil)))) (rs.map aF) acc (s::rest)=.ok (acc++(rs.map (· ++[b])).map aF) (s'::rest)
 |[]=>fun acc s hs _=>⟨s,hs,by simp[aU]⟩
 |r::rs=>fun acc s hs hl=>by
  obtain⟨s',a1,a2⟩:=Ow c b rest rs _ _ (.inr ⟨_,rfl⟩) fun q hq=>hl q (QYq _ hq)
  have h1:=hl r QYz
  refine⟨s',a1,?_⟩
  rw[Qyz,aU,jL hs]
  have e0:ev c (.op .add (.var 0) (.tup (.cons (.con (.bl b)) .nil))) (.val (aF r)::rest)=.ok (.val (aF (r++[b]))) (.val (aF r)::rest):=by
   have f:fits (r.length+1)=true:=by simp[fits];omega
   simp[aO,aF,f]
  have e1:ev c AAL (.val (aF r)::rest)=.ok (.val (.bl true)) (.val (aF r)::rest):=by simp
  simp only[e1,cW,if_true]
  rw[e0,bK,a2]
  simp
def Ox c b(rs:List (List Bool))(hl:∀r∈rs,r.length<=1000)(hs:s=.own (.lst (rs.map aF))\/s=.val (.lst (rs.map aF)))s0 s1 s2 s3 s5:ev c (S7 b) [s0,s1,s2,s3,s,s5]=.ok (.new (.lst ((rs.map (· ++[b])).map aF))) [s0,s1,s2,s3,.val (.lst (rs.map aF)),s5]:=by
 obtain⟨s',_,a⟩:=Ow c b [s0,s1,s2,s3,.val _,s5] rs [] .un (.inl rfl) hl
 have h:ev c (.var 4) [s0,s1,s2,s3,s,s5]=.ok (.val (.lst (rs.map aF))) [s0,s1,s2,s3,.val (.lst (rs.map aF)),s5]:=by
  rcases hs with rfl|rfl<;>simp
 unfold S7
 rw[lQ,h,bK]
 simp only[items]
 rw[show List.replicate 1 Sl.un++[s0,s1,s2,s3,.val _,s5]=Sl.un::[s0,s1,s2,s3,.val _,s5]from rfl,a]
 simp
def Hf c(rs:List (List Bool))(hl:∀r∈rs,r.length<=1000)(hn:rs.length<=1000)(hs:s=.own (.lst (rs.map aF)))s0 s1 s2 s3 s5:
  ex c wu [s0,s1,s2,s3,s,s5]=.next [s0,s1,s2,s3,.own (.lst ((rs.map (· ++[false])++rs.map (· ++[true])).map aF)),s5]:=by
 have f:fits (rs.length+rs.length)=true:=by simp[fits];omega
 unfold wu
 simp only[x_0,x_1,x_5,v_5]
 rw[Ox c false rs hl (.inl hs),gj]
 rw[Ox c true rs hl (.inr rfl),gj]
 simp[f]
theorem uO(c:Cf)(s0 s1 s2 s3:Sl):∀(ys:List D)(k:Nat)(s5:Sl),ug s5->k+ys.length<=9->∃s5',ug s5'/\bA (.name 5) (ex c wu) ys [s0,s1,s2,s3,.own (.lst ((dN k).map aF)),s5]=.next [s0,s1,s2,s3,.own (.lst ((dN (k+ys.length)).map aF)),s5']
 |[]=>fun k s5 h5 _=>⟨s5,h5,by simp[bA]⟩
 |y::ys=>fun k s5 h5 hk=>by
  simp only[QBq]at hk
  obtain⟨s5',a1,a2⟩:=uO c s0 s1 s2 s3 ys (k+1) _ (.inr ⟨y,rfl⟩) (by omega)
  refine⟨s5',a1,?_⟩
  have st:bD (.name 5) y [s0,s1,s2,s3,.own (.lst ((dN k).map aF)),s5]=some [s0,s1,s2,s3,.own (.lst ((dN k).map aF)),.val y]:=by
   rcases h5 with rfl|⟨e,rfl⟩<;>simp[bD]
  have lens:∀k,∀r∈dN k,r.length=k:=by
   intro k
   induction k with
   |zero=>intro r hr;simp[dN]at hr;subst hr;rfl
   |succ k ih=>
    intro r hr
    simp only[dN,QXz,QDq]at hr
    rcases hr with ⟨q,hq,rfl⟩|⟨q,hq,rfl⟩<;>simp[ih q hq]
  have hn:(dN k).length<=1000:=by
   rw[oG]
   have:2 ^k<=2 ^9:=Nat.pow_le_pow_right (by omega) (by omega)
   omega
  rw[bA,st]
  simp only
  rw[Hf c _ (fun r hr=>by rw[lens k r hr];omega) hn rfl,nZ]
  rw[show(dN k).map _++(dN k).map _=dN (k+1)from rfl,a2]
  rw[show k+1+ys.length=k+(y::ys).length by simp;omega]
def qC:E:=.comp 1 (.name 0) (.var 4) pY (.var 0)
def CV n ns k(hk:0<=k)zs s2 s3 s5:∃bs k',bs.length=zs.length/\0<=k'/\
  ev (pg.cf (n+3)) qC [.val (sc ns),.bor (.lst [.int k]),s2,s3,.own (.lst zs),s5]=.ok (.new (.lst (m8 bs zs))) [.val (sc ns),.bor (.lst [.int k']),s2,s3,.val (.lst zs),s5]:=by
 obtain⟨bs,k',s',c1,c2,c3,c4⟩:=NQ n ns [s2,s3,.val _,s5] zs [] k .un hk (.inl rfl)
 refine⟨bs,k',c1,c2,?_⟩
 have h:ev (pg.cf (n+3)) (.var 4) [.val (sc ns),.bor (.lst [.int k]),s2,s3,.own (.lst zs),s5]=.ok (.val (.lst zs)) [.val (sc ns),.bor (.lst [.int k]),s2,s3,.val (.lst zs),s5]:=by simp
 unfold qC
 rw[lQ,h,bK]
 simp only[items]
 rw[show List.replicate 1 Sl.un++[.val _,.bor _,s2,s3,.val _,s5]=Sl.un:: .val _:: .bor _::[s2,s3,.val _,s5]from rfl,c4]
 simp
def JB n ns k(hk:0<=k)xs(hx:xs.length<=900)(h1:1<=xs.length):
  ∃ys rs k',ys.Sublist xs/\1<=ys.length/\ys.length<=3/\(∀r∈rs,r.length=ys.length)/\zF rs=true/\0<=k'/\
   pg.fn (n+5) 39 [.val (sc ns),.bor (.lst [.int k]),.val (.tup xs)]=.ok (.val (.tup [.str "table",.tup ys,.tup (rs.map aF)])) [.val (sc ns),.bor (.lst [.int k']),.val (.tup xs)]:=by
 obtain⟨ys,k1,a1,a2,a3,a4,a5⟩:=Eb n ns k hk xs 1 3 hx (by omega) (by omega) (by omega)
 obtain⟨s5,b1,b2⟩:=uO (pg.cf (n+4)) (.val (sc ns)) (.bor (.lst [.int k1])) (.val (.tup xs)) (.val (.tup ys)) ys 0 .un (.inl rfl) (by omega)
 obtain⟨bs,k2,c1,c2,c4⟩:=CV (n+1) ns k1 a4 ((dN ys.length).map aF) (.val (.tup xs)) (.val (.tup ys)) s5
 rw[QAq,oG]at c1
 obtain⟨rs,d1,d2,d3⟩:=G6 ys.length (by omega) (by omega) bs c1
 refine⟨ys,rs,k2,a1,by omega,by omega,d2,d3,c2,?_⟩
 rw[yH]
 have hb:jY=⟨3,6,.cons _ (.cons _ (.cons (.for_ _ _ wu)
  (.cons (.ret (.tup (.cons _ (.cons _ (.cons (.bi .tuple (.bi .sorted qC)) .nil))))) .nil)))⟩:=rfl
 rw[hb]
 have e1:([D.tup []])=(dN 0).map aF:=rfl
 have e2:(dN 0).length=1:=rfl
 have q:qC.aB=none:=rfl
 simp[a5,aO,items,e1,e2,b2,c4,d1,q]
end Tx
end
section
open PySem Mini
namespace Tx
inductive bO(xs:List D):Nat->D->Prop
 |same {n:Nat} {x:D}:x∈xs->bO xs n (.tup [.str "same",x])
 |not {n:Nat} {x:D}:x∈xs->bO xs n (.tup [.str "not",x])
 |and {n:Nat} {ys:List D}:ys.Sublist xs->2<=ys.length->ys.length<=3->bO xs n (.tup [.str "and",.tup ys])
 |or {n:Nat} {ys:List D}:ys.Sublist xs->2<=ys.length->ys.length<=3->bO xs n (.tup [.str "or",.tup ys])
 |both {n:Nat} {ys:List D}:ys.Sublist xs->2<=ys.length->ys.length<=3->bO xs n (.tup [.str "both",.tup ys])
 |table {n:Nat} {ys:List D} {rs:List (List Bool)}:ys.Sublist xs->1<=ys.length->ys.length<=3->(∀r∈rs,r.length=ys.length)->zF rs=true->bO xs n (.tup [.str "table",.tup ys,.tup (rs.map aF)])
 |held {n:Nat} {k x:D} {b:Bool}:bO xs n k->x∈xs->bO xs (n+1) (.tup [.str "held",k,x,.bl b])
def Oi xs r(h1:0<=r)(h2:r<xs.length):∃d,at? xs r=some d/\d∈xs:=by
 unfold at? ix?
 rw[if_neg (Int.not_lt.mpr h1),if_pos ⟨h1,h2⟩]
 have:=(Int.toNat_lt h1).mpr h2
 exact⟨xs[r.toNat],by simp[this],List.getElem_mem this⟩
def Rx(r:Int):r%2=0\/r%2=1:=by omega
def M5{r:Int}(h1:¬r<4)(h2:r<7):r-4=0\/r-4=1\/r-4=2:=by omega
def eight{r:Int}(h1:¬r<7)(h2:r<9)(h3:¬r=7):r=8:=by omega
def YB(n:Nat):¬((n:Int)+1=0):=by omega
def vq m ns xs(hx:xs.length<=900)(h1:1<=xs.length)deep
  (rec:∀dp,deep=dp+1->∀k:Int,0<=k->∃d k',bO xs dp d/\0<=k'/\pg.fn (m+5) 40 [.val (sc ns),.bor (.lst [.int k]),.val (.tup xs),.val (.int dp)]=.ok (.val d) [.val (sc ns),.bor (.lst [.int k']),.val (.tup xs),.val (.int dp)])
  k(hk:0<=k):∃d k',bO xs deep d/\0<=k'/\
  pg.fn (m+6) 40 [.val (sc ns),.bor (.lst [.int k]),.val (.tup xs),.val (.int deep)]=.ok (.val d) [.val (sc ns),.bor (.lst [.int k']),.val (.tup xs),.val (.int deep)]:=by
 obtain⟨r,r1,r2,er⟩:=bw (m+2) ns k 9 hk (by decide)
 have hk1:=Pn hk
 by_cases c1:r<4\/xs.length<2
 ·obtain⟨q,q1,q2,eq⟩:=bw (m+2) ns _ xs.length hk1 (Int.ofNat_lt.mpr h1)
  obtain⟨x,ex,mx⟩:=Oi xs q q1 q2
  obtain⟨w,ew,kw⟩:∃w,at? [.str "same",.str "not"] (r%2)=some _/\bO xs deep (.tup [.str w,x]):=by
   rcases Rx r with h|h<;>rw[h]
   ·exact⟨_,rfl,.same mx⟩
   ·exact⟨_,rfl,.not mx⟩
  refine⟨_,k+1+1,kw,Pn hk1,?_⟩
  rw[iW]
  by_cases c4:r<4
  ·simp[cX,er,c4,eq,ex,aO,ew]
  ·have c6:=c1.resolve_left c4
   have c5:(xs.length:Int)<2:=Int.ofNat_lt.mpr c6
   simp[cX,er,c4,c5,c6,eq,ex,aO,ew]
 ·have c2:¬r<4:=fun h=>c1 (.inl h)
  have c3':=fun h=>c1 (.inr h)
  have c3:¬(xs.length:Int)<2:=fun h=>c3' (Int.ofNat_lt.mp h)
  by_cases c7:r<7
  ·obtain⟨ys,k',a1,a2,a3,a4,a5⟩:=Eb (m+1) ns _ hk1 xs 2 3 hx (by decide) (by decide) (Int.not_lt.mp c3)
   have a2:=Int.ofNat_le.mp a2
   have a3:=Int.ofNat_le.mp a3
   obtain⟨w,ew,kw⟩:∃w,at? [.str "and",.str "or",.str "both"] (r-4)=some _/\bO xs deep (.tup [.str w,.tup ys]):=by
    rcases M5 c2 c7 with h|h|h<;>rw[h]
    ·exact⟨_,rfl,.and a1 a2 a3⟩
    ·exact⟨_,rfl,.or a1 a2 a3⟩
    ·exact⟨_,rfl,.both a1 a2 a3⟩
   exact⟨_,k',kw,a4,by rw[iW];simp[cX,er,c2,c3,c3',c7,a5,aO,ew]⟩
  ·by_cases c8:r=7\/deep=0
   ·obtain⟨ys,rs,k',a1,a2,a3,a4,a5,a6,a7⟩:=JB m ns _ hk1 xs hx h1
    refine⟨_,k',.table a1 a2 a3 a4 a5,a6,?_⟩
    rw[iW]
    by_cases c9:r=7
    ·subst c9
     simp[cX,er,c3,c3',a7]
    ·have c10:=c8.resolve_left c9
     subst c10
     simp[cX,er,c2,c3,c3',c7,c9,beq_false_of_ne c9,a7]
   ·obtain⟨dp,rfl⟩:=Nat.exists_eq_succ_of_ne_zero (fun h=>c8 (.inr h))
    have c9:=eight c7 r2 fun h=>c8 (.inl h)
    subst c9
    obtain⟨d,k1,b1,b2,b3⟩:=rec dp rfl _ hk1
    obtain⟨q,q1,q2,eq⟩:=bw (m+2) ns k1 xs.length b2 (Int.ofNat_lt.mpr h1)
    obtain⟨x,ex,mx⟩:=Oi xs q q1 q2
    obtain⟨z,z1,z2,ez⟩:=bw (m+2) ns _ 2 (Pn b2) (by decide)
    refine⟨_,k1+1+1,.held (b:=z==1) b1 mx,Pn (Pn b2),?_⟩
    rw[iW]
    have e1:=YB dp
    simp[cX,er,c3,c3',beq_false_of_ne e1,e1,(Int.add_sub_cancel _ _),b3,eq,ex,ez,aO]
def afF m deep:m+deep+1+5=m+6+deep:=by omega
def afE m deep:m+6+(deep+1)=m+deep+1+6:=by omega
theorem wU ns xs(hx:xs.length<=900)(h1:1<=xs.length):∀(deep m:Nat)(k:Int),0<=k->∃d k',bO xs deep d/\0<=k'/\
  pg.fn (m+6+deep) 40 [.val (sc ns),.bor (.lst [.int k]),.val (.tup xs),.val (.int deep)]=.ok (.val d) [.val (sc ns),.bor (.lst [.int k']),.val (.tup xs),.val (.int deep)]
 |0=>fun m k hk=>vq m ns xs hx h1 0 (fun dp h=>nomatch h) k hk
 |deep+1=>fun m k hk=>by
  have:=vq _ ns xs hx h1 (deep+1) (fun dp h k hk=>by
   cases h
   rw[afF m deep]
   exact(wU ns xs hx h1 deep m k hk)) k hk
  rw[afE m deep]
  exact this
end Tx
end
section
open PySem Mini
namespace Tx
def Fy:E:=(.tup ABc)
def Ly n ns k(hk:0<=k)xs(hx:xs.length<=900)(h1:1<=xs.length)x s3 s4 s5 s6 s8:∃d k',bO xs 1 d/\0<=k'/\
  ev (pg.cf (n+7)) Fy [.val x,.val (sc ns),.bor (.lst [.int k]),s3,s4,s5,s6,.val (.tup xs),s8]=.ok (.val (.tup [x,d])) [.val x,.val (sc ns),.bor (.lst [.int k']),s3,s4,s5,s6,.val (.tup xs),s8]:=by
 obtain⟨d,k',a1,a2,a3⟩:=wU ns xs hx h1 1 n k hk
 refine⟨d,k',a1,a2,?_⟩
 simp only[Int.natCast_one,show n+6+1=n+7 from rfl]at a3
 simp[Fy,a3,aO]
theorem zu(n:Nat)(ns:List Int)(xs:List D)(hx:xs.length<=900)(h1:1<=xs.length)(s3 s4 s5 s6 s8:Sl):∀(row acc:List D)(k:Int)(s:Sl),0<=k->ug s->∃ks k' s',ks.length=row.length/\(∀d∈ks,bO xs 1 d)/\0<=k'/\ug s'/\
  aU (.name 0) (ev (pg.cf (n+7)) AAL) (ev (pg.cf (n+7)) Fy) row acc [s,.val (sc ns),.bor (.lst [.int k]),s3,s4,s5,s6,.val (.tup xs),s8]
   =.ok (acc++aW row ks) [s',.val (sc ns),.bor (.lst [.int k']),s3,s4,s5,s6,.val (.tup xs),s8]
 |[]=>fun acc k s hk hs=>⟨[],k,s,rfl,fun d h=>(by cases h),hk,hs,by simp[aU,aW]⟩
 |x::row=>fun acc k s hk hs=>by
  obtain⟨d,k1,a1,a2,a3⟩:=Ly n ns k hk xs hx h1 x s3 s4 s5 s6 s8
  obtain⟨ks,k',s',b1,b2,b3,b4,b5⟩:=zu n ns xs hx h1 s3 s4 s5 s6 s8 row _ k1 _ a2 (.inr ⟨x,rfl⟩)
  refine⟨d::ks,k',s',by simp[b1],fun e h=>?_,b3,b4,?_⟩
  ·rcases QCq.mp h with rfl|h
   ·exact a1
   ·exact b2 e h
  ·rw[aU,jL hs]
   have e1:∀σ,ev (pg.cf (n+7)) AAL σ=.ok (.val (.bl true)) σ:=fun σ=>by simp
   simp only[e1,cW,if_true]
   rw[a3,bK,b5]
   simp[aW]
theorem sV(n:Nat)(ns:List Int)(rest:Ev):∀(xs acc:List D)(k:Int)(s:Sl),0<=k->ug s->∃(bs:List Bool)(k':Int)(s':Sl),bs.length=xs.length/\0<=k'/\ug s'/\
  aU (.name 0) (ev (pg.cf (n+3)) AAL) (ev (pg.cf (n+3)) pY) xs acc (s:: .val (sc ns):: .bor (.lst [.int k])::rest)=.ok (acc++bs.map .bl) (s':: .val (sc ns):: .bor (.lst [.int k'])::rest)
 |[]=>fun acc k s hk hs=>⟨[],k,s,rfl,hk,hs,by simp[aU]⟩
 |x::xs=>fun acc k s hk hs=>by
  obtain⟨b,e⟩:=xJ n ns k hk x rest
  obtain⟨bs,k',s',a1,a2,a3,a4⟩:=sV n ns rest xs _ _ _ (Pn hk) (.inr ⟨x,rfl⟩)
  refine⟨b::bs,k',s',by simp[a1],a2,a3,?_⟩
  rw[aU,jL hs]
  have e1:∀σ,ev (pg.cf (n+3)) AAL σ=.ok (.val (.bl true)) σ:=fun σ=>by simp
  simp only[e1,cW,if_true]
  rw[e,bK,a4]
  simp
def EY:E:=(.comp 1 (.name 0) (.var 5) AAL Fy)
def Fx:E:=(.comp 1 (.name 0) (.var 6) AAL pY)
noncomputable def wJ:S:=(.cons ADb (.cons (.set 7 (.bi .tuple EY)) (.cons (.ret (.tup (.cons (.var 4) (.cons (.var 7) (.cons (.bi .tuple Fx) .nil))))) .nil)))
def Lb n ns k(hk:0<=k)ν row(hx:ν.length+row.length<=900)(h1:1<=row.length)s2 s3:∃(ks:List D)(ls:List Bool)(k':Int),ks.length=row.length/\(∀d∈ks,bO (ν++row) 1 d)/\ls.length=(ν++row).length/\0<=k'/\
  ex (pg.cf (n+7)) wJ [.val (sc ns),.bor (.lst [.int k]),s2,s3,.val (.tup ν),.val (.tup row),.un,.un]
   =.ret (.val (.tup [.tup ν,.tup (aW row ks),.tup (ls.map .bl)])) [.val (sc ns),.bor (.lst [.int k']),s2,s3,.val (.tup ν),.val (.tup row),.val (.tup (ν++row)),.val (.tup (aW row ks))]:=by
 obtain⟨ks,k1,s',a1,a2,a3,a4,a5⟩:=zu n ns (ν++row) (by simpa using hx) (by simp;omega) s2 s3 _ _ .un row [] k .un hk (.inl rfl)
 obtain⟨ls,k',s'',b1,b2,b3,b4⟩:=sV _ ns [s2,s3,.val _,.val _,.val _,.val _] _ [] k1 .un a3 (.inl rfl)
 refine⟨ks,ls,k',a1,a2,b1,b2,?_⟩
 have f:fits (ν.length+row.length)=true:=by simp[fits];omega
 have em:ev (pg.cf (n+7)) EY [.val (sc ns),.bor (.lst [.int k]),s2,s3,.val (.tup ν),.val (.tup row),.val (.tup (ν++row)),.un]=.ok (.new (.lst (aW row ks))) [.val (sc ns),.bor (.lst [.int k1]),s2,s3,.val (.tup ν),.val (.tup row),.val (.tup (ν++row)),.un]:=by
  have h:ev (pg.cf (n+7)) (.var 5) [.val (sc ns),.bor (.lst [.int k]),s2,s3,.val (.tup ν),.val (.tup row),.val (.tup (ν++row)),.un]=.ok (.val (.tup row)) [.val (sc ns),.bor (.lst [.int k]),s2,s3,.val (.tup ν),.val (.tup row),.val (.tup (ν++row)),.un]:=by simp
  unfold EY
  rw[lQ,h,bK]
  simp only[items]
  rw[show List.replicate 1 Sl.un++[.val _,.bor _,s2,s3,.val _,.val _,.val _,.un]=[.un,.val _,.bor _,s2,s3,.val _,.val _,.val _,.un]from rfl,a5]
  simp
 have el:ev (pg.cf (n+7)) Fx [.val (sc ns),.bor (.lst [.int k1]),s2,s3,.val (.tup ν),.val (.tup row),.val (.tup (ν++row)),.val (.tup (aW row ks))]=.ok (.new (.lst (ls.map .bl))) [.val (sc ns),.bor (.lst [.int k']),s2,s3,.val (.tup ν),.val (.tup row),.val (.tup (ν++row)),.val (.tup (aW row ks))]:=by
  have h:ev (pg.cf (n+7)) (.var 6) [.val (sc ns),.bor (.lst [.int k1]),s2,s3,.val (.tup ν),.val (.tup row),.val (.tup (ν++row)),.val (.tup (aW row ks))]=.ok (.val (.tup (ν++row))) [.val (sc ns),.bor (.lst [.int k1]),s2,s3,.val (.tup ν),.val (.tup row),.val (.tup (ν++row)),.val (.tup (aW row ks))]:=by simp
  unfold Fx
  rw[lQ,h,bK]
  simp only[items]
  rw[show List.replicate 1 Sl.un++[.val _,.bor _,s2,s3,.val _,.val _,.val _,.val _]=.un:: .val _:: .bor _::[s2,s3,.val _,.val _,.val _,.val _]from rfl,b4]
  simp
 have q1:EY.aB=none:=rfl
 have q2:Fx.aB=none:=rfl
 simp[wJ,f,em,el,q1,q2,aO]
def hd(h:Nat):List D:=([.str "a",.str "b",.str "come"]:List D).take h
def cL(g:Nat):List D:=([.str "p",.str "q",.str "rr",.str "go",.str "abcdef"]:List D).take g
def il(h2:h<=2):(hd h).length=h:=List.length_take_of_le (Nat.le_succ_of_le h2)
def dj(g4:g<=5):(cL g).length=g:=List.length_take_of_le g4
noncomputable def aH(h g:Nat)(ks:List D)(ls:List Bool):D:=.tup [.tup (hd h),.tup (aW (cL g) ks),.tup (ls.map .bl)]
structure b8(h g:Nat)(ks:List D)(ls:List Bool):Prop where
 h2:h<=2
 g1:1<=g
 g5:g<=5
 kl:ks.length=g
 kk:∀d∈ks,bO (hd h++cL g) 1 d
 ll:ls.length=h+g
def Xr{h:Nat}(i2:ni<=2)(r2:(h:Int)<ni+1):h<=2:=by omega
def Ld n ns k(hk:0<=k)ni(i0:0<=ni)(i2:ni<=2):∃h g ks ls k',b8 h g ks ls/\0<=k'/\
  pg.fn (n+8) 41 [.val (sc ns),.bor (.lst [.int k]),.val (.int ni),.val (.int 4)]=.ok (.val (aH h g ks ls)) [.val (sc ns),.bor (.lst [.int k']),.val (.int ni),.val (.int 4)]:=by
 obtain⟨r,r1,r2,er⟩:=bw (n+4) ns k _ hk (Int.lt_add_one_of_le i0)
 obtain⟨q,q1,q2,eq⟩:=bw (n+4) ns _ 4 (Pn hk) (by decide)
 obtain⟨h,rfl⟩:=Int.eq_ofNat_of_zero_le r1
 obtain⟨g,rfl⟩:=Int.eq_ofNat_of_zero_le q1
 have h2:=Xr i2 r2
 have g3:=Int.ofNat_lt.mp q2
 have g1:=Nat.le_add_right 1 g
 have g5:=Nat.add_le_add_left (Nat.le_of_lt g3) 1
 have lh:=il h2
 have lg:=dj g5
 obtain⟨ks,ls,k',a1,a2,a3,a4,a5⟩:=Lb n ns _ (Pn (Pn hk)) (hd h) (cL _) (by rw[lh,lg];exact Nat.le_trans (Nat.add_le_add h2 g5) (by decide)) (by rw[lg];exact g1) (.val (.int ni)) (.val (.int 4))
 refine⟨h,1+g,ks,ls,k',⟨h2,g1,g5,a1.trans lg,a2,by rw[a3,QTq,lh,lg]⟩,a4,?_⟩
 rw[Hh]
 have hb:o8=⟨4,8,(.cons _ (.cons _ wJ))⟩:=rfl
 rw[hb]
 have c1:dX (.tup [.str "a",.str "b",.str "come"]) none (some h)=some (.val (.tup (hd h))):=by
  rcases h with _|_|_|h
  ·rfl
  ·rfl
  ·rfl
  ·exact absurd h2 (by simp)
 have c2:dX (.tup [.str "p",.str "q",.str "rr",.str "go",.str "abcdef"]) none (some (1+g))=some (.val (.tup (cL (1+g)))):=by
  rcases g with _|_|_|_|g
  ·rfl
  ·rfl
  ·rfl
  ·rfl
  ·exact absurd g3 (by simp)
 simp[er,eq,aO,cH,E.jx,c1,c2,a5,aH]
end Tx
end
section
open PySem Mini
namespace Tx
def aX n xs a b(h1:a<=xs.length)(h2:xs.length<=b):pg.fn (n+1) 3 [.val (.tup xs),.val (.int a),.val (.int b)]=.ok (.val (.bl true)) [.val (.tup xs),.val (.int a),.val (.int b)]:=by
 rw[rB]
 simp[gH,h1,h2]
def Gv:E:=.bi .all ADf
def vB n bs m(h:m=bs.length):pg.fn (n+2) 7 [.val (aF bs),.val (.int m)]=.ok (.val (.bl true)) [.val (aF bs),.val (.int m)]:=by
 subst h
 have e:ev (pg.cf (n+1)) Gv [.val (aF bs),.val (.int bs.length)]=.ok (.val (.bl true)) [.val (aF bs),.val (.int bs.length)]:=by
  refine all1 (r:=.val (aF bs)) (by simp) rfl rfl fun x hx=>?_
  obtain⟨b,_,rfl⟩:=QDq.mp hx
  simp
 have t:pg.fn _ 3 [.val (aF bs),.val _,.val _]=.ok _ [.val _,.val _,.val _]:=aX n _ bs.length bs.length (by simp) (by simp)
 rw[yM]
 have hb:j6=⟨2,2,(.cons (.ret (.and (.cons _ (.cons Gv .nil)))) .nil)⟩:=rfl
 rw[hb]
 simp[t,e]
def cJ(xs:List D):Prop:=∀x∈xs,∃s,x=.str s
def lC(h:cJ xs):xs.all flat=true:=by
 rw[List.all_eq_true]
 intro x hx
 obtain⟨s,rfl⟩:=h x hx
 rfl
def qy{x:D}(hx:x∈xs)(h:cJ xs):aL x xs=true:=by
 induction xs with
 |nil=>cases hx
 |cons y ys ih=>
  unfold aL
  rcases QCq.mp hx with rfl|hx
  ·obtain⟨s,rfl⟩:=h x QYz
   simp[dR]
  ·simp[ih hx fun z hz=>h z (QYq _ hz)]
def CT(h:cJ xs)(nd:xs.Nodup)(hx:x∈xs):bW x xs=1:=by
 induction xs with
 |nil=>cases hx
 |cons y ys ih=>
  have hys:=fun z hz=>h z (QYq _ hz)
  obtain⟨s,rfl⟩:=h y QYz
  rw[List.nodup_cons]at nd
  have zero:∀{zs:List D},cJ zs->D.str s∉zs->bW (.str s) zs=0:=by
   intro zs
   induction zs with
   |nil=>intro _ _;rfl
   |cons z zs ihz=>
    intro hz hn
    obtain⟨q,rfl⟩:=hz z QYz
    have ne:q≠s:=fun e=>hn (by rw[e];exact QYz)
    simp[bW,dR,ne,ihz (fun w hw=>hz w (QYq _ hw)) fun hw=>hn (QYq _ hw)]
  rcases QCq.mp hx with rfl|hx
  ·simp[bW,dR,zero hys nd.1]
  ·obtain⟨q,rfl⟩:=hys x hx
   have ne:s≠q:=fun e=>nd.1 (by rw[e];exact hx)
   simp[bW,dR,ne,ih hys nd.2 hx]
def jg n{d:D}(dd:d=.tup xs\/d=.lst xs)(h:cJ xs)(hx:x∈xs):pg.fn (n+1) 8 [.val x,.val d]=.ok (.val (.bl true)) [.val x,.val d]:=by
 obtain⟨s,rfl⟩:=h x hx
 rw[Hj]
 have o:dO (.str s) xs=true:=by
  unfold dO
  rw[lC h]
  rfl
 have e:aJ .isin (.str s) d=some true:=by
  rcases dd with rfl|rfl<;>(show(if dO _ xs then some _ else none)=_;rw[o,qy hx h];rfl)
 simp[ph,e]
def v6:E:=.bi .all ACU
def lO(n:Nat){xs:List D}{d:D}(hd:d=.tup xs\/d=.lst xs)(h:cJ xs)(nd:xs.Nodup):pg.fn (n+1) 6 [.val d]=.ok (.val (.bl true)) [.val d]:=by
 have f:=lC h
 have e:ev (pg.cf n) v6 [.val d]=.ok (.val (.bl true)) [.val d]:=by
  refine all1 (d:=d) (xs:=xs) (r:=.val d) (by simp) rfl (by rcases hd with rfl|rfl<;>rfl) fun x hx=>?_
  have c:=CT h nd hx
  obtain⟨s,rfl⟩:=h x hx
  have e1:tH (.tup xs) (.str s)=some (.val (.int 1)):=by
   simp only[tH]
   rw[f,c]
   rfl
  have e2:tH (.lst xs) (.str s)=some (.val (.int 1)):=by
   simp only[tH]
   rw[f,c]
   rfl
  rcases hd with rfl|rfl<;>simp[e1,e2]
 have hb:jr=⟨1,1,(.cons (.ret v6) .nil)⟩:=rfl
 rw[wB,hb]
 have q:v6.aB=none:=rfl
 simp[e,q]
def o5:D->D
 |.tup (a::_)=>a
 |_=>.non
theorem v4:∀(gs ks:List D),ks.length=gs.length->(aW gs ks).map o5=gs
 |[],ks=>fun _=>by simp[aW]
 |g::gs,[]=>fun h=>by simp at h
 |g::gs,k::ks=>fun h=>by simp[aW,o5,v4 gs ks (by simpa using h)]
def zL(it:E):E:=.comp 1 (.name 0) it AAL AAb
def sS{σ:Ev}gs ks(hl:ks.length=gs.length)(hi:ev c it σ=.ok (.val (.tup (aW gs ks))) σ):ev c (zL it) σ=.ok (.new (.lst gs)) σ:=by
 have:=nJ (el:=.idx (.var 0) AAH) o5 hi rfl rfl fun y hy=>by
  rw[cM]at hy
  obtain⟨p,_,rfl⟩:=QDq.mp hy
  simp[pairD,o5]
 rw[v4 gs ks hl]at this
 exact this
def fB n hs gs ks x(hl:ks.length=gs.length)(hf:hs.length+gs.length<=1000):
  pg.fn (n+1) 13 [.val (.tup [.tup hs,.tup (aW gs ks),x])]=.ok (.new (.lst (hs++gs))) [.val (.tup [.tup hs,.tup (aW gs ks),x])]:=by
 have f:fits (hs.length+gs.length)=true:=by simp[fits];omega
 have hb:jm=⟨1,1,.cons (.ret (.op .add _ (zL _))) .nil⟩:=rfl
 rw[mY,hb]
 simp[sS (c:=pg.cf n) (it:=.idx (.var 0) AAG) (σ:=[.val (.tup [.tup hs,.tup (aW gs ks),x])]) gs ks hl (by simp),f]
end Tx
end
section
open PySem Mini
namespace Tx
@[simp↓]theorem Ti:decide (Str.ofString "same"=Str.ofString "same")=true:=rfl
@[simp↓]theorem Zc:decide (Str.ofString "not"=Str.ofString "not")=true:=rfl
@[simp↓]theorem Zh:decide (Str.ofString "and"=Str.ofString "and")=true:=rfl
@[simp↓]theorem acU:decide (Str.ofString "or"=Str.ofString "or")=true:=rfl
@[simp↓]theorem Tz:decide (Str.ofString "both"=Str.ofString "both")=true:=rfl
@[simp↓]theorem Pj:decide (Str.ofString "table"=Str.ofString "table")=true:=rfl
@[simp↓]theorem Tt:decide (Str.ofString "held"=Str.ofString "held")=true:=rfl
@[simp]theorem Vo:decide (Str.ofString "same"=Str.ofString "not")=false:=rfl
@[simp]theorem Vp:decide (Str.ofString "same"=Str.ofString "and")=false:=rfl
@[simp]theorem Y8:decide (Str.ofString "same"=Str.ofString "or")=false:=rfl
@[simp]theorem Tp:decide (Str.ofString "same"=Str.ofString "both")=false:=rfl
@[simp]theorem PB:decide (Str.ofString "same"=Str.ofString "table")=false:=rfl
@[simp]theorem Tj:decide (Str.ofString "same"=Str.ofString "held")=false:=rfl
@[simp]theorem Vr:decide (Str.ofString "not"=Str.ofString "same")=false:=rfl
@[simp]theorem Zd:decide (Str.ofString "not"=Str.ofString "and")=false:=rfl
@[simp]theorem aak:decide (Str.ofString "not"=Str.ofString "or")=false:=rfl
@[simp]theorem Vt:decide (Str.ofString "not"=Str.ofString "both")=false:=rfl
@[simp]theorem Tq:decide (Str.ofString "not"=Str.ofString "table")=false:=rfl
@[simp]theorem Vs:decide (Str.ofString "not"=Str.ofString "held")=false:=rfl
@[simp]theorem Vy:decide (Str.ofString "and"=Str.ofString "same")=false:=rfl
@[simp]theorem Zg:decide (Str.ofString "and"=Str.ofString "not")=false:=rfl
@[simp]theorem aal:decide (Str.ofString "and"=Str.ofString "or")=false:=rfl
@[simp]theorem VB:decide (Str.ofString "and"=Str.ofString "both")=false:=rfl
@[simp]theorem TF:decide (Str.ofString "and"=Str.ofString "table")=false:=rfl
@[simp]theorem Vz:decide (Str.ofString "and"=Str.ofString "held")=false:=rfl
@[simp]theorem Y9:decide (Str.ofString "or"=Str.ofString "same")=false:=rfl
@[simp]theorem aai:decide (Str.ofString "or"=Str.ofString "not")=false:=rfl
@[simp]theorem aaj:decide (Str.ofString "or"=Str.ofString "and")=false:=rfl
@[simp]theorem Zb:decide (Str.ofString "or"=Str.ofString "both")=false:=rfl
@[simp]theorem Vq:decide (Str.ofString "or"=Str.ofString "table")=false:=rfl
@[simp]theorem Za:decide (Str.ofString "or"=Str.ofString "held")=false:=rfl
@[simp]theorem Tv:decide (Str.ofString "both"=Str.ofString "same")=false:=rfl
@[simp]theorem Vw:decide (Str.ofString "both"=Str.ofString "not")=false:=rfl
@[simp]theorem Vx:decide (Str.ofString "both"=Str.ofString "and")=false:=rfl
@[simp]theorem Zf:decide (Str.ofString "both"=Str.ofString "or")=false:=rfl
@[simp]theorem PK:decide (Str.ofString "both"=Str.ofString "table")=false:=rfl
@[simp]theorem Tw:decide (Str.ofString "both"=Str.ofString "held")=false:=rfl
@[simp]theorem Px:decide (Str.ofString "table"=Str.ofString "same")=false:=rfl
@[simp]theorem Tf:decide (Str.ofString "table"=Str.ofString "not")=false:=rfl
@[simp]theorem Th:decide (Str.ofString "table"=Str.ofString "and")=false:=rfl
@[simp]theorem Vn:decide (Str.ofString "table"=Str.ofString "or")=false:=rfl
@[simp]theorem Pz:decide (Str.ofString "table"=Str.ofString "both")=false:=rfl
@[simp]theorem Py:decide (Str.ofString "table"=Str.ofString "held")=false:=rfl
@[simp]theorem Tr:decide (Str.ofString "held"=Str.ofString "same")=false:=rfl
@[simp]theorem Vu:decide (Str.ofString "held"=Str.ofString "not")=false:=rfl
@[simp]theorem Vv:decide (Str.ofString "held"=Str.ofString "and")=false:=rfl
@[simp]theorem Ze:decide (Str.ofString "held"=Str.ofString "or")=false:=rfl
@[simp]theorem Tu:decide (Str.ofString "held"=Str.ofString "both")=false:=rfl
@[simp]theorem PJ:decide (Str.ofString "held"=Str.ofString "table")=false:=rfl
@[simp]theorem U0:aJ .isin (.str "same") (.tup [.str "same",.str "not"])=some true:=rfl
@[simp]theorem XQ:aJ .isin (.str "not") (.tup [.str "same",.str "not"])=some true:=rfl
@[simp]theorem XX:aJ .isin (.str "and") (.tup [.str "same",.str "not"])=some false:=rfl
@[simp]theorem ZG:aJ .isin (.str "or") (.tup [.str "same",.str "not"])=some false:=rfl
@[simp]theorem U4:aJ .isin (.str "both") (.tup [.str "same",.str "not"])=some false:=rfl
@[simp]theorem RM:aJ .isin (.str "table") (.tup [.str "same",.str "not"])=some false:=rfl
@[simp]theorem U3:aJ .isin (.str "held") (.tup [.str "same",.str "not"])=some false:=rfl
@[simp]theorem XN:aJ .isin (.str "same") (.tup [.str "and",.str "or"])=some false:=rfl
@[simp]theorem ZJ:aJ .isin (.str "not") (.tup [.str "and",.str "or"])=some false:=rfl
@[simp]theorem ZK:aJ .isin (.str "and") (.tup [.str "and",.str "or"])=some true:=rfl
@[simp]theorem ab7:aJ .isin (.str "or") (.tup [.str "and",.str "or"])=some true:=rfl
@[simp]theorem XS:aJ .isin (.str "both") (.tup [.str "and",.str "or"])=some false:=rfl
@[simp]theorem UW:aJ .isin (.str "table") (.tup [.str "and",.str "or"])=some false:=rfl
@[simp]theorem XR:aJ .isin (.str "held") (.tup [.str "and",.str "or"])=some false:=rfl
def gl5:pg.gl 5=some (.int 4):=rfl
def gl6:pg.gl 6=some (.int 8):=rfl
def gl7:pg.gl 7=some (.int 3):=rfl
def Jl:E:=.bi .all ADJ
def cZ n{d:D}(dd:d=.tup xs\/d=.lst xs)(h:cJ xs)(nd:xs.Nodup)(hs:ys.Sublist xs)a b(h1:a<=ys.length)(h2:ys.length<=b):
  pg.fn (n+2) 9 [.val (.tup ys),.val d,.val (.int a),.val (.int b)]=.ok (.val (.bl true)) [.val (.tup ys),.val d,.val (.int a),.val (.int b)]:=by
 have e:ev (pg.cf (n+1)) Jl [.val (.tup ys),.val d,.val (.int a),.val (.int b)]=.ok (.val (.bl true)) [.val (.tup ys),.val d,.val (.int a),.val (.int b)]:=by
  refine all1 (r:=.val (.tup ys)) (by simp) rfl rfl fun x hx=>?_
  simp[jg n dd h (hs.subset hx)]
 have hb:j8=⟨4,4,(.cons _ (.cons (.ret (.and (.cons Jl _))) .nil))⟩:=rfl
 rw[yO,hb]
 simp[aX n ys a b h1 h2,e,lO n (.inl rfl) (fun z hz=>h z (hs.subset hz)) (hs.nodup nd)]
def agb xs:cut xs (some 1) none=xs.tail:=by
 cases xs with
 |nil=>rfl
 |cons x xs=>
  have:clip (xs.length+1) 1=1:=by simp[clip];omega
  simp[cut,this]
theorem vC:∀(rs:List (List Bool)),zF rs=true->∀p∈rs.zip rs.tail,lK p.1 p.2=true
 |[]=>fun _ p h=>by simp at h
 |[a]=>fun _ p h=>by simp at h
 |a::b::r=>fun hi p h=>by
  simp only[zF,QUq]at hi
  simp only[List.tail_cons,List.zip_cons_cons,QCq]at h
  rcases h with rfl|h
  ·exact hi.1
  ·exact vC _ hi.2 p (by simpa using h)
def T7:E:=.bi .all ADK
def upC:E:=.bi .all ABp
def z6 n rs(m:Nat)(h:∀r∈rs,r.length=m)(hi:zF rs=true):
  pg.fn (n+3) 10 [.val (.tup (rs.map aF)),.val (.int m)]=.ok (.val (.bl true)) [.val (.tup (rs.map aF)),.val (.int m)]:=by
 have e1:ev (pg.cf (n+2)) T7 [.val (.tup (rs.map aF)),.val (.int m)]=.ok (.val (.bl true)) [.val (.tup (rs.map aF)),.val (.int m)]:=by
  refine all1 (r:=.val (.tup (rs.map aF))) (by simp) rfl rfl fun x hx=>?_
  obtain⟨r,hr,rfl⟩:=QDq.mp hx
  simp[vB n r m (by rw[h r hr])]
 have e2:ev (pg.cf (n+2)) upC [.val (.tup (rs.map aF)),.val (.int m)]=.ok (.val (.bl true)) [.val (.tup (rs.map aF)),.val (.int m)]:=by
  have hz:aW (rs.map aF) (rs.map aF).tail=((rs.zip rs.tail).map fun p=>(aF p.1,aF p.2)).map pairD:=by
   rw[cM,<-List.map_tail,List.zip_map]
   rfl
  refine all2 (r:=.val (.lst (aW _ (rs.map aF).tail))) ?_ rfl (by show some _=some _;rw[hz]) fun x hx=>?_
  ·simp[cH,E.jx,dX,agb]
  ·obtain⟨p,hp,rfl⟩:=QDq.mp hx
   have lt:aJ .lt (aF p.1) (aF p.2)=some true:=by
    simp[aJ,ltD,aF,jU,vC rs hi p hp]
   simp[lt]
 have hb:mL=⟨2,2,(.cons (.ite (.or (.cons _ (.cons (.not T7) .nil))) _ .nil) (.cons (.ret upC) .nil))⟩:=rfl
 have q:upC.aB=none:=rfl
 rw[Bt,hb]
 simp[e1,e2,q]
def Ia n k:n+4+2*k=n+2+2*k+1+1:=by omega
def RC n k:n+1+2*k+2=n+2+2*k+1:=by omega
def afD n k:n+2*k+3=n+2+2*k+1:=by omega
def afC n k:n+3+2*k+1=n+4+2*k:=by omega
def afB n k:n+4+2*(k+1)=n+4+2*k+1+1:=by omega
def Fq{a:Nat}(h1:c<=a)(h2:d<=c):(d:Int)<=a:=Int.ofNat_le.mpr (Nat.le_trans h2 h1)
def Ft{a:Nat}(h1:a<=c)(h2:c<=d):(a:Int)<=d:=Int.ofNat_le.mpr (Nat.le_trans h1 h2)
theorem Cd{xs:List D}(h:cJ xs)(nd:xs.Nodup):∀{k:Nat}{d:D},bO xs k d->∀(n:Nat)(dp:Int),dp+k<=3->
  pg.fn (n+4+2*k) 11 [.val d,.val (.lst xs),.val (.int dp)]=.ok (.val (.bl true)) [.val d,.val (.lst xs),.val (.int dp)]:=by
 intro k d hk
 induction hk with
 | @same k x hx=>
  intro n dp _
  rw[Ia,eY]
  simp[cY,aX (n+2+2*k) [.str "same",x] 2 4 (by simp) (by simp),jg (n+2+2*k) (.inr rfl) h hx,aO]
 | @not k x hx=>
  intro n dp _
  rw[Ia,eY]
  simp[cY,aX (n+2+2*k) [.str "not",x] 2 4 (by simp) (by simp),jg (n+2+2*k) (.inr rfl) h hx,aO]
 | @and k ys hs h1 h2=>
  intro n dp _
  have w:=cZ (n+1+2*k) (.inr rfl) h nd hs 1 4 (Fq h1 (by decide)) (Ft h2 (by decide))
  rw[RC]at w
  rw[Ia,eY]
  simp[cY,aX (n+2+2*k) [.str "and",.tup ys] 2 4 (by simp) (by simp),w,aO,gl5]
 | @or k ys hs h1 h2=>
  intro n dp _
  have w:=cZ (n+1+2*k) (.inr rfl) h nd hs 1 4 (Fq h1 (by decide)) (Ft h2 (by decide))
  rw[RC]at w
  rw[Ia,eY]
  simp[cY,aX (n+2+2*k) [.str "or",.tup ys] 2 4 (by simp) (by simp),w,aO,gl5]
 | @both k ys hs h1 h2=>
  intro n dp _
  have w:=cZ (n+1+2*k) (.inr rfl) h nd hs 2 4 (Fq h1 (by decide)) (Ft h2 (by decide))
  rw[RC]at w
  rw[Ia,eY]
  simp[cY,aX (n+2+2*k) [.str "both",.tup ys] 2 4 (by simp) (by simp),w,aO,gl5]
 | @table k ys rs hs h1 h2 hr hi=>
  intro n dp _
  have w:=cZ (n+1+2*k) (.inr rfl) h nd hs 1 8 (Fq h1 (by decide)) (Ft h2 (by decide))
  rw[RC]at w
  have z:=z6 (n+2*k) rs ys.length hr hi
  rw[afD]at z
  rw[Ia,eY]
  simp[cY,aX (n+2+2*k) [.str "table",.tup ys,.tup (rs.map aF)] 2 4 (by simp) (by simp),w,z,aO,gl6]
 | @held k d x b hk hx ih=>
  intro n dp hd
  have w:=jg (n+3+2*k) (.inr rfl) h hx
  rw[afC]at w
  have hl:pg.fn (n+4+2*k+1) 12 [.val (.tup [.str "held",d,x,.bl b]),.val (.lst xs),.val (.int (dp+1))]=.ok (.val (.bl true)) [.val (.tup [.str "held",d,x,.bl b]),.val (.lst xs),.val (.int (dp+1))]:=by
   rw[Hl]
   simp[pA,ih n (dp+1) (by omega),w]
  have lt:dp<3:=by omega
  rw[afB,eY]
  simp[cY,aX (n+4+2*k) [.str "held",d,x,.bl b] 2 4 (by simp) (by simp),hl,aO,gl7,lt]
end Tx
end
section
open PySem Mini
namespace Tx
noncomputable def Ut(h g:Nat):List Str:=(["a","b","come"]:List Str).take h++(["p","q","rr","go","abcdef"]:List Str).take g
def names(h g:Nat):List D:=hd h++cL g
def m7 h g:names h g=(Ut h g).map .str:=by
 simp[names,Ut,hd,cL,List.map_take]
def uo{ss:List Str}(h:ss.Nodup):(ss.map D.str).Nodup:=by
 induction ss with
 |nil=>simp
 |cons s ss ih=>
  rw[List.nodup_cons]at h
  rw[Qyz,List.nodup_cons]
  exact⟨fun z=>h.1 (by simpa using z),ih h.2⟩
def names_nodup(h2:h<=2)(g1:1<=g)(g4:g<=5):(names h g).Nodup:=by
 rw[m7]
 exact uo (((List.take_sublist h _).append (List.take_sublist g _)).nodup (by decide))
def bF h g:cJ (names h g):=fun x hx=>by
 rw[m7]at hx
 obtain⟨s,_,rfl⟩:=QDq.mp hx
 exact⟨s,rfl⟩
def fc(h2:h<=2)(g4:g<=5):(names h g).length=h+g:=by
 rw[names,QTq,il h2,dj g4]
def Rr n s(hs:s∈Ut 3 5):pg.fn (n+1) 5 [.val (.str s)]=.ok (.val (.bl true)) [.val (.str s)]:=by
 have:Ut 3 5=(["a","b","come","p","q","rr","go","abcdef"]:List Str):=by rfl
 rw[this]at hs
 simp only[QCq,QAz,or_false]at hs
 rcases hs with rfl|rfl|rfl|rfl|rfl|rfl|rfl|rfl<;>kernel_rfl
def Ex{s:Str}(hs:s∈Ut h g):s∈Ut 3 5:=by
 unfold Ut at*
 rw[QXz]at*
 rcases hs with hs|hs
 ·exact .inl (by have:=List.mem_of_mem_take hs;simpa using this)
 ·exact .inr (by have:=List.mem_of_mem_take hs;simpa using this)
def gl3:pg.gl 3=some (.int 3):=rfl
def gl4:pg.gl 4=some (.int 5):=rfl
def Bx:E:=.bi .all (.comp 1 (.name 0) AAc AAL AAw)
def DP(h:ys.length=xs.length):(aW xs ys).length=xs.length:=by
 rw[cM];simp[h]
section
def jN(h g:Nat)(ks:List D)(X:D):D:=.tup [.tup (hd h),.tup (aW (cL g) ks),X]
def zH n(O:b8 h g ks ls)X:pg.fn (n+2) 2 [.val (jN h g ks X)]=.ok (.val (.bl true)) [.val (jN h g ks X)]:=by
 have lg:=dj O.g5
 have lh:=il O.h2
 have lz:(aW (cL g) ks).length=g:=by rw[DP (by rw[lg,O.kl]),lg]
 have e:ev (pg.cf (n+1)) Bx [.val (jN h g ks X)]=.ok (.val (.bl true)) [.val (jN h g ks X)]:=by
  refine all1 (r:=.val (.tup (aW (cL g) ks))) (by simp[jN]) rfl rfl fun x hx=>?_
  rw[cM]at hx
  obtain⟨p,_,rfl⟩:=QDq.mp hx
  simp[pairD,aX n [p.1,p.2] 2 2 (by simp) (by simp)]
 have hb:j7=⟨1,1,(.cons _ (.cons (.ret Bx) .nil))⟩:=rfl
 have q:Bx.aB=none:=rfl
 rw[yN,hb]
 simp only[jN]at*
 simp[aX n (hd h) 0 3 (by omega) (by have:=O.h2;omega),aX n (aW (cL g) ks) 1 5 (by have:=O.g1;omega) (by have:=O.g5;omega),gl3,gl4,e,q]
def Uv:E:=.bi .all ADH
def UV:E:=.bi .all ACN
def Mh n(O:b8 h g ks ls)X b(t5:pg.fn (n+6) 7 [.val X,.val (.int (names h g).length)]=.ok (.val (.bl b)) [.val X,.val (.int (names h g).length)]):pg.fn (n+7) 1 [.val (jN h g ks X)]=.ok (.val (.bl b)) [.val (jN h g ks X)]:=by
 have lg:=dj O.g5
 have lh:=il O.h2
 have T:=bF h g
 have Nd:=names_nodup O.h2 O.g1 O.g5
 have e1:ev (pg.cf (n+6)) Uv [.val (jN h g ks X),.own (.lst (names h g))]=.ok (.val (.bl true)) [.val (jN h g ks X),.val (.lst (names h g))]:=by
  refine all1 (r:=.val (.lst (names h g))) (by simp) rfl rfl fun x hx=>?_
  rw[m7]at hx
  obtain⟨s,hs,rfl⟩:=QDq.mp hx
  simp[Rr (n+5) s (Ex hs)]
 have e2:ev (pg.cf (n+6)) UV [.val (jN h g ks X),.val (.lst (names h g))]=.ok (.val (.bl true)) [.val (jN h g ks X),.val (.lst (names h g))]:=by
  refine all2 (r:=.val (.tup (aW (cL g) ks))) (by simp[jN]) rfl (by show some _=some _;rw[cM]) fun x hx=>?_
  simp[Cd T Nd (O.kk x.2 (List.of_mem_zip hx).2) n 0 (by decide)]
 have hb:tX=⟨1,2,(.cons _ (.cons _ (.cons (.ite (.or (.cons (.not Uv) _)) _ .nil) (.cons (.ret (.and (.cons UV _))) .nil))))⟩:=rfl
 rw[Kc,hb]
 have nn:hd h++cL g=names h g:=rfl
 have g2:getD (jN h g ks X) (.int 2)=some X:=by simp[jN]
 have t1':pg.fn _ 3 [.val (jN h g ks X),.val _,.val _]=.ok _ [.val _,.val _,.val _]:=aX (n+5) [.tup (hd h),.tup (aW (cL g) ks),X] 3 3 (by simp) (by simp)
 have t3':pg.fn _ 13 [.val (jN h g ks X)]=.ok (.new (.lst (names h g))) [.val _]:=fB (n+5) (hd h) (cL g) ks X (by rw[O.kl,lg]) (by have:=O.h2;have:=O.g5;omega)
 simp[t1',zH (n+4) O X,t3',e1,lO (n+5) (.inr rfl) T Nd,e2,g2,t5]
def Ib n(O:b8 h g ks ls):pg.fn (n+7) 1 [.val (aH h g ks ls)]=.ok (.val (.bl true)) [.val (aH h g ks ls)]:=
 Mh n O _ true (vB _ ls (names h g).length (by rw[fc O.h2 O.g5,O.ll]))
def Dc n(O:b8 h g ks ls):pg.fn (n+8) 0 [.val (aH h g ks ls)]=.ok (.val (aH h g ks ls)) [.val (aH h g ks ls)]:=by
 rw[Hn]
 simp[pC,Ib n O]
end
end Tx
end
section
open PySem Mini
namespace Tx
theorem goD(τ:Int->Ev){cond elt:Ev->Out Rv}(P:D->D->Prop)(all:Bool):∀(xs acc:List D)(k:Int)(s:Sl),0<=k->bL s->
  (∀x∈xs,∀k,0<=k->∃b k',0<=k'/\(all=true->b=true)/\cond (.val x::τ k)=.ok (.val (.bl b)) (.val x::τ k'))->
  (∀x∈xs,∀k,0<=k->∃y k',0<=k'/\P x y/\elt (.val x::τ k)=.ok (.val y) (.val x::τ k'))->
  ∃(zs:List (D×D))(k':Int)(s':Sl),(zs.map (·.1)).Sublist xs/\(all=true->zs.map (·.1)=xs)/\(∀p∈zs,P p.1 p.2)/\0<=k'/\aU (.name 0) cond elt xs acc (s::τ k)=.ok (acc++zs.map (·.2)) (s'::τ k')
 |[]=>fun acc k s hk _ _ _=>⟨[],k,s,List.Sublist.refl _,fun _=>rfl,fun p h=>(by cases h),hk,by simp[aU]⟩
 |x::xs=>fun acc k s hk hs hc he=>by
  obtain⟨b,k1,a1,a2,a3⟩:=hc x QYz k hk
  rw[aU,kj hs]
  simp only[a3,cW]
  cases b with
  |true=>
   obtain⟨y,k2,b1,b2,b3⟩:=he x QYz k1 a1
   obtain⟨zs,k',s',c1,c2,c3,c4,c5⟩:=goD τ P all xs _ k2 _ b1 (.inr ⟨_,rfl⟩) (fun z hz=>hc z (QYq _ hz)) fun z hz=>he z (QYq _ hz)
   refine⟨(x,y)::zs,k',s',c1.cons_cons x,fun h=>by simp[c2 h],fun p hp=>?_,c4,?_⟩
   ·rcases QCq.mp hp with rfl|hp
    ·exact b2
    ·exact c3 p hp
   ·rw[if_pos rfl,b3,bK,c5]
    simp
  |false=>
   obtain⟨zs,k',s',c1,c2,c3,c4,c5⟩:=goD τ P all xs acc k1 _ a1 (.inr ⟨_,rfl⟩) (fun z hz=>hc z (QYq _ hz)) fun z hz=>he z (QYq _ hz)
   exact⟨zs,k',s',c1.cons x,fun h=>by simpa using a2 h,c3,c4,by rw[if_neg (by simp),c5]⟩
def NP{σ:Ev}{r:Rv}{xs:List D}(τ:Int->Ev)(P:D->D->Prop)(all:Bool)(hk:0<=k)(hi:ev c it σ=.ok r (τ k))(hr:r.jj=some d)(hd:items d=some xs)
  (hc:∀x∈xs,∀k,0<=k->∃b k',0<=k'/\(all=true->b=true)/\ev c co (.val x::τ k)=.ok (.val (.bl b)) (.val x::τ k'))
  (he:∀x∈xs,∀k,0<=k->∃y k',0<=k'/\P x y/\ev c el (.val x::τ k)=.ok (.val y) (.val x::τ k')):
  ∃(zs:List (D×D))(k':Int),(zs.map (·.1)).Sublist xs/\(all=true->zs.map (·.1)=xs)/\(∀p∈zs,P p.1 p.2)/\0<=k'/\ev c (.comp 1 (.name 0) it co el) σ=.ok (.new (.lst (zs.map (·.2)))) (τ k'):=by
 obtain⟨zs,k',s',a1,a2,a3,a4,a5⟩:=goD τ P all xs [] k .un hk (.inl rfl) hc he
 refine⟨zs,k',a1,a2,a3,a4,?_⟩
 rw[lQ,hi]
 have b:∀{β:Type}(g:D->Ev->Out β),(Out.ok r (τ k)).au g=g d (τ k):=fun g=>by cases r<;>simp[Rv.jj]at hr<;>subst hr<;>rfl
 rw[b]
 simp only[hd]
 rw[show List.replicate 1 Sl.un++τ k=.un::τ k from rfl,a5]
 simp
def kO(m:D×Nat):D:=.tup [m.1,.int m.2]
def fH(st:List (D×Nat)):D:=.tup (st.map kO)
def aK(os:List D)(sts:List (List (D×Nat))):D:=.tup [.tup os,.tup (sts.map fH)]
structure bY(h g:Nat)(os:List D)(sts:List (List (D×Nat))):Prop where
 ou:os.Sublist (cL g)
 s1:1<=sts.length
 s4:sts.length<=4
 mv:∀st∈sts,(st.map (·.1)).Sublist (hd h++os)/\∀m∈st,m.2<sts.length
def Q9:E:=.comp 1 (.name 0) AAf ABJ AAb
def T6:E:=.comp 1 (.name 0) ADR pY (.var 0)
def Xi:E:=(.tup ACO)
def Xj:E:=.comp 1 (.name 0) (.var 8) AAL Xi
def yh:S:=(.cons (.set 8 T6) (.cons (.append 6 (.bi .tuple Xj)) .nil))
def V4{zs:List (D×D)}(h:(zs.map (·.1)).Sublist xs)(e:∀p∈zs,p.2=p.1):(zs.map (·.2)).Sublist xs:=by
 rw[show zs.map (·.2)=zs.map (·.1)from List.map_congr_left e];exact h
section
variable(n:Nat)(ns:List Int)(hs os gs:List D)(x:D)(s3 s5 s6 s7 s8:Sl)
def JQ(k:Int)(hk:0<=k)(hl:hs.length+os.length<=900):∃(ys:List D)(k':Int),ys.Sublist (hs++os)/\0<=k'/\
  ev (pg.cf (n+3)) T6 [.val (sc ns),.bor (.lst [.int k]),.val (.tup [.tup hs,.tup gs,x]),s3,.val (.tup os),s5,s6,s7,s8]=.ok (.new (.lst ys)) [.val (sc ns),.bor (.lst [.int k']),.val (.tup [.tup hs,.tup gs,x]),s3,.val (.tup os),s5,s6,s7,s8]:=by
 have f:fits (hs.length+os.length)=true:=by simp[fits];omega
 obtain⟨zs,k',a1,a2,a3,a4,a5⟩:=NP (it:=ADR) (el:=.var 0) (σ:=[.val (sc ns),.bor (.lst [.int k]),.val (.tup [.tup hs,.tup gs,x]),s3,.val (.tup os),s5,s6,s7,s8]) (fun k=>[.val (sc ns),.bor (.lst [.int k]),.val (.tup [.tup hs,.tup gs,x]),s3,.val (.tup os),s5,s6,s7,s8])
  (fun x y=>y=x) false hk (r:=.val (.tup (hs++os))) (by simp[f]) rfl rfl
  (fun x _ k hk=>by obtain⟨b,e⟩:=xJ n ns k hk x [.val _,s3,.val _,s5,s6,s7,s8];exact⟨b,k+1,by omega,by simp,e⟩) fun x _ k hk=>⟨x,k,hk,rfl,by simp⟩
 exact⟨_,k',V4 a1 a3,a4,a5⟩
theorem Rw(k:Int)(hk:0<=k)(ys:List D)(many:Nat)(h1:1<=many)(net:D)(s4:Sl):∃(st:List (D×Nat))(k':Int),st.map (·.1)=ys/\(∀m∈st,m.2<many)/\0<=k'/\
  ev (pg.cf (n+3)) Xj [.val (sc ns),.bor (.lst [.int k]),.val net,s3,s4,.val (.int many),s6,s7,.own (.lst ys)]=.ok (.new (.lst (st.map kO))) [.val (sc ns),.bor (.lst [.int k']),.val net,s3,s4,.val (.int many),s6,s7,.val (.lst ys)]:=by
 obtain⟨zs,k',a1,a2,a3,a4,a5⟩:=NP (c:=pg.cf (n+3)) (it:=.var 8) (co:=.con (.bl true)) (el:=Xi) (σ:=[.val (sc ns),.bor (.lst [.int k]),.val net,s3,s4,.val (.int many),s6,s7,.own (.lst ys)]) (fun k=>[.val (sc ns),.bor (.lst [.int k]),.val net,s3,s4,.val (.int many),s6,s7,.val (.lst ys)])
  (fun x y=>∃j:Nat,j<many/\y=kO (x,j)) true hk (r:=.val (.lst ys)) (by simp) rfl rfl
  (fun x _ k hk=>⟨true,k,hk,fun _=>rfl,by simp⟩) fun x _ k hk=>by
   obtain⟨q,q1,q2,e⟩:=bw n ns k many hk (by omega)
   obtain⟨j,rfl⟩:∃j:Nat,q=j:=⟨q.toNat,by omega⟩
   exact⟨_,k+1,by omega,⟨j,by omega,rfl⟩,by simp[Xi,e,aO,kO]⟩
 have pick:∀(zs:List (D×D)),(∀p∈zs,∃j:Nat,j<many/\p.2=kO (p.1,j))->∃st:List _,st.map (·.1)=zs.map (·.1)/\(∀m∈st,m.2<many)/\st.map kO=zs.map (·.2):=by
  intro zs
  induction zs with
  |nil=>exact fun _=>⟨[],rfl,fun m h=>(by cases h),rfl⟩
  |cons z zs ih=>
   intro h
   obtain⟨j,j1,j2⟩:=h z QYz
   obtain⟨st,b1,b2,b3⟩:=ih fun p hp=>h p (QYq _ hp)
   refine⟨(z.1,j)::st,by simp[b1],fun m hm=>?_,by simp[b3,j2]⟩
   rcases QCq.mp hm with rfl|hm
   ·exact j1
   ·exact b2 m hm
 obtain⟨st,b1,b2,b3⟩:=pick zs a3
 exact⟨st,k',by rw[b1,a2 rfl],b2,a4,by rw[b3];exact a5⟩
def GR(k:Int)(hk:0<=k)(hl:hs.length+os.length<=900)(many:Nat)(h1:1<=many)(acc:List D)(ha:acc.length<=1000)(h8:bL s8):∃(st:List (D×Nat))(k':Int)(s':Sl),(st.map (·.1)).Sublist (hs++os)/\(∀m∈st,m.2<many)/\0<=k'/\bL s'/\
  ex (pg.cf (n+3)) yh [.val (sc ns),.bor (.lst [.int k]),.val (.tup [.tup hs,.tup gs,x]),s3,.val (.tup os),.val (.int many),.own (.lst acc),s7,s8]=.next [.val (sc ns),.bor (.lst [.int k']),.val (.tup [.tup hs,.tup gs,x]),s3,.val (.tup os),.val (.int many),.own (.lst (acc++[fH st])),s7,s']:=by
 obtain⟨ys,k1,a1,a2,a3⟩:=JQ n ns hs os gs x s3 (.val (.int many)) (.own (.lst acc)) s7 s8 k hk hl
 obtain⟨st,k',b1,b2,b3,b4⟩:=Rw n ns s3 (.own (.lst acc)) s7 k1 a2 ys many h1 (.tup [.tup hs,.tup gs,x]) (.val (.tup os))
 have f:fits (acc.length+1)=true:=by simp[fits];omega
 have q:Xj.aB=none:=rfl
 refine⟨st,k',.val (.lst ys),by rw[b1];exact a1,b2,b3,.inr ⟨_,rfl⟩,?_⟩
 rcases h8 with rfl|⟨e,rfl⟩<;>simp[yh,a3,b4,di,wI,f,q,fH]
theorem uH(hl:hs.length+os.length<=900)(many:Nat)(h1:1<=many):∀(xs:List D)(acc:List (List (D×Nat)))(k:Int)(s7 s8:Sl),0<=k->bL s7->bL s8->acc.length+xs.length<=1000->∃(sts:List (List (D×Nat)))(k':Int)(t7 t8:Sl),sts.length=xs.length/\(∀st∈sts,(st.map (·.1)).Sublist (hs++os)/\∀m∈st,m.2<many)/\0<=k'/\
  bA (.name 7) (ex (pg.cf (n+3)) yh) xs [.val (sc ns),.bor (.lst [.int k]),.val (.tup [.tup hs,.tup gs,x]),s3,.val (.tup os),.val (.int many),.own (.lst (acc.map fH)),s7,s8]=.next [.val (sc ns),.bor (.lst [.int k']),.val (.tup [.tup hs,.tup gs,x]),s3,.val (.tup os),.val (.int many),.own (.lst ((acc++sts).map fH)),t7,t8]
 |[]=>fun acc k s7 s8 hk _ _ _=>⟨[],k,s7,s8,rfl,fun st h=>(by cases h),hk,by simp[bA]⟩
 |y::xs=>fun acc k s7 s8 hk h7 h8 hx=>by
  simp only[QBq]at hx
  obtain⟨st,k1,s',a1,a2,a3,a4,a5⟩:=GR n ns hs os gs x s3 _ s8 k hk hl many h1 (acc.map fH) (by simp;omega) h8
  obtain⟨sts,k',t7,t8,b1,b2,b3,b4⟩:=uH hl many h1 xs (acc++[st]) k1 _ s' a3 (.inr ⟨_,rfl⟩) a4 (by simp;omega)
  refine⟨st::sts,k',t7,t8,by simp[b1],fun q hq=>?_,b3,?_⟩
  ·rcases QCq.mp hq with rfl|hq
   ·exact⟨a1,a2⟩
   ·exact b2 q hq
  ·rw[bA]
   have st1:bD (.name 7) y [.val (sc ns),.bor (.lst [.int k]),.val (.tup [.tup hs,.tup gs,x]),s3,.val (.tup os),.val (.int many),.own (.lst (acc.map fH)),s7,s8]=some [.val (sc ns),.bor (.lst [.int k]),.val (.tup [.tup hs,.tup gs,x]),s3,.val (.tup os),.val (.int many),.own (.lst (acc.map fH)),.val y,s8]:=by
    rcases h7 with rfl|⟨e,rfl⟩<;>simp[bD]
   rw[st1]
   simp only
   rw[a5,nZ]
   rw[show acc.map fH++[fH st]=(acc++[st]).map fH by simp,b4]
   simp
end
theorem oJ:∀(m:Nat)(lo:Int),(cB lo m).length=m
 |0=>fun _=>rfl
 |m+1=>fun lo=>by simp[cB,oJ m]
def Q8(n:Nat)(ns:List Int)(k:Int)(hk:0<=k)(hs gs ks:List D)(x:D)(hl:ks.length=gs.length)(s3 s4 s5 s6 s7 s8:Sl):∃(os:List D)(k':Int),os.Sublist gs/\0<=k'/\
  ev (pg.cf (n+3)) Q9 [.val (sc ns),.bor (.lst [.int k]),.val (.tup [.tup hs,.tup (aW gs ks),x]),s3,s4,s5,s6,s7,s8]=.ok (.new (.lst os)) [.val (sc ns),.bor (.lst [.int k']),.val (.tup [.tup hs,.tup (aW gs ks),x]),s3,s4,s5,s6,s7,s8]:=by
 obtain⟨zs,k',a1,a2,a3,a4,a5⟩:=NP (c:=pg.cf (n+3)) (it:=AAf) (co:=ABJ) (el:=AAb) (σ:=[.val (sc ns),.bor (.lst [.int k]),.val (.tup [.tup hs,.tup (aW gs ks),x]),s3,s4,s5,s6,s7,s8]) (fun k=>[.val (sc ns),.bor (.lst [.int k]),.val (.tup [.tup hs,.tup (aW gs ks),x]),s3,s4,s5,s6,s7,s8])
  (fun x y=>y=o5 x) false hk (r:=.val (.tup (aW gs ks))) (by simp) rfl rfl
  (fun x _ k hk=>by
   obtain⟨q,_,_,e⟩:=bw n ns k 3 hk (by omega)
   exact⟨decide (0<q),k+1,by omega,by simp,by simp[e]⟩) fun x hx k hk=>by
   rw[cM]at hx
   obtain⟨p,_,rfl⟩:=QDq.mp hx
   exact⟨_,k,hk,rfl,by simp[pairD,o5]⟩
 refine⟨_,k',?_,a4,a5⟩
 have:=a1.map o5
 rw[v4 gs ks hl]at this
 rw[show zs.map (·.2)=(zs.map (·.1)).map o5 by rw[List.map_map];exact List.map_congr_left a3]
 exact this
def Qa(n:Nat)(ns:List Int)(k:Int)(hk:0<=k){ks:List D}(O:b8 h g ks ls):∃os sts k',bY h g os sts/\0<=k'/\
  pg.fn (n+4) 42 [.val (sc ns),.bor (.lst [.int k]),.val (aH h g ks ls),.val (.int 4)]=.ok (.val (aK os sts)) [.val (sc ns),.bor (.lst [.int k']),.val (aH h g ks ls),.val (.int 4)]:=by
 have lg:=dj O.g5
 have lh:=il O.h2
 obtain⟨os,k1,a1,a2,a3⟩:=Q8 n ns k hk (hd h) (cL g) ks _ (by rw[O.kl,lg]) _ .un .un .un .un .un
 obtain⟨q,q1,q2,eq⟩:=bw n ns k1 4 a2 (by omega)
 obtain⟨m,rfl⟩:∃m:Nat,q=m:=⟨q.toNat,by omega⟩
 have lo:=a1.length_le
 have:=O.h2
 have:=O.g5
 obtain⟨sts,k',t7,t8,b1,b2,b3,b4⟩:=uH n ns (hd h) os _ _ _ (by omega) (1+m) (by omega) (cB 0 (1+m)) [] (k1+1) .un .un (by omega) (.inl rfl) (.inl rfl) (by simp[oJ];omega)
 rw[oJ]at b1
 refine⟨os,sts,k',⟨a1,by omega,by omega,fun st hst=>?_⟩,b3,?_⟩
 ·rw[b1];exact b2 st hst
 ·have hb:mz=⟨4,9,.cons (.set 4 (.bi .tuple Q9)) (.cons _ (.cons _ (.cons (.for_ _ _ yh) _)))⟩:=rfl
  rw[Bj,hb]
  have q0:Q9.aB=none:=rfl
  have fm:fits (1+m)=true:=by simp[fits];omega
  have md:Ez (1+m)=true:=by simp[Ez];omega
  have tn:(1+(m:Int)).toNat=1+m:=by omega
  have b4':bA (.name 7) (ex (pg.cf (n+3)) yh) (cB 0 (1+m)) [.val (sc ns),.bor (.lst [.int (k1+1)]),.val (aH h g ks ls),.val (.int 4),.val (.tup os),.val (.int (1+m)),.own (.lst []),.un,.un]=.next [.val (sc ns),.bor (.lst [.int k']),.val (aH h g ks ls),.val (.int 4),.val (.tup os),.val (.int (1+m)),.own (.lst (sts.map fH)),t7,t8]:=by simpa[aH]using b4
  have a3':ev _ Q9 [.val _,.bor _,.val (aH h g ks ls),.val (.int 4),.un,.un,.un,.un,.un]=.ok _ [.val _,.bor _,.val (aH h g ks ls),.val _,.un,.un,.un,.un,.un]:=a3
  simp[a3',q0,eq,aO,fm,md,tn,b4',items,aK]
end Tx
end
section
open PySem Mini
namespace Tx
def Fw:E:=(.comp 1 (.name 0) (.var 2) AAL pY)
def Lx n ns k(hk:0<=k)xs s3 s4:∃(bs:List Bool)(k':Int),bs.length=xs.length/\0<=k'/\
  ev (pg.cf (n+3)) Fw [.val (sc ns),.bor (.lst [.int k]),.own (.lst xs),s3,s4]=.ok (.new (.lst (bs.map .bl))) [.val (sc ns),.bor (.lst [.int k']),.val (.lst xs),s3,s4]:=by
 obtain⟨bs,k',s',a1,a2,a3,a4⟩:=sV n ns [.val _,s3,s4] xs [] k .un hk (.inl rfl)
 refine⟨bs,k',a1,a2,?_⟩
 have h:ev (pg.cf (n+3)) (.var 2) [.val (sc ns),.bor (.lst [.int k]),.own (.lst xs),s3,s4]=.ok (.val (.lst xs)) [.val (sc ns),.bor (.lst [.int k]),.val (.lst xs),s3,s4]:=by simp
 unfold Fw
 rw[lQ,h,bK]
 simp only[items]
 rw[show List.replicate 1 Sl.un++[.val _,.bor _,.val _,s3,s4]=.un:: .val _:: .bor _::[.val _,s3,s4]from rfl,a4]
 simp
def T8:S:=AAg
def rk(a b:String):D:=.tup [.str "held",.tup [.str "same",.str a],.str b,.bl false]
noncomputable def yD:Nat->List D
 |3=>[rk "rr" "q",rk "p" "rr",rk "q" "p"]
 |4=>[rk "go" "q",rk "p" "rr",rk "q" "go",rk "rr" "p"]
 |_=>[rk "abcdef" "q",rk "p" "rr",rk "q" "go",rk "rr" "abcdef",rk "go" "p"]
def Hg c s0 s1 g(hg:g=3\/g=4\/g=5):∃s4,bA (.name 4) (ex c T8) (cB 0 g) [s0,s1,.own (.lst (cL g)),.own (.lst []),.un]=.next [s0,s1,.own (.lst (cL g)),.own (.lst (aW (cL g) (yD g))),s4]:=by
 refine⟨.val (.int (g-1)),?_⟩
 rcases hg with rfl|rfl|rfl
 all_goals
  try rfl
def Be g(hg:g=3\/g=4\/g=5):∀d∈yD g,bO (hd 0++cL g) 1 d:=by
 intro d h
 rcases hg with rfl|rfl|rfl<;>simp only[yD,QCq,QAz,or_false]at h<;>rcases h with rfl|rfl|rfl|rfl|rfl<;>exact .held (.same (by simp[hd,cL])) (by simp[hd,cL])
def QC n ns k(hk:0<=k):∃g ks ls k',b8 0 g ks ls/\3<=g/\0<=k'/\pg.fn (n+4) 43 [.val (sc ns),.bor (.lst [.int k])]=.ok (.val (aH 0 g ks ls)) [.val (sc ns),.bor (.lst [.int k'])]:=by
 obtain⟨r,r1,r2,er⟩:=bw n ns k 3 hk (by omega)
 obtain⟨g,hg,hr⟩:∃g:Nat,(g=3\/g=4\/g=5)/\3+r=g:=⟨(3+r).toNat,by omega,by omega⟩
 have lg:(cL g).length=g:=dj (by omega)
 obtain⟨s4,a⟩:=Hg (pg.cf (n+3)) (.val (sc ns)) (.bor (.lst [.int (k+1)])) g hg
 obtain⟨bs,k',b1,b2,b3⟩:=Lx n ns (k+1) (by omega) (cL g) (.own (.lst (aW (cL g) (yD g)))) s4
 refine⟨g,yD g,bs,k',⟨by omega,by omega,by omega,?_,Be g hg,by omega⟩,by omega,b2,?_⟩
 ·rcases hg with rfl|rfl|rfl<;>rfl
 ·have hb:mD=⟨2,5,(.cons _ (.cons _ (.cons (.for_ _ _ T8) (.cons (.ret (.tup (.cons _ (.cons _ (.cons (.bi .tuple Fw) .nil))))) .nil))))⟩:=rfl
  rw[Bl,hb]
  have sl:dX (.lst [.str "p",.str "q",.str "rr",.str "go",.str "abcdef"]) none (some g)=some (.new (.lst (cL g))):=by
   rcases hg with rfl|rfl|rfl<;>rfl
  have fg:fits g=true:=by simp[fits];omega
  have md:Ez g=true:=by simp[Ez];omega
  have q:Fw.aB=none:=rfl
  simp[er,hr,sl,aO,cH,E.jx,lg,fg,md,items,a,b3,q,aH,hd]
def o7:S:=AAn
def SN xs b:at? (xs++[b]) (-1)=some b:=by
 unfold at? ix?
 have e:(-1+((xs.length:Int)+1)).toNat=xs.length:=by omega
 have e2:(0:Int)<= -1+(xs.length+1):=by omega
 have e3: -1+((xs.length:Int)+1)<xs.length+1:=by omega
 simp[e,e2,e3]
def De n ns k(hk:0<=k)s2 s7(h7:bL s7)a x ls l acc(hl:ls.length<=1000)(ha:acc.length<=1000):
  ∃(w:Str)(b:Bool)(t7:Sl),(w="same"\/w="not")/\bL t7/\ex (pg.cf (n+3)) o7 [.val (sc ns),.bor (.lst [.int k]),s2,.val a,.own (.lst ((ls++[l]).map .bl)),.own (.lst acc),.val x,s7]
   =.next [.val (sc ns),.bor (.lst [.int (k+1)]),s2,.val x,.own (.lst ((ls++[l]++[b]).map .bl)),.own (.lst (acc++[.tup [x,.tup [.str w,a]]])),.val x,t7]:=by
 obtain⟨r,r1,r2,er⟩:=bw n ns k 2 hk (by omega)
 have fa:fits (acc.length+1)=true:=by simp[fits];omega
 have fb:fits (ls.length+1+1)=true:=by simp[fits];omega
 have al:at? (ls.map D.bl++[.bl l]) (-1)=some _:=SN _ _
 rcases (by omega:r=0\/r=1)with rfl|rfl
 ·refine⟨"same",l==true,.val (.int 0),.inl rfl,.inr ⟨_,rfl⟩,?_⟩
  rcases h7 with rfl|⟨e,rfl⟩<;>simp[o7,er,aO,fa,fb,di,wI,al]
 ·refine⟨"not",l==false,.val (.int 1),.inr rfl,.inr ⟨_,rfl⟩,?_⟩
  rcases h7 with rfl|⟨e,rfl⟩<;>simp[o7,er,aO,fa,fb,di,wI,al]
theorem tK(n:Nat)(ns:List Int)(s2:Sl):∀(xs acc:List D)(k:Int)(s6 s7:Sl)(a:D)(ls:List Bool)(l:Bool),0<=k->bL s6->bL s7->ls.length+xs.length<=1000->acc.length+xs.length<=1000->
  ∃(ks:List D)(bs:List Bool)(k':Int)(t3 t6 t7:Sl),ks.length=xs.length/\bs.length=xs.length/\0<=k'/\(∀d∈ks,∃y∈a::xs,d=.tup [.str "same",y]\/d=.tup [.str "not",y])/\
   bA (.name 6) (ex (pg.cf (n+3)) o7) xs [.val (sc ns),.bor (.lst [.int k]),s2,.val a,.own (.lst ((ls++[l]).map .bl)),.own (.lst acc),s6,s7]=.next [.val (sc ns),.bor (.lst [.int k']),s2,t3,.own (.lst ((ls++[l]++bs).map .bl)),.own (.lst (acc++aW xs ks)),t6,t7]
 |[]=>fun acc k s6 s7 a ls l hk _ _ _ _=>⟨[],[],k,.val a,s6,s7,rfl,rfl,hk,fun d h=>(by cases h),by simp[bA,aW]⟩
 |x::xs=>fun acc k s6 s7 a ls l hk h6 h7 hl ha=>by
  simp only[QBq]at hl ha
  obtain⟨w,b,t,a1,a2,a3⟩:=De n ns k hk s2 s7 h7 a x ls l acc (by omega) (by omega)
  obtain⟨ks,bs,k',t3,t6,t7,b1,b2,b3,b4,b5⟩:=tK n ns s2 xs (acc++[.tup [x,.tup [.str w,a]]]) (k+1) (.val x) t x (ls++[l]) b (by omega) (.inr ⟨_,rfl⟩) a2 (by simp;omega) (by simp;omega)
  refine⟨.tup [.str w,a]::ks,b::bs,k',t3,t6,t7,by simp[b1],by simp[b2],b3,fun d hd=>?_,?_⟩
  ·rcases QCq.mp hd with rfl|hd
   ·exact⟨a,QYz,by rcases a1 with rfl|rfl<;>simp⟩
   ·obtain⟨y,hy,e⟩:=b4 d hd
    exact⟨y,QYq _ hy,e⟩
  ·have st:bD (.name 6) x [.val (sc ns),.bor (.lst [.int k]),s2,.val a,.own (.lst ((ls++[l]).map .bl)),.own (.lst acc),s6,s7]=some [.val (sc ns),.bor (.lst [.int k]),s2,.val a,.own (.lst ((ls++[l]).map .bl)),.own (.lst acc),.val x,s7]:=by
    rcases h6 with rfl|⟨e,rfl⟩<;>simp[bD]
   rw[bA,st]
   simp only
   rw[a3,nZ,b5]
   simp[aW]
def N7 n ns k(hk:0<=k):∃h g ks ls os sts k',b8 h g ks ls/\bY h g os sts/\0<=k'/\pg.fn (n+4) 44 [.val (sc ns),.bor (.lst [.int k])]=.ok (.val (.tup [aH h g ks ls,aK os sts])) [.val (sc ns),.bor (.lst [.int k'])]:=by
 obtain⟨r,r1,r2,er⟩:=bw n ns k 4 hk (by omega)
 obtain⟨g,hg,hr⟩:∃g:Nat,(g=1\/g=2\/g=3\/g=4)/\1+r=g:=⟨(1+r).toNat,by omega,by omega⟩
 have lg:(cL g).length=g:=dj (by omega)
 obtain⟨q,q1,q2,eq⟩:=bw n ns (k+1) 2 (by omega) (by omega)
 obtain⟨ks,bs,k',t3,t6,t7,b1,b2,b3,b4,b5⟩:=tK n ns _ (cL g) [] (k+1+1) .un .un _ [] _ (by omega) (.inl rfl) (.inl rfl) (by simp;omega) (by simp;omega)
 obtain⟨z,z1,z2⟩:∃z,at? (cL g) (-1)=some z/\z∈cL g:=by
  rcases hg with rfl|rfl|rfl|rfl
  ·exact⟨.str "p",rfl,by simp[cL]⟩
  ·exact⟨.str "q",rfl,by simp[cL]⟩
  ·exact⟨.str "rr",rfl,by simp[cL]⟩
  ·exact⟨.str "go",rfl,by simp[cL]⟩
 refine⟨1,g,ks,(q==1)::bs,[z],[[(.str "a",1)],[(z,0)]],k',⟨by omega,by omega,by omega,by omega,fun d dm=>?_,by simp[b2,lg];omega⟩,⟨by simpa using z2,by simp,by simp,fun st h=>?_⟩,b3,?_⟩
 ·obtain⟨y,hy,e⟩:=b4 d dm
  have hy':y∈hd 1++cL g:=by simpa[hd]using hy
  rcases e with rfl|rfl
  ·exact .same hy'
  ·exact .not hy'
 ·simp only[QCq,QAz,or_false]at h
  rcases h with rfl|rfl<;>simp[hd]
 ·have hb:j5=⟨2,8,(.cons _ (.cons _ (.cons _ (.cons _ (.cons (.for_ _ _ o7) _)))))⟩:=rfl
  rw[yL,hb]
  have sl:dX (.lst [.str "p",.str "q",.str "rr",.str "go"]) none (some g)=some (.new (.lst (cL g))):=by
   rcases hg with rfl|rfl|rfl|rfl<;>rfl
  have b5':bA (.name 6) (ex (pg.cf (n+3)) o7) (cL g) [.val (sc ns),.bor (.lst [.int (k+1+1)]),.val (.lst (cL g)),.val (.str "a"),.own (.lst [.bl (q==1)]),.own (.lst []),.un,.un]=.next [.val (sc ns),.bor (.lst [.int k']),.val (.lst (cL g)),t3,.own (.lst (.bl (q==1)::bs.map .bl)),.own (.lst (aW (cL g) ks)),t6,t7]:=by simpa using b5
  simp[er,hr,eq,sl,aO,cH,E.jx,items,b5',z1,aH,aK,fH,kO,hd]
end Tx
end
section
open PySem Mini
namespace Tx
def n6:S->S
 |.cons _ t=>t
 |s=>s
def hdS:S->S
 |.cons t _=>t
 |s=>s
def zj:S:=n6 (n6 (n6 aN.body))
def HF n ns k(hk:0<=k):∃(kd:D)(s2:Sl),(∀g,bO (hd 2++cL g) 1 kd)/\
  ex (pg.cf (n+3)) aN.body [.val (sc ns),.bor (.lst [.int k]),.un,.un,.un,.un,.un,.un]=ex (pg.cf (n+3)) zj [.val (sc ns),.bor (.lst [.int (k+1)]),s2,.val kd,.un,.un,.un,.un]:=by
 obtain⟨r,r1,r2,er⟩:=bw n ns k 6 hk (by omega)
 have hb:aN.body=.cons (hdS aN.body) (.cons (hdS (n6 aN.body)) (.cons (hdS (n6 (n6 aN.body))) zj)):=rfl
 have sb:∀g,([.str "a",.str "b"]:List D).Sublist (hd 2++cL g):=fun g=>List.sublist_append_left _ _
 have at6:=iw
 have hh:∀g,bO (hd 2++cL g) 1 (.tup [.str "held",.tup [.str "same",.str "a"],.str "b",.bl true]):=fun g=>.held (.same (by simp[hd])) (by simp[hd])
 rcases (by omega:r=0\/r=1\/r=2\/r=3\/r=4\/r=5)with rfl|rfl|rfl|rfl|rfl|rfl
 ·refine⟨.tup [.str "both",.tup [.str "a",.str "b"]],.val (.int 0),fun g=>.both (sb g) (by simp) (by simp),?_⟩
  rw[hb];simp[aN,hdS,n6,er,aO,at?,ix?]
 ·refine⟨.tup [.str "both",.tup [.str "a",.str "b"]],.val (.int 1),fun g=>.both (sb g) (by simp) (by simp),?_⟩
  rw[hb];simp[aN,hdS,n6,er,aO,at?,ix?]
 ·refine⟨.tup [.str "and",.tup [.str "a",.str "b"]],.val (.int 2),fun g=>.and (sb g) (by simp) (by simp),?_⟩
  rw[hb];simp[aN,hdS,n6,er,aO,at?,ix?]
 ·refine⟨.tup [.str "or",.tup [.str "a",.str "b"]],.val (.int 3),fun g=>.or (sb g) (by simp) (by simp),?_⟩
  rw[hb];simp[aN,hdS,n6,er,aO,at?,ix?]
 ·refine⟨_,.val (.int 4),hh,?_⟩
  rw[hb];simp[aN,hdS,n6,er,aO,at?,ix?]
 ·refine⟨_,.val (.int 5),hh,?_⟩
  rw[hb];simp[aN,hdS,n6,er,aO,at?,ix?]
noncomputable def dZ:List (List (D×Nat)):=[[(.str "a",1),(.str "b",2)],[(.str "b",3)],[(.str "a",3)],[(.str "p",0)]]
def oR g(h1:1<=g):bY 2 g [.str "p"] dZ:=by
 refine⟨?_,by simp[dZ],by simp[dZ],fun st h=>?_⟩
 ·obtain⟨j,rfl⟩:∃j,g=j+1:=⟨g-1,by omega⟩
  simp[cL]
 ·simp only[dZ,QCq,QAz,or_false]at h
  rcases h with rfl|rfl|rfl|rfl<;>simp[hd,dZ]
def BV n ns k(hk:0<=k):∃h g ks ls os sts k',b8 h g ks ls/\bY h g os sts/\0<=k'/\pg.fn (n+4) 45 [.val (sc ns),.bor (.lst [.int k])]=.ok (.val (.tup [aH h g ks ls,aK os sts])) [.val (sc ns),.bor (.lst [.int k'])]:=by
 obtain⟨kd,s2,a1,a2⟩:=HF n ns k hk
 obtain⟨q,q1,q2,eq⟩:=bw n ns (k+1) 2 (by omega) (by omega)
 rcases (by omega:q=0\/q=1)with rfl|rfl
 ·obtain⟨z,z1,z2,ez⟩:=bw n ns (k+1+1) 2 (by omega) (by omega)
  refine⟨2,1,[kd],[z==1,z==1,z==1],[.str "p"],dZ,k+1+1+1,⟨by omega,by omega,by omega,rfl,fun d h=>?_,rfl⟩,oR 1 (by omega),by omega,?_⟩
  ·cases QDz.mp h;exact a1 1
  ·rw[ie,a2]
   simp[zj,aN,n6,eq,ez,aO,aH,hd,cL,aW,aK,fH,kO,dZ]
 ·obtain⟨w,w1,w2,ew⟩:=bw n ns (k+1+1) 2 (by omega) (by omega)
  obtain⟨z,z1,z2,ez⟩:=bw n ns (k+1+1+1) 2 (by omega) (by omega)
  rcases (by omega:w=0\/w=1)with rfl|rfl
  ·refine⟨2,2,[kd,.tup [.str "same",.str "p"]],[z==1,z==1,z==1,z==1],[.str "p"],dZ,k+1+1+1+1,⟨by omega,by omega,by omega,rfl,fun d h=>?_,rfl⟩,oR 2 (by omega),by omega,?_⟩
   ·simp only[QCq,QAz,or_false]at h
    rcases h with rfl|rfl
    ·exact a1 2
    ·exact .same (by simp[hd,cL])
   ·rw[ie,a2]
    simp[zj,aN,n6,eq,ew,ez,aO,aH,hd,cL,aW,aK,fH,kO,dZ,di,wI]
  ·refine⟨2,2,[kd,.tup [.str "not",.str "p"]],[z==1,z==1,z==1, !(z==1)],[.str "p"],dZ,k+1+1+1+1,⟨by omega,by omega,by omega,rfl,fun d h=>?_,rfl⟩,oR 2 (by omega),by omega,?_⟩
   ·simp only[QCq,QAz,or_false]at h
    rcases h with rfl|rfl
    ·exact a1 2
    ·exact .not (by simp[hd,cL])
   ·rw[ie,a2]
    simp[zj,aN,n6,eq,ew,ez,aO,aH,hd,cL,aW,aK,fH,kO,dZ,di,wI]
end Tx
end
section
open PySem Mini
namespace Tx
theorem DN:∀(gs ks:List D)(i:Nat)(x d:D),gs[i]? =some x->ks.length=gs.length->(aW gs ks).set i (.tup [x,d])=aW gs (ks.set i d)
 |[],_,_=>fun _ _ h _=>by simp at h
 |g::gs,[],_=>fun _ _ _ h=>by simp at h
 |g::gs,k::ks,0=>fun x d h _=>by simp at h;subst h;simp[aW]
 |g::gs,k::ks,i+1=>fun x d h hl=>by simp[aW,DN gs ks i x d (by simpa using h) (by simpa using hl)]
theorem zip_get:∀(gs ks:List D)(i:Nat),i<gs.length->ks.length=gs.length->∃x d,(aW gs ks)[i]? =some (.tup [x,d])/\gs[i]? =some x
 |[],_,_=>fun h _=>by simp at h
 |g::gs,[],_=>fun _ h=>by simp at h
 |g::gs,k::ks,0=>fun _ _=>⟨g,k,by simp[aW],rfl⟩
 |g::gs,k::ks,i+1=>fun h hl=>by
  obtain⟨x,d,a,b⟩:=zip_get gs ks i (by simpa using h) (by simpa using hl)
  exact⟨x,d,by simp[aW,a],by simpa using b⟩
def G4 n ns k(hk:0<=k){ks:List D}(O:b8 h g ks ls):∃ks' k',b8 h g ks' ls/\0<=k'/\
  pg.fn (n+8) 46 [.val (sc ns),.bor (.lst [.int k]),.val (aH h g ks ls)]=.ok (.val (aH h g ks' ls)) [.val (sc ns),.bor (.lst [.int k']),.val (aH h g ks ls)]:=by
 have lg:=dj O.g5
 have lh:=il O.h2
 have h2:=O.h2
 have g1:=O.g1
 have g5:=O.g5
 have kl:=O.kl
 have lz:(aW (cL g) ks).length=g:=by rw[DP (by rw[lg,kl]),lg]
 obtain⟨q,q1,q2,eq⟩:=bw (n+4) ns k g hk (by omega)
 obtain⟨i,rfl⟩:∃i:Nat,q=i:=⟨q.toNat,by omega⟩
 obtain⟨d,k',a1,a2,a3⟩:=wU ns (hd h++cL g) (by simp;omega) (by simp;omega) 1 n (k+1) (by omega)
 simp only[Int.natCast_one,show n+6+1=n+7 from rfl]at a3
 obtain⟨x,y,b1,b2⟩:=zip_get (cL g) ks i (by omega) (by omega)
 refine⟨ks.set i d,k',⟨h2,g1,g5,by simp[kl],fun e he=>?_,O.ll⟩,a2,?_⟩
 ·rcases List.mem_or_eq_of_mem_set he with he|rfl
  ·exact O.kk e he
  ·exact a1
 ·have hb:cQ=⟨3,6,.cons (.set 3 (.op .add _ (.bi .tuple (zL _)))) _⟩:=rfl
  have f:fits ((hd h).length+(cL g).length)=true:=by simp[fits];omega
  have i1:at? (aW (cL g) ks) i=some (.tup [x,y]):=by rw[iw _ _ (by omega),b1]
  have i2:ix? g i=some i:=by simp[ix?];omega
  have q0:∀it,(zL it).aB=none:=fun _=>rfl
  have n0:getD (aH h g ks ls) (.int 0)=some (.tup (hd h)):=by simp[aH]
  have n1:getD (aH h g ks ls) (.int 1)=some (.tup (aW (cL g) ks)):=by simp[aH]
  have n2:getD (aH h g ks ls) (.int 2)=some (.tup (ls.map .bl)):=by simp[aH]
  rw[mZ,hb]
  simp[cQ,n6,sS (c:=pg.cf (n+7)) (it:=.idx (.var 2) AAG) (σ:=[.val (sc ns),.bor (.lst [.int k]),.val (aH h g ks ls),.un,.un,.un]) (cL g) ks (by omega) (by simp[aH]),q0,f,n0,n1,n2,lz,eq,a3,i1,i2,yQ,DN _ ks i x d b2 (by omega),aO]
  simp[aH]
def u5 h g:bY h g [] [[]]:=⟨by simp,by simp,by simp,fun st h=>by cases QDz.mp h;simp⟩
def Ww g(h3:3<=g):bY 0 g [.str "q"] [[(.str "q",1)],[(.str "q",0)]]:=by
 refine⟨?_,by simp,by simp,fun st h=>?_⟩
 ·obtain⟨j,rfl⟩:∃j,g=j+2:=⟨g-2,by omega⟩
  simp[cL]
 ·simp only[QCq,QAz,or_false]at h
  rcases h with rfl|rfl<;>simp[hd]
def vO:S:=n6 (n6 (n6 (n6 (n6 bG.body))))
def zW:S:=n6 vO
def Sv n ns k(hk:0<=k):∃h g ks ls os sts,b8 h g ks ls/\bY h g os sts/\pg.fn (n+9) 47 [.val (sc ns),.val (.int k)]=.ok (.val (.tup [aH h g ks ls,aK os sts])) [.val (sc ns),.val (.int k)]:=by
 obtain⟨r,r1,r2,er⟩:=bw (n+5) ns k 8 hk (by omega)
 by_cases c2:r<2
 ·obtain⟨h,g,ks,ls,k1,O,a1,a2⟩:=Ld n ns (k+1) (by omega) 2 (by omega) (by omega)
  obtain⟨os,sts,k2,T,b1,b2⟩:=Qa (n+4) ns k1 a1 O
  exact⟨h,g,ks,ls,os,sts,O,T,by rw[dI];simp[bG,er,c2,a2,b2,aO]⟩
 have c2b:=c2
 by_cases c3:r=2
 ·subst c3
  obtain⟨h,g,ks,ls,k1,O,a1,a2⟩:=Ld n ns (k+1) (by omega) 0 (by omega) (by omega)
  exact⟨h,g,ks,ls,[],[[]],O,u5 h g,by rw[dI];simp[bG,er,a2,aO,aK,fH]⟩
 by_cases c4:r=3
 ·subst c4
  obtain⟨g,ks,ls,k1,O,g3,a1,a2⟩:=QC (n+4) ns (k+1) (by omega)
  obtain⟨q,q1,q2,eq⟩:=bw (n+5) ns k1 2 a1 (by omega)
  rcases (by omega:q=1\/q=0)with rfl|rfl
  ·exact⟨0,g,ks,ls,[],[[]],O,u5 0 g,by rw[dI];simp[bG,er,a2,eq,aO,aK,fH]⟩
  ·exact⟨0,g,ks,ls,_,_,O,Ww g g3,by rw[dI];simp[bG,er,a2,eq,aO,aK,fH,kO]⟩
 have e2:(r==2)=false:=by simpa using c3
 have e3:(r==3)=false:=by simpa using c4
 have main:∃h g ks ls os sts k1,b8 h g ks ls/\bY h g os sts/\0<=k1/\ex (pg.cf (n+8)) bG.body [.val (sc ns),.val (.int k),.un,.un,.un,.un]=ex (pg.cf (n+8)) zW [.val (sc ns),.val (.int k),.own (.lst [.int k1]),.val (.int r),.val (aH h g ks ls),.val (aK os sts)]:=by
  have hb:bG.body=.cons _ (.cons _ (.cons _ (.cons _ (.cons _ (.cons _ zW))))):=rfl
  by_cases c6:r<6
  ·obtain⟨h,g,ks,ls,os,sts,k1,O,T,a1,a2⟩:=N7 (n+4) ns (k+1) (by omega)
   refine⟨h,g,ks,ls,os,sts,k1,O,T,a1,?_⟩
   rw[hb]
   simp[bG,hdS,n6,vO,er,c2,e2,e3,c3,c4,c6,a2,aO,bD,gk,cD]
  ·obtain⟨h,g,ks,ls,os,sts,k1,O,T,a1,a2⟩:=BV (n+4) ns (k+1) (by omega)
   refine⟨h,g,ks,ls,os,sts,k1,O,T,a1,?_⟩
   rw[hb]
   simp[bG,hdS,n6,vO,er,c2,e2,e3,c3,c4,c6,a2,aO,bD,gk,cD]
 obtain⟨h,g,ks,ls,os,sts,k1,O,T,a1,a2⟩:=main
 by_cases c7:r%2=1
 ·obtain⟨q,q1,q2,eq⟩:=bw (n+5) ns k1 2 a1 (by omega)
  rcases (by omega:q=1\/q=0)with rfl|rfl
  ·obtain⟨ks',k2,O',b1,b2⟩:=G4 n ns (k1+1) (by omega) O
   refine⟨h,g,ks',ls,os,sts,O',T,?_⟩
   rw[dI,a2]
   simp[zW,vO,bG,n6,c7,eq,b2,aO]
  ·refine⟨h,g,ks,ls,os,sts,O,T,?_⟩
   rw[dI,a2]
   simp[zW,vO,bG,n6,c7,eq,aO]
 ·refine⟨h,g,ks,ls,os,sts,O,T,?_⟩
  have c8:r%2=0:=by omega
  rw[dI,a2]
  simp[zW,vO,bG,n6,c8,aO]
end Tx
end
section
open PySem Mini
namespace Tx
def Uw:E:=.bi .all ADg
def Li:E:=.bi .all ABk
def Yx:E:=.comp 1 (.name 0) (.var 0) AAL AAb
def zB n(h:cJ xs)(nd:xs.Nodup)st(N:Nat)(hs:(st.map (·.1)).Sublist xs)(hn:∀m∈st,m.2<N):
  pg.fn (n+3) 19 [.val (fH st),.val (.tup xs),.val (.int N)]=.ok (.val (.bl true)) [.val (fH st),.val (.tup xs),.val (.int N)]:=by
 have ll:=hs.length_le
 have e1:ev (pg.cf (n+2)) Uw [.val (fH st),.val (.tup xs),.val (.int N)]=.ok (.val (.bl true)) [.val (fH st),.val (.tup xs),.val (.int N)]:=by
  refine all1 (r:=.val (fH st)) (by simp) rfl rfl fun x hx=>?_
  obtain⟨m,_,rfl⟩:=QDq.mp hx
  simp[kO,aX (n+1) [m.1,.int m.2] 2 2 (by simp) (by simp)]
 have e2:ev (pg.cf (n+2)) Li [.val (fH st),.val (.tup xs),.val (.int N)]=.ok (.val (.bl true)) [.val (fH st),.val (.tup xs),.val (.int N)]:=by
  refine all1 (r:=.val (fH st)) (by simp) rfl rfl fun x hx=>?_
  obtain⟨m,hm,rfl⟩:=QDq.mp hx
  have t:pg.fn (n+2) 4 [.val (.int m.2),.val (.int 0),.val (.int (N-1))]=.ok (.val (.bl true)) [.val (.int m.2),.val (.int 0),.val (.int (N-1))]:=by
   rw[pN]
   have:=Int.le_sub_one_of_lt (Int.ofNat_lt.mpr (hn m hm))
   simp[fD,adP,this]
  simp[kO,t]
 have e3:ev (pg.cf (n+2)) Yx [.val (fH st),.val (.tup xs),.val (.int N)]=.ok (.new (.lst (st.map (·.1)))) [.val (fH st),.val (.tup xs),.val (.int N)]:=by
  have:=nJ (c:=pg.cf (n+2)) (it:=.var 0) (σ:=[.val (fH st),.val (.tup xs),.val (.int N)]) (el:=.idx (.var 0) AAH) o5 (r:=.val (fH st)) (by simp;rfl) rfl rfl fun y hy=>by
   obtain⟨m,_,rfl⟩:=QDq.mp hy
   simp[kO,o5]
  rw[List.map_map]at this
  exact this
 have hb:mG=⟨3,3,(.cons (.ite (.or (.cons _ (.cons (.not Uw) .nil))) _ .nil) (.cons (.ite (.not (.call 9 (.cons (.bi .tuple Yx) _))) _ .nil) (.cons (.ret Li) .nil)))⟩:=rfl
 rw[Bo,hb]
 have q1:Yx.aB=none:=rfl
 have q2:Li.aB=none:=rfl
 have t1':pg.fn _ 3 [.val (fH st),.val _,.val _]=.ok _ [.val _,.val _,.val _]:=aX (n+1) (st.map kO) 0 xs.length (by omega) (by simpa using ll)
 simp[t1',e1,e3,q1,cZ n (.inl rfl) h nd hs 0 xs.length (by omega) (by simpa using ll),e2,q2]
def gl8:pg.gl 8=some (.int 12):=rfl
def v9:E:=.bi .all ABm
section
variable{os:List D}
def bY.sub(T:bY h g os sts):(hd h++os).Sublist (names h g):=(List.Sublist.refl _).append T.ou
def Bb:(cL g).Sublist (names h g):=List.sublist_append_right _ _
def Ca n(O:b8 h g ks ls)(T:bY h g os sts):pg.fn (n+4) 18 [.val (aH h g ks ls),.val (aK os sts)]=.ok (.val (.bl true)) [.val (aH h g ks ls),.val (aK os sts)]:=by
 have lg:=dj O.g5
 have lh:=il O.h2
 have h2:=O.h2
 have g5:=O.g5
 have s1:=T.s1
 have s4:=T.s4
 have lo:=T.ou.length_le
 have X:=bF h g
 have Nd:=names_nodup O.h2 O.g1 O.g5
 have t1:pg.fn _ 3 [.val (aK os sts),.val _,.val _]=.ok _ [.val _,.val _,.val _]:=aX (n+2) [.tup os,.tup _] 2 2 (by simp) (by simp)
 have hb:pq=⟨2,4,(.cons _ (.cons (.set 2 (zL _)) (.cons _ (.cons _ (.cons (.ret v9) .nil)))))⟩:=rfl
 have q:v9.aB=none:=rfl
 have f:fits ((hd h).length+os.length)=true:=by simp[fits];omega
 have n0:getD (aH h g ks ls) (.int 0)=some (.tup (hd h)):=by simp[aH]
 have m0:getD (aK os sts) (.int 0)=some (.tup os):=by simp[aK]
 have m1:getD (aK os sts) (.int 1)=some (.tup (sts.map fH)):=by simp[aK]
 have e':ev (pg.cf (n+3)) v9 [.val (aH h g ks ls),.val (aK os sts),.val (.lst (cL g)),.val (.tup (hd h++os))]=.ok (.val (.bl true)) [.val (aH h g ks ls),.val (aK os sts),.val (.lst (cL g)),.val (.tup (hd h++os))]:=by
  refine all1 (r:=.val (.tup (sts.map fH))) (by simp[aK]) rfl rfl fun x hx=>?_
  obtain⟨st,hst,rfl⟩:=QDq.mp hx
  simp[aK,zB n (fun x hx=>X x (T.sub.subset hx)) (T.sub.nodup Nd) st sts.length (T.mv st hst).1 (T.mv st hst).2]
 rw[Hk,hb]
 simp[t1,sS (c:=pg.cf (n+3)) (it:=.idx (.var 0) AAG) (σ:=[.val (aH h g ks ls),.val (aK os sts),.un,.un]) (cL g) ks (by rw[O.kl,lg]) (by simp[aH]),m0,m1,n0,lg,cZ (n+1) (.inr rfl) (fun x hx=>X x (Bb.subset hx)) (Bb.nodup Nd) T.ou 0 g (by omega) (by omega),aX (n+2) (sts.map fH) 1 12 (by simp;omega) (by simp;omega),gl8,f,e',q]
def qp n(O:b8 h g ks ls)(T:bY h g os sts):pg.fn (n+9) 17 [.val (aH h g ks ls),.val (aK os sts)]=.ok (.val (aK os sts)) [.val (aH h g ks ls),.val (aK os sts)]:=by
 rw[rC]
 simp[gJ,Dc n O,Ca (n+4) O T]
end
end Tx
end
section
open PySem Mini
namespace Tx
noncomputable def lk(x:D):List (D×Nat)->Option Nat
 |[]=>none
 |m::st=>if dR m.1 x then some m.2 else lk x st
abbrev iI(st:List (D×Nat)):List D:=st.map (·.1)
abbrev v5(st:List (D×Nat)):List D:=st.map fun m=>.int m.2
theorem Fd x:∀st,cN x (iI st) (v5 st)=(lk x st).map fun j:Nat=>D.int j
 |[]=>rfl
 |m::st=>by
  simp only[Qyz,cN,lk]
  split
  ·rfl
  ·exact Fd x st
theorem Fe x:∀st,aL x (iI st)=(lk x st).isSome
 |[]=>rfl
 |m::st=>by
  simp only[Qyz,aL,lk,Fe x st]
  cases dR m.1 x<;>simp
theorem ji:∀(st:List (D×Nat))(ks vs:List D),cJ (ks++iI st)->(ks++iI st).Nodup->dictOf ks vs (st.map kO)=some (ks++iI st,vs++v5 st)
 |[]=>fun ks vs _ _=>by simp[dictOf]
 |m::st=>fun ks vs h nd=>by
  obtain⟨s,e⟩:=h m.1 (by simp)
  have no:aL m.1 ks=false:=by
   rw[e]
   have hn:=fun hm=>by
    rw[show iI _=m.1::iI st from rfl,List.nodup_append]at nd
    exact nd.2.2 _ hm _ QYz rfl
   rw[e]at hn
   have hk:=fun x hx=>h x (QWz _ hx)
   clear nd h
   induction ks with
   |nil=>rfl
   |cons y ys ih=>
    obtain⟨q,rfl⟩:=hk y QYz
    have ne:¬q=s:=fun c=>hn (by rw[c];exact QYz)
    simp[aL,dR,ne,ih (fun c=>hn (QYq _ c)) fun x hx=>hk x (QYq _ hx)]
  have r:=ji st (ks++[m.1]) (vs++[.int m.2]) (by simpa using h) (by simpa using nd)
  rw[Qyz,show kO m=.tup [m.1,.int m.2]from rfl,dictOf,if_pos (by rw[e];rfl)]
  simp only[putD,no]
  rw[if_neg (by simp),r]
  simp
def bC(sts:List (List (D×Nat)))(i:Nat):List (D×Nat):=sts.getD i []
end Tx
end
section
open PySem Mini
namespace Tx
def m9 n hs gs ks x(hl:ks.length=gs.length)(hf:hs.length+gs.length<=1000):
  pg.fn (n+1) 48 [.val (.tup [.tup hs,.tup (aW gs ks),x])]=.ok (.new (.lst (hs++gs))) [.val (.tup [.tup hs,.tup (aW gs ks),x])]:=
 ((yJ n _).trans (mY n _).symm).trans (fB n hs gs ks x hl hf)
def sG{xs:List D}(h:cJ xs)(hn:D.str s∉xs):aL (.str s) xs=false:=by
 induction xs with
 |nil=>rfl
 |cons x xs ih=>
  obtain⟨q,rfl⟩:=h x QYz
  have ne:q≠s:=fun e=>hn (by rw[e];exact QYz)
  simp[aL,dR,ne,ih (fun z hz=>h z (QYq _ hz)) fun hz=>hn (QYq _ hz)]
theorem Gd:∀(xs ys ks vs:List D),ys.length=xs.length->cJ xs->cJ ks->(ks++xs).Nodup->dictOf ks vs (aW xs ys)=some (ks++xs,vs++ys)
 |[],ys=>fun ks vs hl _ _ _=>by
  have:ys=[]:=by cases ys<;>simp_all
  subst this
  simp[aW,dictOf]
 |x::xs,[]=>fun ks vs hl _ _ _=>by simp at hl
 |x::xs,y::ys=>fun ks vs hl h hk nd=>by
  obtain⟨s,rfl⟩:=h x QYz
  have hn:=fun z=>by
   have:=List.nodup_append.mp nd
   exact this.2.2 _ z _ QYz rfl
  have ih:=Gd xs ys (ks++[.str s]) (vs++[y]) (by simpa using hl) (fun z hz=>h z (QYq _ hz)) (fun z hz=>by
   rcases QXz.mp hz with hz|hz
   ·exact hk z hz
   ·simp at hz;exact⟨s,hz⟩) (by simpa using nd)
  simp only[aW,dictOf,keyOk,if_true,putD,sG hk hn,Qxq,if_false]
  rw[ih]
  simp
def Nm(hl:ys.length=xs.length)(h:cJ xs)(nd:xs.Nodup):dictOf [] [] (aW xs ys)=some (xs,ys):=by
 have:=Gd xs ys [] [] hl h (fun z hz=>by cases hz) (by simpa using nd)
 simpa using this
noncomputable def dg(xs:List D)(bs:List Bool)(x:D):Bool:=match cN x xs (bs.map .bl)with
 |some (.bl b)=>b
 |_=>false
theorem vp{x:D}:∀{xs:List D}{bs:List Bool},cJ xs->bs.length=xs.length->x∈xs->cN x xs (bs.map .bl)=some (.bl (dg xs bs x))
 |[],_=>fun _ _ hx=>by cases hx
 |y::ys,[]=>fun _ hl _=>by simp at hl
 |y::ys,b::bs=>fun h hl hx=>by
  obtain⟨q,rfl⟩:=h x hx
  obtain⟨s,rfl⟩:=h y QYz
  by_cases e:s=q
  ·subst e
   simp[dg,cN,dR]
  ·have hx':D.str q∈ys:=by
    rcases QCq.mp hx with z|z
    ·cases z;exact absurd rfl e
    ·exact z
   have l:cN (.str q) (.str s::ys) ((b::bs).map .bl)=cN (.str q) ys (bs.map .bl):=by simp[cN,dR,e]
   have v:dg (.str s::ys) (b::bs) (.str q)=dg ys bs (.str q):=by
    unfold dg
    rw[l]
   rw[l,v]
   exact vp (fun z hz=>h z (QYq _ hz)) (by simpa using hl) hx'
def gB{xs:List D}(h:cJ xs)(hl:bs.length=xs.length)(hx:x∈xs):getD (.cG xs (bs.map .bl)) x=some (.bl (dg xs bs x)):=by
 obtain⟨q,rfl⟩:=h x hx
 exact vp h hl hx
theorem sH:∀(bs:List Bool),aL (.bl false) (bs.map .bl)= !bs.all id
 |[]=>rfl
 |b::bs=>by cases b<;>simp[aL,dR,sH bs]
theorem wY:∀(bs:List Bool),aL (.bl true) (bs.map .bl)=bs.any id
 |[]=>rfl
 |b::bs=>by cases b<;>simp[aL,dR,wY bs]
def sX(bs:List Bool):(bs.map D.bl).all flat=true:=by
 rw[List.all_eq_true]
 intro x hx
 obtain⟨b,_,rfl⟩:=QDq.mp hx
 rfl
def wX b(bs:List Bool):aJ .isin (.bl b) (.lst (bs.map .bl))=some (aL (.bl b) (bs.map .bl)):=by
 have o:dO (.bl b) (bs.map .bl)=true:=by
  unfold dO
  rw[sX]
  rfl
 show(if dO _ _ then some _ else none)=_
 rw[o]
 rfl
def K8 b(bs:List Bool):aJ .notin (.bl b) (.lst (bs.map .bl))=some (!aL (.bl b) (bs.map .bl)):=by
 have o:dO (.bl b) (bs.map .bl)=true:=by
  unfold dO
  rw[sX]
  rfl
 show(if dO _ _ then some _ else none)=_
 rw[o]
 rfl
def u6(bs:List Bool):fK (bs.map D.bl)=true:=by
 induction bs with
 |nil=>rfl
 |cons b bs ih=>simp[fK,nd,ih]
def CN(bs:List Bool):eU (bs.map D.bl)=0:=by
 induction bs with
 |nil=>rfl
 |cons b bs ih=>simp[eU,dep,ih]
def Le(rs:List (List Bool)):fK (rs.map aF)=true:=by
 induction rs with
 |nil=>rfl
 |cons r rs ih=>simp[fK,nd,aF,u6,ih]
def Mf(bs:List Bool)(rs:List (List Bool)):∃b,aJ .isin (.tup (bs.map .bl)) (.tup (rs.map aF))=some b:=by
 have o:dO (.tup (bs.map .bl)) (rs.map aF)=true:=by
  simp[dO,nd,dep,u6,CN,Le]
 refine⟨aL (.tup (bs.map .bl)) (rs.map aF),?_⟩
 show(if dO _ _ then some _ else none)=_
 rw[o]
 rfl
end Tx
end
section
open PySem Mini
namespace Tx
def rY:E:=.comp 1 (.name 0) AAc AAL (.idx (.var 3) (.var 0))
def rW:E:=.comp 1 (.name 0) AAc AAL (.idx (.var 2) (.var 0))
noncomputable def pK:Fn:=⟨3,5,(.cons (.set 3 AAb) (.cons (.ite (.cmp .eq (.var 3) ABy) (.cons (.ret ACs) .nil) .nil) (.cons (.ite (.cmp .eq (.var 3) ACu) (.cons (.ret (.not ACs)) .nil) .nil) (.cons (.ite ADU ADl .nil) (.cons (.set 4 (.bi .tuple rY)) (.cons (.ite (.cmp .eq (.var 3) ABo) ADa .nil) (.cons (.ite (.cmp .eq (.var 3) ABu) ADZ .nil) (.cons (.ite ADT ADP .nil) ABT))))))))⟩
def iV:Do=pK:=rfl
noncomputable def gZ:Fn:=⟨3,5,(.cons (.ite (.cmp .eq AAb ABy) (.cons (.ret ACt) .nil) .nil) (.cons (.ite (.cmp .eq AAb ACu) (.cons (.ret (.not ACt)) .nil) .nil) (.cons (.ite (.cmp .eq AAb ABh) AAz .nil) (.cons (.set 4 rW) (.cons (.ite (.cmp .eq AAb ABt) ACh .nil) (.cons (.ite (.cmp .eq AAb ABo) ACd .nil) (.cons (.ite (.cmp .eq AAb ABu) ADN .nil) (.cons (.ite ABr (.cons (.ret (.var 2)) .nil) .nil) ADY))))))))⟩
def tells_eq:jX=gZ:=rfl
section
variable{bs:List Bool}
def HW n(h:cJ xs)(hl:bs.length=xs.length)(hs:ys.Sublist xs)w r s1 s3 s4:
  ev (pg.cf n) rY [.val (.tup (w:: .tup ys::r)),s1,.val (.cG xs (bs.map .bl)),s3,s4]=.ok (.new (.lst ((ys.map (dg xs bs)).map .bl))) [.val (.tup (w:: .tup ys::r)),s1,.val (.cG xs (bs.map .bl)),s3,s4]:=by
 have:=nJ (c:=pg.cf n) (it:=.idx (.var 0) AAG) (el:=.idx (.var 3) (.var 0)) (σ:=[.val (.tup (w:: .tup ys::r)),s1,.val (.cG xs (bs.map .bl)),s3,s4]) (fun x=>.bl (dg xs bs x)) (r:=.val (.tup ys)) (τ:=[.val (.tup (w:: .tup ys::r)),s1,.val (.cG xs (bs.map .bl)),s3,s4]) (by simp) rfl rfl fun x hx=>by
  simp[gB h hl (hs.subset hx)]
 rw[rY,this]
 simp
def HS n(h:cJ xs)(hl:bs.length=xs.length)(hs:ys.Sublist xs)w r s2 s3 s4:
  ev (pg.cf n) rW [.val (.tup (w:: .tup ys::r)),.val (.cG xs (bs.map .bl)),s2,s3,s4]=.ok (.new (.lst ((ys.map (dg xs bs)).map .bl))) [.val (.tup (w:: .tup ys::r)),.val (.cG xs (bs.map .bl)),s2,s3,s4]:=by
 have:=nJ (c:=pg.cf n) (it:=.idx (.var 0) AAG) (el:=.idx (.var 2) (.var 0)) (σ:=[.val (.tup (w:: .tup ys::r)),.val (.cG xs (bs.map .bl)),s2,s3,s4]) (fun x=>.bl (dg xs bs x)) (r:=.val (.tup ys)) (τ:=[.val (.tup (w:: .tup ys::r)),.val (.cG xs (bs.map .bl)),s2,s3,s4]) (by simp) rfl rfl fun x hx=>by
  simp[gB h hl (hs.subset hx)]
 rw[rW,this]
 simp
def nq(h:cJ xs)(hl:bs.length=xs.length)(hs:ys.Sublist xs)w r:∃row:List Bool,row.length=ys.length/\
  (∀(n:Nat)(s1 s3 s4:Sl),ev (pg.cf n) rY [.val (.tup (w:: .tup ys::r)),s1,.val (.cG xs (bs.map .bl)),s3,s4]=.ok (.new (.lst (row.map .bl))) [.val (.tup (w:: .tup ys::r)),s1,.val (.cG xs (bs.map .bl)),s3,s4])/\
  (∀(n:Nat)(s2 s3 s4:Sl),ev (pg.cf n) rW [.val (.tup (w:: .tup ys::r)),.val (.cG xs (bs.map .bl)),s2,s3,s4]=.ok (.new (.lst (row.map .bl))) [.val (.tup (w:: .tup ys::r)),.val (.cG xs (bs.map .bl)),s2,s3,s4]):=
 ⟨ys.map _,by simp,fun n s1 s3 s4=>HW n h hl hs w r s1 s3 s4,fun n s2 s3 s4=>HS n h hl hs w r s2 s3 s4⟩
def Agree(xs:List D)(bs:List Bool)(i j:Nat)(d:D)(own b:Bool):Prop:=
 pg.fn i 15 [.val d,.val (.bl own),.val (.cG xs (bs.map .bl))]=.ok (.val (.bl b)) [.val d,.val (.bl own),.val (.cG xs (bs.map .bl))]/\
 pg.fn j 49 [.val d,.val (.cG xs (bs.map .bl)),.val (.bl own)]=.ok (.val (.bl b)) [.val d,.val (.cG xs (bs.map .bl)),.val (.bl own)]
def HY n k:n+1+2*k=n+2*k+1:=Nat.add_right_comm n 1 _
def HX m k:m+1+k=m+k+1:=Nat.add_right_comm m 1 k
def ae9 n k:n+1+2*(k+1)=n+1+2*k+1+1:=rfl
def Jz(h:cJ xs)(hl:bs.length=xs.length):∀{k:Nat}{d:D},bO xs k d->∀own:Bool,∃b,∀n m:Nat,Agree xs bs (n+1+2*k) (m+1+k) d own b:=by
 intro k d hk
 have q1:rY.aB=none:=rfl
 have q2:rW.aB=none:=rfl
 induction hk with
 | @same k x hx=>
  intro own
  have e:=gB h hl hx
  refine⟨dg xs bs x,fun n m=>⟨?_,?_⟩⟩
  ·rw[HY,lX,iV]
   simp[pK,e]
  ·rw[HX,cU,tells_eq]
   simp[gZ,e]
 | @not k x hx=>
  intro own
  have e:=gB h hl hx
  refine⟨!dg xs bs x,fun n m=>⟨?_,?_⟩⟩
  ·rw[HY,lX,iV]
   simp[pK,e]
  ·rw[HX,cU,tells_eq]
   simp[gZ,e]
 | @and k ys hs h1 h2=>
  intro own
  obtain⟨row,_,e1,e2⟩:=nq h hl hs (.str "and") []
  refine⟨row.all id,fun n m=>⟨?_,?_⟩⟩
  ·rw[HY,lX,iV]
   simp[pK,e1,q1,jU row]
  ·rw[HX,cU,tells_eq]
   simp[gZ,e2,q2,K8,sH]
 | @or k ys hs h1 h2=>
  intro own
  obtain⟨row,_,e1,e2⟩:=nq h hl hs (.str "or") []
  refine⟨row.any id,fun n m=>⟨?_,?_⟩⟩
  ·rw[HY,lX,iV]
   simp[pK,e1,q1,jU row]
  ·rw[HX,cU,tells_eq]
   simp[gZ,e2,q2,wX,wY]
 | @both k ys hs h1 h2=>
  intro own
  obtain⟨row,hr,e1,e2⟩:=nq h hl hs (.str "both") []
  refine⟨row.all id||(own&&row.any id),fun n m=>⟨?_,?_⟩⟩
  ·rw[HY,lX,iV]
   cases ha:row.all id<;>cases own<;>simp[pK,e1,q1,jU row,ha]
  ·obtain⟨b0,row',rfl⟩:∃b0 row',row=b0::row':=by
    cases row with
    |nil=>simp at hr;omega
    |cons b r=>exact⟨b,r,rfl⟩
   rw[HX,cU,tells_eq]
   have i1:=wX true (b0::row')
   have i2:=wX false (b0::row')
   rw[wY]at i1
   rw[sH]at i2
   cases ha:(b0::row').all id with
   |true=>
    have hb0:b0=true:=by simp at ha;exact ha.1
    have hn:(b0::row').any id=true:=by simp[hb0]
    rw[ha]at i2
    simp[gZ,e2,q2,i1,i2,hb0]
    simp_all
   |false=>
    cases hn:(b0::row').any id with
    |true=>
     rw[hn]at i1
     rw[ha]at i2
     simp only[Qyz]at i1 i2 e2
     simp[gZ,e2,q2,i1,i2]
    |false=>
     rw[hn]at i1
     simp[gZ,e2,q2,i1,i2,(by simp at hn;exact hn.1)]
     simp_all
 | @table k ys rs hs h1 h2 hr hi=>
  intro own
  obtain⟨row,_,e1,e2⟩:=nq h hl hs (.str "table") [.tup (rs.map aF)]
  obtain⟨b,eb⟩:=Mf row rs
  refine⟨b,fun n m=>⟨?_,?_⟩⟩
  ·rw[HY,lX,iV]
   simp[pK,e1,q1,eb]
  ·rw[HX,cU,tells_eq]
   simp[gZ,e2,q2,eb]
 | @held k d x bb hk hx ih=>
  intro own
  obtain⟨b,ib⟩:=ih own
  have e:=gB h hl hx
  have hh:∀n,pg.fn (n+1+2*k+1) 16 [.val (.tup [.str "held",d,x,.bl bb]),.val (.bl own),.val (.cG xs (bs.map .bl))]=.ok (.val (.bl (if _==bb then b else own))) [.val (.tup [.str "held",d,x,.bl bb]),.val (.bl own),.val (.cG xs (bs.map .bl))]:=fun n=>by
   rw[yF]
   cases hc:((dg xs bs x==b)==bb)<;>simp[jV,(fun n=>(ib n 0).1),e,hc]
  refine⟨if (dg xs bs x==b)==bb then b else own,fun n m=>⟨?_,?_⟩⟩
  ·rw[ae9,lX,iV]
   simp[pK,hh]
  ·rw[<-Nat.add_assoc,cU,tells_eq]
   have hx2:(dg xs bs x==(b==bb))=((dg xs bs x==b)==bb):=by cases dg xs bs x<;>cases b<;>cases bb<;>rfl
   cases hc:((dg xs bs x==b)==bb)<;>rw[hc]at hx2<;>simp[gZ,(fun m=>(ib 0 m).2),e,hx2,aO,b2i]
end
end Tx
end
section
open PySem Mini
namespace Tx
section
def Jp:E:=.comp 2 (.tup [0,1]) AAc AAa (.var 0)
def Jo:E:=.comp 1 (.name 0) AAc AAq AAb
theorem Jb(O:b8 h g ks ls)(hl:bs.length=(names h g).length):∃zs:List D,zs.Sublist (cL g)/\∀n m:Nat,
  pg.fn (n+4) 14 [.val (aH h g ks ls),.val (aF bs)]=.ok (.new (.lst zs)) [.val (aH h g ks ls),.val (aF bs)]/\
  pg.fn (m+3) 50 [.val (aH h g ks ls),.val (aF bs)]=.ok (.new (.lst zs)) [.val (aH h g ks ls),.val (aF bs)]:=by
 have T:=bF h g
 have lg:=dj O.g5
 have lh:=il O.h2
 have ag:∀k own,∃b,bO _ 1 k->∀n m,Agree _ bs (n+3) (m+2) k own b:=fun k own=>by
  by_cases hk:bO (names h g) 1 k
  ·obtain⟨b,z⟩:=Jz T hl hk own
   exact⟨b,fun _=>z⟩
  ·exact⟨true,fun z=>absurd z hk⟩
 have sk:∃F:D->Bool->Bool,∀k own,bO _ 1 k->∀n m,Agree (names h g) bs (n+3) (m+2) k own (F k own):=
  ⟨fun k own=>Classical.choose (ag k own),fun k own=>Classical.choose_spec (ag k own)⟩
 obtain⟨F,hF⟩:=sk
 let p:D×D->Bool:=fun x=> !(F x.2 (dg (names h g) bs x.1)==dg (names h g) bs x.1)
 have mem:∀x∈(cL g).zip ks,x.1∈names h g/\bO _ 1 x.2:=fun x hx=>⟨QVq _ (List.of_mem_zip hx).1,O.kk x.2 (List.of_mem_zip hx).2⟩
 obtain⟨x0,ps,zeq⟩:∃x0 ps,(cL g).zip ks=x0::ps:=by
  cases q:(cL g).zip ks with
  |nil=>
   have:=congrArg List.length q
   rw[List.length_zip,lg,O.kl]at this
   have:=O.g1
   simp at*
   omega
  |cons x ps=>exact⟨x,ps,rfl⟩
 have dz:dictOf [] [] _=some (names h g,bs.map .bl):=Nm (by simpa using hl) T (names_nodup O.h2 O.g1 O.g5)
 refine⟨(((cL g).zip ks).filter p).map (·.1),?_,fun n m=>?_⟩
 ·have s1:((((cL g).zip ks).filter p).map (·.1)).Sublist _:=(List.filter_sublist).map _
  rw[(List.map_fst_zip (by rw[lg,O.kl];exact QVz _))]at s1
  exact s1
 have w1:pg.fn (n+3) 13 [.val (aH h g ks ls)]=.ok (.new (.lst (names h g))) [.val _]:=
  fB (n+2) (hd h) (cL g) ks _ (by rw[O.kl,lg]) (by have:=O.h2;have:=O.g5;omega)
 have w2:pg.fn (m+2) 48 [.val (aH h g ks ls)]=.ok (.new (.lst (names h g))) [.val _]:=
  m9 (m+1) (hd h) (cL g) ks _ (by rw[O.kl,lg]) (by have:=O.h2;have:=O.g5;omega)
 have e1:ev (pg.cf (n+3)) Jp [.val (aH h g ks ls),.val (aF bs),.own (.dct (names h g) (bs.map .bl))]=.ok (.new (.lst ((((cL g).zip ks).filter p).map (·.1)))) [.val (aH h g ks ls),.val (aF bs),.val (.cG (names h g) (bs.map .bl))]:=by
  rw[zeq]at mem⊢
  have c0:∀x,x∈x0::ps->∀s:Sl,(s=.own (.dct (names h g) (bs.map .bl))\/s=.val (.cG (names h g) (bs.map .bl)))->ev (pg.cf (n+3)) AAa [.val x.1,.val x.2,.val (aH h g ks ls),.val (aF bs),s]=.ok (.val (.bl (p x))) [.val x.1,.val x.2,.val (aH h g ks ls),.val (aF bs),.val (.cG (names h g) (bs.map .bl))]:=fun x hx s hs=>by
   obtain⟨m1,m2⟩:=mem x hx
   rcases hs with rfl|rfl<;>simp[gB T hl m1,(hF x.2 (dg (names h g) bs x.1) m2 n m).1,p]
  have it:items (.tup (aW (cL g) ks))=some ((x0::ps).map pairD):=by show some _=some _;rw[cM,zeq]
  exact YG (·.1) p (r:=.val _) (by simp[aH]) rfl it (c0 x0 QYz _ (.inl rfl)) (fun x hx=>c0 x (QYq _ hx) _ (.inr rfl)) (fun x _ _=>by simp)
 have e2:ev (pg.cf (m+2)) Jo [.val (aH h g ks ls),.val (aF bs),.own (.dct (names h g) (bs.map .bl))]=.ok (.new (.lst ((((cL g).zip ks).filter p).map (·.1)))) [.val (aH h g ks ls),.val (aF bs),.val (.cG (names h g) (bs.map .bl))]:=by
  rw[zeq]at mem⊢
  let p':D->Bool:=fun d=>match d with|.tup [a,k]=>p (a,k)|_=>false
  let f':D->D:=fun d=>match d with|.tup (a::_)=>a|_=>.non
  have fm:∀xs:List (D×D),((xs.map pairD).filter p').map f'=(xs.filter p).map (·.1):=by
   intro xs
   induction xs with
   |nil=>rfl
   |cons x xs ih=>
    have hp:p' (pairD x)=p x:=rfl
    rw[Qyz,List.filter_cons,List.filter_cons,hp]
    cases p x with
    |true=>simp only[if_true,Qyz,ih];rfl
    |false=>simp only[Qxq,if_false,ih]
  have c0:∀x,x∈x0::ps->∀s:Sl,(s=.own (.dct (names h g) (bs.map .bl))\/s=.val (.cG (names h g) (bs.map .bl)))->ev (pg.cf (m+2)) AAq [.val (pairD x),.val (aH h g ks ls),.val (aF bs),s]=.ok (.val (.bl (p' (pairD x)))) [.val (pairD x),.val (aH h g ks ls),.val (aF bs),.val (.cG (names h g) (bs.map .bl))]:=fun x hx s hs=>by
   obtain⟨m1,m2⟩:=mem x hx
   rcases hs with rfl|rfl<;>simp[gB T hl m1,(hF x.2 (dg (names h g) bs x.1) m2 n m).2,p',p,pairD]
  have it:items (.tup (aW (cL g) ks))=some (pairD x0::ps.map pairD):=by show some _=some _;rw[cM,zeq];rfl
  have:=YJ (el:=.idx (.var 0) AAH) (it:=.idx (.var 0) AAG) (σ:=[.val (aH h g ks ls),.val (aF bs),.own (.dct (names h g) (bs.map .bl))]) f' p' (r:=.val _) (by simp[aH]) rfl it (c0 x0 QYz _ (.inl rfl)) (fun y hy=>by
   obtain⟨x,hx,rfl⟩:=QDq.mp hy
   exact c0 x (QYq _ hx) _ (.inr rfl)) (fun y hy _=>by
   rw[<-Qyz]at hy
   obtain⟨x,hx,rfl⟩:=QDq.mp hy
   simp[pairD,f'])
  rw[<-Qyz,fm]at this
  exact this
 refine⟨?_,?_⟩
 ·have hb:fL=⟨2,3,(.cons _ (.cons (.ret Jp) .nil))⟩:=rfl
  have q:Jp.aB=none:=rfl
  have z:bu (aF bs)=some _:=rfl
  rw[p8,hb]
  simp[w1,z,dz,e1,q]
 ·have hb:iu=⟨2,3,(.cons _ (.cons (.ret Jo) .nil))⟩:=rfl
  have q:Jo.aB=none:=rfl
  have z:bu (aF bs)=some _:=rfl
  rw[um,hb]
  simp[w2,z,dz,e2,q]
end
end Tx
end
section
open PySem Mini
namespace Tx
structure Wt(h g:Nat)(ks:List D)(ls:List Bool)(W:List Bool->List D):Prop where
 sub:∀bs,bs.length=(names h g).length->(W bs).Sublist (cL g)
 pr:∀bs,bs.length=(names h g).length->∀n,pg.fn (n+4) 14 [.val (aH h g ks ls),.val (aF bs)]=.ok (.new (.lst (W bs))) [.val (aH h g ks ls),.val (aF bs)]
 lw:∀bs,bs.length=(names h g).length->∀n,pg.fn (n+3) 50 [.val (aH h g ks ls),.val (aF bs)]=.ok (.new (.lst (W bs))) [.val (aH h g ks ls),.val (aF bs)]
def aah{ks:List D}(O:b8 h g ks ls):∃W,Wt h g ks ls W:=by
 have ag:∀bs:List Bool,∃zs:List D,bs.length=(names h g).length->zs.Sublist _/\∀n m:Nat,pg.fn _ 14 [.val _,.val _]=.ok _ [.val _,.val _]/\pg.fn _ 50 [.val _,.val _]=.ok _ [.val _,.val _]:=fun bs=>by
  by_cases hl:bs.length=(names h g).length
  ·obtain⟨zs,z⟩:=Jb O hl
   exact⟨zs,fun _=>z⟩
  ·exact⟨[],fun z=>absurd z hl⟩
 exact⟨fun bs=>Classical.choose _,fun bs hl=>(Classical.choose_spec (ag bs) hl).1,fun bs hl n=>((Classical.choose_spec (ag bs) hl).2 n 0).1,fun bs hl n=>((Classical.choose_spec (ag bs) hl).2 0 n).2⟩
def oZ{xs:List D}(h:cJ xs):aL (.str s) xs=true↔D.str s∈xs:=by
 constructor
 ·intro z
  by_cases c:D.str s∈xs
  ·exact c
  ·rw[sG h c]at z;cases z
 ·intro z;exact qy z h
def Cu{W L:List D}(s:W.Sublist L):cJ L->L.Nodup->L.filter (fun x=>aL x W)=W:=by
 induction s with
 |slnil=>intro _ _;rfl
 | @cons l₁ l₂ a s ih=>
  intro t nd
  rw[List.nodup_cons]at nd
  obtain⟨q,rfl⟩:=t a QYz
  have t2:=fun x hx=>t x (QYq _ hx)
  rw[List.filter_cons,sG (fun x hx=>t2 x (s.subset hx)) fun z=>nd.1 (s.subset z)]
  exact ih t2 nd.2
 | @cons_cons l₁ l₂ a s ih=>
  intro t nd
  rw[List.nodup_cons]at nd
  obtain⟨q,rfl⟩:=t a QYz
  have t2:=fun x hx=>t x (QYq _ hx)
  have yes:aL (.str q) (D.str q::l₁)=true:=by simp[aL,dR]
  rw[List.filter_cons,yes,if_pos rfl]
  congr 1
  refine Eq.trans (List.filter_congr fun x hx=>?_) (ih t2 nd.2)
  obtain⟨u,rfl⟩:=t2 x hx
  have ne:¬q=u:=fun e=>nd.1 (by rw[e];exact hx)
  simp[aL,dR,ne]
theorem vG x:∀xs ys:List D,aL x (xs++ys)=(aL x xs||aL x ys)
 |[]=>fun ys=>rfl
 |y::xs=>fun ys=>by simp[aL,vG x xs ys,Bool.or_assoc]
abbrev St:=List Bool×Nat
def ao(s:St):D:=.tup [aF s.1,.int s.2]
section
variable{os:List D}{sts:List (List (D×Nat))}
structure Jg(h g:Nat)(sts:List (List (D×Nat)))(s:St):Prop where
 l:s.1.length=(names h g).length
 j:s.2<sts.length
noncomputable def jJ(h:Nat)(sts:List (List (D×Nat)))(W:List Bool->List D)(s:St):List D:=(hd h).filter (fun x=>(lk x (bC sts s.2)).isSome)++W s.1
def gU h:cJ (hd h):=fun x hx=>bF h 0 x (QWz _ hx)
def km g:cJ (cL g):=fun x hx=>bF 0 g x (QVq _ hx)
def jK(hj:j<sts.length):bC sts j∈sts:=by simp[bC,hj]
def lR(hj:j<sts.length):at? (sts.map fH) (j:Int)=some (fH (bC sts j)):=by
 rw[iw _ _ (by simpa using hj)]
 simp[bC,hj]
def qP(Wk:Wt h g ks ls W)(S:Jg h g sts s):(jJ h sts W s).Sublist (names h g):=(List.filter_sublist).append (Wk.sub s.1 S.l)
def fW(T:bY h g os sts)(O:b8 h g ks ls)(hj:j<sts.length):cJ (iI (bC sts j))/\(iI (bC sts j)).Nodup:=by
 have:=(T.mv _ (jK hj)).1
 exact⟨fun x hx=>bF h g x (T.sub.subset (this.subset hx)),this.nodup (T.sub.nodup (names_nodup O.h2 O.g1 O.g5))⟩
def stC:E:=.comp 1 (.name 0) AAb ACI (.var 0)
def yx n(O:b8 h g ks ls)(T:bY h g os sts)(Wk:Wt h g ks ls W)(S:Jg h g sts s):
  pg.fn (n+5) 23 [.val (aH h g ks ls),.val (aK os sts),.val (ao s)]=.ok (.new (.lst (jJ h sts W s))) [.val (aH h g ks ls),.val (aK os sts),.val (ao s)]:=by
 have K:=fW T O S.j
 have d:=ji (bC sts s.2) [] [] (by simpa using K.1) (by simpa using K.2)
 have e:ev (pg.cf (n+4)) stC [.val (aH h g ks ls),.val (aK os sts),.val (ao s),.own (.dct (iI (bC sts s.2)) (v5 (bC sts s.2)))]=.ok (.new (.lst ((hd h).filter fun x=>(lk x (bC sts s.2)).isSome))) [.val (aH h g ks ls),.val (aK os sts),.val (ao s),.own (.dct (iI (bC sts s.2)) (v5 (bC sts s.2)))]:=by
  have:=jT (c:=pg.cf (n+4)) (it:=.idx (.var 0) AAH) (co:=.cmp .isin (.var 0) (.var 4)) (el:=.var 0) (σ:=[.val (aH h g ks ls),.val (aK os sts),.val (ao s),.own (.dct (iI (bC sts s.2)) (v5 (bC sts s.2)))]) (τ:=[.val (aH h g ks ls),.val (aK os sts),.val (ao s),.own (.dct (iI (bC sts s.2)) (v5 (bC sts s.2)))]) (r:=.val (.tup (hd h))) (fun x=>x) (fun x=>(lk x (bC sts s.2)).isSome) (by simp[aH]) rfl rfl (fun x hx=>by
   obtain⟨q,rfl⟩:=gU h x hx
   have:aJ .isin (.str q) (.cG (iI (bC sts s.2)) (v5 (bC sts s.2)))=some (lk (.str q) (bC sts s.2)).isSome:=by rw[<-Fe];rfl
   simp[this,Ob.d]) (fun x _ _=>by simp)
  rw[List.map_id']at this
  exact this
 have w:=Wk.pr s.1 S.l n
 have t1:getD (aK os sts) (.int 1)=some (.tup (sts.map fH)):=by simp[aK]
 have s0:getD (ao s) (.int 0)=some (aF s.1):=by simp[ao]
 have s1:getD (ao s) (.int 1)=some (.int s.2):=by simp[ao]
 have st:=lR S.j
 have sl:=(qP Wk S).length_le
 have nl:=fc O.h2 O.g5
 have h2:=O.h2
 have g5:=O.g5
 have f:fits (((hd h).filter fun x=>(lk x (bC sts s.2)).isSome).length+(W s.1).length)=true:=by
  simp only[jJ,QTq]at sl
  simp[fits]
  omega
 have hb:my=⟨3,4,(.cons _ (.cons (.ret (.op .add stC _)) .nil))⟩:=rfl
 rw[Bh,hb]
 simp[t1,s0,s1,st,fH,d,e,w,f,jJ]
end
end Tx
end
section
open PySem Mini
namespace Tx
section
variable{os:List D}
theorem Lp{x:D}:∀{st:List (D×Nat)},cJ (iI st)->(∃s,x=.str s)->((lk x st).isSome=true↔x∈iI st)
 |[],_,_=>by simp[lk]
 |m::st,t,⟨s,hs⟩=>by
  subst hs
  rw[<-Fe,oZ t]
def lsM:E:=.comp 1 (.name 0) ACY ACl AAb
def lsN:E:=.comp 1 (.name 0) ADh ACI (.var 0)
def Ig(h:Nat)(st:List (D×Nat)):List D:=(st.filter fun m=>aL m.1 (hd h)).map (·.1)
def lN n(O:b8 h g ks ls):pg.fn (n+1) 48 [.val (aH h g ks ls)]=.ok (.new (.lst (names h g))) [.val (aH h g ks ls)]:=
 m9 n (hd h) _ ks _ (by rw[O.kl,dj O.g5]) (by rw[il O.h2,dj O.g5];have:=O.h2;have:=O.g5;omega)
def zG(O:b8 h g ks ls)(hx:x∈hd h):x∉cL g:=fun hs=>by
 have nd:=names_nodup O.h2 O.g1 O.g5
 rw[names,List.nodup_append]at nd
 exact nd.2.2 _ hx _ hs rfl
def JL(O:b8 h g ks ls)(T:bY h g os sts)(Wk:Wt h g ks ls W)(S:Jg h g sts s):(names h g).filter (fun x=>aL x (Ig h (bC sts s.2)++W s.1))=jJ h sts W s:=by
 have K:=fW T O S.j
 have ws:=Wk.sub s.1 S.l
 have tW:=fun x hx=>km g x (ws.subset hx)
 have iA:cJ (Ig h _):=fun x hx=>by
  obtain⟨m,hm,rfl⟩:=QDq.mp hx
  exact K.1 m.1 (QTz (List.mem_filter.mp hm).1)
 have tI:cJ _:=fun x hx=>by
  rcases QXz.mp hx with z|z
  ·exact iA x z
  ·exact tW x z
 have hI:∀q:Str,D.str q∈Ig h (bC sts s.2)↔D.str q∈hd h/\D.str q∈iI _:=fun q=>by
  constructor
  ·intro z
   obtain⟨m,hm,e⟩:=QDq.mp z
   obtain⟨a,b⟩:=List.mem_filter.mp hm
   rw[e]at b
   exact⟨(oZ (gU h)).mp b,by rw[<-e];exact QTz a⟩
  ·rintro ⟨a,b⟩
   obtain⟨m,hm,e⟩:=QDq.mp b
   refine QDq.mpr ⟨m,List.mem_filter.mpr ⟨hm,?_⟩,e⟩
   rw[show m.1=D.str q from e]
   exact(oZ (gU h)).mpr a
 rw[names,List.filter_append,jJ]
 congr 1
 ·refine List.filter_congr fun x hx=>?_
  obtain⟨q,rfl⟩:=gU h x hx
  rw[Bool.eq_iff_iff,oZ tI,Lp K.1 ⟨q,rfl⟩,QXz,hI]
  exact⟨fun z=>z.elim (fun a=>a.2) fun a=>absurd (ws.subset a) (zG O hx),fun z=>.inl ⟨hx,z⟩⟩
 ·refine Eq.trans (List.filter_congr fun x hx=>?_) (Cu ws (km g) ((List.sublist_append_right (hd h) _).nodup (names_nodup O.h2 O.g1 O.g5)))
  obtain⟨q,rfl⟩:=km g x hx
  rw[Bool.eq_iff_iff,oZ tI,oZ tW,QXz,hI]
  exact⟨fun z=>z.elim (fun a=>absurd hx (zG O a.1)) fun a=>a,.inr⟩
def gw{xs:List D}(t:cJ xs):aJ .isin (.str q) (.lst xs)=some (aL (.str q) xs)/\aJ .isin (.str q) (.tup xs)=some (aL (.str q) xs)/\aJ .notin (.str q) (.tup xs)=some (!aL (.str q) xs):=by
 have o:dO (.str q) xs=true:=by unfold dO;rw[lC t];rfl
 refine⟨?_,?_,?_⟩
 ·show(if dO _ xs then some _ else none)=_;rw[o];rfl
 ·show(if dO _ xs then some _ else none)=_;rw[o];rfl
 ·show(if dO _ xs then some _ else none)=_;rw[o];rfl
theorem gC(p:D->Bool):∀st:List (D×Nat),((st.map kO).filter fun d=>match d with|.tup (a::_)=>p a|_=>false).map o5=(st.filter fun m=>p m.1).map (·.1)
 |[]=>rfl
 |m::st=>by
  rw[Qyz,List.filter_cons,List.filter_cons,show(match kO m with|.tup (a::_)=>p a|_=>false)=p m.1 from rfl]
  cases p m.1
  ·exact gC p st
  ·simp only[if_true,Qyz,gC p st];rfl
def wQ n(O:b8 h g ks ls)(T:bY h g os sts)(Wk:Wt h g ks ls W)(S:Jg h g sts s):
  pg.fn (n+4) 51 [.val (aH h g ks ls),.val (aK os sts),.val (ao s)]=.ok (.new (.lst (jJ h sts W s))) [.val (aH h g ks ls),.val (aK os sts),.val (ao s)]:=by
 have K:=fW T O S.j
 have t1:getD (aK os sts) (.int 1)=some (.tup (sts.map fH)):=by simp[aK]
 have n0:getD (aH h g ks ls) (.int 0)=some (.tup (hd h)):=by simp[aH]
 have s0:getD (ao s) (.int 0)=some (aF s.1):=by simp[ao]
 have s1:getD (ao s) (.int 1)=some (.int s.2):=by simp[ao]
 have st:=lR S.j
 have w:=Wk.lw s.1 S.l n
 have e1:ev (pg.cf (n+3)) lsM [.val (aH h g ks ls),.val (aK os sts),.val (ao s),.un]=.ok (.new (.lst (Ig h (bC sts s.2)))) [.val (aH h g ks ls),.val (aK os sts),.val (ao s),.un]:=by
  have:=jT (c:=pg.cf (n+3)) (it:=.idx AAj AAf) (co:=.cmp .isin AAb AAv) (el:=.idx (.var 0) AAH) (σ:=[.val (aH h g ks ls),.val (aK os sts),.val (ao s),.un]) (τ:=[.val (aH h g ks ls),.val (aK os sts),.val (ao s),.un]) (d:=fH (bC sts s.2)) (xs:=(bC sts s.2).map kO) (r:=.val (fH (bC sts s.2))) o5 (fun d=>match d with|.tup (a::_)=>aL a (hd h)|_=>false) (by simp[t1,s1,st]) rfl rfl (fun x hx=>by
   obtain⟨m,hm,rfl⟩:=QDq.mp hx
   obtain⟨q,eq⟩:=K.1 m.1 (QTz hm)
   have i:=(gw (q:=q) (gU h)).2.1
   simp[kO,n0,eq,i]) (fun x hx _=>by
   obtain⟨m,hm,rfl⟩:=QDq.mp hx
   simp[kO,o5])
  rw[gC fun a=>aL a (hd h)]at this
  exact this
 have tI:cJ (Ig h (bC sts s.2)++W s.1):=fun x hx=>by
  rcases QXz.mp hx with z|z
  ·obtain⟨m,hm,rfl⟩:=QDq.mp z
   exact K.1 m.1 (QTz (List.mem_filter.mp hm).1)
  ·exact km g x ((Wk.sub s.1 S.l).subset z)
 have ln:=lN (n+2) O
 have e2:ev (pg.cf (n+3)) lsN [.val (aH h g ks ls),.val (aK os sts),.val (ao s),.own (.lst (Ig h (bC sts s.2)++W s.1))]=.ok (.new (.lst (jJ h sts W s))) [.val (aH h g ks ls),.val (aK os sts),.val (ao s),.own (.lst (Ig h (bC sts s.2)++W s.1))]:=by
  have:=jT (c:=pg.cf (n+3)) (it:=.call 48 AAS) (co:=.cmp .isin (.var 0) (.var 4)) (el:=.var 0) (σ:=[.val (aH h g ks ls),.val (aK os sts),.val (ao s),.own (.lst (Ig h (bC sts s.2)++W s.1))]) (τ:=[.val (aH h g ks ls),.val (aK os sts),.val (ao s),.own (.lst (Ig h (bC sts s.2)++W s.1))]) (d:=.lst (names h g)) (xs:=names h g) (r:=.new (.lst (names h g))) (fun x=>x) (fun x=>aL x (Ig h (bC sts s.2)++W s.1)) (by simp[ln]) rfl rfl (fun x hx=>by
   obtain⟨q,rfl⟩:=bF h g x hx
   have i:=(gw (q:=q) tI).1
   simp[i,Ob.d]) (fun x _ _=>by simp)
  rw[List.map_id',JL O T Wk S]at this
  exact this
 have f:fits ((Ig h (bC sts s.2)).length+(W s.1).length)=true:=by
  have a:(Ig h (bC sts s.2)).length<=(bC sts s.2).length:=by rw[Ig,QAq];exact List.length_filter_le _ _
  have b:=(T.mv _ (jK S.j)).1.length_le
  have c:=(Wk.sub s.1 S.l).length_le
  have d:=T.sub.length_le
  have nl:=fc (g:=g) O.h2 O.g5
  have h2:=O.h2
  have g5:=O.g5
  have:=dj O.g5
  simp at b
  simp only[QTq]at d
  simp[fits]
  omega
 have hb:jZ=⟨3,4,(.cons (.set 3 lsM) (.cons ADQ (.cons (.ret lsN) .nil)))⟩:=rfl
 have q:lsN.aB=none:=rfl
 rw[yI,hb]
 simp[e1,w,s0,f,Ob.d,e2,q]
end
end Tx
end
section
open PySem Mini
namespace Tx
section
noncomputable def eE(xs:List D)(bs:List Bool)(x:D):List Bool:=(xs.zip bs).map fun p=>if dR p.1 x then !p.2 else p.2
def sW{bs:List Bool}(hl:bs.length=xs.length)x:(eE xs bs x).length=xs.length:=by simp[eE,hl]
def chF(x:D)(p:D×D):D:=match p.2 with
 |.bl b=>.bl (if dR p.1 x then !b else b)
 |d=>d
theorem Gu x:∀(xs:List D)(bs:List Bool),(xs.zip (bs.map D.bl)).map (chF x)=(eE xs bs x).map .bl
 |[],bs=>by simp[eE]
 |_::_,[]=>by simp[eE]
 |y::xs,b::bs=>by
  have:=Gu x xs bs
  simp only[eE]at this⊢
  simp[chF,this]
def chC:E:=.comp 2 (.tup [0,1]) ACi AAL (.ite ACo (.not (.var 1)) (.var 1))
def Dd n(O:b8 h g ks ls)(hl:bs.length=(names h g).length)(hx:∃s,x=.str s):
  pg.fn (n+2) 26 [.val (aH h g ks ls),.val (aF bs),.val x]=.ok (.val (aF (eE (names h g) bs x))) [.val (aH h g ks ls),.val (aF bs),.val x]:=by
 obtain⟨q,rfl⟩:=hx
 have w:pg.fn _ 13 [.val (aH h g ks ls)]=.ok (.new (.lst (names h g))) [.val _]:=
  fB n (hd h) _ ks _ (by rw[O.kl,dj O.g5]) (by rw[il O.h2,dj O.g5];have:=O.h2;have:=O.g5;omega)
 have e:ev (pg.cf (n+1)) chC [.val (aH h g ks ls),.val (aF bs),.val (.str q)]=.ok (.new (.lst ((eE (names h g) bs (.str q)).map .bl))) [.val (aH h g ks ls),.val (aF bs),.val (.str q)]:=by
  have:=Vf (c:=pg.cf (n+1)) (it:=.zip (.call 13 AAS) (.var 1)) (el:=.ite ACo (.not (.var 1)) (.var 1)) (σ:=[.val (aH h g ks ls),.val (aF bs),.val (.str q)]) (τ:=[.val (aH h g ks ls),.val (aF bs),.val (.str q)]) (r:=.val (.lst (aW (names h g) (bs.map .bl)))) (chF _) (by
    have z:bu (aF bs)=some _:=rfl
    simp[w,z]) rfl (by show some _=some _;rw[cM]) (fun p hp=>by
    obtain⟨u,eu⟩:=bF h g p.1 (List.of_mem_zip hp).1
    obtain⟨b,_,eb⟩:=QDq.mp (List.of_mem_zip hp).2
    rw[<-eb,eu]
    have e1:chF (.str q) p=.bl (if decide (u=q)then !b else b):=by
     unfold chF
     rw[<-eb,eu]
     rfl
    rw[e1]
    cases c:decide (u=q)<;>simp[c])
  rw[Gu]at this
  exact this
 have hb:pD=⟨3,3,(.cons (.ret (.bi .tuple chC)) .nil)⟩:=rfl
 have qv:chC.aB=none:=rfl
 rw[Ho,hb]
 simp[e,qv]
 rfl
theorem uU:∀(L pre:List D),(cB pre.length L.length).map (fun d=>match d with|.int i=>(pre++L).getD i.toNat .non|_=>.non)=L
 |[]=>fun pre=>rfl
 |x::L=>fun pre=>by
  have:=uU L (pre++[x])
  simp only[QTq,QBq,List.length_nil,QLq,QLz,List.nil_append]at this
  simp only[QBq,cB,Qyz]
  rw[show((pre.length:Int)+1)=((pre.length+(0+1):Nat)) by simp,this]
  simp[List.getD]
def fgC:E:=.comp 1 (.name 0) (.range1 ADk) AAL (.cmp .ne ADi ACH)
theorem uT:∀(n:Nat)(lo:Int)(x:D),x∈cB lo n->∃j:Nat,j<n/\x=.int (lo+j)
 |0=>fun _ _ h=>by cases h
 |n+1=>fun lo x h=>by
  rcases QCq.mp h with rfl|h
  ·exact⟨0,by omega,by simp⟩
  ·obtain⟨j,hj,rfl⟩:=uT n _ x h
   exact⟨j+1,by omega,by congr 1;omega⟩
def Sh n(O:b8 h g ks ls)T(S:Jg h g sts s)s5 s6 s7:
  ev (pg.cf n) fgC [.val (aH h g ks ls),.val T,.val (ao s),.val (.str q),.own (.lst (names h g)),s5,s6,s7]=.ok (.new (.lst ((eE (names h g) s.1 (.str q)).map .bl))) [.val (aH h g ks ls),.val T,.val (ao s),.val (.str q),.own (.lst (names h g)),s5,s6,s7]:=by
 have nl:=fc O.h2 O.g5
 have h2:=O.h2
 have g5:=O.g5
 have fl:=sW S.l (.str q)
 have f1:fits (names h g).length=true:=by simp[fits];omega
 have f2:Ez (names h g).length=true:=by simp[Ez];omega
 have s0:getD (ao s) (.int 0)=some (aF s.1):=by simp[ao]
 have:=nJ (c:=pg.cf n) (it:=.range1 ADk) (el:=.cmp .ne ADi ACH) (σ:=[.val (aH h g ks ls),.val T,.val (ao s),.val (.str q),.own (.lst (names h g)),s5,s6,s7]) (τ:=[.val (aH h g ks ls),.val T,.val (ao s),.val (.str q),.own (.lst (names h g)),s5,s6,s7]) (r:=.val (.lst (cB 0 (names h g).length))) (fun d=>match d with|.int i=>([]++(eE (names h g) s.1 (.str q)).map D.bl).getD i.toNat .non|_=>.non) (by simp[f1,f2,Ob.d]) rfl rfl (fun x hx=>by
  obtain⟨j,hj,rfl⟩:=uT _ _ _ hx
  have hb:j<s.1.length:=by rw[S.l];exact hj
  obtain⟨u,eu⟩:=bF h g _ (List.getElem_mem hj)
  have a1:at? (names h g) j=some (.str u):=by rw[iw _ _ hj,QXq hj,eu]
  have a3:getD (aF s.1) (.int j)=some (.bl s.1[j]):=by simpa[aF]using (by rw[iw _ _ (by simpa using hb)];simp[hb])
  have v:([]++(eE (names h g) s.1 (.str q)).map D.bl).getD ((0:Int)+j).toNat .non=.bl (!(s.1[j]==decide (u=q))):=by
   rw[List.nil_append,Int.zero_add,Int.toNat_natCast,List.getD_eq_getElem?_getD,QFz,QXq (by rw[fl];exact hj)]
   have e2:dR (names h g)[j] (.str q)=decide (u=q):=by rw[eu];rfl
   simp only[eE,List.getElem_map,List.getElem_zip,Option.map_some,Option.getD_some,e2]
   cases decide (u=q)<;>cases s.1[j]<;>rfl
  simp only[v]
  simp[s0,a3,a1,Ob.d])
 have fl':((eE (names h g) s.1 (.str q)).map D.bl).length=(names h g).length:=by rw[QAq,fl]
 have rg:=uU ((eE (names h g) s.1 (.str q)).map D.bl) []
 rw[fl']at rg
 rw[show((([]:List D).length):Int)=0 from rfl]at rg
 rw[rg]at this
 exact this
end
end Tx
end
section
open PySem Mini
namespace Tx
section
variable{os:List D}
noncomputable def wO(h g:Nat)(os:List D)(sts:List (List (D×Nat)))(s:St)(x:D):Option St:=
 if aL x (hd h)||aL x os then(lk x (bC sts s.2)).map fun j=>(eE (names h g) s.1 x,j)else some (eE (names h g) s.1 x,s.2)
def dY:Option St->D
 |none=>.non
 |some s=>ao s
def sdE a(j:Nat):D.tup [aF a,.int j]=ao (a,j):=rfl
def kI(T:bY h g os sts):cJ os:=fun x hx=>km g x (T.ou.subset hx)
theorem Uz{x:D}{N:Nat}:∀{st:List (D×Nat)},(∀m∈st,m.2<N)->∀{j:Nat},lk x st=some j->j<N
 |[],_,_,e=>by cases e
 |m::st,hm,j,e=>by
  simp only[lk]at e
  split at e
  ·cases e;exact hm m QYz
  ·exact Uz (fun q hq=>hm q (QYq _ hq)) e
def Xq(T:bY h g os sts)(S:Jg h g sts s)(e:wO h g os sts s x=some s'):Jg h g sts s':=by
 unfold wO at e
 split at e
 ·obtain⟨j,hj,rfl⟩:=QJz.mp e
  exact⟨sW S.l x,Uz (T.mv _ (jK S.j)).2 hj⟩
 ·cases e
  exact⟨sW S.l x,S.j⟩
def qJ n(O:b8 h g ks ls)(T:bY h g os sts)(S:Jg h g sts s)q:
  pg.fn (n+1) 24 [.val (aK os sts),.val (ao s),.val (.str q)]=.ok (.val (.bl (aL (.str q) os&& !(lk (.str q) (bC sts s.2)).isSome))) [.val (aK os sts),.val (ao s),.val (.str q)]:=by
 have K:=fW T O S.j
 have t0:getD (aK os sts) (.int 0)=some (.tup os):=by simp[aK]
 have t1:getD (aK os sts) (.int 1)=some (.tup (sts.map fH)):=by simp[aK]
 have s1:getD (ao s) (.int 1)=some (.int s.2):=by simp[ao]
 have i:=(gw (q:=q) (kI T)).2.1
 have i2:aJ .notin (.str q) (.cG (iI (bC sts s.2)) (v5 (bC sts s.2)))=some (!(lk (.str q) (bC sts s.2)).isSome):=by rw[<-Fe];rfl
 rw[wA]
 cases c:aL _ os<;>rw[c]at i<;>simp[jq,t0,i,t1,s1,lR S.j,fH,ji _ [] [] (by simpa using K.1) (by simpa using K.2),Ob.d,i2]
def Fp(O:b8 h g ks ls)(T:bY h g os sts)(Wk:Wt h g ks ls W)(S:Jg h g sts s)(hx:D.str q∈jJ h sts W s):(aL (.str q) os&& !(lk (.str q) (bC sts s.2)).isSome)=true/\wO h g os sts s (.str q)=none\/(aL (.str q) os&& !(lk (.str q) (bC sts s.2)).isSome)=false/\wO h g os sts s (.str q)=some (eE (names h g) s.1 (.str q),(lk (.str q) (bC sts s.2)).getD s.2):=by
 unfold wO
 rcases QXz.mp hx with z|z
 ·obtain⟨z1,z2⟩:=List.mem_filter.mp z
  rw[sG (kI T) fun w=>zG O z1 (T.ou.subset w),qy z1 (gU h)]
  obtain⟨j,hj⟩:=Option.isSome_iff_exists.mp z2
  rw[hj]
  exact .inr ⟨rfl,rfl⟩
 ·have zr:=(Wk.sub s.1 S.l).subset z
  rw[sG (gU h) fun w=>zG O w zr]
  cases ho:aL _ os with
  |true=>
   cases hj:lk _ _ with
   |none=>exact .inl ⟨rfl,rfl⟩
   |some j=>exact .inr ⟨rfl,rfl⟩
  |false=>
   have hn:lk (.str q) (bC sts s.2)=none:=by
    cases hj:lk _ _ with
    |none=>rfl
    |some j=>
     rcases QXz.mp ((T.mv _ (jK S.j)).1.subset ((Lp (fW T O S.j).1 ⟨q,rfl⟩).mp (by rw[hj];rfl)))with w|w
     ·exact absurd zr (zG O w)
     ·rw[qy w (kI T)]at ho;cases ho
   rw[hn]
   exact .inr ⟨rfl,rfl⟩
def HR n(O:b8 h g ks ls)(T:bY h g os sts)(Wk:Wt h g ks ls W)(S:Jg h g sts s)(hx:x∈jJ h sts W s):
  pg.fn (n+3) 25 [.val (aH h g ks ls),.val (aK os sts),.val (ao s),.val x]=.ok (.val (dY (wO h g os sts s x))) [.val (aH h g ks ls),.val (aK os sts),.val (ao s),.val x]:=by
 have K:=fW T O S.j
 obtain⟨q,rfl⟩:=bF h g x ((qP Wk S).subset hx)
 have u:=qJ (n+1) O T S q
 have t1:getD (aK os sts) (.int 1)=some (.tup (sts.map fH)):=by simp[aK]
 have s0:getD (ao s) (.int 0)=some (aF s.1):=by simp[ao]
 have s1:getD (ao s) (.int 1)=some (.int s.2):=by simp[ao]
 have gt:sO (.cG (iI (bC sts s.2)) (v5 (bC sts s.2))) (.str q) (.int s.2)=some (.int ((lk (.str q) (bC sts s.2)).getD s.2)):=by
  show(if keyOk (.str q)then some _ else none)=_
  rw[Fd]
  cases lk _ _<;>rfl
 rw[J9]
 rcases (Fp O T Wk S hx)with ⟨k1,k2⟩|⟨k1,k2⟩
 ·rw[k1]at u
  rw[k2]
  simp[nQ,u,dY]
 ·rw[k1]at u
  rw[k2]
  simp[nQ,u,t1,s0,s1,lR S.j,fH,ji _ [] [] (by simpa using K.1) (by simpa using K.2),Ob.d,Dd n O S.l ⟨q,rfl⟩,sy,gt,aO,dY,sdE]
def Zz:S:=(.cons (.ite (.cmp .eq (.var 6) (.var 3)) ACa .nil) .nil)
theorem UJ(c:Cf)(a b e F:D)(N:Sl){q:Str}:∀(st:List (D×Nat))(s6 s7:Sl),cJ (iI st)->bL s6->bL s7->
  (∀j,lk (.str q) st=some j->∃s6' s7',bA (.tup [6,7]) (ex c Zz) (st.map kO) [.val a,.val b,.val e,.val (.str q),N,.val F,s6,s7]=.ret (.val (.tup [F,.int j])) [.val a,.val b,.val e,.val (.str q),N,.val F,s6',s7'])/\
  (lk (.str q) st=none->∃s6' s7',bA (.tup [6,7]) (ex c Zz) (st.map kO) [.val a,.val b,.val e,.val (.str q),N,.val F,s6,s7]=.next [.val a,.val b,.val e,.val (.str q),N,.val F,s6',s7'])
 |[]=>fun s6 s7 _ _ _=>⟨fun j z=>(by cases z),fun _=>⟨s6,s7,rfl⟩⟩
 |m::st=>fun s6 s7 t h6 h7=>by
  obtain⟨u,eu⟩:=t m.1 QYz
  have tt:bD (.tup [6,7]) (kO m) [.val a,.val b,.val e,.val (.str q),N,.val F,s6,s7]=some [.val a,.val b,.val e,.val (.str q),N,.val F,.val m.1,.val (.int m.2)]:=by
   rcases h6 with rfl|⟨d,rfl⟩<;>rcases h7 with rfl|⟨d,rfl⟩<;>simp[bD,gk,cD,kO]
  have ih:=UJ c a b e F N (q:=q) st (.val m.1) (.val (.int m.2)) (fun x hx=>t x (QYq _ hx)) (.inr ⟨_,rfl⟩) (.inr ⟨_,rfl⟩)
  rw[Qyz,bA,tt]
  have e1:lk (.str q) (m::st)=if decide (u=q)then some m.2 else lk (.str q) st:=by rw[lk,eu];rfl
  rw[e1,eu]at*
  by_cases cq:u=q
  ·subst cq
   refine⟨fun j z=>?_,fun z=>by simp at z⟩
   simp at z
   subst z
   exact⟨.val (.str u),.val (.int m.2),by simp[Zz,aO]⟩
  ·have sk:(ex c Zz [.val a,.val b,.val e,.val (.str q),N,.val F,.val (.str u),.val (.int m.2)])=.next [.val a,.val b,.val e,.val (.str q),N,.val F,.val (.str u),.val (.int m.2)]:=by simp[Zz,cq]
   simp only[sk]
   simp only[cq,decide_false,Qxq,if_false]
   exact ih
theorem BZ n(O:b8 h g ks ls)(T:bY h g os sts)(S:Jg h g sts s)(hx:∃q,x=.str q):
  pg.fn (n+2) 52 [.val (aH h g ks ls),.val (aK os sts),.val (ao s),.val x]=.ok (.val (dY (wO h g os sts s x))) [.val (aH h g ks ls),.val (aK os sts),.val (ao s),.val x]:=by
 obtain⟨q,rfl⟩:=hx
 have ln:=lN n O
 have n0:getD (aH h g ks ls) (.int 0)=some (.tup (hd h)):=by simp[aH]
 have t0:getD (aK os sts) (.int 0)=some (.tup os):=by simp[aK]
 have t1:getD (aK os sts) (.int 1)=some (.tup (sts.map fH)):=by simp[aK]
 have s1:getD (ao s) (.int 1)=some (.int s.2):=by simp[ao]
 have st:=lR S.j
 have i1:=(gw (q:=q) (gU h)).2.2
 have i2:=(gw (q:=q) (kI T)).2.2
 have fe:=Sh (n+1) O (aK os sts) S (q:=q) .un .un .un
 have lg:=UJ (pg.cf (n+1)) (aH h g ks ls) (aK os sts) (ao s) (aF (eE (names h g) s.1 (.str q))) (.own (.lst (names h g))) (q:=q) _ .un .un (fW T O S.j).1 (.inl rfl) (.inl rfl)
 have it:items (fH (bC sts s.2))=some _:=rfl
 have rd:D.tup _=aF (eE (names h g) s.1 (.str q)):=rfl
 have hb:o9=⟨4,8,(.cons _ (.cons (.set 5 (.bi .tuple fgC)) (.cons _ (.cons (.for_ _ _ Zz) _))))⟩:=rfl
 have qv:fgC.aB=none:=rfl
 rw[Hi,hb]
 unfold wO
 cases c1:aL _ (hd h)with
 |false=>
  cases c2:aL _ os with
  |false=>
   rw[c1]at i1
   rw[c2]at i2
   simp[ln,fe,qv,rd,n0,t0,i1,i2,s1,aO,dY,sdE]
  |true=>
   rw[c1]at i1
   rw[c2]at i2
   cases hj:lk _ _ with
   |none=>
    obtain⟨s6,s7,e⟩:=lg.2 hj
    simp[ln,fe,qv,rd,n0,t0,i1,i2,t1,s1,st,it,e,dY]
   |some j=>
    obtain⟨s6,s7,e⟩:=lg.1 j hj
    simp[ln,fe,qv,rd,n0,t0,i1,i2,t1,s1,st,it,e,dY,sdE]
 |true=>
  rw[c1]at i1
  cases hj:lk _ _ with
  |none=>
   obtain⟨s6,s7,e⟩:=lg.2 hj
   simp[ln,fe,qv,rd,n0,i1,t1,s1,st,it,e,dY]
  |some j=>
   obtain⟨s6,s7,e⟩:=lg.1 j hj
   simp[ln,fe,qv,rd,n0,i1,t1,s1,st,it,e,dY,sdE]
end
end Tx
end
section
open PySem Mini
namespace Tx
structure Cs where
 h:Nat
 g:Nat
 ks:List D
 ls:List Bool
 os:List D
 sts:List (List (D×Nat))
 W:List Bool->List D
namespace Cs
variable(C:Cs)
structure Ok:Prop where
 o:b8 C.h C.g C.ks C.ls
 t:bY C.h C.g C.os C.sts
 w:Wt C.h C.g C.ks C.ls C.W
def n:D:=aH C.h C.g C.ks C.ls
def t:D:=aK C.os C.sts
abbrev nm:List D:=names C.h C.g
abbrev S(s:St):Prop:=Jg C.h C.g C.sts s
def st(s:St):List D:=jJ C.h C.sts C.W s
def led(s:St)(x:D):Option St:=wO C.h C.g C.os C.sts s x
end Cs
section
variable{C:Cs}
namespace Cs.Ok
variable(K:C.Ok)
include K
def sub(S:C.S s):(C.st s).Sublist C.nm:=qP K.w S
def adQ(S:C.S s):cJ (C.st s):=fun x hx=>bF C.h C.g x ((K.sub S).subset hx)
def wtx(S:C.S s):cJ (C.W s.1):=fun x hx=>km C.g x ((K.w.sub s.1 S.l).subset hx)
def Ls{t:St}(S:C.S s)(e:C.led s x=some t):C.S t:=Xq K.t S e
def dW m(S:C.S s):pg.fn (m+5) 23 [.val C.n,.val C.t,.val (ao s)]=.ok (.new (.lst (C.st s))) [.val C.n,.val C.t,.val (ao s)]:=yx m K.o K.t K.w S
def oV m(S:C.S s):pg.fn (m+4) 51 [.val C.n,.val C.t,.val (ao s)]=.ok (.new (.lst (C.st s))) [.val C.n,.val C.t,.val (ao s)]:=wQ m K.o K.t K.w S
def jd m(S:C.S s)(hx:x∈C.st s):pg.fn (m+3) 25 [.val C.n,.val C.t,.val (ao s),.val x]=.ok (.val (dY (C.led s x))) [.val C.n,.val C.t,.val (ao s),.val x]:=HR m K.o K.t K.w S hx
def wR m(S:C.S s)(hx:∃q,x=.str q):pg.fn (m+2) 52 [.val C.n,.val C.t,.val (ao s),.val x]=.ok (.val (dY (C.led s x))) [.val C.n,.val C.t,.val (ao s),.val x]:=BZ m K.o K.t S hx
def checked m:pg.fn (m+9) 17 [.val C.n,.val C.t]=.ok (.val C.t) [.val C.n,.val C.t]:=qp m K.o K.t
def wpr m(S:C.S s):pg.fn (m+4) 14 [.val C.n,.val (aF s.1)]=.ok (.new (.lst (C.W s.1))) [.val C.n,.val (aF s.1)]:=K.w.pr s.1 S.l m
def wlw(m:Nat)(S:C.S s):pg.fn (m+3) 50 [.val C.n,.val (aF s.1)]=.ok (.new (.lst (C.W s.1))) [.val C.n,.val (aF s.1)]:=K.w.lw s.1 S.l m
def unasked m(S:C.S s)(hx:D.str q∈C.st s):pg.fn (m+1) 24 [.val C.t,.val (ao s),.val (.str q)]=.ok (.val (.bl (C.led s (.str q)).isNone)) [.val C.t,.val (ao s),.val (.str q)]:=by
 have u:=qJ m K.o K.t S q
 rcases Fp K.o K.t K.w S hx with ⟨a,b⟩|⟨a,b⟩<;>rw[a]at u<;>rw[Cs.led,b]<;>exact u
end Cs.Ok
def Sw m(ns:List Int)k(hk:0<=k):∃C:Cs,C.Ok/\pg.fn (m+9) 47 [.val (.lst (ns.map .int)),.val (.int k)]=.ok (.val (.tup [C.n,C.t])) [.val (.lst (ns.map .int)),.val (.int k)]:=by
 obtain⟨h,g,ks,ls,os,sts,O,T,e⟩:=Sv m ns k hk
 obtain⟨W,w⟩:=aah O
 exact⟨⟨h,g,ks,ls,os,sts,W⟩,⟨O,T,w⟩,e⟩
def zb:getD C.n (.int 2)=some (aF C.ls):=by simp[Cs.n,aH];rfl
def JC:getD C.t (.int 0)=some (.tup C.os):=by simp[Cs.t,aK]
def uI:getD C.t (.int 1)=some (.tup (C.sts.map fH)):=by simp[Cs.t,aK]
def JM s:getD (ao s) (.int 0)=some (aF s.1):=by simp[ao]
def Wd s:getD (ao s) (.int 1)=some (.int s.2):=by simp[ao]
end
abbrev Rs:=List (St×List D)
def kD(R:Rs):List D:=R.map fun p=>ao p.1
def vD(R:Rs):List D:=R.map fun p=>.lst p.2
def wV R N:kD (R++N)=kD R++kD N:=List.map_append
def VN R N:vD (R++N)=vD R++vD N:=List.map_append
def je R:(kD R).length=R.length:=QAq _
theorem Ei:∀a b:List Bool,jR (a.map .bl) (b.map .bl)=decide (a=b)
 |[],[]=>rfl
 |[],_::_=>rfl
 |_::_,[]=>rfl
 |x::a,y::b=>by
  simp only[Qyz,jR,dR,Ei a b,List.cons.injEq]
  by_cases e:x=y<;>by_cases e':a=b<;>simp[e,e']
def qw a b:dR (ao a) (ao b)=decide (a=b):=by
 obtain⟨a,i⟩:=a
 obtain⟨b,j⟩:=b
 simp only[ao,aF,dR,jR,Ei,Bool.and_true,Prod.mk.injEq]
 by_cases e:a=b<;>by_cases e':i=j<;>simp[e,e']<;>omega
theorem Ms t:∀R:Rs,aL (ao t) (kD R)=decide (t∈R.map (·.1))
 |[]=>by simp[kD,aL]
 |p::R=>by
  have:=Ms t R
  simp only[kD]at this
  simp only[kD,Qyz,aL,qw,this,QCq]
  by_cases e:p.1=t
  ·simp[e]
  ·have:¬t=p.1:=fun z=>e z.symm
   simp[e,this]
def Lq(s:St):Rs->Option (List D)
 |[]=>none
 |p::R=>if p.1=s then some p.2 else Lq s R
theorem UG s:∀R:Rs,cN (ao s) (kD R) (vD R)=(Lq s R).map D.lst
 |[]=>rfl
 |p::R=>by
  have:=UG s R
  simp only[kD,vD]at this
  simp only[kD,vD,Qyz,cN,qw,this,Lq]
  by_cases e:p.1=s<;>simp[e]
theorem Ff{r:List D}N:∀{R:Rs},Lq s R=some r->Lq s (R++N)=some r
 |[]=>fun e=>by cases e
 |p::R=>fun e=>by
  simp only[QLz,Lq]at e⊢
  split
  ·rename_i z;rw[if_pos z]at e;exact e
  ·rename_i z;rw[if_neg z]at e;exact Ff N e
theorem wL{s:St}{r:List D}:∀{R:Rs}{k:Nat},(R.map (·.1)).Nodup->R[k]? =some (s,r)->Lq s R=some r
 |[],_=>fun _ e=>by cases e
 |p::R,0=>fun _ e=>by cases e;simp[Lq]
 |p::R,k+1=>fun nd e=>by
  have e':R[k]? =some (s,r):=e
  rw[Qyz,List.nodup_cons]at nd
  rw[Lq,if_neg (fun z=>nd.1 (by rw[z];exact QTz (QBz e')))]
  exact wL nd.2 e'
def dC s:ik (ao s)=true:=by
 have:∀bs:List Bool,(bools (bs.map .bl)).isSome=true:=fun bs=>by
  induction bs with
  |nil=>rfl
  |cons b bs ih=>simp only[Qyz,bools,Option.isSome_map,ih]
 exact this s.1
def Et t R:aJ .notin (ao t) (.fQ (kD R) (vD R))=some (!decide (t∈R.map (·.1))):=by
 show(if ik _ then some _ else none)=_
 rw[dC,Ms]
 rfl
def MK{r:List D}(e:Lq s R=some r):getD (.fQ (kD R) (vD R)) (ao s)=some (.lst r):=by
 show(if ik _ then cN _ (kD R) (vD R)else none)=_
 rw[dC,UG,e]
 rfl
def Up{r:List D}(e:t∉R.map (·.1))(f:R.length+1<=1000):yQ (ao t) (.lst r) (.sdt (kD R) (vD R))=some (.sdt (kD (R++[(t,r)])) (vD (R++[(t,r)]))):=by
 have f':fits ((kD R).length+1)=true:=by rw[je];simp[fits];omega
 show(if ik _&&fits _ then some _ else none)=_
 have i:aL (ao t) (kD R)=false:=by rw[Ms];simpa using e
 have p:putD (ao t) (.lst r) (kD R) (vD R)=(kD R++[ao t],vD R++[.lst r]):=by unfold putD;rw[i];rfl
 rw[dC,f',p,wV,VN]
 rfl
section
variable{C:Cs}
structure Cs.Ro(C:Cs)(R:Rs):Prop where
 nd:(R.map (·.1)).Nodup
 ok:∀p∈R,C.S p.1
 le:∀p∈R,p.2.length<=R.length
 wr:∀p∈R,∀x∈p.2,x∈C.nm
noncomputable def Cs.new(C:Cs)(s:St)(r:List D):List D->Rs->Rs
 |[],_=>[]
 |x::xs,R=>match C.led s x with
  |none=>C.new s r xs R
  |some t=>if t∈R.map (·.1)then C.new s r xs R else(t,r++[x])::C.new s r xs (R++[(t,r++[x])])
def BJ(Y:C.Ro R)(S:C.S t)(hr:r.length<=R.length+1)(ht:t∉R.map (·.1))(hw:∀x∈r,x∈C.nm):C.Ro (R++[(t,r)]):=by
 refine⟨?_,fun p hp=>?_,fun p hp=>?_,fun p hp=>?_⟩
 ·rw[List.map_append,List.nodup_append]
  exact⟨Y.nd,by simp,fun a ha b hb e=>ht (by
   have:b=t:=by simpa using hb
   rw[<-this,<-e];exact ha)⟩
 ·rcases QXz.mp hp with z|z
  ·exact Y.ok p z
  ·rw[QDz.mp z];exact S
 ·rw[QTq]
  rcases QXz.mp hp with z|z
  ·exact Nat.le_succ_of_le (Y.le p z)
  ·rw[QDz.mp z];exact hr
 ·rcases QXz.mp hp with z|z
  ·exact Y.wr p z
  ·rw[QDz.mp z];exact hw
def Aj{x:D}(hw:∀x∈r,x∈C.nm)(hx:x∈C.nm):∀y∈r++[x],y∈C.nm:=fun y hy=>by
 rcases QXz.mp hy with z|z
 ·exact hw y z
 ·rw[QDz.mp z];exact hx
theorem jM(K:C.Ok){s:St}(S:C.S s){r:List D}(hw:∀x∈r,x∈C.nm):∀(xs:List D){R:Rs},(∀x∈xs,x∈C.nm)->C.Ro R->r.length<=R.length->C.Ro (R++C.new s r xs R)
 |[],R,_,Y,_=>by simpa[Cs.new]using Y
 |x::xs,R,hx,Y,hr=>by
  have hx':=fun y hy=>hx y (QYq _ hy)
  rw[Cs.new]
  split
  ·exact jM K S hw xs hx' Y hr
  ·rename_i t e
   split
   ·exact jM K S hw xs hx' Y hr
   ·rename_i ht
    have:=jM K S hw xs hx' (BJ Y (K.Ls S e) (by simp;omega) ht (Aj hw (hx x QYz))) (by simp;omega)
    rw[QLq]at this
    exact this
noncomputable def allB:Nat->List (List Bool)
 |0=>[[]]
 |n+1=>(allB n).map (true:: ·)++(allB n).map (false:: ·)
theorem z8:∀n,(allB n).length=2 ^n
 |0=>rfl
 |n+1=>by rw[allB,QTq,QAq,QAq,z8 n,Nat.pow_succ];omega
theorem uc:∀bs:List Bool,bs∈allB bs.length
 |[]=>by simp[allB]
 |b::bs=>by
  rw[QBq,allB,QXz]
  cases b
  ·exact .inr (QTz (uc bs))
  ·exact .inl (QTz (uc bs))
noncomputable def Ou(n:Nat):List St:=(allB n).map (·,0)++((allB n).map (·,1)++((allB n).map (·,2)++(allB n).map (·,3)))
def Ot n:(Ou n).length=4*2 ^n:=by
 simp only[Ou,QTq,QAq,z8]
 omega
def Oq(h:s.2<4):s∈Ou s.1.length:=by
 obtain⟨bs,j⟩:=s
 have m:=uc bs
 simp only[Ou,QXz,QDq]
 rcases j with _|_|_|_|j
 ·exact .inl ⟨bs,m,rfl⟩
 ·exact .inr (.inl ⟨bs,m,rfl⟩)
 ·exact .inr (.inr (.inl ⟨bs,m,rfl⟩))
 ·exact .inr (.inr (.inr ⟨bs,m,rfl⟩))
 ·simp at h;omega
theorem yW:∀(l L:List St),l.Nodup->(∀x∈l,x∈L)->l.length<=L.length
 |[]=>fun _ _ _=>QIq _
 |x::l=>fun L nd m=>by
  rw[List.nodup_cons]at nd
  have mx:=m x QYz
  have:=yW l (L.erase x) nd.2 fun y hy=>(List.mem_erase_of_ne fun e=>nd.1 (by rw[<-e];exact hy)).mpr (m y (QYq _ hy))
  rw[List.length_erase_of_mem mx]at this
  have:=List.length_pos_of_mem mx
  rw[QBq]
  omega
def Cs.Ro.jO(K:C.Ok)(X:C.Ro R):R.length<=512:=by
 have a:=yW _ (Ou (C.nm).length) X.nd fun s hs=>by
  obtain⟨p,hp,rfl⟩:=QDq.mp hs
  have S:=X.ok p hp
  rw[<-S.l]
  exact Oq (Qvq S.j K.t.s4)
 rw[QAq,Ot,fc K.o.h2 K.o.g5]at a
 have h2:=K.o.h2
 have g5:=K.o.g5
 have:2 ^(C.h+C.g)<=2 ^7:=Nat.pow_le_pow_right (by omega) (by omega)
 omega
noncomputable def Cs.ir(C:Cs):Nat->Nat->Rs->Rs
 |0,_,R=>R
 |f+1,k,R=>match R[k]? with
  |none=>R
  |some p=>C.ir f (k+1) (R++C.new p.1 p.2 (C.st p.1) R)
theorem Dm(K:C.Ok):∀(f k:Nat){R:Rs},C.Ro R->C.Ro (C.ir f k R)
 |0,_,_,X=>X
 |f+1,k,R,X=>by
  rw[Cs.ir]
  split
  ·exact X
  ·rename_i p e
   have m:=QBz e
   exact Dm K f _ (jM K (X.ok p m) (X.wr p m) _ (fun x hx=>(K.sub (X.ok p m)).subset hx) X (X.le p m))
def sI(ls:List Bool):St:=(ls,0)
def Eg(K:C.Ok):C.S (sI C.ls):=⟨by rw[fc K.o.h2 K.o.g5];exact K.o.ll,K.t.s1⟩
def R0(ls:List Bool):Rs:=[(sI ls,[])]
def vY(K:C.Ok):C.Ro (R0 C.ls):=⟨by simp[R0],fun p hp=>by rw[QDz.mp hp];exact Eg K,fun p hp=>by rw[QDz.mp hp];simp,fun p hp=>by rw[QDz.mp hp];simp⟩
end
end Tx
end
section
open PySem Mini
namespace Tx
section
variable{C:Cs}
def gf(s:St):bf (ao s)=false:=rfl
def sY n:pg.fn (n+1) 22 [.val C.n]=.ok (.val (ao (sI C.ls))) [.val C.n]:=by
 rfl
def Uu:S:=(.cons (.set 6 (.call 25 AAy)) (.cons (.ite (.and (.cons ACy ABR)) ABd .nil) .nil))
theorem Ew(n:Nat)(K:C.Ok){s:St}(S:C.S s){r:List D}:∀(xs:List D)(R:Rs)(M:List D)(s5 s6:Sl),(∀x∈xs,x∈C.st s)->C.Ro R->Lq s R=some r->r.length<=R.length->(∀x∈r,x∈C.nm)->M.length<=R.length->bL s5->bL s6->∃s5' s6',
  bA (.name 5) (ex (pg.cf (n+3)) Uu) xs [.val C.n,.val C.t,.val (ao s),.bor (.sdt (kD R) (vD R)),.own (.lst M),s5,s6]=.next [.val C.n,.val C.t,.val (ao s),.bor (.sdt (kD (R++C.new s r xs R)) (vD (R++C.new s r xs R))),.own (.lst (M++kD (C.new s r xs R))),s5',s6']
 |[]=>fun R M s5 s6 _ _ _ _ _ _ _ _=>⟨s5,s6,by simp[bA,Cs.new,kD]⟩
 |x::xs=>fun R M s5 s6 hx X lr rl rw_' ml h5 h6=>by
  have lt:=K.jd n S (hx x QYz)
  have hx':=fun y hy=>hx y (QYq _ hy)
  have tt:bD (.name 5) x [.val C.n,.val C.t,.val (ao s),.bor (.sdt (kD R) (vD R)),.own (.lst M),s5,s6]=some [.val C.n,.val C.t,.val (ao s),.bor (.sdt (kD R) (vD R)),.own (.lst M),.val x,s6]:=by
   rcases h5 with rfl|⟨d,rfl⟩<;>simp[bD,cD]
  rw[bA,tt]
  simp only[Cs.new]
  have c6:∀d,p7 6 [.val C.n,.val C.t,.val (ao s),.bor (.sdt (kD R) (vD R)),.own (.lst M),.val x,s6] (.val d) (some s6)=some [.val C.n,.val C.t,.val (ao s),.bor (.sdt (kD R) (vD R)),.own (.lst M),.val x,.val d]:=fun d=>by
   rcases h6 with rfl|⟨d,rfl⟩<;>simp
  cases e:C.led s x with
  |none=>
   rw[e]at lt
   have go:ex (pg.cf (n+3)) Uu [.val C.n,.val C.t,.val (ao s),.bor (.sdt (kD R) (vD R)),.own (.lst M),.val x,s6]=.next [.val C.n,.val C.t,.val (ao s),.bor (.sdt (kD R) (vD R)),.own (.lst M),.val x,.val .non]:=by
    simp[Uu,lt,c6,dY]
   simp only[go]
   exact Ew n K S xs R M _ _ hx' X lr rl rw_' ml (.inr ⟨_,rfl⟩) (.inr ⟨_,rfl⟩)
  |some t=>
   rw[e]at lt
   have ni:=Et t R
   by_cases ht:t∈R.map (·.1)
   ·have go:ex (pg.cf (n+3)) Uu [.val C.n,.val C.t,.val (ao s),.bor (.sdt (kD R) (vD R)),.own (.lst M),.val x,s6]=.next [.val C.n,.val C.t,.val (ao s),.bor (.sdt (kD R) (vD R)),.own (.lst M),.val x,.val (ao t)]:=by
     rw[QFq ht]at ni
     simp[Uu,lt,c6,dY,gf,ni,Ob.d]
    simp only[go,if_pos ht]
    exact Ew n K S xs R M _ _ hx' X lr rl rw_' ml (.inr ⟨_,rfl⟩) (.inr ⟨_,rfl⟩)
   ·have rb:=X.jO K
    have f1:fits (r.length+1)=true:=by simp[fits];omega
    have f2:fits (M.length+1)=true:=by simp[fits];omega
    have go:ex (pg.cf (n+3)) Uu [.val C.n,.val C.t,.val (ao s),.bor (.sdt (kD R) (vD R)),.own (.lst M),.val x,s6]=.next [.val C.n,.val C.t,.val (ao s),.bor (.sdt (kD (R++[(t,r++[x])])) (vD (R++[(t,r++[x])]))),.own (.lst (M++[ao t])),.val x,.val (ao t)]:=by
     rw[QEz ht]at ni
     simp[Uu,lt,c6,dY,gf,ni,Ob.d,MK lr,aO,f1,Up (r:=r++[x]) ht (by omega),f2,wI,di]
    simp only[go,if_neg ht]
    obtain⟨a,b,z⟩:=Ew n K S xs _ (M++[ao t]) _ _ hx' (BJ X (K.Ls S e) (by simp;omega) ht (Aj rw_' ((K.sub S).subset (hx x QYz)))) (Ff _ lr) (by simp;omega) rw_' (by simp;omega) (.inr ⟨_,rfl⟩) (.inr ⟨_,rfl⟩)
    refine⟨a,b,?_⟩
    rw[show(Fl.next [.val C.n,.val C.t,.val _,.bor _,.own _,.val x,.val _]).turn _=_ from z]
    simp only[QLq,QLz,List.nil_append]
    rfl
def za n(K:C.Ok)(X:C.Ro R){k:Nat}{s:St}(e:R[k]? =some (s,r)):
  pg.fn (n+6) 27 [.val C.n,.val C.t,.val (ao s),.bor (.sdt (kD R) (vD R))]=.ok (.new (.lst (kD (C.new s r (C.st s) R)))) [.val C.n,.val C.t,.val (ao s),.bor (.sdt (kD (R++C.new s r (C.st s) R)) (vD (R++C.new s r (C.st s) R)))]:=by
 have m:=QBz e
 have S:=X.ok _ m
 obtain⟨a,b,z⟩:=Ew (n+2) K S _ R [] .un .un (fun x hx=>hx) X (wL X.nd e) (X.le _ m) (X.wr _ m) (QIq _) (.inl rfl) (.inl rfl)
 have hb:jW=⟨4,7,(.cons _ (.cons (.for_ _ _ Uu) _))⟩:=rfl
 rw[yG,hb]
 simp[aO,K.dW n S,items,z,Ob.d]
def Gm x xs:cut (x::xs) (some 1) none=xs:=by
 have a:clip (xs.length+1) 1=1:=by
  unfold clip
  simp
  intro z
  omega
 simp[cut,a]
def xR x xs:at? (x::xs) 0=some x:=by
 simp
end
end Tx
end
section
open PySem Mini
namespace Tx
section
variable{C:Cs}
def Ry:S:=(.cons ABw (.cons (.ite (.and (.cons ACy ABR)) ABS .nil) .nil))
def Vg{R:Rs}{k:Nat}{s:St}{r:List D}(e:R[k]? =some (s,r)):at? (kD R) (k:Int)=some (ao s):=by
 have l:k<R.length:=(QCz.mp e).1
 rw[iw _ _ (by rw[je];exact l)]
 simp[kD,e]
theorem Fi(n:Nat)(K:C.Ok){k:Nat}{s:St}(S:C.S s){r:List D}:∀(xs:List D)(R:Rs)(s5 s6:Sl),(∀x∈xs,x∈C.nm)->C.Ro R->R[k]? =some (s,r)->bL s5->bL s6->∃s5' s6',bL s5'/\bL s6'/\
  bA (.name 5) (ex (pg.cf (n+2)) Ry) xs [.val C.n,.val C.t,.own (.lst (kD R)),.own (.sdt (kD R) (vD R)),.val (.int k),s5,s6]=.next [.val C.n,.val C.t,.own (.lst (kD (R++C.new s r xs R))),.own (.sdt (kD (R++C.new s r xs R)) (vD (R++C.new s r xs R))),.val (.int k),s5',s6']
 |[]=>fun R s5 s6 _ _ _ h5 h6=>⟨s5,s6,h5,h6,by simp[bA,Cs.new]⟩
 |x::xs=>fun R s5 s6 hx X er h5 h6=>by
  have ld:=K.wR n S (bF C.h C.g x (hx x QYz))
  have hx':∀y∈xs,y∈C.nm:=fun y hy=>hx y (QYq _ hy)
  have ak:=Vg er
  have lr:=wL X.nd er
  have rl:=X.le _ (QBz er)
  have tt:bD (.name 5) x [.val C.n,.val C.t,.own (.lst (kD R)),.own (.sdt (kD R) (vD R)),.val (.int k),s5,s6]=some [.val C.n,.val C.t,.own (.lst (kD R)),.own (.sdt (kD R) (vD R)),.val (.int k),.val x,s6]:=by
   rcases h5 with rfl|⟨d,rfl⟩<;>simp[bD,cD]
  rw[bA,tt]
  simp only[Cs.new]
  have c6:∀d,p7 6 [.val C.n,.val C.t,.own (.lst (kD R)),.own (.sdt (kD R) (vD R)),.val (.int k),.val x,s6] (.val d) (some s6)=some [.val C.n,.val C.t,.own (.lst (kD R)),.own (.sdt (kD R) (vD R)),.val (.int k),.val x,.val d]:=fun d=>by
   rcases h6 with rfl|⟨d,rfl⟩<;>simp
  cases e:C.led s x with
  |none=>
   rw[e]at ld
   have go:ex (pg.cf (n+2)) Ry [.val C.n,.val C.t,.own (.lst (kD R)),.own (.sdt (kD R) (vD R)),.val (.int k),.val x,s6]=.next [.val C.n,.val C.t,.own (.lst (kD R)),.own (.sdt (kD R) (vD R)),.val (.int k),.val x,.val .non]:=by
    simp[Ry,ak,ld,c6,dY,Ob.d]
   simp only[go]
   exact Fi n K S xs R (.val x) (.val .non) hx' X er (.inr ⟨_,rfl⟩) (.inr ⟨_,rfl⟩)
  |some t=>
   rw[e]at ld
   have ni:=Et t R
   by_cases ht:t∈R.map (·.1)
   ·have go:ex (pg.cf (n+2)) Ry [.val C.n,.val C.t,.own (.lst (kD R)),.own (.sdt (kD R) (vD R)),.val (.int k),.val x,s6]=.next [.val C.n,.val C.t,.own (.lst (kD R)),.own (.sdt (kD R) (vD R)),.val (.int k),.val x,.val (ao t)]:=by
     rw[QFq ht]at ni
     simp[Ry,ak,ld,c6,dY,gf,ni,Ob.d]
    simp only[go,if_pos ht]
    exact Fi n K S xs R (.val x) (.val (ao t)) hx' X er (.inr ⟨_,rfl⟩) (.inr ⟨_,rfl⟩)
   ·have rb:=X.jO K
    have pr:=Up (t:=t) (r:=r++[x]) (R:=R) ht (by omega)
    have ge:=MK lr
    have f1:fits (r.length+1)=true:=by have:r.length<=R.length:=rl;simp[fits];omega
    have f2:fits ((kD R).length+1)=true:=by rw[je];simp[fits];omega
    have ka:kD R++[ao t]=kD (R++[(t,r++[x])]):=by rw[wV];rfl
    have go:ex (pg.cf (n+2)) Ry [.val C.n,.val C.t,.own (.lst (kD R)),.own (.sdt (kD R) (vD R)),.val (.int k),.val x,s6]=.next [.val C.n,.val C.t,.own (.lst (kD (R++[(t,r++[x])]))),.own (.sdt (kD (R++[(t,r++[x])])) (vD (R++[(t,r++[x])]))),.val (.int k),.val x,.val (ao t)]:=by
     rw[QEz ht]at ni
     simp[Ry,ak,ld,c6,dY,gf,ni,Ob.d,ge,aO,f1,pr,f2,wI,di,ka]
    simp only[go,if_neg ht]
    have er':(R++[(t,r++[x])])[k]? =some (s,r):=by
     rw[Qwz (QCz.mp er).1];exact er
    obtain⟨a,b,ha,hb,z⟩:=Fi n K S (r:=r) xs (R++[(t,r++[x])]) (.val x) (.val (ao t)) hx' (BJ X (K.Ls S e) (by have:r.length<=R.length:=rl;simp;omega) ht (Aj (X.wr _ (QBz er)) (hx x QYz))) er' (.inr ⟨_,rfl⟩) (.inr ⟨_,rfl⟩)
    refine⟨a,b,ha,hb,?_⟩
    rw[show(Fl.next [.val C.n,.val C.t,.own (.lst (kD (R++[(t,r++[x])]))),.own (.sdt (kD (R++[(t,r++[x])])) (vD (R++[(t,r++[x])]))),.val (.int k),.val x,.val (ao t)]).turn (bA (.name 5) (ex (pg.cf (n+2)) Ry) xs)=_ from z]
    simp only[QLq,QLz,List.nil_append]
def Xl:E:=(.cmp .lt (.var 4) ABO)
def Zv:S:=(.cons (.for_ (.name 5) ACJ Ry) ADM)
theorem Ux(n:Nat)(K:C.Ok):∀(f k:Nat)(R:Rs)(s5 s6:Sl),C.Ro R->k<=R.length->512<f+k->bL s5->bL s6->∃s4' s5' s6',
  bQ (ev (pg.cf (n+4)) Xl) (ex (pg.cf (n+4)) Zv) f [.val C.n,.val C.t,.own (.lst (kD R)),.own (.sdt (kD R) (vD R)),.val (.int k),s5,s6]=.next [.val C.n,.val C.t,.own (.lst (kD (C.ir f k R))),.own (.sdt (kD (C.ir f k R)) (vD (C.ir f k R))),s4',s5',s6']
 |0=>fun k R _ _ X hk hf _ _=>by have:=X.jO K;omega
 |f+1=>fun k R s5 s6 X hk hf h5 h6=>by
  have rb:=X.jO K
  have l:=je R
  by_cases c:k<R.length
  ·obtain⟨p,e⟩:∃p,R[k]? =some p:=⟨_,QXq c⟩
   obtain⟨s,r⟩:=p
   have m:=QBz e
   have S:=X.ok _ m
   have st:=K.oV n S
   have ak:=Vg e
   obtain⟨a,b,ha,hb,z⟩:=Fi (n+2) K S (C.st s) R s5 s6 (fun x hx=>(K.sub S).subset hx) X e h5 h6
   have X':=jM K S (X.wr _ m) (C.st s) (fun x hx=>(K.sub S).subset hx) X (X.le _ m)
   obtain⟨q4,q5,q6,zz⟩:=Ux n K f (k+1) _ a b X' (by simp;omega) (by omega) ha hb
   refine⟨q4,q5,q6,?_⟩
   have go:ex (pg.cf (n+4)) Zv [.val C.n,.val C.t,.own (.lst (kD R)),.own (.sdt (kD R) (vD R)),.val (.int k),s5,s6]=.next [.val C.n,.val C.t,.own (.lst (kD (R++C.new s r (C.st s) R))),.own (.sdt (kD (R++C.new s r (C.st s) R)) (vD (R++C.new s r (C.st s) R))),.val (.int ((k+1:Nat):Int)),a,b]:=by
    simp[Zv,ak,st,Ob.d,items,z]
   have lt:(k:Int)< (R.length:Int):=by omega
   have te:ev (pg.cf (n+4)) Xl [.val C.n,.val C.t,.own (.lst (kD R)),.own (.sdt (kD R) (vD R)),.val (.int k),s5,s6]=.ok (.val (.bl true)) [.val C.n,.val C.t,.own (.lst (kD R)),.own (.sdt (kD R) (vD R)),.val (.int k),s5,s6]:=by
    simp[Xl,Ob.d,l,c]
   rw[bQ,te]
   simp only[Cs.ir,e]
   refine Eq.trans ?_ zz
   show(ex (pg.cf (n+4)) Zv _).turn _=_
   rw[go]
   rfl
  ·have ge:R[k]? =none:=List.getElem?_eq_none (by omega)
   have te:ev (pg.cf (n+4)) Xl [.val C.n,.val C.t,.own (.lst (kD R)),.own (.sdt (kD R) (vD R)),.val (.int k),s5,s6]=.ok (.val (.bl false)) [.val C.n,.val C.t,.own (.lst (kD R)),.own (.sdt (kD R) (vD R)),.val (.int k),s5,s6]:=by
    simp[Xl,Ob.d,l]
    omega
   refine⟨.val (.int k),s5,s6,?_⟩
   rw[bQ,te,Cs.ir,ge]
   rfl
def uw(n:Nat)(K:C.Ok):
  pg.fn (n+5) 53 [.val C.n,.val C.t]=.ok (.val (.tup [.lst (kD (C.ir 1000 0 (R0 C.ls))),.fQ (kD (C.ir 1000 0 (R0 C.ls))) (vD (C.ir 1000 0 (R0 C.ls)))])) [.val C.n,.val C.t]:=by
 obtain⟨a,b,c,z⟩:=Ux n K 1000 0 (R0 C.ls) .un .un (vY K) (QIq _) (by omega) (.inl rfl) (.inl rfl)
 have n2:=zb (C:=C)
 have k1:kD (R0 C.ls)=[ao (sI C.ls)]:=rfl
 have v1:vD (R0 C.ls)=[.lst []]:=rfl
 rw[k1,v1]at z
 have z':bQ (ev (pg.cf (n+4)) Xl) (ex (pg.cf (n+4)) Zv) 1000 [.val C.n,.val C.t,.own (.lst [ao (sI C.ls)]),.own (.sdt [ao (sI C.ls)] [.lst []]),.val (.int 0),.un,.un]=_:=z
 have tn:(pg.cf (n+4)).turns=1000:=rfl
 have ds:uA [ao (sI C.ls),.lst []]=some (.new (.sdt [ao (sI C.ls)] [.lst []])):=by
  have:CG [ao (sI C.ls),.lst []]=some (.new (.sdt [ao (sI C.ls)] [.lst []])):=by
   show(if ik (ao (sI C.ls))then _ else none)=_
   rw[dC];rfl
  unfold uA
  rw[this]
  rfl
 have se:D.tup [aF C.ls,.int 0]=ao (sI C.ls):=rfl
 have hb:jn=⟨2,7,(.cons ACq (.cons (.set 3 (.dsp (.cons AAi AAo))) (.cons (.set 4 AAH) (.cons (.while_ Xl Zv) (.cons (.ret (.tup AAx)) .nil)))))⟩:=rfl
 rw[wy,hb]
 simp[n2,aO,se,ds,Ob.d,tn,z']
end
end Tx
end
section
open PySem Mini
namespace Tx
section
variable{C:Cs}
def rP(t:∀x∈xs,x∈C.nm):fK xs=true/\eU xs=0:=by
 have ok:∀s∈Ut 3 5,sOk s=true:=by decide+kernel
 induction xs with
 |nil=>exact⟨rfl,rfl⟩
 |cons x xs ih=>
  have m:=t x QYz
  rw[Cs.nm,m7]at m
  obtain⟨s,hs,rfl⟩:=QDq.mp m
  have i:=ih fun y hy=>t y (QYq _ hy)
  exact⟨by simp[fK,nd,ok s (Ex hs),i.1],by simp[eU,dep,i.2]⟩
end
mutual
theorem xm:∀d:D,nd d=true->dR d d=true
 |.non=>fun _=>rfl
 |.bl b=>fun _=>by cases b<;>rfl
 |.int i=>fun _=>by simp[dR]
 |.str s=>fun _=>by simp[dR]
 |.tup xs=>fun h=>by simpa[dR]using tu xs h
 |.lst xs=>fun h=>by simpa[dR]using tu xs h
 |.cG _ _=>fun h=>by simp[nd]at h
 |.fQ _ _=>fun h=>by simp[nd]at h
theorem tu:∀xs:List D,fK xs=true->jR xs xs=true
 |[]=>fun _=>rfl
 |x::xs=>fun h=>by
  simp only[fK,QUq]at h
  simp[jR,xm x h.1,tu xs h.2]
end
def Vb(h:nd d=true/\dep d<=50):aJ .eq d d=some true/\aJ .ne d d=some false:=by
 have o:mq d d=true:=by simp[mq,h.1,h.2]
 constructor
 ·show(if mq d d then some _ else none)=_
  rw[xm _ h.1,o];rfl
 ·show(if mq d d then some _ else none)=_
  rw[xm _ h.1,o];rfl
def oh s:nd (ao s)=true/\dep (ao s)<=2:=by
 have a:∀bs:List Bool,fK (bs.map .bl)=true/\eU (bs.map .bl)=0:=fun bs=>by
  induction bs with
  |nil=>exact⟨rfl,rfl⟩
  |cons b bs ih=>exact⟨by simp[fK,nd,ih.1],by simp[eU,dep,ih.2]⟩
 obtain⟨a,b⟩:=a s.1
 constructor
 ·simp[ao,aF,nd,fK,a]
 ·simp[ao,aF,dep,eU,b]
theorem Lf:∀R:Rs,fK (kD R)=true/\eU (kD R)<=2
 |[]=>⟨rfl,by simp[kD,eU]⟩
 |p::R=>by
  have:=Lf R
  simp only[kD]at this
  have q:=oh p.1
  exact⟨by simp[kD,fK,q.1,this.1],by simp[kD,eU];omega⟩
end Tx
end
section
open PySem Mini
namespace Tx
section
variable{C:Cs}
def Cs.gone(C:Cs)(s t:St)(x:D):List D:=(C.W s.1).filter fun y=> !aL y (C.W t.1++[x])
def GQ(r:List D):List D->D
 |[]=>.non
 |y::_=>.tup [.str "taken",.lst r,y]
noncomputable def Cs.sf(C:Cs)(s:St)(r:List D)(x:D):D:=
 match C.led s x with
 |none=>.tup [.str "unasked",.lst r]
 |some t=>GQ r (C.gone s t x)
def eF(f:D->D):List D->D
 |[]=>.non
 |x::xs=>if bf (f x)then eF f xs else f x
def wG(os:List D)(st:List (D×Nat)):Bool:=st.any fun m=>aL m.1 os
noncomputable def Cs.flt(C:Cs)(s:St)(r:List D):D:=
 if (C.st s).isEmpty then(if wG C.os (bC C.sts s.2)then .tup [.str "stuck",.lst r]else .non)else eF (fun x=>C.sf s (r++[x]) x) (C.st s)
def Gx(s:Sl):Prop:=s=.un\/(∃d,s=.val d)\/∃o,s=.own o
def uZ{xs:List D}(t:cJ xs):aJ .notin (.str q) (.lst xs)=some (!aL (.str q) xs):=by
 have o:dO (.str q) xs=true:=by unfold dO;rw[lC t];rfl
 show(if dO _ xs then some _ else none)=_;rw[o];rfl
def U9:S:=(.cons (.ite ACG ACR .nil) .nil)
def RL u q ws:aL (.str u) (ws++[.str q])=(aL (.str u) ws||decide (u=q)):=by
 rw[vG]
 congr 1
 simp[aL,dR]
 by_cases e:u=q
 ·simp[e]
 ·simp[e]
  exact fun z=>e z.symm
theorem U8(c:Cf)(a b e:Sl)(q:Str)(r:List D){ws:List D}(tw:cJ ws):∀(xs:List D)(s6:Sl),cJ xs->bL s6->∃s6',
  bA (.name 6) (ex c U9) xs [a,b,e,.val (.str q),.val (.lst r),.own (.lst ws),s6]=match xs.filter (fun y=> !aL y (ws++[.str q]))with
   |[]=>.next [a,b,e,.val (.str q),.val (.lst r),.own (.lst ws),s6']
   |y::ys=>.ret (.val (GQ r (y::ys))) [a,b,e,.val (.str q),.val (.lst r),.own (.lst ws),s6']
 |[]=>fun s6 _ _=>⟨s6,rfl⟩
 |x::xs=>fun s6 t h6=>by
  obtain⟨u,rfl⟩:=t x QYz
  have tt:bD (.name 6) (.str u) [a,b,e,.val (.str q),.val (.lst r),.own (.lst ws),s6]=some [a,b,e,.val (.str q),.val (.lst r),.own (.lst ws),.val (.str u)]:=by
   rcases h6 with rfl|⟨d,rfl⟩<;>simp[bD,cD]
  obtain⟨s6',z⟩:=U8 c a b e q r tw xs _ (fun y hy=>t y (QYq _ hy)) (.inr ⟨_,rfl⟩)
  have ni:=uZ (q:=u) tw
  rw[bA,tt,List.filter_cons,RL]
  cases c1:aL _ ws with
  |true=>
   refine⟨s6',?_⟩
   rw[c1]at ni
   have go:ex c U9 [a,b,e,.val (.str q),.val (.lst r),.own (.lst ws),.val (.str u)]=.next [a,b,e,.val (.str q),.val (.lst r),.own (.lst ws),.val (.str u)]:=by
    by_cases cq:u=q<;>simp[U9,cq,ni,Ob.d]
   simp only[go]
   exact z
  |false=>
   rw[c1]at ni
   by_cases cq:u=q
   ·refine⟨s6',?_⟩
    have go:ex c U9 [a,b,e,.val (.str q),.val (.lst r),.own (.lst ws),.val (.str u)]=.next [a,b,e,.val (.str q),.val (.lst r),.own (.lst ws),.val (.str u)]:=by
     simp[U9,cq]
    simp only[go,QFq cq]
    exact z
   ·refine⟨.val (.str u),?_⟩
    have go:ex c U9 [a,b,e,.val (.str q),.val (.lst r),.own (.lst ws),.val (.str u)]=.ret (.val (.tup [.str "taken",.lst r,.str u])) [a,b,e,.val (.str q),.val (.lst r),.own (.lst ws),.val (.str u)]:=by
     simp[U9,cq,ni,Ob.d,aO]
    simp only[go,QEz cq]
    rfl
theorem Yy n(K:C.Ok)(S:C.S s)(hx:x∈C.st s)r:
  pg.fn (n+5) 34 [.val C.n,.val C.t,.val (ao s),.val x,.val (.lst r)]=.ok (.val (C.sf s r x)) [.val C.n,.val C.t,.val (ao s),.val x,.val (.lst r)]:=by
 have lt:=K.jd (n+1) S hx
 obtain⟨q,rfl⟩:=bF C.h C.g x ((K.sub S).subset hx)
 have u:=K.unasked (n+3) S hx
 have s0:=JM s
 have hb:fM=⟨5,7,(.cons _ (.cons _ (.cons (.for_ _ _ U9) _)))⟩:=rfl
 rw[qb,hb]
 unfold Cs.sf
 cases e:C.led s _ with
 |none=>
  rw[e]at u
  simp[u,aO]
 |some t=>
  rw[e]at u lt
  have St:=K.Ls S e
  have w1:=K.wpr n St
  have w2:=K.wpr n S
  have t0:=JM t
  obtain⟨s6,z⟩:=U8 (pg.cf (n+4)) (.val C.n) (.val C.t) (.val (ao s)) q r (K.wtx St) _ .un (K.wtx S) (.inl rfl)
  show _=Res.ok (.val (GQ r ((C.W s.1).filter fun y=> !aL y _))) _
  cases hf:(C.W s.1).filter _ with
  |nil=>
   rw[hf]at z
   simp[u,lt,dY,t0,w1,w2,s0,Ob.d,items,z,GQ]
  |cons y ys=>
   rw[hf]at z
   simp[u,lt,dY,t0,w1,w2,s0,Ob.d,items,z]
def hoC:E:=.comp 1 (.name 0) (.idx AAc AAj) AAL ACl
theorem Cg n(K:C.Ok)(S:C.S s):
  pg.fn (n+1) 33 [.val C.t,.val (ao s)]=.ok (.val (.bl (wG C.os (bC C.sts s.2)))) [.val C.t,.val (ao s)]:=by
 have st:=lR S.j
 have e:=nJ (c:=pg.cf n) (it:=.idx AAc AAj) (el:=.cmp .isin AAb AAv) (σ:=[.val C.t,.val (ao s)]) (τ:=[.val C.t,.val (ao s)]) (r:=.val (fH (bC C.sts s.2))) (fun d=>match d with|.tup (a::_)=>.bl (aL a C.os)|_=>.non) (by simp[uI (C:=C),Wd s,st]) rfl rfl (fun x hx=>by
  obtain⟨m,hm,rfl⟩:=QDq.mp hx
  obtain⟨q,eq⟩:=(fW K.t K.o S.j).1 m.1 (QTz hm)
  simp[kO,JC (C:=C),eq,(gw (q:=q) (kI K.t)).2.1])
 have e':ev (pg.cf n) hoC [.val C.t,.val (ao s)]=.ok (.new (.lst ((bC C.sts s.2).map fun m=>.bl (aL m.1 C.os)))) [.val C.t,.val (ao s)]:=by
  rw[List.map_map]at e
  exact e
 have bs:∀st:List (D×Nat),bools (st.map fun m=>D.bl (aL m.1 C.os))=some (st.map fun m=>aL m.1 C.os):=fun st=>by
  induction st with
  |nil=>rfl
  |cons m st ih=>simp only[Qyz,bools,ih,Option.map_some]
 have ba:b1 .any (.lst ((bC C.sts s.2).map fun m=>D.bl (aL m.1 C.os)))=some (.val (.bl (wG C.os (bC C.sts s.2)))):=by
  show(bools _).map _=_
  rw[bs]
  simp[wG,List.any_map]
 have hb:pB=⟨2,2,(.cons (.ret (.bi .any hoC)) .nil)⟩:=rfl
 have q:hoC.aB=none:=rfl
 rw[Hm,hb]
 simp[q,e',Ob.d,ba]
def ZP:S:=(.cons ABi (.cons (.ite ACy (.cons (.ret (.var 6)) .nil) .nil) .nil))
theorem Va(n:Nat)(K:C.Ok){s:St}(S:C.S s){r:List D}(hr:r.length<=512)(a4:Sl):∀(xs:List D)(s5 s6:Sl),(∀x∈xs,x∈C.st s)->bL s5->bL s6->∃s5' s6',
  bA (.name 5) (ex (pg.cf (n+5)) ZP) xs [.val C.n,.val C.t,.val (ao s),.val (.lst r),a4,s5,s6]=if bf (eF (fun x=>C.sf s (r++[x]) x) xs)then .next [.val C.n,.val C.t,.val (ao s),.val (.lst r),a4,s5',s6']
   else .ret (.val (eF (fun x=>C.sf s (r++[x]) x) xs)) [.val C.n,.val C.t,.val (ao s),.val (.lst r),a4,s5',s6']
 |[]=>fun s5 s6 _ _ _=>⟨s5,s6,rfl⟩
 |x::xs=>fun s5 s6 hx h5 h6=>by
  have fo:=Yy n K S (hx x QYz) (r++[x])
  have f1:fits (r.length+1)=true:=by simp[fits];omega
  have tt:bD (.name 5) x [.val C.n,.val C.t,.val (ao s),.val (.lst r),a4,s5,s6]=some [.val C.n,.val C.t,.val (ao s),.val (.lst r),a4,.val x,s6]:=by
   rcases h5 with rfl|⟨d,rfl⟩<;>simp[bD,cD]
  have c6:∀d,p7 6 [.val C.n,.val C.t,.val (ao s),.val (.lst r),a4,.val x,s6] (.val d) (some s6)=some [.val C.n,.val C.t,.val (ao s),.val (.lst r),a4,.val x,.val d]:=fun d=>by
   rcases h6 with rfl|⟨d,rfl⟩<;>simp
  rw[bA,tt]
  simp only[eF]
  cases e:bf (C.sf s _ x)with
  |true=>
   have en:C.sf s (r++[x]) x=.non:=by
    cases he:C.sf s _ x<;>first|rfl|(rw[he]at e;cases e)
   rw[en]at fo
   have go:ex (pg.cf (n+5)) ZP [.val C.n,.val C.t,.val (ao s),.val (.lst r),a4,.val x,s6]=.next [.val C.n,.val C.t,.val (ao s),.val (.lst r),a4,.val x,.val .non]:=by
    simp[ZP,aO,Ob.d,f1,fo,c6]
   simp only[go,if_true]
   exact Va n K S hr a4 xs _ _ (fun y hy=>hx y (QYq _ hy)) (.inr ⟨_,rfl⟩) (.inr ⟨_,rfl⟩)
  |false=>
   refine⟨.val x,.val (C.sf s (r++[x]) x),?_⟩
   have go:ex (pg.cf (n+5)) ZP [.val C.n,.val C.t,.val (ao s),.val (.lst r),a4,.val x,s6]=.ret (.val (C.sf s (r++[x]) x)) [.val C.n,.val C.t,.val (ao s),.val (.lst r),a4,.val x,.val (C.sf s (r++[x]) x)]:=by
    simp[ZP,aO,Ob.d,f1,fo,c6,e]
   simp only[go,Qxq,if_false,e]
   rfl
theorem pU n(K:C.Ok)(S:C.S s)(hr:r.length<=512):
  pg.fn (n+6) 32 [.val C.n,.val C.t,.val (ao s),.val (.lst r)]=.ok (.val (C.flt s r)) [.val C.n,.val C.t,.val (ao s),.val (.lst r)]:=by
 have st:=K.dW n S
 have ho:=Cg (n+4) K S
 obtain⟨a,b,z⟩:=Va n K S hr (.val (.lst (C.st s))) _ .un .un (fun x hx=>hx) (.inl rfl) (.inl rfl)
 have hb:mK=⟨4,7,(.cons _ (.cons _ (.cons (.for_ _ _ ZP) _)))⟩:=rfl
 rw[Bs,hb]
 unfold Cs.flt
 cases c:(C.st s).isEmpty with
 |true=>
  cases co:wG C.os _ with
  |true=>
   rw[co]at ho
   simp[st,Ob.d,c,ho,aO]
  |false=>
   rw[co]at ho
   simp[st,Ob.d,ho,List.isEmpty_iff.mp c,items,bA]
 |false=>
  cases cn:bf (eF _ _)with
  |true=>
   have en:eF (fun x=>C.sf s (r++[x]) x) (C.st s)=.non:=by
    cases he:eF _ _<;>first|rfl|(rw[he]at cn;cases cn)
   rw[cn,if_pos rfl]at z
   rw[en]
   simp[st,Ob.d,c,items,z]
  |false=>
   rw[cn,if_neg (by simp)]at z
   simp[st,Ob.d,c,items,z]
end
end Tx
end
section
open PySem Mini
namespace Tx
section
variable{C:Cs}
def BP(e:bf d=true):d=.non:=by
 cases d<;>first|rfl|cases e
theorem xO:∀(f k:Nat)(R:Rs),∃Z,C.ir f k R=R++Z
 |0=>fun _ R=>⟨[],by simp[Cs.ir]⟩
 |f+1=>fun k R=>by
  rw[Cs.ir]
  split
  ·exact⟨[],by simp⟩
  ·rename_i p e
   obtain⟨Z,z⟩:=xO f _ _
   exact⟨_,by rw[z,QLq]⟩
def Cs.ff(C:Cs):Rs->D
 |[]=>.non
 |p::R=>if bf (C.flt p.1 p.2)then C.ff R else C.flt p.1 p.2
def ZM:S:=(.cons ABq (.cons (.ite (.cmp .notN (.var 4) ABj) ACn .nil) AAe))
theorem U7(n:Nat)(K:C.Ok):∀(f k:Nat)(R:Rs)(s4:Sl),C.Ro R->k<=R.length->512<f+k->bL s4->∃a b c,
  bQ (ev (pg.cf (n+6)) (.var 3)) (ex (pg.cf (n+6)) ZM) f [.val C.n,.val C.t,.own (.sdt (kD R) (vD R)),.own (.lst (kD (R.drop k))),s4]=
   if bf (C.ff ((C.ir f k R).drop k))then .next [.val C.n,.val C.t,a,b,c]else .ret (.val (C.ff ((C.ir f k R).drop k))) [.val C.n,.val C.t,a,b,c]
 |0=>fun k R _ X hk hf _=>by have:=X.jO K;omega
 |f+1=>fun k R s4 X hk hf h4=>by
  by_cases c:k<R.length
  ·obtain⟨p,e⟩:∃p,R[k]? =some p:=⟨_,QXq c⟩
   obtain⟨s,r⟩:=p
   have m:=QBz e
   have S:=X.ok _ m
   have fa:=pU n K S (Nat.le_trans (X.le _ m) (X.jO K))
   have ge:=MK (wL X.nd e)
   have dr:kD (R.drop k)=ao s::kD (R.drop (k+1)):=by
    rw[List.drop_eq_getElem_cons c]
    rw[QXq c]at e
    simp only[Option.some.injEq]at e
    simp[kD,e]
   have X':=jM K S (X.wr _ m) _ (fun x hx=>(K.sub S).subset hx) X (X.le _ m)
   have rb':=X'.jO K
   simp only[QTq]at rb'
   have fi:fits ((kD (R.drop (k+1))).length+(kD (C.new s r (C.st s) R)).length)=true:=by
    rw[je,je,List.length_drop];simp[fits];omega
   have az:=xR (ao s) (kD (R.drop (k+1)))
   have c4:∀d,p7 4 [.val C.n,.val C.t,.own (.sdt (kD R) (vD R)),.val (.lst (ao s::kD (R.drop (k+1)))),s4] (.val d) (some s4)=some [.val C.n,.val C.t,.own (.sdt (kD R) (vD R)),.val (.lst (ao s::kD (R.drop (k+1)))),.val d]:=fun d=>by
    rcases h4 with rfl|⟨d,rfl⟩<;>simp
   have bd:(C.ir (f+1) k R).drop k=(s,r)::(C.ir f (k+1) (R++C.new s r (C.st s) R)).drop (k+1):=by
    have b1:C.ir (f+1) k R=C.ir f (k+1) (R++C.new s r (C.st s) R):=by simp only[Cs.ir,e]
    obtain⟨Z,z⟩:=xO f _ _
    rw[b1,z,QLq,List.drop_eq_getElem_cons (by simp;omega),List.getElem_append_left c]
    rw[QXq c]at e
    simp only[Option.some.injEq]at e
    rw[e]
   rw[bd,dr,bQ]
   simp only[Cs.ff,af6,J4]
   cases cn:bf (C.flt s r)with
   |true=>
    have dd:kD ((R++C.new s r (C.st s) R).drop (k+1))=kD (R.drop (k+1))++kD (C.new s r (C.st s) R):=by
     rw[List.drop_append_of_le_length (by omega),wV]
    rw[BP cn]at fa
    have go:ex (pg.cf (n+6)) ZM [.val C.n,.val C.t,.own (.sdt (kD R) (vD R)),.val (.lst (ao s::kD (R.drop (k+1)))),s4]=.next [.val C.n,.val C.t,.own (.sdt (kD (R++C.new s r (C.st s) R)) (vD (R++C.new s r (C.st s) R))),.own (.lst (kD ((R++C.new s r (C.st s) R).drop (k+1)))),.val .non]:=by
     rw[dd]
     simp[ZM,cH,E.jx,dX,Gm,az,za n K X e,fi,Ob.d,ge,fa,c4]
    obtain⟨a,b,c',z⟩:=U7 n K f (k+1) _ _ X' (by simp;omega) (by omega) (.inr ⟨_,rfl⟩)
    refine⟨a,b,c',?_⟩
    simp only[if_true]
    rw[<-z]
    simp[Ob.d,go,Out.Ag]
    rfl
   |false=>
    have go:ex (pg.cf (n+6)) ZM [.val C.n,.val C.t,.own (.sdt (kD R) (vD R)),.val (.lst (ao s::kD (R.drop (k+1)))),s4]=.ret (.val (C.flt s r)) [.val C.n,.val C.t,.own (.sdt (kD R) (vD R)),.val (.lst (ao s::kD (R.drop (k+1)))),.val (C.flt s r)]:=by
     simp[ZM,az,Ob.d,ge,fa,c4,cn]
    refine⟨.own (.sdt (kD R) (vD R)),.val (.lst (ao s::kD (R.drop (k+1)))),.val (C.flt s r),?_⟩
    simp[Ob.d,go,Out.Ag,cn]
    rfl
  ·have dk:R.drop k=[]:=List.drop_eq_nil_of_le (by omega)
   refine⟨.own (.sdt (kD R) (vD R)),.val (.lst []),s4,?_⟩
   rw[bQ,Cs.ir,(List.getElem?_eq_none (by omega))]
   simp[kD,Ob.d,Out.Ag,dk,Cs.ff,bf]
   rfl
theorem M8 n(K:C.Ok):
  pg.fn (n+10) 28 [.val C.n,.val C.t]=.ok (.val (C.ff (C.ir 1000 0 (R0 C.ls)))) [.val C.n,.val C.t]:=by
 have c:=K.checked n
 have f:=sY (n+8) (C:=C)
 obtain⟨q1,q2,q3,z⟩:=U7 (n+3) K 1000 0 _ .un (vY K) (QIq _) (by omega) (.inl rfl)
 have k0:kD ((R0 C.ls).drop 0)=[ao _]:=rfl
 have k1:kD (R0 C.ls)=[ao _]:=rfl
 have v1:vD (R0 C.ls)=[.lst []]:=rfl
 rw[k0,k1,v1,List.drop_zero]at z
 have tn:(pg.cf (n+9)).turns=1000:=rfl
 have ds:uA [ao (sI C.ls),.lst []]=some (.new (.sdt [ao (sI C.ls)] [.lst []])):=by
  have:CG [ao (sI C.ls),.lst []]=some (.new (.sdt [ao (sI C.ls)] [.lst []])):=by
   show(if ik _ then _ else none)=_
   rw[dC];rfl
  unfold uA
  rw[this]
  rfl
 have hb:xQ=⟨2,5,(.cons _ (.cons _ (.cons _ (.cons (.while_ _ ZM) _))))⟩:=rfl
 have bl:∀ks vs:List D,b1 .list (.fQ ks vs)=some _:=fun _ _=>rfl
 rw[QJ,hb]
 generalize C.ff _=d at*
 cases cn:bf d with
 |true=>
  rw[cn,if_pos rfl]at z
  rw[BP cn]
  simp[c,f,aO,ds,bl,Ob.d,tn,z]
 |false=>
  rw[cn,if_neg (by simp)]at z
  simp[c,f,aO,ds,bl,Ob.d,tn,z]
end
end Tx
end
section
open PySem Mini
namespace Tx
section
variable{C:Cs}
def lH(a:fK xs=true)(b:eU xs<=49):aJ .ne (.lst xs) (.lst [])=some (!xs.isEmpty)/\aJ .eq (.lst xs) (.lst [])=some xs.isEmpty:=by
 have c:dR (.lst xs) (.lst [])=xs.isEmpty:=by cases xs<;>simp[dR,jR]
 have o:mq (.lst xs) (.lst [])=true:=by simp[mq,nd,fK,dep,a,b]
 constructor
 ·show(if mq _ _ then some _ else none)=_
  rw[c,o];rfl
 ·show(if mq _ _ then some _ else none)=_
  rw[c,o];rfl
def lgC:E:=.comp 1 (.name 0) (.call 50 AAs) (.cmp .notin (.var 0) (.var 8)) (.var 0)
noncomputable def UT:S:=(.cons (.set 6 (.call 52 AAy)) (.cons (.ite (.cmp .jx (.var 6) ABj) ACT .nil) (.cons ABv (.cons (.set 8 lgC) (.cons (.ite (.cmp .ne (.var 8) ABW) ABl .nil) .nil)))))
theorem UL(n:Nat)(K:C.Ok){s:St}(S:C.S s){r:List D}(hr:r.length<=512)(a4:Sl):∀(xs:List D)(s5 s6 s7 s8:Sl),(∀x∈xs,x∈C.nm)->Gx s5->Gx s6->Gx s7->Gx s8->∃s5' s6' s7' s8',
  bA (.name 5) (ex (pg.cf (n+3)) UT) xs [.val C.n,.val C.t,.val (ao s),.val (.lst r),a4,s5,s6,s7,s8]=if bf (eF (fun x=>C.sf s (r++[x]) x) xs)then .next [.val C.n,.val C.t,.val (ao s),.val (.lst r),a4,s5',s6',s7',s8']
   else .ret (.val (eF (fun x=>C.sf s (r++[x]) x) xs)) [.val C.n,.val C.t,.val (ao s),.val (.lst r),a4,s5',s6',s7',s8']
 |[]=>fun s5 s6 s7 s8 _ _ _ _ _=>⟨s5,s6,s7,s8,rfl⟩
 |x::xs=>fun s5 s6 s7 s8 hx h5 h6 h7 h8=>by
  have hn:=hx x QYz
  obtain⟨q,eq⟩:=bF C.h C.g x hn
  have ld:=K.wR (n+1) S (x:=x) ⟨q,eq⟩
  have f1:fits (r.length+1)=true:=by simp[fits];omega
  have s0:=JM s
  have tt:bD (.name 5) x [.val C.n,.val C.t,.val (ao s),.val (.lst r),a4,s5,s6,s7,s8]=some [.val C.n,.val C.t,.val (ao s),.val (.lst r),a4,.val x,s6,s7,s8]:=by
   rcases h5 with rfl|⟨d,rfl⟩|⟨d,rfl⟩<;>simp[bD,cD]
  have c6:∀d,p7 6 [.val C.n,.val C.t,.val (ao s),.val (.lst r),a4,.val x,s6,s7,s8] (.val d) (some s6)=some [.val C.n,.val C.t,.val (ao s),.val (.lst r),a4,.val x,.val d,s7,s8]:=fun d=>by
   rcases h6 with rfl|⟨d,rfl⟩|⟨d,rfl⟩<;>simp
  rw[bA,tt]
  simp only[eF]
  cases e:C.led s x with
  |none=>
   rw[e]at ld
   have sf:C.sf s (r++[x]) x=.tup [.str "unasked",.lst (r++[x])]:=by unfold Cs.sf;rw[e]
   refine⟨.val x,.val .non,s7,s8,?_⟩
   have go:ex (pg.cf (n+3)) UT [.val C.n,.val C.t,.val (ao s),.val (.lst r),a4,.val x,s6,s7,s8]=.ret (.val (.tup [.str "unasked",.lst (r++[x])])) [.val C.n,.val C.t,.val (ao s),.val (.lst r),a4,.val x,.val .non,s7,s8]:=by
    simp[UT,ld,dY,c6,aO,Ob.d,f1]
   simp only[go,sf]
   rfl
  |some t=>
   rw[e]at ld
   have St:=K.Ls S e
   have t0:=JM t
   have w1:=K.wlw n St
   have w2:=K.wlw n S
   have sf:C.sf s (r++[x]) x=GQ (r++[x]) (C.gone s t x):=by unfold Cs.sf;rw[e]
   have c7:∀(d:D)(o:Ob),p7 7 [.val C.n,.val C.t,.val (ao s),.val (.lst r),a4,.val x,.val d,s7,s8] (.own o) (some s7)=some [.val C.n,.val C.t,.val (ao s),.val (.lst r),a4,.val x,.val d,.own o,s8]:=fun d o=>by
    rcases h7 with rfl|⟨d,rfl⟩|⟨d,rfl⟩<;>simp
   have c8:∀(d:D)(o o2:Ob),p7 8 [.val C.n,.val C.t,.val (ao s),.val (.lst r),a4,.val x,.val d,.own o,s8] (.own o2) (some s8)=some [.val C.n,.val C.t,.val (ao s),.val (.lst r),a4,.val x,.val d,.own o,.own o2]:=fun d o o2=>by
    rcases h8 with rfl|⟨d,rfl⟩|⟨d,rfl⟩<;>simp
   have wsub:=(K.w.sub t.1 St.l).length_le
   have rl:=dj K.o.g5
   have g5:=K.o.g5
   have f2:fits ((C.W t.1).length+1)=true:=by simp[fits];omega
   have tx:cJ (C.W t.1++[x]):=fun y hy=>by
    rcases QXz.mp hy with z|z
    ·exact K.wtx St y z
    ·rw[QDz.mp z];exact⟨q,eq⟩
   have ec:ev (pg.cf (n+3)) lgC [.val C.n,.val C.t,.val (ao s),.val (.lst r),a4,.val x,.val (ao t),.own (.lst (C.W t.1++[x])),s8]=.ok (.new (.lst (C.gone s t x))) [.val C.n,.val C.t,.val (ao s),.val (.lst r),a4,.val x,.val (ao t),.own (.lst (C.W t.1++[x])),s8]:=by
    have:=jT (c:=pg.cf (n+3)) (it:=.call 50 AAs) (co:=.cmp .notin (.var 0) (.var 8)) (el:=.var 0) (σ:=[.val C.n,.val C.t,.val (ao s),.val (.lst r),a4,.val x,.val (ao t),.own (.lst (C.W t.1++[x])),s8]) (τ:=[.val C.n,.val C.t,.val (ao s),.val (.lst r),a4,.val x,.val (ao t),.own (.lst (C.W t.1++[x])),s8]) (d:=.lst (C.W s.1)) (xs:=C.W s.1) (r:=.new (.lst (C.W s.1))) (fun x=>x) (fun y=> !aL y (C.W t.1++[x])) (by simp[s0,w2]) rfl rfl (fun y hy=>by
     obtain⟨u,rfl⟩:=K.wtx S y hy
     have i:=uZ (q:=u) tx
     simp[i,Ob.d]) (fun x _ _=>by simp)
    rw[List.map_id']at this
    exact this
   have gs:∀y∈C.gone s t x,y∈C.nm:=fun y hy=>Bb.subset ((K.w.sub s.1 S.l).subset (List.mem_filter.mp hy).1)
   have nn:=rP gs
   have cn:=(lH nn.1 (by rw[nn.2];omega)).1
   cases hg:C.gone s t x with
   |nil=>
    rw[hg]at ec cn
    have go:ex (pg.cf (n+3)) UT [.val C.n,.val C.t,.val (ao s),.val (.lst r),a4,.val x,s6,s7,s8]=.next [.val C.n,.val C.t,.val (ao s),.val (.lst r),a4,.val x,.val (ao t),.own (.lst (C.W t.1++[x])),.val (.lst [])]:=by
     simp[UT,ld,dY,c6,gf,t0,w1,aO,Ob.d,f2,c7,ec,c8,cn]
    simp only[go,sf,hg]
    exact UL n K S hr a4 xs (.val x) (.val (ao t)) (.own (.lst (C.W t.1++[x]))) (.val (.lst [])) (fun y hy=>hx y (QYq _ hy)) (.inr (.inl ⟨_,rfl⟩)) (.inr (.inl ⟨_,rfl⟩)) (.inr (.inr ⟨_,rfl⟩)) (.inr (.inl ⟨_,rfl⟩))
   |cons y ys=>
    rw[hg]at ec cn
    have az:=xR y ys
    refine⟨.val x,.val (ao t),.own (.lst (C.W t.1++[x])),.val (.lst (y::ys)),?_⟩
    have go:ex (pg.cf (n+3)) UT [.val C.n,.val C.t,.val (ao s),.val (.lst r),a4,.val x,s6,s7,s8]=.ret (.val (.tup [.str "taken",.lst (r++[x]),y])) [.val C.n,.val C.t,.val (ao s),.val (.lst r),a4,.val x,.val (ao t),.own (.lst (C.W t.1++[x])),.val (.lst (y::ys))]:=by
     simp[UT,ld,dY,c6,gf,t0,w1,aO,Ob.d,f2,c7,ec,c8,cn,f1,az]
    simp only[go,sf,hg]
    rfl
def Zt(os:List D):D->Bool
 |.tup (a::_)=>aL a os
 |_=>false
def Rt os L(hL:∀m∈L,m.1∈C.nm):fK ((L.map kO).filter (Zt os))=true/\eU ((L.map kO).filter (Zt os))<=1/\((L.map kO).filter (Zt os)).isEmpty= !wG os L:=by
 induction L with
 |nil=>exact⟨rfl,QIq _,rfl⟩
 |cons m L ih=>
  have i:=ih fun y hy=>hL y (QYq _ hy)
  have hm:=rP fun y hy=>by rw[QDz.mp hy];exact hL m QYz
  simp only[fK,eU,Bool.and_true,Nat.max_zero]at hm
  rw[Qyz,List.filter_cons,show Zt os _=aL m.1 os from rfl]
  cases co:aL m.1 os with
  |true=>
   refine⟨?_,?_,?_⟩
   ·simp only[if_true,fK,i.1,Bool.and_true]
    simp[kO,nd,fK,hm.1]
   ·simp only[if_true,eU]
    have:dep (kO m)=1:=by simp[kO,dep,eU,hm.2]
    omega
   ·simp[wG,co]
  |false=>
   refine⟨i.1,i.2.1,?_⟩
   simp only[Qxq,if_false]
   rw[i.2.2]
   simp[wG,co]
def loC:E:=.comp 1 (.name 0) ACY (.cmp .isin AAb AAi) (.var 0)
theorem jw n(K:C.Ok)(S:C.S s)(hr:r.length<=512):
  pg.fn (n+5) 54 [.val C.n,.val C.t,.val (ao s),.val (.lst r)]=.ok (.val (C.flt s r)) [.val C.n,.val C.t,.val (ao s),.val (.lst r)]:=by
 have Ky:=fW K.t K.o S.j
 have st:=K.oV n S
 have sn:=rP fun x hx=>(K.sub S).subset hx
 have ce:=(lH sn.1 (by rw[sn.2];omega)).2
 have t0:=JC (C:=C)
 have t1:=uI (C:=C)
 have s1:=Wd s
 have sg:=lR S.j
 have hb:gG=⟨4,9,(.cons (.set 4 (.call 51 ABx)) (.cons (.ite (.cmp .eq (.var 4) ABW) (.cons (.ite (.cmp .ne loC ABW) ABU .nil) (.cons (.ret ABj) .nil)) .nil) (.cons (.for_ (.name 5) (.var 4) UT) (.cons (.ret ABj) .nil))))⟩:=rfl
 rw[rA,hb]
 unfold Cs.flt
 cases c:(C.st s).isEmpty with
 |true=>
  rw[c]at ce
  have eo:=jT (c:=pg.cf (n+4)) (it:=.idx AAj AAf) (co:=.cmp .isin AAb AAi) (el:=.var 0) (σ:=[.val C.n,.val C.t,.val (ao s),.val (.lst r),.val (.lst (C.st s)),.un,.un,.un,.un]) (τ:=[.val C.n,.val C.t,.val (ao s),.val (.lst r),.val (.lst (C.st s)),.un,.un,.un,.un]) (r:=.val (fH (bC C.sts s.2))) (fun x=>x) (Zt C.os) (by simp[t1,s1,sg]) rfl rfl (fun x hx=>by
   obtain⟨m,hm,rfl⟩:=QDq.mp hx
   obtain⟨q,eq⟩:=Ky.1 m.1 (QTz hm)
   have i:=(gw (q:=q) (kI K.t)).2.1
   simp[kO,Zt,t0,eq,i]) (fun x hx _=>by simp)
  have nm:=Rt (C:=C) C.os (bC C.sts s.2) fun m hm=>K.t.sub.subset ((K.t.mv _ (jK S.j)).1.subset (QTz hm))
  have cz:=(lH nm.1 (by omega)).1
  rw[nm.2.2,Bool.not_not]at cz
  have eo':ev (pg.cf (n+4)) loC [.val C.n,.val C.t,.val (ao s),.val (.lst r),.val (.lst (C.st s)),.un,.un,.un,.un]=_:=eo
  cases co:wG C.os (bC C.sts s.2)<;>rw[co]at cz<;>simp[st,Ob.d,ce,eo',aO,cz]
 |false=>
  rw[c]at ce
  obtain⟨a,b,c',d,z⟩:=UL (n+1) K S hr (.val (.lst (C.st s))) (C.st s) .un .un .un .un (fun x hx=>(K.sub S).subset hx) (.inl rfl) (.inl rfl) (.inl rfl) (.inl rfl)
  generalize eF (fun x=>C.sf s (r++[x]) x) (C.st s)=v at*
  cases cn:bf v with
  |true=>
   rw[cn,if_pos rfl]at z
   rw[BP cn]
   simp[st,Ob.d,ce,aO,items,z]
  |false=>
   rw[cn,if_neg (by simp)]at z
   simp[st,Ob.d,ce,aO,items,z]
end
end Tx
end
section
open PySem Mini
namespace Tx
section
variable{C:Cs}
def oE:S:=AAe
theorem T5(n:Nat)(K:C.Ok):∀(f k:Nat)(R:Rs),C.Ro R->k<=R.length->512<f+k->
  bQ (ev (pg.cf (n+6)) (.var 3)) (ex (pg.cf (n+6)) oE) f [.val C.n,.val C.t,.own (.sdt (kD R) (vD R)),.own (.lst (kD (R.drop k)))]=.next [.val C.n,.val C.t,.own (.sdt (kD (C.ir f k R)) (vD (C.ir f k R))),.val (.lst [])]
 |0=>fun k R X hk hf=>by have:=X.jO K;omega
 |f+1=>fun k R X hk hf=>by
  by_cases c:k<R.length
  ·obtain⟨p,e⟩:∃p,R[k]? =some p:=⟨_,QXq c⟩
   obtain⟨s,r⟩:=p
   have nw:=za n K X e
   have dr:kD (R.drop k)=ao s::kD (R.drop (k+1)):=by
    rw[List.drop_eq_getElem_cons c]
    rw[QXq c]at e
    simp only[Option.some.injEq]at e
    simp[kD,e]
   have m:=QBz e
   have X':=jM K (X.ok _ m) (X.wr _ m) _ (fun x hx=>(K.sub (X.ok _ m)).subset hx) X (X.le _ m)
   have rb':=X'.jO K
   simp only[QTq]at rb'
   have fi:fits ((kD (R.drop (k+1))).length+(kD (C.new s r (C.st s) R)).length)=true:=by
    rw[je,je,List.length_drop];simp[fits];omega
   have go:ex (pg.cf (n+6)) oE [.val C.n,.val C.t,.own (.sdt (kD R) (vD R)),.val (.lst (ao s::kD (R.drop (k+1))))]=.next [.val C.n,.val C.t,.own (.sdt (kD (R++C.new s r (C.st s) R)) (vD (R++C.new s r (C.st s) R))),.own (.lst (kD ((R++C.new s r (C.st s) R).drop (k+1))))]:=by
    have dd:kD ((R++C.new s r (C.st s) R).drop (k+1))=kD (R.drop (k+1))++kD (C.new s r (C.st s) R):=by
     rw[List.drop_append_of_le_length (by omega),wV]
    rw[dd]
    have az:=xR (ao s) (kD (R.drop (k+1)))
    simp[oE,cH,E.jx,dX,Gm,az,nw,fi,Ob.d]
   rw[dr,bQ]
   have tr:gY (.lst (ao s::kD (R.drop (k+1))))=some true:=rfl
   simp[tr,Ob.d,go,Out.Ag]
   rw[T5 n K f _ _ X' (by simp;omega) (by omega)]
   simp only[Cs.ir,e]
  ·have dk:R.drop k=[]:=List.drop_eq_nil_of_le (by omega)
   have ge:R[k]? =none:=List.getElem?_eq_none (by omega)
   have tr:gY (.lst [])=some false:=rfl
   rw[dk,bQ,Cs.ir,ge]
   simp[kD,Ob.d,tr,Out.Ag]
def G3 n(K:C.Ok):
  pg.fn (n+10) 20 [.val C.n,.val C.t]=.ok (.new (.lst (kD (C.ir 1000 0 (R0 C.ls))))) [.val C.n,.val C.t]:=by
 have c:=K.checked n
 have f:=sY (n+8) (C:=C)
 have z:=T5 (n+3) K 1000 0 (R0 C.ls) (vY K) (QIq _) (by omega)
 have k0:kD ((R0 C.ls).drop 0)=[ao (sI C.ls)]:=rfl
 have k1:kD (R0 C.ls)=[ao (sI C.ls)]:=rfl
 have v1:vD (R0 C.ls)=[.lst []]:=rfl
 rw[k0,k1,v1]at z
 have tn:(pg.cf (n+9)).turns=1000:=rfl
 have ds:uA [ao (sI C.ls),.lst []]=some (.new (.sdt [ao (sI C.ls)] [.lst []])):=by
  have:CG [ao (sI C.ls),.lst []]=some (.new (.sdt [ao (sI C.ls)] [.lst []])):=by
   show(if ik (ao (sI C.ls))then _ else none)=_
   rw[dC];rfl
  unfold uA
  rw[this]
  rfl
 have hb:tV=⟨2,4,(.cons _ (.cons _ (.cons _ (.cons (.while_ (.var 3) oE) _))))⟩:=rfl
 have q:(E.bi .list (.var 2)).aB=none:=rfl
 have bl:∀ks vs:List D,b1 .list (.fQ ks vs)=some _:=fun _ _=>rfl
 rw[J8,hb]
 simp[c,f,aO,ds,bl,Ob.d,tn,z,q]
end
end Tx
end
section
open PySem Mini
namespace Tx
section
variable{C:Cs}
theorem qx{r:List D}(e:C.led s x=some t):∀{xs:List D}{R:Rs},x∈xs->t∈(R++C.new s r xs R).map (·.1)
 |[],R,hx=>by cases hx
 |y::xs,R,hx=>by
  rw[Cs.new]
  split
  ·rename_i ey
   rcases QCq.mp hx with rfl|hx
   ·rw[e]at ey;cases ey
   ·exact qx e hx
  ·rename_i u ey
   split
   ·rename_i hu
    rcases QCq.mp hx with rfl|hx
    ·rw[e]at ey;cases ey
     rw[List.map_append];exact QWz _ hu
    ·exact qx e hx
   ·rcases QCq.mp hx with rfl|hx
    ·rw[e]at ey;cases ey
     simp
    ·have:=qx (r:=r) (R:=R++[(u,r++[y])]) e hx
     rw[QLq]at this
     exact this
def Cs.Cl(C:Cs)(k:Nat)(R:Rs):Prop:=∀(j:Nat)(p:St×List D),j<k->R[j]? =some p->∀x∈C.st p.1,∀t,C.led p.1 x=some t->t∈R.map (·.1)
theorem Gr(K:C.Ok):∀(f k:Nat)(R:Rs),C.Ro R->k<=R.length->512<f+k->C.Cl k R->∀s∈(C.ir f k R).map (·.1),∀x∈C.st s,∀t,C.led s x=some t->t∈(C.ir f k R).map (·.1)
 |0=>fun k R X hk hf _=>by have:=X.jO K;omega
 |f+1=>fun k R X hk hf B=>by
  rw[Cs.ir]
  split
  ·rename_i e
   intro s hs x hx t et
   obtain⟨p,hp,rfl⟩:=QDq.mp hs
   obtain⟨j,ej⟩:=List.getElem?_of_mem hp
   have:=(QCz.mp ej).1
   have:=List.getElem?_eq_none_iff.mp e
   exact B j p (by omega) ej x hx t et
  ·rename_i p e
   obtain⟨s,r⟩:=p
   have m:=QBz e
   have S:=X.ok _ m
   have kl:=(QCz.mp e).1
   refine Gr K f _ _ (jM K S (X.wr _ m) _ (fun x hx=>(K.sub S).subset hx) X (X.le _ m)) (by simp;omega) (by omega) fun j q hj ej x hx t et=>?_
   by_cases c:j=k
   ·subst c
    rw[Qwz kl,e]at ej
    cases ej
    exact qx et hx
   ·rw[Qwz (by omega)]at ej
    rw[List.map_append]
    exact QWz _ (B j q (by omega) ej x hx t et)
def closed(K:C.Ok):∀s∈(C.ir 1000 0 (R0 C.ls)).map (·.1),∀x∈C.st s,∀t,C.led s x=some t->t∈(C.ir 1000 0 (R0 C.ls)).map (·.1):=Gr K 1000 0 _ (vY K) (QIq _) (by omega) fun j p hj=>(by omega)
def M4:∃r Z,C.ir 1000 0 (R0 C.ls)=(sI C.ls,r)::Z:=by
 obtain⟨Z,e⟩:=xO 1000 0 _
 exact⟨[],Z,e⟩
theorem lD f:∀xs:List D,bf (eF f xs)=xs.all fun x=>bf (f x)
 |[]=>rfl
 |x::xs=>by
  rw[eF,List.all_cons,<-lD f xs]
  cases e:bf (f x)
  ·simp[e]
  ·simp
def GZ s r r' x:bf (C.sf s r x)=bf (C.sf s r' x):=by
 unfold Cs.sf
 split
 ·rfl
 ·unfold GQ
  split<;>rfl
def Sg s r r':bf (C.flt s r)=bf (C.flt s r'):=by
 unfold Cs.flt
 split
 ·split<;>rfl
 ·rw[lD,lD]
  congr 1
  funext x
  exact GZ s _ _ x
theorem Cv:∀R:Rs,bf (C.ff R)=R.all fun p=>bf (C.flt p.1 [])
 |[]=>rfl
 |p::R=>by
  rw[Cs.ff,List.all_cons,<-Cv R,Sg p.1 [] p.2]
  cases e:bf (C.flt p.1 p.2)
  ·simp[e]
  ·simp
def xg{r:List D}(e:bf (C.flt s r)=true)(hx:x∈C.st s):∃t,C.led s x=some t:=by
 unfold Cs.flt at e
 split at e
 ·rename_i c
  rw[List.isEmpty_iff.mp c]at hx
  cases hx
 ·rw[lD,List.all_eq_true]at e
  have:=e x hx
  unfold Cs.sf at this
  split at this
  ·cases this
  ·rename_i t et
   exact⟨t,et⟩
end
end Tx
end
section
open PySem Mini
namespace Tx
section
variable{C:Cs}
def nu:D->Bool
 |.bl _=>true
 |_=>false
noncomputable def p6(a b:Int):D->Bool
 |.tup xs=>decide (a<=xs.length)&&decide ((xs.length:Int)<=b)
 |_=>false
noncomputable def Qp(m:Int):D->Bool
 |.tup xs=>(decide (m<=xs.length)&&decide ((xs.length:Int)<=m))&&xs.all nu
 |_=>false
def Us(a b:Int):D->Bool
 |.int i=>decide (a<=i)&&decide (i<=b)
 |_=>false
def Cs.oE(C:Cs):D->Bool
 |.tup [a,b]=>Qp C.ls.length a&&Us 0 (C.sts.length-1) b
 |_=>false
def FN n d a b:pg.fn (n+1) 3 [.val d,.val (.int a),.val (.int b)]=.ok (.val (.bl (p6 a b d))) [.val d,.val (.int a),.val (.int b)]:=by
 rw[rB]
 cases d with
 |tup xs=>by_cases h1:a<=xs.length<;>simp[gH,p6,h1]
 |_=>simp[gH,p6,cF]
def RJ n d a b:pg.fn (n+1) 4 [.val d,.val (.int a),.val (.int b)]=.ok (.val (.bl (Us a b d))) [.val d,.val (.int a),.val (.int b)]:=by
 rw[pN]
 cases d with
 |int i=>by_cases h1:a<=i<;>simp[fD,Us,cF,h1]
 |_=>simp[fD,Us,cF]
theorem jl{α:Type}(f:α->Bool):∀xs:List α,bools (xs.map fun x=>D.bl (f x))=some (xs.map f)
 |[]=>rfl
 |x::xs=>by simp[bools,jl f xs]
def Ov{σ τ:Ev}{r:Rv}{xs:List D}p(hi:ev c it σ=.ok r τ)(hr:r.jj=some d)(hd:items d=some xs)(he:∀x∈xs,ev c el (.val x::τ)=.ok (.val (.bl (p x))) (.val x::τ)):
  ev c (.bi .all (.comp 1 (.name 0) it AAL el)) σ=.ok (.val (.bl (xs.all p))) τ:=by
 have e:=nJ _ hi hr hd he
 rw[mU]
 rw[e,gj]
 simp[Ob.d,jl,bu]
def RG n d m:pg.fn (n+2) 7 [.val d,.val (.int m)]=.ok (.val (.bl (Qp m d))) [.val d,.val (.int m)]:=by
 have t:=FN n d m m
 rw[yM]
 cases d with
 |tup xs=>
  have e:ev (pg.cf (n+1)) Gv [.val (.tup xs),.val (.int m)]=.ok _ [.val (.tup xs),.val (.int m)]:=Ov nu (r:=.val (.tup xs)) (by simp) rfl rfl fun x hx=>by cases x<;>simp[nu,cF]
  have hb:j6=⟨2,2,(.cons (.ret (.and (.cons _ (.cons Gv .nil)))) .nil)⟩:=rfl
  rw[hb]
  cases c:p6 m m _<;>rw[c]at t<;>simp only[p6]at c<;>simp[t,e,Qp,c]
 |_=>simp[j6,t,p6,Qp]
def BX:b1 .len (aF C.ls)=some (.val (.int C.ls.length)):=by simp[aF]
def zE n d:pg.fn (n+3) 21 [.val C.n,.val C.t,.val d]=.ok (.val (.bl (C.oE d))) [.val C.n,.val C.t,.val d]:=by
 have t:=FN (n+1) d 2 2
 have n2:=zb (C:=C)
 have t1:=uI (C:=C)
 have l2:=BX (C:=C)
 rw[Bp]
 cases d with
 |tup xs=>
  match xs with
  |[]=>simp[dM,t,p6,Cs.oE]
  |[a]=>simp[dM,t,p6,Cs.oE]
  |[a,b]=>
   have r:=RG n a C.ls.length
   have u:=RJ (n+1) b 0 (C.sts.length-1)
   have e0:at? [a,b] 0=some a:=rfl
   have e1:at? [a,b] 1=some b:=rfl
   cases c:Qp C.ls.length a<;>rw[c]at r<;>simp[dM,t,p6,Cs.oE,n2,t1,l2,r,u,c,e0,e1]
  |a::b::c::xs=>
   have h:p6 2 2 (.tup (a::b::c::xs))=false:=by
    simp only[p6,Bool.and_eq_false_iff,decide_eq_false_iff_not,QBq]
    right;omega
   rw[h]at t
   simp[dM,t,Cs.oE]
 |_=>simp[dM,t,p6,Cs.oE]
def Zj:D->Bool
 |.bl b=>b
 |_=>false
def toS:D->St
 |.tup [.tup bs,.int i]=>(bs.map Zj,i.toNat)
 |_=>([],0)
theorem Jt:∀bs:List D,bs.all nu=true->bs=(bs.map Zj).map .bl
 |[]=>fun _=>rfl
 |b::bs=>fun h=>by
  rw[List.all_cons,QUq]at h
  cases b with
  |bl c=>rw[Qyz,Qyz,<-Jt bs h.2];rfl
  |_=>cases h.1
def Ea(K:C.Ok)(h:C.oE d=true):d=ao (toS d)/\C.S (toS d):=by
 unfold Cs.oE at h
 split at h
 ·rename_i a b
  rw[QUq]at h
  obtain⟨h1,h2⟩:=h
  unfold Qp at h1
  split at h1
  ·rename_i vs
   unfold Us at h2
   split at h2
   ·rename_i i
    simp only[QUq,QUz]at h1 h2
    refine⟨?_,?_,?_⟩
    ·show D.tup [.tup vs,.int i]=.tup [.tup ((vs.map Zj).map .bl),.int i.toNat]
     rw[<-Jt vs h1.2,Int.toNat_of_nonneg h2.1]
    ·show(vs.map Zj).length=(names C.h C.g).length
     have:=(Eg K).l
     simp only[sI]at this
     rw[QAq,<-this];omega
    ·show i.toNat<C.sts.length
     omega
   ·cases h2
  ·cases h1
 ·cases h
theorem Dl:∀bs:List Bool,(bs.map D.bl).all nu=true
 |[]=>rfl
 |_::bs=>by rw[Qyz,List.all_cons,Dl bs];rfl
theorem TJ:∀bs:List Bool,(bs.map D.bl).map Zj=bs
 |[]=>rfl
 |b::bs=>by rw[Qyz,Qyz,TJ bs];rfl
def gP s:toS (ao s)=s:=by
 show((s.1.map D.bl).map Zj,(s.2:Int).toNat)=s
 rw[TJ]
 rfl
def DY(K:C.Ok)(S:C.S s):C.oE (ao s)=true:=by
 have l:=S.l
 have j:=S.j
 have l0:=(Eg K).l
 simp only[sI]at l0
 show(Qp _ (.tup _)&&Us _ _ _)=true
 simp only[Qp,Us,Dl,QAq,QUq,QUz,and_true]
 omega
theorem xU(K:C.Ok):∀{xs:List D},xs.all C.oE=true->xs=(xs.map toS).map ao/\∀s∈xs.map toS,C.S s
 |[]=>fun _=>⟨rfl,fun _ h=>nomatch h⟩
 |x::xs=>fun h=>by
  rw[List.all_cons,QUq]at h
  obtain⟨a,b⟩:=Ea K h.1
  obtain⟨c,d⟩:=xU K h.2
  refine⟨by rw[Qyz,Qyz,<-c,<-a],fun s hs=>?_⟩
  rcases QCq.mp hs with rfl|hs
  ·exact b
  ·exact d s hs
end
end Tx
end
section
open PySem Mini
namespace Tx
section
variable{C:Cs}
theorem oY t:∀ss:List St,aL (ao t) (ss.map ao)=decide (t∈ss)
 |[]=>rfl
 |s::ss=>by
  rw[Qyz,aL,qw,oY t ss]
  by_cases h:s=t
  ·subst h;simp
  ·have:¬t=s:=fun e=>h e.symm
   by_cases c:t∈ss<;>simp[h,this,c]
noncomputable def Cs.snd(C:Cs)(ss:List St)(s:St):Bool:=bf (C.flt s [])&&(C.st s).all fun x=>match C.led s x with
 |some t=>decide (t∈ss)
 |none=>false
def isL:E:=.bi .all ABL
theorem pP n(K:C.Ok)(S:C.S s)ss vs:
  pg.fn (n+7) 31 [.val C.n,.val C.t,.val (ao s),.val (.fQ (ss.map ao) vs)]=.ok (.val (.bl (C.snd ss s))) [.val C.n,.val C.t,.val (ao s),.val (.fQ (ss.map ao) vs)]:=by
 have fa:=pU n K S (r:=[]) (by simp)
 have st:=K.dW (n+1) S
 have hb:mH=⟨4,4,(.cons _ (.cons (.ret isL) .nil))⟩:=rfl
 have q:isL.aB=none:=rfl
 rw[Bq,hb]
 unfold Cs.snd
 cases c:bf _ with
 |false=>simp[fa,aO,c,Ob.d]
 |true=>
  have e:ev (pg.cf (n+6)) isL [.val C.n,.val C.t,.val (ao s),.val (.fQ (ss.map ao) vs)]=.ok (.val (.bl ((C.st s).all fun x=>match C.led s x with|some t=>decide (t∈ss)|none=>false))) [.val C.n,.val C.t,.val (ao s),.val (.fQ (ss.map ao) vs)]:=by
   refine Ov _ (r:=.new (.lst _)) (by simp[st]) rfl rfl fun x hx=>?_
   obtain⟨t,et⟩:=xg c hx
   have ld:=K.jd (n+3) S hx
   have ci:aJ .isin (ao t) (.fQ (ss.map ao) vs)=some (decide (t∈ss)):=by
    show(if ik _ then some _ else none)=_
    rw[dC,oY];rfl
   simp[ld,dY,ci,et]
  simp[fa,aO,c,Ob.d,e,q]
def prD(s:St):D:=.tup [ao s,.bl true]
def CP:List St->List St->List St
 |a,[]=>a
 |a,s::ss=>CP (if s∈a then a else a++[s]) ss
theorem Ej k:∀ks:List D,pM k (.bl true) ks (ks.map fun _=>.bl true)=ks.map fun _=>.bl true
 |[]=>rfl
 |x::ks=>by rw[Qyz,pM,Ej k ks];simp
theorem tE:∀ss a:List St,iK (a.map ao) (a.map fun _=>.bl true) (ss.map prD)=some ((CP a ss).map ao,(CP a ss).map fun _=>.bl true)
 |[]=>fun a=>rfl
 |s::ss=>fun a=>by
  rw[Qyz,show prD s=.tup [ao s,.bl true]from rfl,iK,dC,CP]
  simp only[if_true,putD,oY]
  by_cases h:s∈a
  ·have:=Ej (ao s) (a.map ao)
   simp only[List.map_map]at this
   simp only[h,decide_true,if_true]
   rw[show(a.map fun _=>D.bl true)=a.map ((fun _=>D.bl true)∘ao)from rfl,this]
   exact tE ss a
  ·have:=tE ss (a++[s])
   simp only[List.map_append,Qyz,List.map_nil]at this
   simp only[h,decide_false,Qxq,if_false]
   exact this
theorem Nu:∀ss a:List St,(CP a ss).length<=a.length+ss.length
 |[]=>fun a=>by simp[CP]
 |s::ss=>fun a=>by
  have:=Nu ss (if s∈a then a else a++[s])
  rw[CP]
  split at this<;>simp at this⊢ <;>rename_i h<;>simp[h]<;>omega
theorem Nr:∀ss a:List St,(a++ss).Nodup->CP a ss=a++ss
 |[]=>fun a _=>by simp[CP]
 |s::ss=>fun a h=>by
  have hs:=fun m=>(List.nodup_append.mp h).2.2 s m s QYz rfl
  rw[CP,if_neg hs,Nr ss _ (by simpa using h)]
  simp
theorem Nt:∀ss a:List St,a.Nodup->¬(a++ss).Nodup->(CP a ss).length<a.length+ss.length
 |[]=>fun a h n=>absurd (by simpa using h) n
 |s::ss=>fun a h n=>by
  rw[CP]
  by_cases c:s∈a
  ·have:=Nu ss a
   simp[c];omega
  ·have:=Nt ss (a++[s]) (List.nodup_append.mpr ⟨h,by simp,fun x hx y hy e=>by rw[QDz.mp hy]at e;exact c (e▸hx)⟩) (by simpa using n)
   simp[c]at this⊢;omega
def ipA:E:=.bi .all ACM
def ipD:E:=.comp 1 (.name 0) (.var 2) AAL (.tup ADc)
def ipS:E:=.bi .all ABV
noncomputable def Cs.Pk(C:Cs):D->Bool
 |.lst xs=>xs.all C.oE&&(decide (xs.map toS).Nodup&&(decide (sI C.ls∈xs.map toS)&&(xs.map toS).all (C.snd (xs.map toS))))
 |_=>false
def YW{σ τ0 τ:Ev}{r:Rv}{x0:D}p(hi:ev c it σ=.ok r τ0)(hr:r.jj=some d)(hd:items d=some (x0::xs))(h0:ev c el (.val x0::τ0)=.ok (.val (.bl (p x0))) (.val x0::τ))(he:∀x∈xs,ev c el (.val x::τ)=.ok (.val (.bl (p x))) (.val x::τ)):
  ev c (.bi .all (.comp 1 (.name 0) it AAL el)) σ=.ok (.val (.bl ((x0::xs).all p))) τ:=by
 have e:ev c (.comp 1 (.name 0) it AAL el) σ=.ok (.new (.lst ((x0::xs).map fun x=>.bl (p x)))) τ:=by
  rw[lQ,hi]
  have b:∀{β:Type}(g:D->Ev->Out β),(Out.ok r τ0).au g=g d τ0:=fun g=>by cases r<;>simp[Rv.jj]at hr<;>subst hr<;>rfl
  rw[b]
  simp only[hd]
  obtain⟨s',_,a⟩:=ZL xs _ _ (.inr ⟨_,rfl⟩) (fun x _=>xG c _ _) (fun x hx _=>he x hx)
  rw[show List.replicate 1 Sl.un++τ0=.un::τ0 from rfl,aU,kj (.inl rfl)]
  simp only
  rw[xG,cW,if_pos rfl,h0,bK,a]
  simp[filter_tt]
 rw[mU]
 rw[e,gj]
 simp only[Ob.d,Dr,bu,QHq,jl p _,Option.map_some]
 simp[lift]
def pQ n(K:C.Ok)d:pg.fn (n+10) 30 [.val C.n,.val C.t,.val d]=.ok (.val (.bl (C.Pk d))) [.val C.n,.val C.t,.val d]:=by
 have ck:=K.checked n
 have fs:=sY (n+8) (C:=C)
 have hb:mJ=⟨3,4,(.cons ABZ (.cons (.ite (.or (.cons ACr (.cons (.not ipA) .nil))) AAP .nil) (.cons (.set 3 (.bi .dict ipD)) (.cons (.ite ABn AAP .nil) (.cons (.ret ipS) .nil)))))⟩:=rfl
 have q1:ipA.aB=none:=rfl
 have q2:ipD.aB=none:=rfl
 have q3:ipS.aB=none:=rfl
 rw[Br,hb]
 cases d with
 |lst xs=>
  have ea:ev (pg.cf (n+9)) ipA [.val C.n,.val C.t,.val (.lst xs),.un]=.ok (.val (.bl (xs.all C.oE))) [.val C.n,.val C.t,.val (.lst xs),.un]:=
   Ov C.oE (r:=.val (.lst xs)) (d:=.lst xs) (by simp) rfl rfl fun x hx=>by simp[zE (n+6) (C:=C) x]
  cases c:xs.all C.oE with
  |false=>
   rw[c]at ea
   simp[ck,cF,ea,Cs.Pk,c]
  |true=>
   rw[c]at ea
   obtain⟨e,S⟩:=xU K c
   rw[show C.Pk (.lst xs)=(xs.all C.oE&&(decide (xs.map toS).Nodup&&(decide (sI C.ls∈xs.map toS)&&(xs.map toS).all (C.snd (xs.map toS)))))from rfl,c,Bool.true_and]
   clear c
   generalize xs.map toS=ss at*
   subst e
   have ed:ev (pg.cf (n+9)) ipD [.val C.n,.val C.t,.val (.lst (ss.map ao)),.un]=.ok (.new (.lst (ss.map prD))) [.val C.n,.val C.t,.val (.lst (ss.map ao)),.un]:=by
    have:=nJ (c:=pg.cf (n+9)) (it:=.var 2) (el:=.tup ADc) (σ:=[.val C.n,.val C.t,.val (.lst (ss.map ao)),.un]) (fun x=>.tup [x,.bl true]) (r:=.val (.lst (ss.map ao))) (d:=.lst (ss.map ao)) (by simp;rfl) rfl rfl fun x hx=>by simp[aO,fits]
    rw[List.map_map]at this
    exact this
   cases ss with
   |nil=>
    have nn:aJ .notin (ao (sI C.ls)) (.cG [] [])=some true:=by
     show(if ik (ao (sI C.ls))&&true then some true else none)=_
     rw[dC];rfl
    have ld:b1 .len (.cG [] [])=some (.val (.int 0)):=rfl
    simp only[List.map_nil]at ea ed
    simp[ck,cF,ea,q1,ed,q2,dictOf,Ob.d,bu,fs,nn,ld]
   |cons s0 ss=>
    have dn:dictOf [] [] ((s0::ss).map prD)=none:=rfl
    have dS:=tE (s0::ss) []
    simp only[List.map_nil]at dS
    have bd:b1 .dict (.lst ((s0::ss).map prD))=some (.new (.sdt ((CP [] (s0::ss)).map ao) ((CP [] (s0::ss)).map fun _=>.bl true))):=by
     rw[SM]
     simp only[bu,QHq,dn,dS]
     rfl
    by_cases nd:(s0::ss).Nodup
    ·rw[Nr (s0::ss) [] (by simpa using nd),List.nil_append]at bd
     have nn:aJ .notin (ao (sI C.ls)) (.fQ ((s0::ss).map ao) ((s0::ss).map fun _=>.bl true))=some (!decide (sI C.ls∈s0::ss)):=by
      show(if ik (ao (sI C.ls))then some (!aL (ao (sI C.ls)) ((s0::ss).map ao))else none)=_
      rw[dC,oY];rfl
     by_cases hi:sI C.ls∈s0::ss
     ·have es:ev (pg.cf (n+9)) ipS [.val C.n,.val C.t,.val (.lst ((s0::ss).map ao)),.own (.sdt ((s0::ss).map ao) ((s0::ss).map fun _=>.bl true))]=.ok (.val (.bl (((s0::ss).map ao).all fun x=>C.snd (s0::ss) (toS x)))) [.val C.n,.val C.t,.val (.lst ((s0::ss).map ao)),.val (.fQ ((s0::ss).map ao) ((s0::ss).map fun _=>.bl true))]:=by
       refine YW (fun x=>C.snd (s0::ss) (toS x)) (τ:=[.val C.n,.val C.t,.val (.lst ((s0::ss).map ao)),.val (.fQ ((s0::ss).map ao) ((s0::ss).map fun _=>.bl true))]) (x0:=ao s0) (xs:=ss.map ao) (r:=.val (.lst ((s0::ss).map ao))) (d:=.lst ((s0::ss).map ao)) (by simp;rfl) rfl rfl ?_ fun x hx=>?_
       ·have:=pP (n+2) K (S s0 QYz) (s0::ss) ((s0::ss).map fun _=>.bl true)
        rw[gP]
        simp only[Qyz]at this⊢
        simp[this,Ob.d]
       ·obtain⟨s,hs,rfl⟩:=QDq.mp hx
        have:=pP (n+2) K (S s (QYq _ hs)) (s0::ss) ((s0::ss).map fun _=>.bl true)
        rw[gP]
        simp only[Qyz]at this⊢
        simp[this]
      have ea2:(((s0::ss).map ao).all fun x=>C.snd (s0::ss) (toS x))=(s0::ss).all (C.snd (s0::ss)):=by
       rw[List.all_map]
       congr 1
       funext s
       simp[gP]
      rw[ea2]at es
      rw[QFq hi]at nn
      simp only[nd,hi,decide_true,Bool.true_and]
      generalize (s0::ss).all (C.snd (s0::ss))=bb at*
      simp only[Qyz]at*
      simp[ck,cF,ea,q1,ed,q2,bd,Ob.d,fs,nn,es,q3]
     ·rw[QEz hi]at nn
      simp only[nd,hi,decide_true,decide_false,Bool.false_and,Bool.and_false]
      simp only[Qyz]at*
      simp[ck,cF,ea,q1,ed,q2,bd,Ob.d,fs,nn]
    ·have lt:=Nt (s0::ss) [] List.nodup_nil (by simpa using nd)
     simp only[nd,decide_false,Bool.false_and,Bool.and_false]
     generalize CP [] (s0::ss)=dd at*
     have l2:decide ((dd.length:Int)< (ss.length:Int)+1)=true:=QFq (by simp at lt;omega)
     simp only[Qyz,QBq]at*
     simp[ck,cF,ea,q1,ed,q2,bd,Ob.d,l2]
 |_=>simp[ck,cF,Cs.Pk]
end
end Tx
end
section
open PySem Mini
namespace Tx
section
variable{C:Cs}
theorem jb:∀{xs:List D},fK xs=true↔ ∀x∈xs,nd x=true
 |[]=>⟨fun _ _ h=>(nomatch h),fun _=>rfl⟩
 |x::xs=>by rw[fK,QUq,jb,List.forall_mem_cons]
theorem iM:∀{xs:List D},eU xs<=k↔ ∀x∈xs,dep x<=k
 |[]=>⟨fun _ _ h=>(nomatch h),fun _=>QIq _⟩
 |x::xs=>by rw[eU,Nat.max_le,iM,List.forall_mem_cons]
def pI(xs:List D):Prop:=∀x∈xs,nd x=true/\dep x<=40
theorem pI.fK(h:pI xs):fK xs=true:=jb.mpr fun x hx=>(h x hx).1
def zU{xs:List D}(F:pI xs)(h:nd d=true)(g:dep d<=40):tH (.lst xs) d=some (.val (.int (bW d xs))):=by
 have h2:(nd d&&decide (dep d<=50)&&Mini.fK xs)=true:=by simp[h,F.fK];omega
 simp only[tH]
 split<;>first|rfl|rw[if_pos h2]
def rN{xs:List D}(F:pI xs)(h:nd d=true)(g:dep d<=40):aJ .notin d (.lst xs)=some (!aL d xs):=by
 have h2:dO d xs=true:=by simp[dO,h,F.fK];omega
 show(if dO d xs then some _ else none)=_
 rw[if_pos h2]
def lpN:E:=.comp 1 (.name 0) AAr (.not ABs) (.var 0)
def Zx:S:=(.cons (.ite ABf AAP .nil) .nil)
noncomputable def xY:S:=(.cons (.ite AAt AAP .nil) (.cons (.ite ABG AAP .nil) (.cons (.ite (.or (.cons ADW (.cons (.cmp .ne lpN ABW) .nil))) AAP .nil) (.cons (.ite (.cmp .notN ACb ABj) AAP .nil) (.cons (.for_ (.name 4) ACx Zx) .nil)))))
theorem Lk(n:Nat)(K:C.Ok){s:St}(S:C.S s){xs:List D}(F:pI xs):∀(ws:List D)(s4:Sl),(∀x∈ws,x∈C.st s)->bL s4->∃s4',bL s4'/\
  bA (.name 4) (ex (pg.cf (n+5)) Zx) ws [.val C.n,.val C.t,.val (.lst xs),.val (ao s),s4]=if ws.all (fun x=>aL (dY (C.led s x)) xs)then .next [.val C.n,.val C.t,.val (.lst xs),.val (ao s),s4']else .ret (.val (.bl false)) [.val C.n,.val C.t,.val (.lst xs),.val (ao s),s4']
 |[]=>fun s4 _ h4=>⟨s4,h4,rfl⟩
 |x::ws=>fun s4 hw h4=>by
  have m:=hw x QYz
  have ld:=K.wR (n+3) S (K.adQ S x m)
  have tt:bD (.name 4) x [.val C.n,.val C.t,.val (.lst xs),.val (ao s),s4]=some [.val C.n,.val C.t,.val (.lst xs),.val (ao s),.val x]:=by
   rcases h4 with rfl|⟨d,rfl⟩<;>simp[bD,cD]
  have no:nd (dY (C.led s x))=true/\dep (dY (C.led s x))<=40:=by
   cases C.led s x with
   |none=>exact⟨rfl,by simp[dY,dep]⟩
   |some t=>have:=oh t;exact⟨this.1,by simp only[dY];omega⟩
  have ni:=rN F no.1 no.2
  rw[bA,tt,List.all_cons]
  cases c:aL _ xs with
  |true=>
   obtain⟨s4',f,z⟩:=Lk n K S F ws (.val x) (fun y hy=>hw y (QYq _ hy)) (.inr ⟨_,rfl⟩)
   rw[c]at ni
   refine⟨s4',f,?_⟩
   have go:ex (pg.cf (n+5)) Zx [.val C.n,.val C.t,.val (.lst xs),.val (ao s),.val x]=.next [.val C.n,.val C.t,.val (.lst xs),.val (ao s),.val x]:=by
    simp[Zx,ld,ni]
   simp only[go,Bool.true_and]
   exact z
  |false=>
   rw[c]at ni
   refine⟨.val x,.inr ⟨_,rfl⟩,?_⟩
   have go:ex (pg.cf (n+5)) Zx [.val C.n,.val C.t,.val (.lst xs),.val (ao s),.val x]=.ret (.val (.bl false)) [.val C.n,.val C.t,.val (.lst xs),.val (ao s),.val x]:=by
    simp[Zx,ld,ni]
   simp only[go,Bool.false_and]
   rfl
def Ln n a b c s4 vs y:ev (pg.cf n) lpN [a,b,c,.val (.tup [.tup vs,y]),s4]=.ok (.new (.lst (vs.filter fun x=> !nu x))) [a,b,c,.val (.tup [.tup vs,y]),s4]:=by
 have:=jT (c:=pg.cf n) (it:=.idx (.var 3) AAH) (co:=.not ABs) (el:=.var 0) (σ:=[a,b,c,.val (.tup [.tup vs,y]),s4]) (fun x=>x) (fun x=> !nu x) (r:=.val (.tup vs)) (by simp;rfl) rfl rfl (fun x hx=>by cases x<;>simp[nu,cF]) fun x hx _=>by simp
 rw[List.map_id']at this
 exact this
def Xp n(K:C.Ok)(F:pI xs)(h:C.oE d=false)(m:d∈xs)s4:ex (pg.cf (n+5)) xY [.val C.n,.val C.t,.val (.lst xs),.val d,s4]=.ret (.val (.bl false)) [.val C.n,.val C.t,.val (.lst xs),.val d,s4]:=by
 obtain⟨g1,g2⟩:=F d m
 have ct:=zU F g1 g2
 have n2:=zb (C:=C)
 have t1:=uI (C:=C)
 have l2:=BX (C:=C)
 cases d with
 |tup ys=>
  match ys with
  |[]=>simp[xY,cF]
  |[a]=>simp[xY,cF]
  |a::b::c::ys=>
   have:((ys.length:Int)+1+1+1==2)=false:=by simp;omega
   simp[xY,cF,this]
  |[a,b]=>
   have e0:at? [a,b] 0=some a:=rfl
   have e1:at? [a,b] 1=some b:=rfl
   by_cases c1:(1:Int)<bW (.tup [a,b]) xs
   ·simp[xY,cF,ct,c1]
   ·cases b with
    |int i=>
     by_cases c2:0<=i
     ·by_cases c3:i<C.sts.length
      ·cases a with
       |tup vs=>
        by_cases c4:vs.length=C.ls.length
        ·have e:vs.all nu=false:=by
          simp only[Cs.oE,Qp,Us]at h
          cases q:vs.all nu with
          |false=>rfl
          |true=>simp[q,c4,c2]at h;omega
         have ln:=Ln (n+5) (.val C.n) (.val C.t) (.val (.lst xs)) s4 vs (.int i)
         have q1:fK (vs.filter fun x=> !nu x)=true:=jb.mpr fun x hx=>by
          simp only[nd,fK,QUq]at g1
          exact jb.mp g1.1 x (List.mem_filter.mp hx).1
         have q2:eU (vs.filter fun x=> !nu x)<=49:=iM.mpr fun x hx=>by
          simp only[dep,eU]at g2
          have:=iM (k:=49).mp (by omega) x (List.mem_filter.mp hx).1
          exact this
         have cz:=(lH q1 q2).1
         have ne:(vs.filter fun x=> !nu x).isEmpty=false:=by
          rw[List.all_eq_false]at e
          obtain⟨x,hx,nx⟩:=e
          cases q:vs.filter fun x=> !nu x with
          |nil=>exact absurd (List.filter_eq_nil_iff.mp q x hx) (by simpa using nx)
          |cons=>rfl
         rw[ne]at cz
         simp[xY,cF,ct,c1,e0,e1,c2,c3,t1,n2,l2,c4,ln,aO,Ob.d,cz]
        ·have c5:((vs.length:Int)==C.ls.length)=false:=by simp;omega
         simp[xY,cF,ct,c1,e0,e1,c2,c3,t1,n2,l2,c5]
       |_=>simp[xY,cF,ct,c1,e0,e1,c2,c3,t1]
      ·simp[xY,cF,ct,c1,e0,e1,c2,c3,t1]
     ·simp[xY,cF,ct,c1,e0,e1,c2,t1]
    |_=>simp[xY,cF,ct,c1,e0,e1]
 |_=>simp[xY,cF]
noncomputable def Cs.Xg(C:Cs)(xs:List D)(s:St):Bool:=decide (bW (ao s) xs<=1)&&(bf (C.flt s [])&&(C.st s).all fun x=>aL (dY (C.led s x)) xs)
def abN n(K:C.Ok)(F:pI xs)(S:C.S s)s4(h4:bL s4):∃s4',bL s4'/\ex (pg.cf (n+5)) xY [.val C.n,.val C.t,.val (.lst xs),.val (ao s),s4]=if C.Xg xs s then .next [.val C.n,.val C.t,.val (.lst xs),.val (ao s),s4']else .ret (.val (.bl false)) [.val C.n,.val C.t,.val (.lst xs),.val (ao s),s4']:=by
 obtain⟨g1,g2⟩:=oh s
 have ct:=zU F g1 (by omega)
 have n2:=zb (C:=C)
 have t1:=uI (C:=C)
 have l2:=BX (C:=C)
 have sl:=S.l
 have sj:=S.j
 have l0:=(Eg K).l
 simp only[sI]at l0
 have e0:getD (ao s) (.int 0)=some (.tup (s.1.map .bl)):=JM s
 have e1:=Wd s
 have ty:cF .tup (ao s)=true:=rfl
 have ti:cF .int (.int s.2)=true:=rfl
 have tb:cF .bool (.int s.2)=false:=rfl
 have tp:cF .tup (.tup (s.1.map .bl))=true:=rfl
 have ln0:=Ln (n+5) (.val C.n) (.val C.t) (.val (.lst xs)) s4 (s.1.map .bl) (.int s.2)
 rw[show(s.1.map D.bl).filter _=[]from List.filter_eq_nil_iff.mpr fun x hx=>by simp[List.all_eq_true.mp (Dl s.1) x hx]]at ln0
 have ln:ev (pg.cf (n+5)) lpN [.val C.n,.val C.t,.val (.lst xs),.val (ao s),s4]=.ok _ [.val C.n,.val C.t,.val (.lst xs),.val (ao s),s4]:=ln0
 have cz:=(lH (xs:=[]) rfl (by simp[eU])).1
 have fa:=jw n K S (r:=[]) (by simp)
 have st:=K.oV (n+1) S
 have c3:s.2<C.sts.length:=by omega
 have c5:s.1.length=C.ls.length:=by omega
 have le:b1 .len (ao s)=some (.val (.int 2)):=rfl
 unfold Cs.Xg
 by_cases c1:(1:Int)<bW (ao s) xs
 ·have c2:¬bW (ao s) xs<=1:=by omega
  refine⟨s4,h4,?_⟩
  simp[xY,ty,le,ct,c1,c2]
 ·have c2:bW (ao s) xs<=1:=by omega
  cases cn:bf (C.flt s [])with
  |false=>
   refine⟨s4,h4,?_⟩
   simp[xY,ty,le,ct,c1,c2,e0,e1,ti,tb,tp,t1,c3,n2,l2,c5,ln,aO,Ob.d,cz,fa,cn]
  |true=>
   obtain⟨s4',f,z⟩:=Lk n K S F (C.st s) s4 (fun x hx=>hx) h4
   refine⟨s4',f,?_⟩
   cases ca:(C.st s).all fun x=>aL _ xs<;>rw[ca]at z<;>simp at z<;>simp[xY,ty,le,ct,c1,c2,e0,e1,ti,tb,tp,t1,c3,n2,l2,c5,ln,aO,Ob.d,cz,fa,cn,st,items,z]
def Cs.Ur(C:Cs)(xs:List D)(d:D):Bool:=C.oE d&&C.Xg xs (toS d)
theorem Uy(n:Nat)(K:C.Ok){xs:List D}(F:pI xs):∀(ys:List D)(s3 s4:Sl),(∀y∈ys,y∈xs)->bL s3->bL s4->∃s3' s4',
  bA (.name 3) (ex (pg.cf (n+5)) xY) ys [.val C.n,.val C.t,.val (.lst xs),s3,s4]=if ys.all (C.Ur xs)then .next [.val C.n,.val C.t,.val (.lst xs),s3',s4']else .ret (.val (.bl false)) [.val C.n,.val C.t,.val (.lst xs),s3',s4']
 |[]=>fun s3 s4 _ _ _=>⟨s3,s4,rfl⟩
 |d::ys=>fun s3 s4 hy h3 h4=>by
  have m:=hy d QYz
  have tt:bD (.name 3) d [.val C.n,.val C.t,.val (.lst xs),s3,s4]=some [.val C.n,.val C.t,.val (.lst xs),.val d,s4]:=by
   rcases h3 with rfl|⟨d,rfl⟩<;>simp[bD,cD]
  rw[bA,tt,List.all_cons]
  unfold Cs.Ur
  cases c:C.oE d with
  |false=>
   have z:=Xp n K F c m s4
   exact⟨.val d,s4,by simp only[z,Bool.false_and];rfl⟩
  |true=>
   obtain⟨e,S⟩:=Ea K c
   obtain⟨s4',f,z⟩:=abN n K F S s4 h4
   rw[<-e]at z
   cases c2:C.Xg xs _ with
   |false=>
    rw[c2]at z
    exact⟨.val d,s4',by simp only[z,Bool.true_and,Bool.false_and];rfl⟩
   |true=>
    rw[c2]at z
    obtain⟨ρ,τ2,w⟩:=Uy n K F ys _ s4' (fun y hy'=>hy y (QYq _ hy')) (.inr ⟨_,rfl⟩) f
    exact⟨ρ,τ2,by simp only[z,Bool.true_and];exact w⟩
theorem vL t:∀ss:List St,bW (ao t) (ss.map ao)=ss.count t
 |[]=>rfl
 |s::ss=>by
  rw[Qyz,bW,qw,vL t ss,List.count_cons]
  by_cases h:s=t<;>simp[h]<;>omega
theorem z7:∀{xs:List D},(∀x∈xs,f x=g x)->xs.all f=xs.all g
 |[]=>fun _=>rfl
 |x::xs=>fun h=>by rw[List.all_cons,List.all_cons,h x QYz,z7 fun y hy=>h y (QYq _ hy)]
def W3(K:C.Ok)xs:C.Pk (.lst xs)=(aL (ao (sI C.ls)) xs&&xs.all (C.Ur xs)):=by
 rw[show C.Pk _=(xs.all C.oE&&_)from rfl]
 cases c:xs.all C.oE with
 |false=>
  rw[List.all_eq_false]at c
  obtain⟨x,hx,nx⟩:=c
  have:xs.all (C.Ur xs)=false:=List.all_eq_false.mpr ⟨x,hx,by simp[Cs.Ur,nx]⟩
  rw[this];simp
 |true=>
  obtain⟨e,S⟩:=xU K c
  generalize xs.map toS=ss at*
  subst e
  rw[oY,Bool.true_and]
  have h1:∀s∈ss,C.Ur _ _=(decide _&&C.snd ss s):=fun s hs=>by
   unfold Cs.Ur Cs.Xg Cs.snd
   rw[DY K (S s hs),gP,vL,Bool.true_and]
   congr 1
   cases cn:bf _ with
   |false=>rfl
   |true=>
    congr 1
    refine z7 fun x hx=>?_
    obtain⟨t,et⟩:=xg cn hx
    rw[et]
    exact oY t ss
  have h2:(ss.map ao).all (C.Ur (ss.map ao))=(decide ss.Nodup&&ss.all (C.snd ss)):=by
   rw[Bool.eq_iff_iff,QUq,List.all_eq_true,List.all_eq_true,QUz,List.nodup_iff_count]
   constructor
   ·intro h
    have h':=fun s hs=>by
     have:=h (ao s) (QTz hs)
     rw[h1 s hs]at this
     simpa using this
    refine⟨fun s=>?_,fun s hs=>(h' s hs).2⟩
    by_cases hs:s∈ss
    ·exact(h' s hs).1
    ·rw[List.count_eq_zero.mpr hs];omega
   ·intro h x hx
    obtain⟨s,hs,rfl⟩:=QDq.mp hx
    rw[h1 s hs,h.2 s hs]
    simpa using h.1 s
  rw[h2]
  cases decide ss.Nodup<;>cases decide (sI C.ls∈ss)<;>simp
def qg n(K:C.Ok)d(F:∀xs,d=.lst xs->pI xs):pg.fn (n+6) 55 [.val C.n,.val C.t,.val d]=.ok (.val (.bl (C.Pk d))) [.val C.n,.val C.t,.val d]:=by
 have n2:=zb (C:=C)
 have hb:gF=⟨3,5,(.cons _ (.cons (.for_ _ _ xY) _))⟩:=rfl
 rw[rn,hb]
 cases d with
 |lst xs=>
  have F:=F xs rfl
  obtain⟨ζ,τ',z⟩:=Uy n K F xs .un .un (fun y hy=>hy) (.inl rfl) (.inl rfl)
  obtain⟨g1,g2⟩:=oh _
  have ni:=rN F g1 (by omega)
  have se:D.tup [aF C.ls,.int 0]=ao (sI C.ls):=rfl
  rw[W3 K]
  cases c:aL _ xs with
  |false=>
   rw[c]at ni
   simp[cF,n2,aO,se,ni]
  |true=>
   rw[c]at ni
   cases c2:xs.all _<;>rw[c2]at z<;>simp at z<;>simp[cF,n2,aO,se,ni,items,z]
 |_=>simp[cF,Cs.Pk]
end
end Tx
end
section
open PySem Mini
namespace Tx
section
variable{C:Cs}
def Ni(k:Nat)(d:D):Prop:=nd d=true/\dep d<=k
def rO{xs:List D}(h:∀x∈xs,Ni k x):Ni (k+1) (.tup xs):=⟨jb.mpr fun x hx=>(h x hx).1,Nat.succ_le_succ (iM.mpr fun x hx=>(h x hx).2)⟩
def Ni.le{d:D}(h:Ni k d)(e:k<=m):Ni m d:=⟨h.1,Nat.le_trans h.2 e⟩
def xu{lo hi:Option Int}(h:x∈cut xs lo hi):x∈xs:=List.mem_of_mem_take (List.mem_of_mem_drop h)
def Ny xs lo hi:(cut xs lo hi).length<=xs.length:=by
 unfold cut
 simp only[List.length_drop,List.length_take]
 omega
def fits_of(h:k<=2000):fits k=true:=by simp[fits];omega
noncomputable def spL(row A B:List D)(p se se1:D)(k m:Int)(n:Nat):List D:=
 [.lst row,.lst row.reverse,.lst (A++B),.lst (row++[p]),.tup row,.non,.lst (row++[.non]),.lst (row++[.tup [se]]),.lst (A++[.tup [se,.int m]]++B),.lst (A++[.tup [se1,.int k]]++B),.lst (A++[.tup [se,.bl true]]++B),
  .lst (row++[.tup [.tup (List.replicate n (.bl false)),.int 0]]),.lst [],.lst (row++[.tup [.tup (List.replicate n (.bl true)),.int (m-1)]]),.lst (A++[.lst [se,.int k]]++B),.lst (A++[.tup [.tup (List.replicate n (.int 1)),.int k]]++B)]
def JN{row A B:List D}{p se se1:D}{k m:Int}{n:Nat}(hr:∀x∈row,Ni 2 x)(hA:∀x∈A,x∈row)(hB:∀x∈B,x∈row)(h0:Ni 2 p)(h1:Ni 1 se)(h2:Ni 1 se1):
  ∀d∈spL row A B p se se1 k m n,∀xs,d=.lst xs->pI xs:=by
 have fl:∀d:D,nd d=true->dep d=0->Ni 1 d:=fun d a b=>⟨a,by omega⟩
 have rep:∀x:D,nd x=true->dep x=0->Ni 1 (.tup (List.replicate n x)):=fun x a b=>rO fun y hy=>by rw[List.eq_of_mem_replicate hy];exact⟨a,by omega⟩
 have two:∀{a b:D},Ni 1 a->Ni 1 b->Ni 40 (.tup [a,b]):=fun ha hb=>(rO fun x hx=>by
  simp only[QCq,QAz,or_false]at hx
  rcases hx with rfl|rfl
  ·exact ha
  ·exact hb).le (by omega)
 have app:∀{u v:List D}{d:D},(∀x∈u,x∈row)->(∀x∈v,x∈row)->Ni 40 d->pI (u++[d]++v):=fun{u v d}a b c x hx=>by
  simp only[QXz,QDz]at hx
  rcases hx with (hx|rfl)|hx
  ·exact(hr x (a x hx)).le (by omega)
  ·exact c
  ·exact(hr x (b x hx)).le (by omega)
 have ap1:=fun{d}c=>by
  have:=app (v:=[]) (d:=d) (fun _ h=>h) (fun _ h=>nomatch h) c
  simpa using this
 have sub:∀{u:List D},(∀x∈u,x∈row)->pI u:=fun a x hx=>(hr x (a x hx)).le (by omega)
 intro d hd xs e
 subst e
 simp only[spL,QCq,QAz,or_false,D.lst.injEq,reduceCtorEq,false_or]at hd
 rcases hd with rfl|rfl|rfl|rfl|rfl|rfl|rfl|rfl|rfl|rfl|rfl|rfl|rfl|rfl
 ·exact sub fun _ h=>h
 ·exact sub fun _ h=>List.mem_reverse.mp h
 ·exact sub fun x h=>(QXz.mp h).elim (hA x) (hB x)
 ·exact ap1 (h0.le (by omega))
 ·exact ap1 ⟨rfl,by simp[dep]⟩
 ·exact ap1 ((rO fun x hx=>by rw[QDz.mp hx];exact h1).le (by omega))
 ·exact app hA hB (two h1 (fl _ rfl rfl))
 ·exact app hA hB (two h2 (fl _ rfl rfl))
 ·exact app hA hB (two h1 (fl _ rfl rfl))
 ·exact ap1 (two (rep _ rfl rfl) (fl _ rfl rfl))
 ·exact fun _ h=>nomatch h
 ·exact ap1 (two (rep _ rfl rfl) (fl _ rfl rfl))
 ·exact app hA hB (two h1 (fl _ rfl rfl))
 ·exact app hA hB (two (rep _ rfl rfl) (fl _ rfl rfl))
def Vh{i:Int}(h0:0<=i)(h1:i<xs.length):∃d∈xs,at? xs i=some d:=by
 have:ix? xs.length i=some i.toNat:=by
  unfold ix?
  simp only[show¬i<0 by omega,if_false,if_pos (⟨h0,h1⟩:0<=i/\i<xs.length)]
 have hl:i.toNat<xs.length:=by omega
 exact⟨xs[i.toNat],List.getElem_mem hl,by simp[at?,this,hl]⟩
def G5 n ns{s:St}{d:D}(mx:pg.fn (n+2) 36 [.val (sc ns),.val (.int 1),.val (.int 1000000)]=.ok (.val (.int r)) [.val (sc ns),.val (.int 1),.val (.int 1000000)])(hl:row.length<=512)(h0:0< (row.length:Int))(hi:r/16%(row.length:Int)=i)
  (a0:at? row i=some (ao s))(h1:0<s.1.length)(h8:s.1.length<=8)(ad:at? (spL row (cut row none (some i)) (cut row (some (i+1)) none) (ao s) (aF s.1) (.tup (cut (s.1.map .bl) (some 1) none)) s.2 C.sts.length s.1.length) (r%16)=some d):
  pg.fn (n+3) 56 [.val (sc ns),.val C.n,.val C.t,.val (.lst row)]=.ok (.val d) [.val (sc ns),.val C.n,.val C.t,.val (.lst row)]:=by
 have t1:=uI (C:=C)
 have lA:=Ny row none (some i)
 have lB:=Ny row (some (i+1)) none
 have tn:dX (aF s.1) (some 1) none=some (.val (.tup (cut (s.1.map .bl) (some 1) none))):=rfl
 have pw:binop .pow (.int 10) (.int 6)=some (.val (.int 1000000)):=rfl
 have ml:∀x:D,binop .mul (.tup [x]) (.int s.1.length)=some (.val (.tup (List.replicate s.1.length x))):=fun x=>by
  show(if (0:Int)<s.1.length/\(s.1.length:Int)<=8 then some (Rv.val (.tup (List.replicate (s.1.length:Int).toNat x)))else none)=_
  rw[if_pos ⟨by omega,by omega⟩]
  rfl
 have lr:b1 .len (aF s.1)=some (.val (.int s.1.length)):=by simp[aF]
 have bl:b1 .list (ao s)=some (.new (.lst [aF s.1,.int s.2])):=rfl
 have ss:∀σ:Ev,bD (.tup [6,7]) (ao s) σ=gk [6,7] [aF s.1,.int s.2] σ:=fun _=>rfl
 have sA:dX (.lst row) none (some i)=some (.new (.lst (cut row none (some i)))):=rfl
 have sB:dX (.lst row) (some (i+1)) none=some (.new (.lst (cut row (some (i+1)) none))):=rfl
 rw[wz]
 generalize cut row none (some i)=A at*
 generalize cut row (some (i+1)) none=B at*
 generalize aF s.1=sg at*
 have f1:=fits_of (k:=row.length+1) (by omega)
 have f2:=fits_of (k:=A.length+1) (by omega)
 have f3:=fits_of (k:=A.length+B.length) (by omega)
 have f4:=fits_of (k:=A.length+1+B.length) (by omega)
 have h0n:0<row.length:=by omega
 simp only[spL,QLq,QLz,List.nil_append]at ad
 have g8:fits 8=true:=rfl
 have g10:fits 10=true:=rfl
 have g13:fits 13=true:=rfl
 have g15:fits 15=true:=rfl
 have g16:fits 16=true:=rfl
 simp[jo,di,wI,g8,g10,g13,g15,g16,mx,pw,h0n,hi,a0,ss,gk,cD,cH,E.jx,sA,sB,aO,Ob.d,f1,f2,f3,f4,tn,ml,lr,bl,t1,ad]
def ux n(K:C.Ok)ns(X:C.Ro R)(hR:R≠[]):
  ∃d,pg.fn (n+3) 56 [.val (sc ns),.val C.n,.val C.t,.val (.lst (kD R))]=.ok (.val d) [.val (sc ns),.val C.n,.val C.t,.val (.lst (kD R))]/\∀xs,d=.lst xs->pI xs:=by
 obtain⟨r,r0,r1,mx⟩:=zc n ns 1 1000000 (by omega) (by omega)
 have le:=X.jO K
 have hp:=List.length_pos_iff.mpr hR
 have lk:=je R
 have i0:0<=r/16%R.length:=Int.emod_nonneg _ (by omega)
 have i1:r/16%R.length<R.length:=Int.emod_lt_of_pos _ (by omega)
 obtain⟨d0,m0,a0⟩:=Vh i0 (by rw[lk];exact i1)
 obtain⟨p,hp',rfl⟩:=QDq.mp m0
 have S:=X.ok p hp'
 obtain⟨s,w⟩:=p
 simp only at S a0
 have lS:=S.l
 rw[fc K.o.h2 K.o.g5]at lS
 have h2:=K.o.h2
 have g1:=K.o.g1
 have g5:=K.o.g5
 have hr:∀x∈kD R,Ni 2 x:=fun x hx=>by
  obtain⟨q,_,rfl⟩:=QDq.mp hx
  exact oh q.1
 have hb1:∀x∈s.1.map D.bl,Ni 0 x:=fun x hx=>by
  obtain⟨b,_,rfl⟩:=QDq.mp hx
  exact⟨rfl,QVz _⟩
 obtain⟨j0,j1⟩:0<=r%16/\r%16<16:=⟨Int.emod_nonneg _ (by omega),Int.emod_lt_of_pos _ (by omega)⟩
 obtain⟨d,md,ad⟩:=Vh (xs:=spL (kD R) _ _ _ _ _ s.2 C.sts.length s.1.length) j0 j1
 have z:=G5 n ns mx (by omega) (by omega) (show r/16%((kD R).length)=r/16%R.length by rw[lk]) a0 (by omega) (by omega) ad
 exact⟨d,z,JN hr (fun x=>xu) (fun x=>xu) (oh s) (rO hb1) (rO fun x hx=>hb1 x (xu hx)) d md⟩
end
end Tx
end
section
open PySem Mini
namespace Tx
section
variable{C:Cs}
def K4 n(K:C.Ok):pg.fn (n+11) 29 [.val C.n,.val C.t]=.ok (if bf (C.ff (C.ir 1000 0 (R0 C.ls)))then .new (.lst (kD (C.ir 1000 0 (R0 C.ls))))else .val .non) [.val C.n,.val C.t]:=by
 have f:=M8 n K
 have s:=G3 n K
 rw[QH]
 have q:∀x y z,(E.ite x y z).aB=none:=fun _ _ _=>rfl
 cases c:bf _<;>simp[xP,f,s,c,q]
def XC R:(kD R).map toS=R.map (·.1):=by
 simp only[kD,List.map_map]
 exact List.map_congr_left fun p _=>gP p.1
def Q7(K:C.Ok)(h:bf (C.ff (C.ir 1000 0 (R0 C.ls)))=true):C.Pk (.lst (kD (C.ir 1000 0 (R0 C.ls))))=true:=by
 have X:=Dm K 1000 0 (vY K)
 have cl:=closed K
 obtain⟨r,Z,e⟩:=M4
 rw[Cv,List.all_eq_true]at h
 have hI:sI C.ls∈(C.ir 1000 0 (R0 C.ls)).map (·.1):=by rw[e];simp
 generalize C.ir 1000 0 _=R at*
 rw[show C.Pk _=((kD R).all C.oE&&_)from rfl,XC]
 simp only[QUq,QUz,List.all_eq_true]
 refine⟨fun x hx=>?_,X.nd,hI,fun s hs=>?_⟩
 ·obtain⟨p,hp,rfl⟩:=QDq.mp hx
  exact DY K (X.ok p hp)
 ·obtain⟨p,hp,rfl⟩:=QDq.mp hs
  have f:=h p hp
  unfold Cs.snd
  rw[f,Bool.true_and,List.all_eq_true]
  intro x hx
  obtain⟨t,et⟩:=xg f hx
  rw[et]
  exact QFq (cl _ hs x hx t et)
def lwS:E:=.comp 1 (.name 0) (.var 3) (.cmp .notN ABQ ABj) (.var 0)
def Xk n(K:C.Ok)(X:C.Ro R)a e f g h i:ev (pg.cf (n+5)) lwS [a,.val C.n,.val C.t,.val (.lst (kD R)),e,f,g,h,i]=.ok (.new (.lst ((kD R).filter fun x=> !bf (C.flt (toS x) [])))) [a,.val C.n,.val C.t,.val (.lst (kD R)),e,f,g,h,i]:=by
 have:=jT (c:=pg.cf (n+5)) (it:=.var 3) (co:=.cmp .notN ABQ ABj) (el:=.var 0) (σ:=[a,.val C.n,.val C.t,.val (.lst (kD R)),e,f,g,h,i]) (fun x=>x) (fun x=> !bf (C.flt (toS x) [])) (r:=.val (.lst (kD R))) (by simp;rfl) rfl rfl (fun x hx=>by
  obtain⟨p,hp,rfl⟩:=QDq.mp hx
  have fa:=jw n K (X.ok p hp) (r:=[]) (by simp)
  rw[gP]
  simp[aO,Ob.d,fa]) fun x hx _=>by simp
 rw[List.map_id']at this
 exact this
def Qn R:((kD R).filter fun x=> !bf (C.flt (toS x) [])).isEmpty=R.all fun p=>bf (C.flt p.1 []):=by
 rw[Bool.eq_iff_iff,List.isEmpty_iff,List.filter_eq_nil_iff,List.all_eq_true]
 constructor
 ·intro h p hp
  have:=h _ (QTz hp)
  rw[gP]at this
  simpa using this
 ·intro h x hx
  obtain⟨p,hp,rfl⟩:=QDq.mp hx
  rw[gP,h p hp]
  decide
def math(ns:List Int)(hl:ns.length<=63):∃qs,pg.fn 60 57 [.val (.lst (ns.map .int))]=.ok (.val (.bl true)) qs:=by
 obtain⟨C,K,e'⟩:=Sw 50 ns 4 (by omega)
 have ls:=uw 54 K
 have pa:=K4 48 K
 have pl:=Q7 K
 have X:=Dm K 1000 0 (vY K)
 obtain⟨r,Z,ez⟩:=M4 (C:=C)
 have ne:C.ir 1000 0 (R0 C.ls)≠[]:=by rw[ez];simp
 clear ez
 have fa:=Cv (C:=C) (C.ir 1000 0 (R0 C.ls))
 generalize C.ir 1000 0 (R0 C.ls)=R at*
 obtain⟨d,sp,fi⟩:=ux 56 K ns X ne
 have ip:=pQ 49 K d
 have lp:=qg 53 K d fi
 have ia:=pQ 49 K (.lst (kD R))
 have nk:=Lf R
 have fe:=fun a e f g h i=>Xk 54 K X a e f g h i
 have cz:=(lH (xs:=(kD R).filter fun x=> !bf (C.flt (toS x) [])) (jb.mpr fun x hx=>jb.mp nk.1 x (List.mem_filter.mp hx).1) (iM.mpr fun x hx=>iM.mp (Nat.le_trans nk.2 (by omega)) x (List.mem_filter.mp hx).1)).2
 rw[Qn,<-fa]at cz
 have en:=(Vb (d:=.lst (kD R)) ⟨nk.1,Nat.le_trans (Nat.succ_le_succ nk.2) (by omega)⟩).2
 have e0:=(Vb (d:=.non) ⟨rfl,QIq _⟩).2
 have a0:at? [.non,.lst (kD R)] 0=some .non:=rfl
 have a1:at? [.non,.lst (kD R)] 1=some (.lst (kD R)):=rfl
 have eb:∀b:Bool,aJ .eq (.bl b) (.bl b)=some true:=fun b=>by cases b<;>rfl
 have q:lwS.aB=none:=rfl
 have hb:Oh=⟨1,9,(.cons ADG (.cons (.setT [3,4] (.call 53 AAR)) (.cons (.set 5 (.cmp .eq lwS ABW)) (.cons (.set 6 (.call 29 AAR)) (.cons (.ite (.or (.cons (.cmp .ne (.var 6) (.idx (.lis (.cons ABj AAT)) (.bi .int (.var 5)))) ABg)) AAP .nil) ACp)))))⟩:=rfl
 rw[show(60:Nat)=59+1 from rfl,abe,hb]
 cases c:bf (C.ff R)with
 |true=>
  rw[pl c]at ia
  rw[c]at pa cz
  simp only[if_true]at pa
  simp[e',ls,bD,gk,cD,Ob.d,fe,q,aO,cz,pa,a1,b2i,en,ia,sp,ip,lp,cF,eb]
 |false=>
  rw[c]at pa cz
  simp only[Qxq,if_false]at pa
  simp[e',ls,bD,gk,cD,Ob.d,fe,q,aO,cz,pa,a0,b2i,e0,sp,ip,lp,cF,eb]
end
end Tx
end
namespace Tx
open PySem PySem.W L2 Mini
def bI{K:QQq}{x:Str}{st:Stmt}(m:Value)(f c:Addr)(a:PySem.W.nsIn K mainGlobals x=some (some (.ref f)):=by kernel_rfl)(l:K.lookup f=some (fO x st m c):=by kernel_rfl)(q:PySem.W.codeIn K (.ref c) x=true:=by kernel_rfl):O6 K x st:=Mini.dIn a l q (by unfold PySem.W.keepIn;dsimp only;rw[l];rfl)
end Tx
open PySem PySem.W PyProof.Rows
theorem PySem.Challenge.cw_anywait_k08_whole_paper_holds : PySem.Challenge.rw_anywait_k08_whole_paper.Holds := by
 w_on
 refine PySem.W.holds_law Tx.w0w fun said => ?_
 refine PySem.W.holds_open (q := Tx.qV) (loose := Tx.lo) (Xt := fun s => recOk [] s) (XP := fun _ _ => True) (Yf := Hook.obs Tx.Kh) (Ya := Hook.val Tx.Kh) (YP := Hook.says Tx.Kh) (N := 5032) Tx.hl (Hook.of Tx.Kh) (Hook.keeps Tx.Kh) (fun _ _ => trivial) (fun _ _ _ _ _ => trivial) (by rfl) (by rfl) (by rfl) (fun s e => recFacts_of e) (by rfl) said (by decide +kernel) ⟨rfl, rfl, rfl, rfl, rfl, by decide +kernel⟩ ?hw ?hc
 case hw => w_witness2
 case hc =>
  refine Mini.Jm (p := Tx.pg) (L := 57) (y := "_law_script") (l := PySem.Challenge.rw_anywait_k08_whole_paper) rfl rfl (fun w h Y => PySem.W.kIn_of Y) Tx.math ?qF
  intro w mg fa h KX G hmg
  refine Mini.S5 (dL := Tx.d57) KX G hmg rfl rfl rfl Tx.bd Tx.scp Tx.nT ?qA ?qB ?qZ
  case qA =>
   show Mini.AllIn _ Tx.nms
   exact ⟨Tx.bI Tx.kW 59 58, Tx.bI Tx.kW 64 63, Tx.bI Tx.kW 69 68, Tx.bI Tx.kW 76 75, Tx.bI Tx.kW 83 82, Tx.bI Tx.kW 88 87, Tx.bI Tx.kW 93 92, Tx.bI Tx.kW 98 97, Tx.bI Tx.kW 105 104, Tx.bI Tx.kW 110 109, Tx.bI Tx.kW 115 114, Tx.bI Tx.kW 122 121, Tx.bI Tx.kW 129 128, Tx.bI Tx.kW 134 133, Tx.bI Tx.kW 139 138, Tx.bI Tx.kW 144 143, Tx.bI Tx.kW 151 150, Tx.bI Tx.Zu 158 157, Tx.bI Tx.Zu 163 162, Tx.bI Tx.Zu 168 167, Tx.bI Tx.Ae 175 174, Tx.bI Tx.Ae 182 181, Tx.bI Tx.Ae 189 188, Tx.bI Tx.Ae 194 193, Tx.bI Tx.Ae 201 200, Tx.bI Tx.Ae 208 207, Tx.bI Tx.Ae 213 212, Tx.bI Tx.Ae 220 219, Tx.bI Tx.Ey 227 226, Tx.bI Tx.Ey 234 233, Tx.bI Tx.Ey 239 238, Tx.bI Tx.Ey 244 243, Tx.bI Tx.Ey 251 250, Tx.bI Tx.Ey 256 255, Tx.bI Tx.Ey 263 262, Tx.bI Tx.gK 270 269, Tx.bI Tx.gK 277 276, Tx.bI Tx.gK 284 283, Tx.bI Tx.gK 291 290, Tx.bI Tx.gK 296 295, Tx.bI Tx.gK 303 302, Tx.bI Tx.gK 308 307, Tx.bI Tx.gK 313 312, Tx.bI Tx.gK 318 317, Tx.bI Tx.gK 325 324, Tx.bI Tx.gK 332 331, Tx.bI Tx.gK 337 336, Tx.bI Tx.gK 344 343, Tx.bI Tx.gK 349 348, Tx.bI Tx.gK 354 353, Tx.bI Tx.gK 359 358, Tx.bI Tx.gK 364 363, Tx.bI Tx.gK 369 368, Tx.bI Tx.gK 376 375, Tx.bI Tx.gK 381 380, Tx.bI Tx.gK 386 385, Tx.bI Tx.gK 393 392, Tx.bI Tx.gK 398 397, trivial⟩
  case qB => exact ⟨.v (u := .str "abcdefghijklmnopqrstuvwxyz" 241) (by kernel_rfl) (by decide +kernel), .v (u := .int 6 243) (by kernel_rfl) (by decide +kernel), .t (a := 52) (o := Tx.o52) (by kernel_rfl) (by kernel_rfl) (by decide +kernel), .v (u := .int 3 260) (by kernel_rfl) (by decide +kernel), .v (u := .int 5 262) (by kernel_rfl) (by decide +kernel), .v (u := .int 4 264) (by kernel_rfl) (by decide +kernel), .v (u := .int 8 266) (by kernel_rfl) (by decide +kernel), .v (u := .int 3 268) (by kernel_rfl) (by decide +kernel), .v (u := .int 12 396) (by kernel_rfl) (by decide +kernel), trivial⟩
  case qZ => exact ⟨by kernel_rfl, by kernel_rfl, by kernel_rfl, by kernel_rfl, by kernel_rfl, by kernel_rfl, by kernel_rfl, by kernel_rfl, by kernel_rfl, by kernel_rfl, by kernel_rfl, by kernel_rfl, by kernel_rfl, by kernel_rfl, trivial⟩