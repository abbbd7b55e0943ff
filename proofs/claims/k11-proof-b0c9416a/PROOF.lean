import PyProof.Rows.All
import Wide.All
import OpenK.AllK
import Wide.FinOn
import PySem.Syntax
import Lean
import PyProof.EqAt
import PyProof.EqKinds
import PyProof.TupleCall
import KE.KDictList
import KE.KSortAsk
import PyProof.ListMulAny
import PyProof.FactsAll.tuple_2
import PyProof.NeData
import PyProof.P3In
import KE.KMinKey
import KE.KSortTup
import PyProof.DictUpdate
import PyProof.DictCopy
import PyProof.CompFree
import KE.KBoundM
import KE.KSuperObj
import PyProof.Rows.CallKwBuiltin
import PySem.Challenge.RW_anywait_k11_timed
set_option linter.all false
set_option Elab.async false
set_option maxRecDepth 100000
set_option maxHeartbeats 0
set_option compiler.extract_closed false
set_option bootstrap.genMatcherCode false
abbrev QQq:=PySem.W.Frag
abbrev QQz:=List (PySem.Addr×PySem.Obj)
abbrev QZq:=PySem.Value→PySem.Shared→Prop
abbrev QZz:=PySem.Str→Option PySem.Value
def QJq:=@Option.bind_eq_some_iff
def QJz:=@Option.map_eq_some_iff
def QYq:=@List.mem_cons_of_mem
def QYz:=@List.mem_cons_self
def QXq:=@List.getElem?_eq_getElem
def QXz:=@List.mem_append
def QWq:=@PySem.Heap.get?_push_of_some
def QWz:=@List.mem_append_left
def QVq:=@List.mem_append_right
def QVz:=@Nat.le_refl
def QUq:=@Bool.and_eq_true
def QUz:=@decide_eq_true_eq
def QTq:=@List.length_append
def QTz:=@List.mem_map_of_mem
def QKq:=@PySem.wpAny_bind
def QKz:=@PySem.wpAny_pure
def QGq:=@PySem.wpAny_mono
def QGz:=@PySem.wpAny_field
def Qqq:=@PySem.wpAny_holding
def Qqz:=@PySem.Heap.lt_size
def Qzq:=@PySem.Heap.get?_push_size
def Qzz:=@PySem.wpAny_call_entry
def Qjq:=@PySem.wpAny_newObj_type
def Qjz:=@Bool.false_ne_true
def Qyq:=@List.size_toArray
def Qyz:=@List.map_cons
def Qxq:=@Bool.false_eq_true
def Qxz:=@List.getElem?_set_ne
def Qwq:=@List.getElem?_set_self
def Qwz:=@List.getElem?_append_left
def Qvq:=@Nat.lt_of_lt_of_le
def Qvz:=@Nat.ne_of_lt
def QAq:=@List.length_map
def QAz:=@List.not_mem_nil
def QBq:=@List.length_cons
def QBz:=@List.mem_of_getElem?
def QCq:=@List.mem_cons
def QCz:=@List.getElem?_eq_some_iff
def QDq:=@List.mem_map
def QDz:=@List.mem_singleton
def QEq:=@Option.some.inj
def QEz:=@decide_eq_false
def QFq:=@decide_eq_true
def QFz:=@List.getElem?_map
def QHq:=@Option.bind_some
def QHz:=@List.lookup_cons
def QIq:=@Nat.zero_le
def QIz:=@List.getElem?_append_right
noncomputable section
section
namespace L2
open PySem
def dM(s:Stmt):Arguments:=match s with
 |.FunctionDef _ a _ _ _ _ _ _ _ _=>a
 |_=>{posonlyargs:=[],args:=[],vararg:=none,kwonlyargs:=[],kw_defaults:=[],kwarg:=none,defaults:=[]}
def cF(s:Stmt):List Stmt:=match s with
 |.FunctionDef _ _ b _ _ _ _ _ _ _=>b
 |_=>[]
def aq(s:Stmt):Scope:=match s with
 |.FunctionDef _ _ _ _ _ _ sc _ _ _=>sc
 |_=>{kind:=.function,names:=[],isGenerator:=false,isCoroutine:=false}
end L2
end
section
namespace Tx
open PySem PySem.W L2 PyProof.Rows
theorem w0w:PySem.Challenge.rw_anywait_k11_timed.wellSaid=true:=by kernel_rfl
def top(i:Nat):Stmt:=PySem.Challenge.pw_anywait_k11_timed.main.body.getD i (.Pass ⟨0,0,0,0⟩)
abbrev s0:Stmt:=top 16
abbrev s1:Stmt:=top 17
abbrev s2:Stmt:=top 18
abbrev s3:Stmt:=top 19
abbrev s4:Stmt:=top 20
abbrev s5:Stmt:=top 21
abbrev s6:Stmt:=top 22
abbrev s7:Stmt:=top 23
abbrev s8:Stmt:=top 24
abbrev s9:Stmt:=top 25
abbrev Rp:Stmt:=top 26
abbrev BW:Stmt:=top 27
abbrev s12:Stmt:=top 28
abbrev Ii:Stmt:=top 29
abbrev s14:Stmt:=top 30
abbrev s15:Stmt:=top 31
abbrev s16:Stmt:=top 32
abbrev s17:Stmt:=top 35
abbrev s18:Stmt:=top 36
abbrev s19:Stmt:=top 37
abbrev s20:Stmt:=top 39
abbrev s21:Stmt:=top 40
abbrev s22:Stmt:=top 41
abbrev s23:Stmt:=top 42
abbrev s24:Stmt:=top 43
abbrev s25:Stmt:=top 48
abbrev s26:Stmt:=top 49
abbrev s27:Stmt:=top 52
abbrev s28:Stmt:=top 53
abbrev s29:Stmt:=top 54
abbrev s30:Stmt:=top 55
abbrev s31:Stmt:=top 56
abbrev s32:Stmt:=top 57
abbrev s33:Stmt:=top 58
abbrev s34:Stmt:=top 59
abbrev s35:Stmt:=top 60
abbrev s36:Stmt:=top 61
abbrev s37:Stmt:=top 62
abbrev s38:Stmt:=top 63
abbrev s39:Stmt:=top 64
abbrev s40:Stmt:=top 65
abbrev s41:Stmt:=top 66
abbrev s42:Stmt:=top 67
abbrev s43:Stmt:=top 68
abbrev s44:Stmt:=top 69
abbrev s45:Stmt:=top 70
abbrev s46:Stmt:=top 71
abbrev s47:Stmt:=top 47
def top2(j:Nat):Stmt:=match top 50 with|.ClassDef _ _ _ b _ _ _ _ _ _ _=>b.getD j (.Pass ⟨0,0,0,0⟩)|s=>s
abbrev s90:Stmt:=top2 0
abbrev s91:Stmt:=top2 1
abbrev s92:Stmt:=top2 2
abbrev s93:Stmt:=top2 4
def gE(P:Params)(x:Str)(i:Nat)(v:Value):DictEntry:=⟨PyData.keyHash P x,.str x i,v⟩
def fO(x:Str)(st:Stmt)(m:Value)(c:Addr):Obj:=⟨.type "function",none,.func (PySem.W.fnOf x x (dM st) (cF st) (aq st) .none .none .none m none (.ref c) .none), #[]⟩
def fQ0(x q:Str)(st:Stmt)(m:Value)(c:Addr):Obj:=⟨.type "function",none,.func (PySem.W.fnOf x q (dM st) (cF st) (aq st) .none .none .none m none (.ref c) .none), #[]⟩
noncomputable def cQ(x y:Str)(a:Nat)(l n:Int)(r s:Nat)(u v:Value)(t:Nat)(q:Int)(z:Nat):Obj:=⟨.type "code",none,.fields #[.str x a,.str y (a+1),.str "/claim/cut.py" (a+2),.int l 0,.int n 0,.int 0 0,.int 0 0,.int 3 0,.ref r,.bool true,.int 181 0,.ref s,.none,u,v,.ref t,.int q 0,.int l 0,.str "/claim/cut.py" z], #[]⟩
noncomputable def cO(x:Str)(a:Nat)(l n:Int)(r s:Nat)(u v:Value)(t:Nat)(q:Int)(z:Nat):Obj:=⟨.type "code",none,.fields #[.str x a,.str x (a+1),.str "/claim/cut.py" (a+2),.int l 0,.int n 0,.int 0 0,.int 0 0,.int 3 0,.ref r,.bool true,.int 181 0,.ref s,.none,u,v,.ref t,.int q 0,.int l 0,.str "/claim/cut.py" z], #[]⟩
def lY:Value:=.str "anywait.nets" 278
def QF:Value:=.str "anywait.stands" 457
def ZQ:Value:=.str "anywait.talks" 433
def GJ:Value:=.str "anywait.waits" 498
def jw:Value:=.str "law_anywait_k11_timed" 595
noncomputable def o83:Obj:=⟨.type "tuple",none,.seq #[.str "input" 284,.str "gate" 285,.str "start" 286,.str "out" 287,.str "state" 288,.str "same" 289,.str "not" 290,.str "and" 291,.str "or" 292,.str "both" 293,.str "held" 294,.str "table" 295,.str "on" 296,.str "off" 297], #[]⟩
noncomputable def Kf(P:Params):QQq:=[(3,⟨.type "dict",none,.dict #[gE P "__name__" 165 (.str "law_anywait_k11_timed" 595),gE P "__doc__" 166 .none,gE P "__package__" 167 .none,gE P "__loader__" 168 (.builtin "__main__.__loader__#opaque"),gE P "__spec__" 169 .none,gE P "__annotations__" 170 (.ref 6),gE P "__builtins__" 171 (.ref 4),gE P "__file__" 173 (.str "/claim/cut.py" 172),gE P "__cached__" 174 .none,gE P "_wall" 193 (.ref 21),gE P "WaitError" 213 (.ref 31),gE P "NoNet" 229 (.ref 44),gE P "NoTalk" 245 (.ref 56),gE P "NoWaits" 261 (.ref 68),gE P "NoNumber" 277 (.ref 80),gE P "LETTERS" 281 (.str "abcdefghijklmnopqrstuvwxyz" 280),gE P "LONGEST_NAME" 283 (.int 6 282),gE P "WORDS" 298 (.ref 83),gE P "MOST_INPUTS" 300 (.int 3 299),gE P "MOST_GATES" 302 (.int 5 301),gE P "MOST_WIRES" 304 (.int 4 303),gE P "MOST_TABLE_WIRES" 306 (.int 8 305),gE P "DEEPEST_HELD" 308 (.int 3 307),gE P "checked" 315 (.ref 90),gE P "is_net" 321 (.ref 95),gE P "has_parts" 327 (.ref 100),gE P "is_tuple" 336 (.ref 107),gE P "is_number" 345 (.ref 114),gE P "is_name" 351 (.ref 119),gE P "are_unlike" 357 (.ref 124),gE P "is_row" 363 (.ref 129),gE P "is_wire" 371 (.ref 136),gE P "are_wires" 377 (.ref 141),gE P "are_rows" 383 (.ref 146),gE P "is_kind" 394 (.ref 153),gE P "is_held" 403 (.ref 160),gE P "wire_names" 409 (.ref 165),gE P "waiting_gates" 415 (.ref 170),gE P "told" 421 (.ref 175),gE P "told_held" 432 (.ref 182),gE P "MOST_STATES" 436 (.int 12 435),gE P "checked_talk" 444 (.ref 189),gE P "is_talk" 450 (.ref 194),gE P "is_state" 456 (.ref 199),gE P "first_stand" 465 (.ref 206),gE P "steps_at" 471 (.ref 211),gE P "is_unasked" 480 (.ref 218),gE P "led_to" 491 (.ref 225),gE P "changed" 497 (.ref 230),gE P "LONGEST_WAIT" 501 (.int 99 500),gE P "MOST_CHANGES" 503 (.int 200 502),gE P "timed" 514 (.ref 237),gE P "check_waits" 520 (.ref 242),gE P "since_when" 526 (.ref 247),gE P "Going" 594 (.ref 292),gE P "_law_cell_at" 604 (.ref 303),gE P "_law_mixed" 614 (.ref 310),gE P "_law_next" 623 (.ref 317),gE P "_law_some" 635 (.ref 324),gE P "_law_table" 641 (.ref 329),gE P "_law_kind" 653 (.ref 336),gE P "_law_net" 659 (.ref 341),gE P "_law_talk" 665 (.ref 346),gE P "_law_ring" 671 (.ref 351),gE P "_law_chain" 685 (.ref 358),gE P "_law_meeting" 699 (.ref 365),gE P "_law_spoilt_kind" 705 (.ref 370),gE P "_law_case" 717 (.ref 377),gE P "_law_names" 723 (.ref 382),gE P "_law_tells" 729 (.ref 387),gE P "_law_waiting" 735 (.ref 392),gE P "_law_steps" 741 (.ref 397),gE P "_law_led" 747 (.ref 402),gE P "_law_timed" 753 (.ref 407),gE P "law" 759 (.ref 412)] 75, #[]⟩),
 (90,fO "checked" s0 lY 89),
 (89,cO "checked" 309 24 1 84 85 (.ref 86) (.ref 87) 88 313 314),
 (95,fO "is_net" s1 lY 94),
 (94,cO "is_net" 316 28 1 91 92 .none .none 93 319 320),
 (100,fO "has_parts" s2 lY 99),
 (99,cO "has_parts" 322 35 1 96 97 .none .none 98 325 326),
 (107,fO "is_tuple" s3 lY 106),
 (106,cO "is_tuple" 328 39 3 101 102 (.ref 103) (.ref 104) 105 334 335),
 (114,fO "is_number" s4 lY 113),
 (113,cO "is_number" 337 41 3 108 109 (.ref 110) (.ref 111) 112 343 344),
 (119,fO "is_name" s5 lY 118),
 (118,cO "is_name" 346 43 1 115 116 .none .none 117 349 350),
 (124,fO "are_unlike" s6 lY 123),
 (123,cO "are_unlike" 352 47 1 120 121 .none .none 122 355 356),
 (129,fO "is_row" s7 lY 128),
 (128,cO "is_row" 358 49 2 125 126 .none .none 127 361 362),
 (136,fO "is_wire" s8 lY 135),
 (135,cO "is_wire" 364 51 2 130 131 (.ref 132) (.ref 133) 134 369 370),
 (141,fO "are_wires" s9 lY 140),
 (140,cO "are_wires" 372 53 4 137 138 .none .none 139 375 376),
 (146,fO "are_rows" Rp lY 145),
 (145,cO "are_rows" 378 57 2 142 143 .none .none 144 381 382),
 (153,fO "is_kind" BW lY 152),
 (152,cO "is_kind" 384 61 3 147 148 (.ref 149) (.ref 150) 151 392 393),
 (160,fO "is_held" s12 lY 159),
 (159,cO "is_held" 395 77 3 154 155 (.ref 156) (.ref 157) 158 401 402),
 (165,fO "wire_names" Ii lY 164),
 (164,cO "wire_names" 404 79 1 161 162 .none .none 163 407 408),
 (170,fO "waiting_gates" s14 lY 169),
 (169,cO "waiting_gates" 410 81 2 166 167 .none .none 168 413 414),
 (175,fO "told" s15 lY 174),
 (174,cO "told" 416 84 3 171 172 .none .none 173 419 420),
 (182,fO "told_held" s16 lY 181),
 (181,cO "told_held" 422 100 3 176 177 (.ref 178) (.ref 179) 180 430 431),
 (189,fO "checked_talk" s17 ZQ 188),
 (188,cO "checked_talk" 437 106 2 183 184 (.ref 185) (.ref 186) 187 442 443),
 (194,fO "is_talk" s18 ZQ 193),
 (193,cO "is_talk" 445 110 2 190 191 .none .none 192 448 449),
 (199,fO "is_state" s19 ZQ 198),
 (198,cO "is_state" 451 118 3 195 196 .none .none 197 454 455),
 (206,fO "first_stand" s20 QF 205),
 (205,cO "first_stand" 459 125 1 200 201 (.ref 202) (.ref 203) 204 463 464),
 (211,fO "steps_at" s21 QF 210),
 (210,cO "steps_at" 466 127 3 207 208 .none .none 209 469 470),
 (218,fO "is_unasked" s22 QF 217),
 (217,cO "is_unasked" 472 130 3 212 213 (.ref 214) (.ref 215) 216 478 479),
 (225,fO "led_to" s23 QF 224),
 (224,cO "led_to" 481 132 4 219 220 (.ref 221) (.ref 222) 223 489 490),
 (230,fO "changed" s24 QF 229),
 (229,cO "changed" 492 137 3 226 227 .none .none 228 495 496),
 (242,fO "check_waits" s25 GJ 241),
 (241,cO "check_waits" 515 150 3 238 239 .none .none 240 518 519),
 (247,fO "since_when" s26 GJ 246),
 (246,cO "since_when" 521 155 3 243 244 .none .none 245 524 525),
 (303,fO "_law_cell_at" s27 jw 302),
 (302,cO "_law_cell_at" 597 187 2 297 298 (.ref 299) (.ref 300) 301 602 603),
 (310,fO "_law_mixed" s28 jw 309),
 (309,cO "_law_mixed" 605 193 3 304 305 (.ref 306) (.ref 307) 308 612 613),
 (317,fO "_law_next" s29 jw 316),
 (316,cO "_law_next" 615 196 3 311 312 (.ref 313) (.ref 314) 315 621 622),
 (324,fO "_law_some" s30 jw 323),
 (323,cO "_law_some" 624 199 5 318 319 (.ref 320) (.ref 321) 322 633 634),
 (329,fO "_law_table" s31 jw 328),
 (328,cO "_law_table" 636 204 3 325 326 .none .none 327 639 640),
 (336,fO "_law_kind" s32 jw 335),
 (335,cO "_law_kind" 642 210 4 330 331 (.ref 332) (.ref 333) 334 651 652),
 (341,fO "_law_net" s33 jw 340),
 (340,cO "_law_net" 654 220 4 337 338 .none .none 339 657 658),
 (346,fO "_law_talk" s34 jw 345),
 (345,cO "_law_talk" 660 226 4 342 343 .none .none 344 663 664),
 (351,fO "_law_ring" s35 jw 350),
 (350,cO "_law_ring" 666 234 2 347 348 .none .none 349 669 670),
 (358,fO "_law_chain" s36 jw 357),
 (357,cO "_law_chain" 672 240 2 352 353 (.ref 354) (.ref 355) 356 683 684),
 (365,fO "_law_meeting" s37 jw 364),
 (364,cO "_law_meeting" 686 251 2 359 360 (.ref 361) (.ref 362) 363 697 698),
 (370,fO "_law_spoilt_kind" s38 jw 369),
 (369,cO "_law_spoilt_kind" 700 265 3 366 367 .none .none 368 703 704),
 (377,fO "_law_case" s39 jw 376),
 (376,cO "_law_case" 706 271 2 371 372 (.ref 373) (.ref 374) 375 715 716),
 (382,fO "_law_names" s40 jw 381),
 (381,cO "_law_names" 718 291 1 378 379 .none .none 380 721 722),
 (387,fO "_law_tells" s41 jw 386),
 (386,cO "_law_tells" 724 293 3 383 384 .none .none 385 727 728),
 (392,fO "_law_waiting" s42 jw 391),
 (391,cO "_law_waiting" 730 311 2 388 389 .none .none 390 733 734),
 (397,fO "_law_steps" s43 jw 396),
 (396,cO "_law_steps" 736 314 3 393 394 .none .none 395 739 740),
 (402,fO "_law_led" s44 jw 401),
 (401,cO "_law_led" 742 318 4 398 399 .none .none 400 745 746),
 (407,fO "_law_timed" s45 jw 406),
 (406,cO "_law_timed" 748 327 4 403 404 .none .none 405 751 752),
 (412,fO "law" s46 jw 411),
 (411,cO "law" 754 352 1 408 409 .none .none 410 757 758),
 (237,fO "timed" s47 GJ 236),
 (236,cO "timed" 504 142 4 231 232 (.ref 233) (.ref 234) 235 512 513),
 (292,⟨.type "type",none,.cls {name:="Going",bases:=[.type "object"],mro:=[.ref 292,.type "object"],ns:=291,qualname:="Going"}, #[none,none,some (.str "Going" 527),some (.str "Going" 535),some (.builtin "object.__new__"),some (.bool true)]⟩),
 (291,⟨.type "dict",none,.dict #[gE P "__module__" 534 (.str "anywait.waits" 498),gE P "__firstlineno__" 538 (.int 157 537),gE P "__init__" 548 (.ref 261),gE P "due" 556 (.ref 268),gE P "change" 566 (.ref 275),gE P "still" 573 (.ref 282),gE P "ending" 580 (.ref 289),gE P "__static_attributes__" 587 (.ref 290),gE P "__dict__" 589 (.ref 293),gE P "__weakref__" 591 (.ref 294),gE P "__doc__" 592 .none] 4, #[]⟩),
 (261,fQ0 "__init__" "Going.__init__" s90 GJ 260),
 (260,cQ "__init__" "Going.__init__" 539 159 4 255 256 (.ref 257) (.ref 258) 259 546 547),
 (268,fQ0 "due" "Going.due" s91 GJ 267),
 (267,cQ "due" "Going.due" 549 167 2 262 263 (.ref 264) (.ref 265) 266 554 555),
 (275,fQ0 "change" "Going.change" s92 GJ 274),
 (274,cQ "change" "Going.change" 557 170 1 269 270 (.ref 271) (.ref 272) 273 564 565),
 (289,fQ0 "ending" "Going.ending" s93 GJ 288),
 (288,cQ "ending" "Going.ending" 574 182 1 283 284 (.ref 285) (.ref 286) 287 578 579),
 (83,o83)]
noncomputable def Ka:List Addr:=[3,90,89,95,94,100,99,107,106,114,113,119,118,124,123,129,128,136,135,141,140,146,145,153,152,160,159,165,164,170,169,175,174,182,181,189,188,194,193,199,198,206,205,211,210,218,217,225,224,230,229,242,241,247,246,303,302,310,309,317,316,324,323,329,328,336,335,341,340,346,345,351,350,358,357,365,364,370,369,377,376,382,381,387,386,392,391,397,396,402,401,407,406,412,411,237,236,292,291,261,260,268,267,275,274,289,288,83]
def Ke(P:Params):Ka=(Kf P).map (·.1):=rfl
abbrev Kh:PySem.W.Hook:=PySem.W.kHook Kf Ka Ke
noncomputable def lo:List Str:="_wall"::"__name__"::"WaitError"::"NoNet"::"NoTalk"::"NoWaits"::"NoNumber"::"LETTERS"::"LONGEST_NAME"::"WORDS"::"MOST_INPUTS"::"MOST_GATES"::"MOST_WIRES"::"MOST_TABLE_WIRES"::"DEEPEST_HELD"::"checked"::"is_net"::"has_parts"::"is_tuple"::"is_number"::"is_name"::"are_unlike"::"is_row"::"is_wire"::"are_wires"::"are_rows"::"is_kind"::"is_held"::"wire_names"::"waiting_gates"::"told"::"told_held"::"MOST_STATES"::"checked_talk"::"is_talk"::"is_state"::"first_stand"::"steps_at"::"is_unasked"::"led_to"::"changed"::"LONGEST_WAIT"::"MOST_CHANGES"::"timed"::"check_waits"::"since_when"::"Going"::"_law_cell_at"::"_law_mixed"::"_law_next"::"_law_some"::"_law_table"::"_law_kind"::"_law_net"::"_law_talk"::"_law_ring"::"_law_chain"::"_law_meeting"::"_law_spoilt_kind"::"_law_case"::"_law_names"::"_law_tells"::"_law_waiting"::"_law_steps"::"_law_led"::"_law_timed"::[]
def qV:Program:=view PySem.Challenge.pw_anywait_k11_timed [71]
def hl:LeftO PySem.Challenge.pw_anywait_k11_timed qV lo (fun s=>recOk [] s) (Hook.obs Kh) (Hook.val Kh) 6048:=fun w=>by
 rw[PySem.W.Fast.te4187177175401517315,PySem.W.Fast.te5923862056798008813,PySem.W.Fast.te14364793385576792824]
 kernel_rfl
end Tx
end
section
namespace L2
open PySem PySem.Spec PyProof.Rows
abbrev Key:=Sum Int Str
def wH:Key->Value->Bool
 |.inl k,v=>Value.isInt k v
 |.inr x,v=>Value.isStrOf x v
def ae2(w:World):Key->Int
 |.inl k=>hashInt k
 |.inr x=>hashStr w x
theorem cJ:∀{k:Key}{v:Value},wH k v=true->(∃i t,k=Sum.inl i/\v=Value.int i t)\/(∃x t,k=Sum.inr x/\v=Value.str x t)
 |.inl i,v,h=>by
  obtain⟨t,e⟩:=Value.isInt_shape h
  exact .inl ⟨i,t,rfl,e⟩
 |.inr x,v,h=>by
  obtain⟨t,e⟩:=Value.isStrOf_shape h
  exact .inr ⟨x,t,rfl,e⟩
def Jy i t:wH (.inl i) (.int i t)=true:=by simp[wH,Value.isInt]
def Jx x t:wH (.inr x) (.str x t)=true:=by simp[wH,Value.isStrOf]
def XX a b:decide ((Sum.inl a:Key)=Sum.inl b)=(a==b):=by
 by_cases e:a=b
 ·subst e;simp
 ·rw[QEz (fun q=>e (Sum.inl.inj q))]
  exact(beq_eq_false_iff_ne.mpr e).symm
def XQ a b:decide ((Sum.inr a:Key)=Sum.inr b)=decide (a=b):=by
 by_cases e:a=b
 ·subst e;simp
 ·rw[QEz (fun q=>e (Sum.inr.inj q)),QEz e]
def XS a b:decide ((Sum.inl a:Key)=Sum.inr b)=false:=QEz (fun q=>nomatch q)
def DX a b:decide ((Sum.inr a:Key)=Sum.inl b)=false:=QEz (fun q=>nomatch q)
noncomputable def fV(prog:Program)(w:World):PySem.KeyKind prog w Key where
 is:=wH
 hash:=ae2 w
 inj:=fun v a b ha hb=>by
  rcases cJ ha with ⟨i,t,rfl,rfl⟩|⟨x,t,rfl,rfl⟩
  ·rcases cJ hb with ⟨j,u,rfl,e⟩|⟨y,u,rfl,e⟩
   ·injection e with e1 _;rw[e1]
   ·exact nomatch e
  ·rcases cJ hb with ⟨j,u,rfl,e⟩|⟨y,u,rfl,e⟩
   ·exact nomatch e
   ·injection e with e1 _;rw[e1]
 byValue:=fun k v h=>by
  rcases cJ h with ⟨i,t,rfl,rfl⟩|⟨x,t,rfl,rfl⟩<;>rfl
 pyHash:=fun hv h=>by
  rcases cJ hv with ⟨i,t,rfl,rfl⟩|⟨x,t,rfl,rfl⟩
  ·exact wpAny_pyHash_int h
  ·exact wpAny_pyHash_str h
 eqBool:=fun hu hv h=>by
  rcases cJ hu with ⟨i,t,rfl,rfl⟩|⟨x,t,rfl,rfl⟩
  ·rcases cJ hv with ⟨j,u,rfl,rfl⟩|⟨y,u,rfl,rfl⟩
   ·rw[XX]at h;exact wpAny_eqBool_int h
   ·rw[XS]at h;exact SeqAt.EqAt.int_str i t y u _ _ _ _ h
  ·rcases cJ hv with ⟨j,u,rfl,rfl⟩|⟨y,u,rfl,rfl⟩
   ·rw[DX]at h;exact SeqAt.EqAt.str_int x t j u _ _ _ _ h
   ·rw[XQ]at h;exact wpAny_eqBool_str h
 «strs»:=fun k x t v h=>by
  rcases cJ h with ⟨i,u,rfl,e⟩|⟨y,u,rfl,e⟩
  ·exact nomatch e
  ·injection e with e1 _
   subst e1
   cases v<;>rfl
def Aj prog w i t:(fV prog w).is (.inl i) (.int i t)=true:=Jy i t
def Ai prog w x t:(fV prog w).is (.inr x) (.str x t)=true:=Jx x t
inductive V where
 |non|bl (b:Bool)|int (i:Int)|str (x:Str)|ref (a:Addr)|ty (n:String)
 deriving DecidableEq
def RelV:V->Value->Prop
 |.non,u=>u=Value.none
 |.bl b,u=>u=Value.bool b
 |.int i,u=>∃t,u=Value.int i t
 |.str x,u=>∃t,u=Value.str x t
 |.ref a,u=>u=Value.ref a
 |.ty n,u=>u=Value.type n
abbrev Vals:List V->List Value->Prop:=Paired RelV
theorem Vals.length{us:List Value}(r:Vals xs us):xs.length=us.length:=Paired.length r
theorem Vals.get:∀{xs:List V}{us:List Value}{i:Nat}{x:V},Vals xs us->xs[i]? =some x->∃u,us[i]? =some u/\RelV x u
 |_,_,_,_,.nil=>fun e=>by simp at e
 |_,_,0,_,.cons r _=>fun e=>by simp at e;subst e;exact⟨_,rfl,r⟩
 |_,_,i+1,x,.cons _ t=>fun e=>by
  obtain⟨u,h1,h2⟩:=Vals.get t (by simpa using e)
  exact⟨u,by simpa using h1,h2⟩
theorem Vals.set{u:Value}(r:RelV x u):∀{xs:List V}{us:List Value}(i:Nat),Vals xs us->Vals (xs.set i x) (us.set i u)
 |_,_,_,.nil=>.nil
 |_,_,0,.cons _ t=>.cons r t
 |_,_,i+1,.cons q t=>.cons q (Vals.set r i t)
theorem Vals.append:∀{xs ys:List V}{us ws:List Value},Vals xs us->Vals ys ws->Vals (xs++ys) (us++ws)
 |_,_,_,_,.nil=>fun s=>s
 |_,_,_,_,.cons r t=>fun s=>.cons r (Vals.append t s)
theorem Vals.take:∀{xs:List V}{us:List Value}(n:Nat),Vals xs us->Vals (xs.take n) (us.take n)
 |_,_,0,_=>.nil
 |_,_,_+1,.nil=>.nil
 |_,_,n+1,.cons r t=>.cons r (Vals.take n t)
theorem Vals.drop:∀{xs:List V}{us:List Value}(n:Nat),Vals xs us->Vals (xs.drop n) (us.drop n)
 |_,_,0,r=>r
 |_,_,_+1,.nil=>.nil
 |_,_,n+1,.cons _ t=>Vals.drop n t
def lK:Option V->Option Value->Prop
 |some v,some u=>RelV v u
 |none,none=>True
 |_,_=>False
def KV{κ:Type}:List (κ×V)->List (κ×Value)->Prop:=Paired fun(p:κ×V)(q:κ×Value)=>p.1=q.1/\RelV p.2 q.2
def kV:Key->V
 |.inl i=>.int i
 |.inr x=>.str x
inductive HO where
 |lst (xs:List V)
 |tup (xs:List V)
 |dK (kvs:List (Key×V))
 |ins (C dx:Addr) (fs:List (Str×V))
 |own (x:Addr)
 |met (f x:Addr)
 |frz (o:Obj) (u:HO)
 |tbl (ps:Array Value)
abbrev Hp:=Addr->Option HO
def upd(H:Hp)(a:Addr)(o:HO):Hp:=fun b=>if b=a then some o else H b
def aB{a:Addr}:upd H a o a=some o:=by unfold upd;rw[if_pos rfl]
def au{a b:Addr}(h:b≠a):upd H a o b=H b:=by unfold upd;rw[if_neg h]
def iu{H:Hp}{o:HO}(h:H a=some o)(h':H b=none):a≠b:=by
 intro e;subst e;rw[h]at h';cases h'
def TupOk(h:Heap)(a:Addr)(items:Array Value):Prop:=∃o,h.get? a=some o/\o.cls=.type "tuple"/\o.dict=none/\∃n,o.data=.seq items n
def TupOk.is{a:Addr}(x:TupOk h a items):IsTup h a items:=let ⟨o,e,c,_,d⟩:=x;⟨o,e,c,d⟩
def TupOk.new(h:Heap)items:TupOk (h.push {cls:=.type "tuple",data:=.seq items}) h.objs.size items:=⟨_,Qzq _ rfl,rfl,rfl,_,rfl⟩
section
variable(P:Program)(w:World)
noncomputable def dq(H:Hp)(h:Heap)(a:Addr):HO->Prop
 |.lst xs=>xs.length<=sizeLine/\∃(its:List Value)(n:Nat),Vals xs its/\h.get? a=some {cls:=.type "list",data:=.seq its.toArray n}
 |.tup xs=>xs.length<=sizeLine/\∃its:List Value,Vals xs its/\TupOk h a its.toArray
 |.dK kvs=>kvs.length<=sizeLine/\(a==sysModules)=false/\∃vs,KV kvs vs/\h.DictOf (fV P w) a vs
 |.ins C dx fs=>H dx=some (.own a)/\fs.length<=1000/\dx≠a/\h.get? a=some (PySem.W.instObj C dx)/\
   ∃mA,h.Ns1 dx mA/\(∀f,lK (fs.lookup f) (mA f))/\PySem.Within mA (fs.map (·.1))
 |.own _=>∃o,h.get? a=some o
 |.frz o u=>h.get? a=some o/\dq H h a u
 |.tbl ps=>h.get? a=some {cls:=.none,data:=.fields ps}
 |.met f x=>h.get? a=some (PySem.W.methodObj (.ref f) (.ref x))
def pA(H:Hp)(h:Heap):Prop:=∀a o,H a=some o->dq P w H h a o
end
section
variable{P:Program}{w:World}{H H':Hp}{h h':Heap}{a:Addr}{o:HO}
theorem dq.lt(x:dq P w H h a o):a<h.objs.size:=by
 cases o with
 |lst xs=>obtain⟨_,_,_,_,e⟩:=x;exact Qqz e
 |tup xs=>obtain⟨_,_,_,p⟩:=x;exact p.is.lt
 |dK kvs=>obtain⟨_,_,_,_,o,_,_,e,_⟩:=x;exact Qqz e
 |ins C dx fs=>obtain⟨_,_,_,e,_⟩:=x;exact Qqz e
 |own y=>obtain⟨_,e⟩:=x;exact Qqz e
 |frz ob u=>obtain⟨e,_⟩:=x;exact Qqz e
 |tbl ps=>exact Qqz (x)
 |met f y=>exact Qqz (x)
theorem dq.stay(x:dq P w H h a o)(k:∀b u,(b=a\/H b=some (.own a))->h.get? b=some u->h'.get? b=some u)
  (ho:∀b,H b=some (.own a)->H' b=some (.own a))(ht:∀b xs,H b=some (.tup xs)->H' b=some (.tup xs)):dq P w H' h' a o:=by
 induction o with
 |lst xs=>obtain⟨z,its,n,r,e⟩:=x;exact⟨z,its,n,r,k _ _ (.inl rfl) e⟩
 |tup xs=>obtain⟨z,its,r,ob,e,c⟩:=x;exact⟨z,its,r,ob,k _ _ (.inl rfl) e,c⟩
 |dK kvs=>obtain⟨z,y,vs,r,ob,es,ep,e,c⟩:=x;exact⟨z,y,vs,r,ob,es,ep,k _ _ (.inl rfl) e,c⟩
 |ins C dx fs=>
  obtain⟨d,z,ne,e,mA,⟨od,es,ep,e2,c⟩,r⟩:=x
  exact⟨ho _ d,z,ne,k _ _ (.inl rfl) e,mA,⟨od,es,ep,k _ _ (.inr d) e2,c⟩,r⟩
 |own y=>obtain⟨ob,e⟩:=x;exact⟨ob,k _ _ (.inl rfl) e⟩
 |frz ob u ih=>obtain⟨e,q⟩:=x;exact⟨k _ _ (.inl rfl) e,ih q⟩
 |tbl ps=>
  exact k a _ (.inl rfl) x
 |met f y=>
  exact k a _ (.inl rfl) x
theorem pA.lt(x:pA P w H h)(e:H a=some o):a<h.objs.size:=(x a o e).lt
def pA.fresh(x:pA P w H h)(e:h.objs.size<=a):H a=none:=by
 cases q:H a with
 |none=>rfl
 |some u=>exact absurd (Qvq (x.lt q) e) (Nat.lt_irrefl _)
def pA.kept(x:pA P w H h)(k:∀b u,h.get? b=some u->h'.get? b=some u):pA P w H h':=fun a o e=>
 (x a o e).stay (fun b u _ q=>k b u q) (fun _ q=>q) fun _ _ q=>q
def pA.laid(x:pA P w H h)(k:∀b u,h.get? b=some u->h'.get? b=some u)(hp:h.objs.size<=a)(new:dq P w (upd H a o) h' a o):pA P w (upd H a o) h':=fun b u e=>by
 have hn:=x.fresh hp
 by_cases hb:b=a
 ·subst hb;rw[aB]at e;cases e;exact new
 ·rw[au hb]at e
  exact(x b u e).stay (fun c v _ q=>k c v q) (fun c q=>by rw[au (iu q hn)];exact q) fun c xs q=>by rw[au (iu q hn)];exact q
end
def Rd(H:Hp)(a:Addr)(u:HO):Prop:=H a=some u\/∃o,H a=some (.frz o u)
def Rd.ok{w:World}{h:Heap}{u:HO}(r:Rd H a u)(x:pA P w H h):dq P w H h a u:=by
 rcases r with r|⟨o,r⟩
 ·exact x a u r
 ·obtain⟨_,q⟩:=x a _ r
  exact q
def Mut:Option HO->Prop
 |some (.lst _)=>True
 |some (.dK _)=>True
 |some (.ins _ _ _)=>True
 |_=>False
section
variable{P:Program}{w:World}{H:Hp}{h h':Heap}{x e:Addr}{o':HO}
def pA.write(ok:pA P w H h)(mu:Mut (H x))(he:e=x\/H e=some (.own x))(k:∀b u,b≠e->h.get? b=some u->h'.get? b=some u)(heo:∃u,h'.get? e=some u)
  (new:dq P w (upd H x o') h' x o'):pA P w (upd H x o') h':=fun b u q=>by
 have nown:∀c y,H c=some (.own y)->c≠x:=fun c y r z=>by subst z;rw[r]at mu;exact mu
 by_cases hb:b=x
 ·subst hb;rw[aB]at q;cases q;exact new
 ·rw[au hb]at q
  by_cases hbe:b=e
  ·have q':H b=some (.own x):=by
    rcases he with z|z
    ·exact absurd (hbe.trans z) hb
    ·rw[hbe];exact z
   rw[q]at q';cases q'
   obtain⟨v,hv⟩:=heo
   exact⟨v,by rw[hbe];exact hv⟩
  ·refine(ok b u q).stay (fun c v hc r=>k c v ?_ r) (fun c r=>by rw[au (nown c b r)];exact r) fun c xs r=>by rw[au ((fun c xs r z=>by subst z;rw[r]at mu;exact mu) c xs r)];exact r
   rcases hc with rfl|hc
   ·exact hbe
   ·rintro rfl
    rcases he with z|z
    ·exact nown c b hc z
    ·rw[hc]at z;cases z;exact hb rfl
end
structure Un(fs ex:List Addr)(H H':Hp)(h h':Heap):Prop where
 keep:∀b o,h.get? b=some o->H b=none->b∉fs->b∉ex->h'.get? b=some o
 slot:∀b o,h.get? b=some o->H b=none->b∈fs->b∉ex->∃sl,h'.get? b=some {o with slots:=sl}
 free:∀b o,h.get? b=some o->H b=none->b∉ex->H' b=none
 there:∀b o,h.get? b=some o->b∉ex->∃o',h'.get? b=some o'
 tups:∀b xs,H b=some (.tup xs)->H' b=some (.tup xs)
 frzs:∀b o u,H b=some (.frz o u)->H' b=some (.frz o u)
 tbls:∀b ps,H b=some (.tbl ps)->∃more,H' b=some (.tbl (ps++more))
section
variable{fs fs' ex ex':List Addr}{H H1 H2:Hp}{h h1 h2 h':Heap}{a x e:Addr}{o:HO}
def Un.any(u:Un fs ex H H1 h h1){ob:Obj}(q:h.get? b=some ob)(n:H b=none)(hx:b∉ex):∃sl,h1.get? b=some {ob with slots:=sl}:=by
 by_cases hb:b∈fs
 ·exact u.slot b ob q n hb hx
 ·exact⟨ob.slots,u.keep b ob q n hb hx⟩
def Un.kept(k:∀b u,h.get? b=some u->h'.get? b=some u):Un fs ex H H h h':=
 ⟨fun b ob q _ _ _=>k b ob q,fun b ob q _ _ _=>⟨ob.slots,k b ob q⟩,fun _ _ _ n _=>n,fun b ob q _=>⟨ob,k b ob q⟩,fun _ _ q=>q,fun _ _ _ q=>q,fun _ ps q=>⟨#[],by rw[q];simp⟩⟩
def Un.refl:Un fs ex H H h h:=Un.kept fun _ _ q=>q
theorem Un.laid(k:∀b u,h.get? b=some u->h'.get? b=some u)(hp:h.objs.size<=a)(hn:H a=none):Un fs ex H (upd H a o) h h' where
 keep:=fun b u q _ _ _=>k b u q
 slot:=fun b u q _ _ _=>⟨u.slots,k b u q⟩
 free:=fun b u q n _=>by rw[au (Qvz (Qvq (Qqz q) hp))];exact n
 there:=fun b u q _=>⟨u,k b u q⟩
 tups:=fun b xs q=>by rw[au (iu q hn)];exact q
 frzs:=fun b u xs q=>by rw[au (iu q hn)];exact q
 tbls:=fun b ps q=>⟨#[],by rw[au (iu q hn),q];simp⟩
def Un.write(mu:Mut (H x))(he:e=x\/H e=some (.own x))(k:∀b u,b≠e->h.get? b=some u->h'.get? b=some u)(heo:∃u,h'.get? e=some u):Un fs ex H (upd H x o) h h':=by
 have hx:∀b,H b=none->b≠x:=fun b n z=>by subst z;rw[n]at mu;exact mu
 have hb:∀b,H b=none->b≠e:=fun b n z=>by
  subst z
  rcases he with r|r
  ·exact hx b n r
  ·rw[n]at r;cases r
 have hm:∀b u,H b=some u->¬Mut (some u)->b≠x:=fun b u q nm z=>by subst z;rw[q]at mu;exact nm mu
 refine⟨fun b u q n _ _=>k b u (hb b n) q,fun b u q n _ _=>⟨u.slots,k b u (hb b n) q⟩,fun b u q n _=>by rw[au (hx b n)];exact n,fun b u q _=>?_,
  fun b xs q=>by rw[au (hm b _ q fun z=>z)];exact q,fun b u xs q=>by rw[au (hm b _ q fun z=>z)];exact q,fun b ps q=>⟨#[],by rw[au (hm b _ q fun z=>z),q];simp⟩⟩
 by_cases hbe:b=e
 ·subst hbe;exact heo
 ·exact⟨u,k b u hbe q⟩
end
def trk(h:Heap)(H:Hp):List Addr:=(List.range h.objs.size).filter fun a=>(H a).isSome
def JG(h:Heap)(H:Hp):Heap:=PySem.W.hideAll h (trk h H)
def JF h H:(JG h H).objs.size=h.objs.size:=PySem.W.hideAll_size _ _
def Oe{H:Hp}{o:Obj}(e:h.get? b=some o)(n:H b=none):(JG h H).get? b=some o:=
 PySem.W.hideAll_get _ e fun hm=>by
  have q:=(List.mem_filter.mp hm).2
  rw[n]at q;simp at q
def Sq{H:Hp}{o:Obj}(e:(JG h H).get? b=some o):h.get? b=some o/\H b=none:=by
 have e':=PySem.W.of_hideAll _ e
 refine⟨e',?_⟩
 cases q:H b with
 |none=>rfl
 |some x=>
  have z:(JG h H).get? b=none:=PySem.W.hideAll_none _ (List.mem_filter.mpr ⟨List.mem_range.mpr (Qqz e'),by simp[q]⟩)
  rw[z]at e;cases e
def Ue(g h:Heap)(L:Addr):List (Addr×Obj):=(List.range h.objs.size).filterMap fun a=>if a=L\/(g.get? a).isSome=true then none else(h.get? a).map fun o=>(a,o)
def rest(g h:Heap)(L d:Addr):List (Addr×Obj):=(Ue g h L).filter fun p=>decide (p.1≠d)
structure Mod(K:QQq)(mg:QZz)(base:Heap):Prop where
 kin:K.In base
 glob:base.Ns mainGlobals mg
 blt:∃mb,base.Ns builtinsNs mb/\∀x:Str,x≠"__name__"->mb x=bootBuiltins x
 nolimit:base.NoLimit
structure Cx where
 prog:Program
 w:World
 K:QQq
 mg:Str->Option Value
 base:Heap
 A:Around
 N:List Str
 s₀:Shared
 H₀:Hp
 env:Env
 outer:List Env
 stack:List Env
 ex:List Addr
 fn:Str->Bool
 calm:Bool
 pn:List (Addr×Obj)
 xe:Value->Shared->Prop
def frs(l:List Env):List Addr:=l.filterMap (·.frame)
abbrev Cx.fs(X:Cx):List Addr:=frs X.outer
def J5(sc:Scope)(x:Str):Prop:=sc.names.lookup x=some .local\/sc.names.lookup x=some .cell\/sc.names.lookup x=some .free
def Loc(sc:Scope)(x:Str):Prop:=sc.names.lookup x=some .local\/sc.names.lookup x=some .cell
def Look(env:Env)(h:Heap)(m:QZz)(x:Str)(u:Value):Prop:=
 (env.kindOf x=some .local/\m x=some u)\/((env.kindOf x=some .cell\/env.kindOf x=some .free)/\∃c,env.cells.lookup x=some c/\h.IsCell c (some u))
structure Cx.Ok(X:Cx):Prop where
 mod:Mod X.K X.mg X.base
 kind:X.env.scope.kind=.function
 glob:X.env.globals=mainGlobals
 blt:X.env.builtins=builtinsNs
 above:X.s₀.heap.objs.size<=X.env.locals
 inj:∀x y c,X.env.cells.lookup x=some c->X.env.cells.lookup y=some c->x=y
 has:∀x,(X.env.kindOf x=some .cell\/X.env.kindOf x=some .free)->∃c,X.env.cells.lookup x=some c
 cab:∀x c,X.fn x=true->X.env.cells.lookup x=some c->X.s₀.heap.objs.size<=c
 hd:X.calm=true->X.A.handled=none
 frames:X.A.frames=some X.stack
 stk:X.stack=X.outer\/(X.stack=X.env::X.outer/\X.env.frame=some X.env.locals)
 exf:∀b∈X.ex,b≠X.env.locals/\∀x c,X.env.cells.lookup x=some c->c≠b
 bs:∀b o,X.base.get? b=some o->X.s₀.heap.get? b=some o/\X.H₀ b=none
 bsz:X.base.objs.size<=X.s₀.heap.objs.size
 noex:∀b o,X.base.get? b=some o->b∉X.ex
 exfs:∀b∈X.ex,b∉X.fs
 mQ:X.s₀.heap.FunFrames X.base X.outer
 frf:∀b∈X.fs,X.H₀ b=none
structure Inv(X:Cx)(γ:QQz)(σ:List (Option V))(H:Hp)(s:Shared):Prop where
 ok:X.Ok
 os:s.os=X.s₀.os
 bare:AllBare s.gens
 base:Un X.fs X.ex X.H₀ H X.s₀.heap s.heap
 loc:∃m,s.heap.Ns X.env.locals m/\∀(i:Nat)(x:Str)(v:V),X.N[i]? =some x->σ[i]? =some (some v)->J5 X.env.scope x->∃u,RelV v u/\Look X.env s.heap m x u
 cell:∀x c,X.env.cells.lookup x=some c->∃v,s.heap.IsCell c v
 free:H X.env.locals=none
 freeC:∀x c,X.env.cells.lookup x=some c->H c=none
 pin:∀p∈X.pn++γ,s.heap.get? p.1=some p.2/\H p.1=none/\p.1≠X.env.locals/\p.1∉X.fs/\∀v,p.2.data≠ .cell v
 hok:pA X.prog X.w H s.heap
 len:σ.length=X.N.length
section
variable{X:Cx}{γ:QQz}{σ:List (Option V)}{H H':Hp}{s:Shared}{h':Heap}
def Cx.Ok.aeV(ok:X.Ok){o:Obj}(e:X.base.get? b=some o):b∉X.fs:=fun hb=>by
 have:=(ok.mQ.mem hb).1
 rw[e]at this;cases this
theorem Inv.bs(I:Inv X γ σ H s):∀b o,X.base.get? b=some o->s.heap.get? b=some o/\H b=none:=fun b o e=>
 ⟨I.base.keep b o (I.ok.bs b o e).1 (I.ok.bs b o e).2 (I.ok.aeV e) (I.ok.noex b o e),I.base.free b o (I.ok.bs b o e).1 (I.ok.bs b o e).2 (I.ok.noex b o e)⟩
def Inv.bk(I:Inv X γ σ H s):∀b o,X.base.get? b=some o->s.heap.get? b=some o:=fun b o e=>(I.bs b o e).1
theorem Inv.mod(I:Inv X γ σ H s):Mod X.K X.mg X.base:=I.ok.mod
def Inv.Av(I:Inv X γ σ H s):X.K.In s.heap:=I.ok.mod.kin.keeps I.bk
theorem Inv.lt(I:Inv X γ σ H s):X.env.locals<s.heap.objs.size:=let ⟨_,hn,_⟩:=I.loc;hn.lt
def Inv.sz(I:Inv X γ σ H s):X.s₀.heap.objs.size<=s.heap.objs.size:=Nat.le_trans I.ok.above (Nat.le_of_lt I.lt)
def Inv.aeU(I:Inv X γ σ H s){a:Addr}(h:s.heap.objs.size<=a):a∉X.fs:=fun hb=>by
 obtain⟨_,o,ho,_⟩:=I.ok.mQ.mem hb
 exact absurd (Qvq (Qqz ho) (Nat.le_trans I.sz h)) (Nat.lt_irrefl _)
def Inv.Y6(I:Inv X γ σ H s):∀x c,X.env.cells.lookup x=some c->c≠X.env.locals:=fun x c e z=>by
 obtain⟨v,o,ho,hd⟩:=I.cell x c e
 obtain⟨m,⟨o',es,ep,ho',hd',_⟩,_⟩:=I.loc
 rw[z,ho']at ho;cases ho;rw[hd']at hd;cases hd
theorem Inv.mQ(I:Inv X γ σ H s):s.heap.FunFrames X.base X.outer:=by
 have all:∀l,(∀b∈frs l,b∈X.fs)->X.s₀.heap.FunFrames X.base l->s.heap.FunFrames X.base l:=by
  intro l
  induction l with
  |nil=>intro _ _;trivial
  |cons env r ih=>
   intro hs hl
   obtain⟨hk,⟨L,o,hf,hn,ho,hd⟩,hr⟩:=hl
   have hL:=hs L (by unfold frs;rw[List.filterMap_cons,hf];exact QYz)
   obtain⟨sl,e⟩:=I.base.slot L o ho (I.ok.frf L hL) hL fun z=>I.ok.exfs L z hL
   exact⟨hk,⟨L,_,hf,hn,e,hd⟩,ih (fun b hb=>hs b (by unfold frs;rw[List.filterMap_cons,hf];exact QYq _ hb)) hr⟩
 exact all X.outer (fun _ hb=>hb) I.ok.mQ
theorem Inv.stack(I:Inv X γ σ H s):s.heap.FunFrames X.base X.stack:=by
 rcases I.ok.stk with e|⟨e,hf⟩
 ·rw[e];exact I.mQ
 ·rw[e]
  obtain⟨m,hn,_⟩:=I.loc
  exact .cons (by rw[I.ok.kind];decide) hf hn (Heap.get?_none_of_le (Nat.le_trans I.ok.bsz I.ok.above)) I.mQ
def Inv.Cw(I:Inv X γ σ H s):∀b∈frs X.stack,b∈X.env.locals::X.fs:=fun b hb=>by
 rcases I.ok.stk with e|⟨e,hf⟩
 ·rw[e]at hb;exact QYq _ hb
 ·rw[e]at hb
  unfold frs at hb
  rw[List.filterMap_cons,hf]at hb
  exact hb
def Inv.Gb(I:Inv X γ σ H s):∀b∈frs X.stack,H b=none:=fun b hb=>by
 rcases QCq.mp (I.Cw b hb)with e|hb
 ·rw[e];exact I.free
 ·obtain⟨_,o,ho,_⟩:=I.ok.mQ.mem hb
  exact I.base.free b o ho (I.ok.frf b hb) fun z=>I.ok.exfs b z hb
def Inv.step{t':Nat}{ch:List Addr}(I:Inv X γ σ H s)
  (hch:∀b∈ch,(b∈X.ex\/X.s₀.heap.objs.size<=b)/\b≠X.env.locals/\(∀x c,X.env.cells.lookup x=some c->c≠b)/\∀p∈X.pn++γ,p.1≠b)
  (keep:∀b o,b≠X.env.locals->b∉X.fs->b∉ch->s.heap.get? b=some o->H b=none->h'.get? b=some o)
  (slot:∀b o,b≠X.env.locals->b∈X.fs->b∉ch->s.heap.get? b=some o->H b=none->∃sl,h'.get? b=some {o with slots:=sl})(free:∀b o,b∉ch->s.heap.get? b=some o->H b=none->H' b=none)
  (there:∀b o,b∉ch->s.heap.get? b=some o->∃o',h'.get? b=some o')
  (tups:∀b xs,H b=some (.tup xs)->H' b=some (.tup xs))(frzs:∀b o u,H b=some (.frz o u)->H' b=some (.frz o u))(tbls:∀b ps,H b=some (.tbl ps)->∃more,H' b=some (.tbl (ps++more)))
  (ns:∀m,s.heap.Ns X.env.locals m->h'.Ns X.env.locals m)(hok:pA X.prog X.w H' h')(hg:AllBare g'):
  Inv X γ σ H' {s with heap:=h',gens:=g',drawn:=d',toks:=t'}:=by
 have neL:∀b o,X.s₀.heap.get? b=some o->b≠X.env.locals:=fun b o e=>Qvz (Qvq (Qqz e) I.ok.above)
 have neC:∀b o,X.s₀.heap.get? b=some o->b∉X.ex->b∉ch:=fun b o e hx hb=>by
  rcases (hch b hb).1 with z|z
  ·exact hx z
  ·exact absurd (Qvq (Qqz e) z) (Nat.lt_irrefl _)
 have cellK:∀x c,X.env.cells.lookup x=some c->∀v,s.heap.IsCell c v->h'.IsCell c v:=fun x c e v⟨o,ho,hd⟩=>by
  have nch:=fun z=>(hch c z).2.2.1 x c e rfl
  by_cases hc:c∈X.fs
  ·obtain⟨sl,q⟩:=slot c o (I.Y6 x c e) hc nch ho (I.freeC x c e)
   exact⟨_,q,hd⟩
  ·exact⟨o,keep c o (I.Y6 x c e) hc nch ho (I.freeC x c e),hd⟩
 refine⟨I.ok,I.os,hg,⟨fun b o e n hb hx=>?_,fun b o e n hb hx=>?_,fun b o e n hx=>?_,fun b o e hx=>?_,fun b xs e=>tups b xs (I.base.tups b xs e),fun b o xs e=>frzs b o xs (I.base.frzs b o xs e),fun b ps e=>?_⟩,?_,fun x c e=>?_,?_,fun x c e=>?_,fun p hp=>?_,hok,I.len⟩
 ·exact keep b o (neL b o e) hb (neC b o e hx) (I.base.keep b o e n hb hx) (I.base.free b o e n hx)
 ·obtain⟨sl,e1⟩:=I.base.slot b o e n hb hx
  obtain⟨sl',e2⟩:=slot b _ (neL b o e) hb (neC b o e hx) e1 (I.base.free b o e n hx)
  exact⟨sl',e2⟩
 ·obtain⟨o',e1⟩:=I.base.there b o e hx
  exact free b o' (neC b o e hx) e1 (I.base.free b o e n hx)
 ·obtain⟨o',e1⟩:=I.base.there b o e hx
  exact there b o' (neC b o e hx) e1
 ·obtain⟨m1,e1⟩:=I.base.tbls b ps e
  obtain⟨m2,e2⟩:=tbls b _ e1
  exact⟨m1++m2,by rw[e2,Array.append_assoc]⟩
 ·obtain⟨m,hn,hl⟩:=I.loc
  refine⟨m,ns m hn,fun i x v e1 e2 e3=>?_⟩
  obtain⟨u,r,l⟩:=hl i x v e1 e2 e3
  refine⟨u,r,?_⟩
  rcases l with l|⟨k,c,e,z⟩
  ·exact .inl l
  ·exact .inr ⟨k,c,e,cellK x c e _ z⟩
 ·obtain⟨v,z⟩:=I.cell x c e
  exact⟨v,cellK x c e v z⟩
 ·obtain⟨m,⟨o,_,_,ho,_⟩,_⟩:=I.loc
  exact free _ o (fun z=>(hch _ z).2.1 rfl) ho I.free
 ·obtain⟨v,o,ho,hd⟩:=I.cell x c e
  exact free c o (fun z=>(hch c z).2.2.1 x c e rfl) ho (I.freeC x c e)
 ·obtain⟨e,n,ne,nf,d⟩:=I.pin p hp
  have nch:=fun z=>(hch p.1 z).2.2.2 p hp rfl
  exact⟨keep p.1 p.2 ne nf nch e n,free p.1 p.2 nch e n,ne,nf,d⟩
def Inv.un(I:Inv X γ σ H s)(u:Un X.fs [] H H' s.heap h')(hok:pA X.prog X.w H' h'):Inv X γ σ H' {s with heap:=h',toks:=t'}:=by
 obtain⟨m,⟨o,es,ep,ho,r⟩,_⟩:=id I.loc
 obtain⟨sl,hL⟩:=u.any ho I.free (by simp)
 exact I.step (ch:=[]) (fun _ z=>nomatch z) (fun b o _ hb _ e n=>u.keep b o e n hb (by simp)) (fun b o _ hb _ e n=>u.slot b o e n hb (by simp)) (fun b o _ e n=>u.free b o e n (by simp)) (fun b o _ e=>u.there b o e (by simp)) u.tups u.frzs u.tbls (fun m' hm=>by
  obtain⟨o',es',ep',ho',r'⟩:=hm
  rw[ho]at ho';cases ho'
  exact⟨_,es',ep',hL,r'⟩) hok I.bare
def Inv.call{t':Nat}{ch:List Addr}(I:Inv X γ σ H s)(u:Un (frs X.stack) ch H H' s.heap h')(hok:pA X.prog X.w H' h')(hg:AllBare g')
  (hch:∀b∈ch,(b∈X.ex\/X.s₀.heap.objs.size<=b)/\b≠X.env.locals/\(∀x c,X.env.cells.lookup x=some c->c≠b)/\∀p∈X.pn++γ,p.1≠b):
  Inv X γ σ H' {s with heap:=h',gens:=g',drawn:=d',toks:=t'}:=by
 obtain⟨m,⟨o,es,ep,ho,r⟩,_⟩:=id I.loc
 obtain⟨sl,hL⟩:=u.any ho I.free fun z=>(hch _ z).2.1 rfl
 exact I.step hch (fun b o hL hb hc e n=>u.keep b o e n (fun z=>(QCq.mp (I.Cw b z)).elim hL hb) hc) (fun b o _ _ hc e n=>u.any e n hc) (fun b o hc e n=>u.free b o e n hc) (fun b o hc e=>u.there b o e hc) u.tups u.frzs u.tbls (fun m' hm=>by
  obtain⟨o',es',ep',ho',r'⟩:=hm
  rw[ho]at ho';cases ho'
  exact⟨_,es',ep',hL,r'⟩) hok hg
def Inv.turned{it:Addr}(I:Inv X γ σ H s)(k:∀b o,b≠it->s.heap.get? b=some o->h'.get? b=some o)(hn:H it=none)(hL:it≠X.env.locals)
  (h1:it∈X.ex\/X.s₀.heap.objs.size<=it)(h2:∀x c,X.env.cells.lookup x=some c->c≠it)(h3:∀p∈X.pn++γ,p.1≠it):Inv X γ σ H {s with heap:=h',toks:=t'}:=by
 have nit:∀b u,H b=some u->b≠it:=fun b u e z=>by rw[z,hn]at e;cases e
 refine I.step (ch:=[it]) (fun b hb=>?_) (fun b o _ _ hc e _=>k b o (fun z=>hc (by simp[z])) e) (fun b o _ _ hc e _=>⟨o.slots,k b o (fun z=>hc (by simp[z])) e⟩) (fun _ _ _ _ n=>n)
  (fun b o hc e=>⟨o,k b o (fun z=>hc (by simp[z])) e⟩) (fun _ _ e=>e) (fun _ _ _ e=>e) (fun b ps e=>⟨#[],by rw[e];simp⟩) (fun m hm=>?_) (fun b u e=>?_) I.bare
 ·have e:b=it:=by simpa using hb
  subst e
  exact⟨h1,hL,h2,h3⟩
 ·obtain⟨o,es,ep,ho,r⟩:=hm
  exact⟨o,es,ep,k _ o (Ne.symm hL) ho,r⟩
 ·refine(I.hok b u e).stay (fun c v hc q=>k c v ?_ q) (fun _ q=>q) fun _ _ q=>q
  rcases hc with z|z
  ·rw[z];exact nit b u e
  ·exact nit c _ z
def Inv.tok(I:Inv X γ σ H s)t:Inv X γ σ H {s with toks:=t}:=I.un Un.refl I.hok
theorem Inv.kept(I:Inv X γ σ H s)(k:∀b u,s.heap.get? b=some u->h'.get? b=some u):Inv X γ σ H {s with heap:=h',toks:=t'}:=I.un (Un.kept k) (I.hok.kept k)
theorem Inv.laid{a:Addr}{o:HO}(I:Inv X γ σ H s)(k:∀b u,s.heap.get? b=some u->h'.get? b=some u)(hp:s.heap.objs.size<=a)(new:dq X.prog X.w (upd H a o) h' a o):
  Inv X γ σ (upd H a o) {s with heap:=h',toks:=t'}:=I.un (Un.laid k hp (I.hok.fresh hp)) (I.hok.laid k hp new)
theorem Inv.write{o:HO}(I:Inv X γ σ H s)(mu:Mut (H x))(he:e=x\/H e=some (.own x))(k:∀b u,b≠e->s.heap.get? b=some u->h'.get? b=some u)(heo:∃u,h'.get? e=some u)
  (new:dq X.prog X.w (upd H x o) h' x o):Inv X γ σ (upd H x o) {s with heap:=h',toks:=t'}:=I.un (Un.write mu he k heo) (I.hok.write mu he k heo new)
def Inv.xV(I:Inv X γ σ H s)(h:∀p∈ο,s.heap.get? p.1=some p.2/\H p.1=none/\p.1≠X.env.locals/\p.1∉X.fs/\∀v,p.2.data≠ .cell v):Inv X ο σ H s:=
 ⟨I.ok,I.os,I.bare,I.base,I.loc,I.cell,I.free,I.freeC,fun p hp=>(QXz.mp hp).elim (fun z=>I.pin p (QWz _ z)) (h p),I.hok,I.len⟩
def Ag{N:List Str}(hN:N.Nodup){i j:Nat}(a:N[i]? =some x)(b:N[j]? =some x):i=j:=by
 obtain⟨h1,e1⟩:=QCz.mp a
 obtain⟨h2,e2⟩:=QCz.mp b
 exact(List.getElem_inj hN).mp (e1.trans e2.symm)
def vJ{A:Around}{i:Nat}{v:V}{u:Value}(I:Inv X γ σ H s)(hN:X.N.Nodup)(hi:X.N[i]? =some x)(hx:Loc X.env.scope x)(r:RelV v u)
  (h:∀s',Inv X γ (σ.set i (some v)) H s'->(∃a,Heap.SameBut a s.heap s'.heap/\(a=X.env.locals\/X.env.cells.lookup x=some a))->Q () s')(hf:X.fn x=true\/X.env.scope.names.lookup x=some .local:=by first|exact .inl rfl|exact .inr rfl|assumption):wpAny M A (storeName X.env x u) Q E s:=by
 obtain⟨m,hn,hl⟩:=id I.loc
 have hiσ:i<σ.length:=by rw[I.len];exact(QCz.mp hi).1
 have Y6:=I.Y6
 have tracked:∀{a:Addr}{h':Heap},(∃o,s.heap.get? a=some o/\H a=none)->Heap.SameBut a s.heap h'->pA X.prog X.w H h':=fun{a h'}ha hs b ob e=>by
  obtain⟨_,_,hfree⟩:=ha
  refine(I.hok b ob e).stay (fun c w' hc q=>(hs.2 c ?_).trans q) (fun _ q=>q) fun _ _ q=>q
  rintro rfl
  rcases hc with rfl|hc
  ·rw[hfree]at e;cases e
  ·rw[hfree]at hc;cases hc
 rcases hx with hk|hk
 ·refine wpAny_storeName_local hk hn (fun h' hn' hs=>?_) (by rw[I.ok.kind];rfl)
  obtain⟨oL,_,_,hoL,_⟩:=id hn
  refine h _ ⟨I.ok,I.os,I.bare,⟨fun b o e n hb hx=>?_,fun b o e n hb hx=>?_,I.base.free,fun b o e hx=>?_,I.base.tups,I.base.frzs,I.base.tbls⟩,⟨_,hn',fun j y v' e1 e2 e3=>?_⟩,fun y c e=>?_,I.free,I.freeC,fun p hp=>?_,tracked ⟨oL,hoL,I.free⟩ hs,by simpa using I.len⟩ ⟨_,hs,.inl rfl⟩
  ·exact(hs.2 b (Qvz (Qvq (Qqz e) I.ok.above))).trans (I.base.keep b o e n hb hx)
  ·obtain⟨sl,e1⟩:=I.base.slot b o e n hb hx
   exact⟨sl,(hs.2 b (Qvz (Qvq (Qqz e) I.ok.above))).trans e1⟩
  ·obtain⟨o',e1⟩:=I.base.there b o e hx
   exact⟨o',(hs.2 b (Qvz (Qvq (Qqz e) I.ok.above))).trans e1⟩
  ·by_cases hj:j=i
   ·subst hj
    rw[hi]at e1;cases e1
    rw[Qwq hiσ]at e2
    cases e2
    exact⟨u,r,.inl ⟨hk,by simp⟩⟩
   ·rw[Qxz (Ne.symm hj)]at e2
    obtain⟨u',r',q⟩:=hl j y v' e1 e2 e3
    refine⟨u',r',?_⟩
    rcases q with ⟨k,e⟩|⟨k,c,e,z⟩
    ·refine .inl ⟨k,?_⟩
     have:y≠x:=fun e=>hj (Ag hN e1 (e▸hi))
     simp[this,e]
    ·exact .inr ⟨k,c,e,z.sameBut hs (Y6 y c e)⟩
  ·obtain⟨w',z⟩:=I.cell y c e
   exact⟨w',z.sameBut hs (Y6 y c e)⟩
  ·obtain⟨e,n,ne,nf,d⟩:=I.pin p hp
   exact⟨(hs.2 p.1 ne).trans e,n,ne,nf,d⟩
 ·have hfn:X.fn x=true:=by
   rcases hf with z|z
   ·exact z
   ·rw[z]at hk;cases hk
  obtain⟨c,hc⟩:=I.ok.has x (.inl hk)
  obtain⟨w',z⟩:=I.cell x c hc
  refine wpAny_storeName_cell I.ok.kind hk hc z (fun h' hc' hs=>?_)
  obtain⟨oc,hoc,hocd⟩:=id z
  refine h {s with heap:=h'} ⟨I.ok,I.os,I.bare,⟨fun b o e n hb hx=>?_,fun b o e n hb hx=>?_,I.base.free,fun b o e hx=>?_,I.base.tups,I.base.frzs,I.base.tbls⟩,⟨m,hn.sameBut hs (Ne.symm (Y6 x c hc)),fun j y v' e1 e2 e3=>?_⟩,fun y c' e=>?_,I.free,I.freeC,fun p hp=>?_,tracked ⟨oc,hoc,I.freeC x c hc⟩ hs,by simpa using I.len⟩ ⟨c,hs,.inr hc⟩
  ·exact(hs.2 b (Qvz (Qvq (Qqz e) (I.ok.cab x c hfn hc)))).trans (I.base.keep b o e n hb hx)
  ·obtain⟨sl,e1⟩:=I.base.slot b o e n hb hx
   exact⟨sl,(hs.2 b (Qvz (Qvq (Qqz e) (I.ok.cab x c hfn hc)))).trans e1⟩
  ·obtain⟨o',e1⟩:=I.base.there b o e hx
   exact⟨o',(hs.2 b (Qvz (Qvq (Qqz e) (I.ok.cab x c hfn hc)))).trans e1⟩
  ·by_cases hj:j=i
   ·subst hj
    rw[hi]at e1;cases e1
    rw[Qwq hiσ]at e2
    cases e2
    exact⟨u,r,.inr ⟨.inl hk,c,hc,hc'⟩⟩
   ·rw[Qxz (Ne.symm hj)]at e2
    obtain⟨u',r',q⟩:=hl j y v' e1 e2 e3
    refine⟨u',r',?_⟩
    rcases q with q|⟨k,c',e,z'⟩
    ·exact .inl q
    ·refine .inr ⟨k,c',e,z'.sameBut hs ?_⟩
     rintro rfl
     exact hj (Ag hN e1 (I.ok.inj _ _ _ e hc▸hi))
  ·by_cases hcc:c'=c
   ·subst hcc;exact⟨_,hc'⟩
   ·obtain⟨w2,z2⟩:=I.cell y c' e
    exact⟨w2,z2.sameBut hs hcc⟩
  ·obtain⟨e,n,ne,nf,d⟩:=I.pin p hp
   refine⟨(hs.2 p.1 ?_).trans e,n,ne,nf,d⟩
   intro q
   rw[q,hoc]at e
   exact d w' (by rw[<- (QEq e)];exact hocd)
def zK{A:Around}{i:Nat}{v:V}{u:Value}(I:Inv X γ σ H s)(hN:X.N.Nodup)(hi:X.N[i]? =some x)(hx:Loc X.env.scope x)(r:RelV v u)
  (h:∀s',Inv X γ (σ.set i (some v)) H s'->Q () s')(hf:X.fn x=true\/X.env.scope.names.lookup x=some .local:=by first|exact .inl rfl|exact .inr rfl|assumption):wpAny M A (storeName X.env x u) Q E s:=
 vJ I hN hi hx r (fun s' I' _=>h s' I') hf
def Inv.call'{ch:List Addr}(I:Inv X γ σ H s)(ho:s'.os=s.os)(u:Un (frs X.stack) ch H H' s.heap s'.heap)(hok:pA X.prog X.w H' s'.heap)(hg:AllBare s'.gens)
  (hch:∀b∈ch,(b∈X.ex\/X.s₀.heap.objs.size<=b)/\b≠X.env.locals/\(∀x c,X.env.cells.lookup x=some c->c≠b)/\∀p∈X.pn++γ,p.1≠b):Inv X γ σ H' s':=by
 obtain⟨h',g',d',t',o'⟩:=s'
 subst ho
 exact I.call u hok hg hch
end
abbrev XK:=Value->Option Addr->Hp->Prop
abbrev St:=List (Option V)
abbrev VK:=V->Hp->Prop
abbrev TE:=St->Hp->VK->Prop
abbrev TT:=St->Hp->(Bool->Hp->Prop)->Prop
abbrev TA:=St->Hp->(List V->Hp->Prop)->Prop
structure Ends where
 nx:St->Hp->Prop
 rt:VK
 bk:St->Hp->Prop:=fun _ _=>False
 ct:St->Hp->Prop:=fun _ _=>False
abbrev TS:=Ends->St->Hp->Prop
def EP(X:Cx)(γ:QQz)(σ:St)(Q:VK)(u:Value)(s':Shared):Prop:=∃v H',Inv X γ σ H' s'/\RelV v u/\Q v H'
def TP(X:Cx)(γ:QQz)(σ:St)(Q:Bool->Hp->Prop)(b:Bool)(s':Shared):Prop:=∃H',Inv X γ σ H' s'/\Q b H'
def AP(X:Cx)(γ:QQz)(σ:St)(Q:List V->Hp->Prop)(us:List Value)(s':Shared):Prop:=∃vs H',Inv X γ σ H' s'/\Vals vs us/\Q vs H'
def SP(X:Cx)(γ:QQz)(D:Ends)(f:Flow)(s':Shared):Prop:=
 match f with
 |.next=>∃ζ H',Inv X γ ζ H' s'/\D.nx ζ H'
 |.brk=>∃ζ H',Inv X γ ζ H' s'/\D.bk ζ H'
 |.cont=>∃ζ H',Inv X γ ζ H' s'/\D.ct ζ H'
 |.ret u=>∃v ζ H',Inv X γ ζ H' s'/\RelV v u/\D.rt v H'
def PE(X:Cx)(e:Expr)(t:TE):Prop:=
 ∀(γ:QQz)(s:Shared)(σ:St)(H:Hp)(Q:VK),Inv X γ σ H s->t σ H Q->wpAny (model X.prog X.w) X.A (eval e X.env) (EP X γ σ Q) X.xe s
def PT(X:Cx)(e:Expr)(t:TT):Prop:=
 ∀(γ:QQz)(s:Shared)(σ:St)(H:Hp)(Q:Bool->Hp->Prop),Inv X γ σ H s->t σ H Q->wpAny (model X.prog X.w) X.A (isTrue e X.env (eval e X.env)) (TP X γ σ Q) X.xe s
def PW(X:Cx)(e:Expr)(t:TT):Prop:=
 ∀(whole:Sem Value)(γ:QQz)(s:Shared)(σ:St)(H:Hp)(Q:Bool->Hp->Prop),Inv X γ σ H s->t σ H Q->wpAny (model X.prog X.w) X.A (isTrue e X.env whole) (TP X γ σ Q) X.xe s
def PW.pt{e:Expr}(h:PW X e t):PT X e t:=h _
def PA(X:Cx)(es:List Expr)(t:TA):Prop:=
 ∀(pos:Pos)(γ:QQz)(s:Shared)(σ:St)(H:Hp)(Q:List V->Hp->Prop),Inv X γ σ H s->t σ H Q->wpAny (model X.prog X.w) X.A (spliced (backTo pos (starEach es X.env))) (AP X γ σ Q) X.xe s
def PS(X:Cx)(st:Stmt)(t:TS):Prop:=
 ∀(γ:QQz)(s:Shared)(σ:St)(H:Hp)(D:Ends),Inv X γ σ H s->t D σ H->wpAny (model X.prog X.w) X.A (exec st X.env) (SP X γ D) X.xe s
def vC(X:Cx)(st:List Stmt)(t:TS):Prop:=
 ∀(γ:QQz)(s:Shared)(σ:St)(H:Hp)(D:Ends),Inv X γ σ H s->t D σ H->wpAny (model X.prog X.w) X.A (execs st X.env) (SP X γ D) X.xe s
def cj{t:Sem α}{Q Q':α->Shared->Prop}{A:Around}{s:Shared}(h:wpAny M A t Q E s)(hQ:∀a s,Q a s->Q' a s):wpAny M A t Q' E s:=QGq h hQ fun _ _ x=>x
section
variable{X:Cx}
def bin{ta tb:TE}(ha:PE X a ta)(hb:PE X b tb){s:Shared}{σ:St}{R:V->V->Hp->Prop}(I:Inv X γ σ H s)(h:ta σ H fun x H1=>tb σ H1 fun y H2=>R x y H2)
{Q:α->Shared->Prop} {f:Value->Value->Sem α}
  (hf:∀v u s2 x y H2,Inv X γ σ H2 s2->RelV x v->RelV y u->R x y H2->wpAny (model X.prog X.w) X.A (f v u) Q X.xe s2):
  wpAny (model X.prog X.w) X.A (eval a X.env) (fun v θ=>wpAny (model X.prog X.w) X.A (eval b X.env) (fun u ω=>wpAny (model X.prog X.w) X.A (f v u) Q X.xe ω) X.xe θ) X.xe s:=by
 refine cj (ha γ s σ H _ I h) fun v s1⟨x,H1,I1,r1,q1⟩=>?_
 refine cj (hb γ s1 σ H1 _ I1 q1) fun u s2⟨y,H2,I2,r2,q2⟩=>?_
 exact hf v u s2 x y H2 I2 r1 r2 q2
def bf(i:Nat):TE:=fun σ H Q=>∃v,σ[i]? =some (some v)/\Q v H
def tC(v:V):TE:=fun _ H Q=>Q v H
def dj{x:Str}{pos:Pos}(hN:X.N[i]? =some x)(hv:J5 X.env.scope x)(hd:(x==("__debug__":Str))=false:=by decide)(hcd:(x==("__classdict__":Str))=false:=by decide):PE X (.Name x pos) (bf i):=by
 intro γ s σ H Q I h
 obtain⟨v,e,h⟩:=h
 obtain⟨m,hn,hl⟩:=I.loc
 obtain⟨u,r,l⟩:=hl i x v hN e hv
 have fin:EP X γ σ Q u s:=⟨v,H,I,r,h⟩
 rcases l with ⟨hk,hm⟩|⟨hk,c,hc,hcell⟩
 ·exact wpAny_Name (wpAny_loadName_local I.ok.kind hk hn hm fin) hd
 ·rcases hk with hk|hk
  ·exact wpAny_Name (wpAny_loadName_cell I.ok.kind hk hc hcell fin) hd
  ·exact wpAny_Name (wpAny_loadName_free I.ok.kind hk hc hcell fin hcd) hd
def Dn{i j pos}:PE X (.Constant (.int i) j pos) (tC (.int i)):=fun _ _ _ H _ I h=>wpAny_Constant_int ⟨.int i,H,I.tok _,⟨_,rfl⟩,h⟩
def abD{b j pos}:PE X (.Constant (.bool b) j pos) (tC (.bl b)):=fun _ _ _ H _ I h=>Constant_bool ⟨.bl b,H,I,rfl,h⟩
def Dl{j pos}:PE X (.Constant .none j pos) (tC .non):=fun _ _ _ H _ I h=>Constant_none ⟨.non,H,I,rfl,h⟩
def xW{x j pos}:PE X (.Constant (.str x) j pos) (tC (.str x)):=fun _ _ _ H _ I h=>Calls.Constant_str ⟨.str x,H,I.tok _,⟨_,rfl⟩,h⟩
def Gl(X:Cx)(x:Str):Prop:=X.env.kindOf x=some .globalImplicit
def yq{γ:QQz}{σ:St}{x:Str}{pos:Pos}(I:Inv X γ σ H s)(hg:Gl X x)(hm:X.mg x=some u)(h:Q u s)
  (hd:(x==("__debug__":Str))=false:=by decide):wpAny (model X.prog X.w) X.A (eval (.Name x pos) X.env) Q E s:=
 Calls.Name_function_global I.ok.kind hg (Calls.loadGlobal_global (by rw[I.ok.glob];exact I.mod.glob.keeps I.bk) hm h) hd
def jJ{E:QZq}{s:Shared}{σ:St}{x:Str}{pos:Pos}(I:Inv X γ σ H s)(hg:Gl X x)(hm:X.mg x=none)(hv:bootBuiltins x=some u)(h:Q u s)
  (hn:x≠"__name__":=by decide)(hd:(x==("__debug__":Str))=false:=by decide):wpAny (model X.prog X.w) X.A (eval (.Name x pos) X.env) Q E s:=by
 obtain⟨mb,h1,h2⟩:=I.mod.blt
 exact Calls.Name_function_global I.ok.kind hg (Calls.loadGlobal_builtin (by rw[I.ok.glob];exact I.mod.glob.keeps I.bk) hm (by rw[I.ok.blt];exact h1.keeps I.bk) ((h2 x hn).trans hv) h) hd
def Gv{v:V}{pos:Pos}(hg:Gl X x)(hm:X.mg x=some u)(r:RelV v u)(hd:(x==("__debug__":Str))=false:=by decide):PE X (.Name x pos) (tC v):=
 fun _ _ _ H _ I h=>yq I hg hm ⟨v,H,I,r,h⟩ hd
def R4{v:V}{pos:Pos}(hg:Gl X x)(hm:X.mg x=none)(hv:bootBuiltins x=some u)(r:RelV v u)(hn:x≠"__name__":=by decide)(hd:(x==("__debug__":Str))=false:=by decide):PE X (.Name x pos) (tC v):=
 fun _ _ _ H _ I h=>jJ I hg hm hv ⟨v,H,I,r,h⟩ hn hd
def t2I(ta tb:TE)(k:Int->Int->Hp->Prop):St->Hp->Prop:=fun σ H=>ta σ H fun x H1=>tb σ H1 fun y H2=>∃i j,x=.int i/\y=.int j/\k i j H2
def ad6(ta tb:TE):TE:=fun σ H Q=>t2I ta tb (fun i j H2=>Q (.int (i+j)) H2) σ H
variable{a b:Expr}{ta tb:TE}{pos:Pos}
def Xj(ha:PE X a ta)(hb:PE X b tb):PE X (.BinOp a .Add b pos) (ad6 ta tb):=by
 intro γ s σ H Q I h
 refine wpAny_BinOp (bin ha hb I h fun v u s2 x y H2 I2 rx ry q=>?_)
 obtain⟨i,j,rfl,rfl,q⟩:=q
 obtain⟨t,rfl⟩:=rx
 obtain⟨t',rfl⟩:=ry
 exact add_int ⟨.int _,H2,I2.tok _,⟨_,rfl⟩,q⟩
def PC(X:Cx)(op:CmpOp)(a b:Expr)(t:TE):Prop:=
 ∀(γ:QQz)(s:Shared)(σ:St)(H:Hp)(Q:VK),Inv X γ σ H s->t σ H Q->
  wpAny (model X.prog X.w) X.A (eval a X.env) (fun v θ=>wpAny (model X.prog X.w) X.A (eval b X.env) (fun u ω=>wpAny (model X.prog X.w) X.A (compareOp op v u) (EP X γ σ Q) X.xe ω) X.xe θ) X.xe s
def MN(b:Expr){op:CmpOp}(h:op≠ .In)(h2:op≠ .NotIn):behindInMarks op b=false:=by
 have e1:(op==CmpOp.In)=false:=by cases op<;>first|rfl|exact absurd rfl h
 have e2:(op==CmpOp.NotIn)=false:=by cases op<;>first|rfl|exact absurd rfl h2
 cases b<;>simp[behindInMarks,e1,e2]
def aaU(p:Int->Int->Bool)(ta tb:TE):TE:=fun σ H Q=>t2I ta tb (fun i j H2=>Q (.bl (p i j)) H2) σ H
abbrev tLt:TE->TE->TE:=aaU fun i j=>decide (i<j)
def Xk{op:CmpOp}{p:Int->Int->Bool}(ha:PE X a ta)(hb:PE X b tb)
  (rule:∀(i j:Int)(t u:Tok)(Q:QZq)(s:Shared),Q (.bool (p i j)) s->wpAny (model X.prog X.w) X.A (compareOp op (.int i t) (.int j u)) Q X.xe s):PC X op a b (aaU p ta tb):=by
 intro γ s σ H Q I h
 refine bin ha hb I h fun v u s2 x y H2 I2 rx ry q=>?_
 obtain⟨i,j,rfl,rfl,q⟩:=q
 obtain⟨t,rfl⟩:=rx
 obtain⟨t',rfl⟩:=ry
 exact rule i j t t' _ s2 ⟨.bl _,H2,I2,rfl,q⟩
def abE(ha:PE X a ta)(hb:PE X b tb):PC X .Lt a b (tLt ta tb):=Xk ha hb fun _ _ _ _ _ _ h=>lt_int h
def tB(t:TE):TT:=fun σ H Q=>t σ H fun x H1=>∃c,x=.bl c/\Q c H1
def Xa{op:CmpOp}{t:TE}(h:PC X op a b t)(h1:behindInMarks op b=false:=by first|exact MN _ (by decide) (by decide)|rfl):PT X (.Compare a [op] [b] pos) (tB t):=by
 intro γ s σ H Q I hw
 refine wpAny_isTrue_Compare1 (cj (h γ s σ H _ I hw) fun v s1 h1=>cj h1 fun u s2 h2=>cj h2 fun c s3⟨x,H1,I1,r1,q1⟩=>?_) h1
 obtain⟨d,rfl,q⟩:=q1
 cases r1
 exact wpAny_truthy_bool ⟨H1,I1,q⟩
variable{tA tB':TT}{rest:List Expr}
def aaX(t u:TT):TT:=fun σ H Q=>t σ H fun c H1=>if c=true then u σ H1 Q else Q false H1
def tOr(t u:TT):TT:=fun σ H Q=>t σ H fun c H1=>if c=true then Q true H1 else u σ H1 Q
def aaQ(t:TT):TT:=fun σ H Q=>t σ H fun c H1=>Q (!c) H1
def Gp(ha:PT X a tA):PW X (.BoolOp .And [a] pos) tA:=by
 intro wh γ s σ H Q I h
 refine isTrue_and (cj (ha γ s σ H Q I h) fun c s1 e=>?_)
 cases c with
 |true=>exact isTrue_and_nil e
 |false=>exact e
def W8(ha:PT X a tA):PW X (.BoolOp .Or [a] pos) tA:=by
 intro wh γ s σ H Q I h
 refine isTrue_or (cj (ha γ s σ H Q I h) fun c s1 e=>?_)
 cases c with
 |false=>exact isTrue_or_nil e
 |true=>exact e
def LR(ha:PT X a tA)(hb:PW X (.BoolOp .And (b::rest) pos) tB'):PW X (.BoolOp .And (a::b::rest) pos) (aaX tA tB'):=by
 intro wh γ s σ H Q I h
 refine isTrue_and (cj (ha γ s σ H _ I h) fun c s1⟨H1,I1,q1⟩=>?_)
 cases c with
 |true=>exact hb wh γ s1 σ H1 Q I1 q1
 |false=>exact⟨H1,I1,q1⟩
def aby(ha:PT X a tA)(hb:PW X (.BoolOp .Or (b::rest) pos) tB'):PW X (.BoolOp .Or (a::b::rest) pos) (tOr tA tB'):=by
 intro wh γ s σ H Q I h
 refine isTrue_or (cj (ha γ s σ H _ I h) fun c s1⟨H1,I1,q1⟩=>?_)
 cases c with
 |true=>exact⟨H1,I1,q1⟩
 |false=>exact hb wh γ s1 σ H1 Q I1 q1
def Ma(ha:PT X a tA):PT X (.UnaryOp .Not a pos) (aaQ tA):=by
 intro γ s σ H Q I h
 exact isTrue_not (ha γ s σ H _ I h)
def aaW(ta tb:TE):TE:=fun σ H Q=>ta σ H fun x H1=>∃c,x=.bl c/\if c=true then tb σ H1 Q else Q (.bl false) H1
def ad0(ta tb:TE):TE:=fun σ H Q=>ta σ H fun x H1=>∃c,x=.bl c/\if c=true then Q (.bl true) H1 else tb σ H1 Q
def Mr{op}(h:PE X a t):PE X (.BoolOp op [a] pos) t:=fun γ s σ H Q I hw=>BoolOp_one (h γ s σ H Q I hw)
def Xi(ha:PE X a ta)(hb:PE X (.BoolOp .And (b::rest) pos) tb):PE X (.BoolOp .And (a::b::rest) pos) (aaW ta tb):=by
 intro γ s σ H Q I h
 refine BoolOp_and (cj (ha γ s σ H _ I h) fun v s1⟨x,H1,I1,r1,q1⟩=>?_)
 obtain⟨c,rfl,q1⟩:=q1
 cases r1
 refine wpAny_truthy_bool ?_
 cases c with
 |true=>exact hb γ s1 σ H1 Q I1 q1
 |false=>exact⟨.bl false,H1,I1,rfl,q1⟩
def abB(ha:PE X a ta)(hb:PE X (.BoolOp .Or (b::rest) pos) tb):PE X (.BoolOp .Or (a::b::rest) pos) (ad0 ta tb):=by
 intro γ s σ H Q I h
 refine BoolOp_or (cj (ha γ s σ H _ I h) fun v s1⟨x,H1,I1,r1,q1⟩=>?_)
 obtain⟨c,rfl,q1⟩:=q1
 cases r1
 refine wpAny_truthy_bool ?_
 cases c with
 |false=>exact hb γ s1 σ H1 Q I1 q1
 |true=>exact⟨.bl true,H1,I1,rfl,q1⟩
def tIf(t:TT)(ta tb:TE):TE:=fun σ H Q=>t σ H fun c H1=>if c=true then ta σ H1 Q else tb σ H1 Q
def tK(hc:PT X c tA)(ha:PE X a ta)(hb:PE X b tb):PE X (.IfExp c a b pos) (tIf tA ta tb):=by
 intro γ s σ H Q I h
 refine wpAny_IfExp (cj (hc γ s σ H _ I h) fun d s1⟨H1,I1,q1⟩=>?_)
 cases d with
 |true=>exact ha γ s1 σ H1 Q I1 q1
 |false=>exact hb γ s1 σ H1 Q I1 q1
end
def jV(K:QQq)(H:Hp)(a:Addr)(xs:List V):Prop:=
 Rd H a (.lst xs)\/
  ∃(o:Obj)(its:Array Value)(n:Nat),K.lookup a=some o/\o.cls=.type "list"/\o.dict=none/\o.data=.seq its n/\its.size<=sizeLine/\Vals xs its.toList
def jU(K:QQq)(H:Hp)(a:Addr)(xs:List V):Prop:=
 Rd H a (.tup xs)\/
  ∃(o:Obj)(its:Array Value)(n:Nat),K.lookup a=some o/\o.cls=.type "tuple"/\o.dict=none/\o.data=.seq its n/\its.size<=sizeLine/\Vals xs its.toList
def agf:Value->Option V
 |.none=>some .non
 |.bool b=>some (.bl b)
 |.int i _=>some (.int i)
 |.str x _=>some (.str x)
 |.ref a=>some (.ref a)
 |.type n=>some (.ty n)
 |_=>none
def RelV.abs{u:Value}(r:RelV x u):agf u=some x:=by
 cases x with
 |non=>cases r;rfl
 |bl _=>cases r;rfl
 |int _=>obtain⟨t,rfl⟩:=r;rfl
 |str _=>obtain⟨t,rfl⟩:=r;rfl
 |ref _=>cases r;rfl
 |ty _=>cases r;rfl
def RelV.inj{x y:V}{u:Value}(r:RelV x u)(q:RelV y u):x=y:=QEq (r.abs.symm.trans q.abs)
theorem Vals.inj:∀{xs ys:List V}{us:List Value},Vals xs us->Vals ys us->xs=ys
 |_,_,_,.nil,.nil=>rfl
 |_,_,_,.cons r t,.cons r' t'=>by rw[r.inj r',Vals.inj t t']
section
variable{X:Cx}{γ:QQz}{σ:St}{H:Hp}{s:Shared}{a:Addr}{xs ys:List V}
def Inv.list(I:Inv X γ σ H s)(h:jV X.K H a xs):∃its:List Value,Vals xs its/\PlainL s.heap a its.toArray/\xs.length<=sizeLine:=by
 rcases h with h|⟨o,its,n,hk,hc,hd,hs,hz,r⟩
 ·obtain⟨z,its,n,r,e⟩:=h.ok I.hok
  exact⟨its,r,⟨_,n,e,rfl,rfl,rfl⟩,z⟩
 ·refine⟨its.toList,r,⟨o,n,I.Av a o hk,hc,hd,by simpa using hs⟩,?_⟩
  have e:=r.length
  simp only[Array.length_toList]at e
  omega
def Inv.Ck(I:Inv X γ σ H s)(h:jU X.K H a xs):∃its:List Value,Vals xs its/\TupOk s.heap a its.toArray/\xs.length<=sizeLine:=by
 rcases h with h|⟨o,its,n,hk,hc,hn,hs,hz,r⟩
 ·obtain⟨z,its,r,p⟩:=h.ok I.hok
  exact⟨its,r,p,z⟩
 ·refine⟨its.toList,r,⟨o,I.Av a o hk,hc,hn,n,by simpa using hs⟩,?_⟩
  have e:=r.length
  simp only[Array.length_toList]at e
  omega
def Inv.tuple(I:Inv X γ σ H s)(h:jU X.K H a xs):∃its:List Value,Vals xs its/\IsTup s.heap a its.toArray/\xs.length<=sizeLine:=by
 obtain⟨its,r,p,z⟩:=I.Ck h
 exact⟨its,r,p.is,z⟩
def Inv.An(I:Inv X γ σ H s)(h:jV X.K H a xs)(h':jV X.K H a ys):xs=ys:=by
 obtain⟨its,r,⟨o,n,e,_,_,d⟩,_⟩:=I.list h
 obtain⟨its',r',⟨o',n',e',_,_,d'⟩,_⟩:=I.list h'
 rw[e]at e';cases e'
 rw[d]at d'
 injection d' with d1 _
 have:its=its':=by simpa using congrArg Array.toList d1
 subst this
 exact r.inj r'
def Inv.vH(I:Inv X γ σ H s)(h:jU X.K H a xs)(h':jU X.K H a ys):xs=ys:=by
 obtain⟨its,r,⟨o,e,_,n,d⟩,_⟩:=I.tuple h
 obtain⟨its',r',⟨o',e',_,n',d'⟩,_⟩:=I.tuple h'
 rw[e]at e';cases e'
 rw[d]at d'
 injection d' with d1 _
 have:its=its':=by simpa using congrArg Array.toList d1
 subst this
 exact r.inj r'
end
abbrev Cx.wish(X:Cx)(E:QZq):Cx:={X with xe:=E}
abbrev Cx.rE(X:Cx):Cx:=X.wish fun _ _=>False
theorem Cx.Ok.wish{X:Cx}(ok:X.Ok)E:(X.wish E).Ok:=
 ⟨ok.mod,ok.kind,ok.glob,ok.blt,ok.above,ok.inj,ok.has,ok.cab,ok.hd,ok.frames,ok.stk,ok.exf,ok.bs,ok.bsz,ok.noex,ok.exfs,ok.mQ,ok.frf⟩
def Cx.Ok.km{X:Cx}(ok:(X.wish E).Ok):X.Ok:=
 ⟨ok.mod,ok.kind,ok.glob,ok.blt,ok.above,ok.inj,ok.has,ok.cab,ok.hd,ok.frames,ok.stk,ok.exf,ok.bs,ok.bsz,ok.noex,ok.exfs,ok.mQ,ok.frf⟩
section
variable{X:Cx}{γ:QQz}{σ:St}{H:Hp}{s:Shared}{E:QZq}
theorem Inv.wish(I:Inv X γ σ H s)E:Inv (X.wish E) γ σ H s:=⟨I.ok.wish E,I.os,I.bare,I.base,I.loc,I.cell,I.free,I.freeC,I.pin,I.hok,I.len⟩
theorem Inv.km(I:Inv (X.wish E) γ σ H s):Inv X γ σ H s:=⟨I.ok.km,I.os,I.bare,I.base,I.loc,I.cell,I.free,I.freeC,I.pin,I.hok,I.len⟩
theorem SP.km{f:Flow}(h:SP (X.wish E) γ D f s'):SP X γ D f s':=by
 cases f with
 |next=>obtain⟨ζ,H',I,q⟩:=h;exact⟨ζ,H',I.km,q⟩
 |brk=>obtain⟨ζ,H',I,q⟩:=h;exact⟨ζ,H',I.km,q⟩
 |cont=>obtain⟨ζ,H',I,q⟩:=h;exact⟨ζ,H',I.km,q⟩
 |ret u=>obtain⟨v,ζ,H',I,r,q⟩:=h;exact⟨v,ζ,H',I.km,r,q⟩
theorem vC.rE{st:List Stmt}(h:vC X.rE st t):vC X st t:=fun γ s σ H D I hw=>
 QGq (h γ s σ H D (I.wish _) hw) (fun _ _ q=>q.km) fun _ _ z=>False.elim z
end
section
variable{X:Cx}{st:Stmt}{rest:List Stmt}{t u:TS}{e:Expr}{te:TE}{pos:Pos}
def U0:TS:=fun D σ H=>D.nx σ H
def kJ(t u:TS):TS:=fun D σ H=>t {D with nx:=u D} σ H
def xU:vC X [] U0:=fun _ _ σ H _ I h=>wpAny_execs_nil ⟨σ,H,I,h⟩
def bZ(h1:PS X st t)(h2:vC X rest u):vC X (st::rest) (kJ t u):=by
 intro γ s σ H D I h
 refine wpAny_execs_cons (cj (h1 γ s σ H {D with nx:=u D} I h) fun f s1 q=>?_)
 cases f with
 |next=>
  obtain⟨ζ,H',I',q⟩:=q
  exact h2 γ s1 ζ H' D I' q
 |ret v=>exact q
 |brk=>exact q
 |cont=>exact q
def jF(h1:PS X st t):vC X [st] t:=by
 intro γ s σ H D I h
 refine wpAny_execs_cons (cj (h1 γ s σ H D I h) fun f s1 q=>?_)
 cases f with
 |next=>exact wpAny_execs_nil q
 |ret v=>exact q
 |brk=>exact q
 |cont=>exact q
def Inv.quiet{σ:St}{H:Hp}(I:Inv X γ σ H s):interactive X.env=false:=by simp[interactive,I.ok.kind]
def qx(te:TE):TS:=fun D σ H=>te σ H fun _ H1=>D.nx σ H1
def lU(he:PE X e te)(hs:swapsWith e none pos.line X.env=pure false:=by rfl):PS X (.Expr e pos) (qx te):=by
 intro γ s σ H D I h
 exact wpAny_Expr_any (cj (he γ s σ H _ I h) fun v s1⟨x,H1,I1,r1,q1⟩=>⟨σ,H1,I1,q1⟩) I.quiet hs
def Q7(te:TE):TS:=fun D σ H=>te σ H D.rt
def jc(he:PE X e te):PS X (.Return (some e) pos) (Q7 te):=by
 intro γ s σ H D I h
 exact wpAny_Return_some (cj (he γ s σ H _ I h) fun v s1⟨x,H1,I1,r1,q1⟩=>⟨x,σ,H1,I1,r1,q1⟩)
def aaN:TS:=fun D _ H=>D.rt .non H
def RL:PS X (.Return none pos) aaN:=fun _ _ σ H _ I h=>wpAny_Return_none ⟨.non,σ,H,I,rfl,h⟩
def aaR(c:TT)(t u:TS):TS:=fun D σ H=>c σ H fun b H1=>if b=true then t D σ H1 else u D σ H1
def Mg{a b:List Stmt}(hc:PT X c tc)(ha:vC X a t)(hb:vC X b u):PS X (.If c a b pos) (aaR tc t u):=by
 intro γ s σ H D I h
 refine wpAny_If (cj (hc γ s σ H _ I h) fun d s1⟨H1,I1,q1⟩=>?_)
 cases d with
 |true=>exact ha γ s1 σ H1 D I1 q1
 |false=>exact hb γ s1 σ H1 D I1 q1
end
abbrev TG:=V->St->Hp->(St->Hp->Prop)->Prop
abbrev Zk:=List V->St->Hp->(St->Hp->Prop)->Prop
def PG(X:Cx)(target:Expr)(t:TG):Prop:=
 ∀(γ:QQz)(s:Shared)(σ:St)(H:Hp)(v:V)(u:Value)(Q:St->Hp->Prop),Inv X γ σ H s->RelV v u->t v σ H Q->
  wpAny (model X.prog X.w) X.A (assign target X.env u) (fun _ s'=>∃ζ H',Inv X γ ζ H' s'/\Q ζ H') X.xe s
def PGs(X:Cx)(ts:List Expr)(t:Zk):Prop:=
 ∀(γ:QQz)(s:Shared)(σ:St)(H:Hp)(vs:List V)(us:List Value)(Q:St->Hp->Prop),Inv X γ σ H s->Vals vs us->t vs σ H Q->
  wpAny (model X.prog X.w) X.A (assignInOrder ((assignEach ts X.env).map (·.2)) us) (fun _ s'=>∃ζ H',Inv X γ ζ H' s'/\Q ζ H') X.xe s
abbrev acJ:=V->V->V->Hp->(Hp->Prop)->Prop
def Uk(X:Cx)(t:acJ):Prop:=
 ∀(γ:QQz)(s:Shared)(σ:St)(H:Hp)(o i v:V)(ov iv u:Value)(Q:Hp->Prop),Inv X γ σ H s->RelV o ov->RelV i iv->RelV v u->t o i v H Q->
  wpAny (model X.prog X.w) X.A (setItem ov iv u) (fun _ s'=>∃H',Inv X γ σ H' s'/\Q H') X.xe s
section
variable{X:Cx}{pos:Pos}
def oY(i:Nat):TG:=fun v σ H Q=>Q (σ.set i (some v)) H
def RT{x:Str}(hN:X.N.Nodup)(hi:X.N[i]? =some x)(hx:Loc X.env.scope x)(hf:X.fn x=true\/X.env.scope.names.lookup x=some .local:=by first|exact .inl rfl|exact .inr rfl|assumption):PG X (.Name x pos) (oY i):=by
 intro γ s σ H v u Q I r h
 exact wpAny_assign_Name (zK I hN hi hx r (fun s' I'=>⟨_,H,I',h⟩) hf)
def afF:Zk:=fun vs σ H Q=>vs=[]/\Q σ H
def ack(t:TG)(u:Zk):Zk:=fun vs σ H Q=>∃v r,vs=v::r/\t v σ H fun ζ H'=>u r ζ H' Q
def RQ:PGs X [] afF:=by
 intro γ s σ H vs us Q I r h
 obtain⟨e,h⟩:=h
 subst e
 cases r
 exact assignInOrder_nil ⟨σ,H,I,h⟩
theorem Mm{es:List Expr}{u:Zk}(h1:PG X e t)(h2:PGs X es u)
  (hs:(assignEach (e::es) X.env).map (·.2)=assign e X.env::(assignEach es X.env).map (·.2):=by rfl):PGs X (e::es) (ack t u):=by
 intro γ s σ H vs us Q I r h
 obtain⟨v,vr,e1,h⟩:=h
 subst e1
 cases r with
 |cons r rr=>
  rw[hs]
  exact assignInOrder_cons (cj (h1 γ s σ H _ _ _ I r h) fun _ s1⟨ξ,H1,I1,q1⟩=>h2 γ s1 ξ H1 _ _ Q I1 rr q1)
def afD(K:QQq)(n:Nat)(t:Zk):TG:=fun v σ H Q=>∃a xs,v=.ref a/\jU K H a xs/\xs.length=n/\t xs σ H Q
def Xe{k:Nat}{t:Zk}(hc:X.calm=true)(h:PGs X es t)
  (hn:(assignEach es X.env).length=n:=by rfl)(hst:(assignEach es X.env).findIdx? (·.1)=none:=by rfl):PG X (.Tuple es k pos) (afD X.K n t):=by
 intro γ s σ H v u Q I r hw
 obtain⟨a,xs,e1,hq,hl,hw⟩:=hw
 subst e1
 cases r
 obtain⟨its,rv,ht,hz⟩:=I.tuple hq
 exact assign_Tuple_tuple (I.ok.hd hc) ht (by simp[hn,<-hl,rv.length]) hst fun h' hx=>h γ _ σ H xs _ Q (I.kept (t':=s.toks) fun b o e=>hx b o (Qvz (Qqz e)) e) (by simpa using rv) hw
def afE(to ti:TE)(t:acJ):TG:=fun v σ H Q=>to σ H fun o H1=>ti σ H1 fun i H2=>t o i v H2 fun H3=>Q σ H3
def Xf{to ti:TE}(ho:PE X o to)(hi:PE X i ti)(hs:Uk X t)
  (ha:∀v,assign (.Subscript o i pos) X.env v=(do
   let ov<-holding [v] (eval o X.env)
   let iv<-holding [v,ov] (eval i X.env)
   standAt pos
   holding [v,ov,iv] (setItem ov iv v)
   release [v,ov,iv] []):=by intro _;rfl):PG X (.Subscript o i pos) (afE to ti t):=by
 intro γ s σ H v u Q I r h
 refine QKq (Qqq (cj (ho γ s σ H _ I h) fun ov s1⟨x,H1,I1,r1,q1⟩=>?_))
 exact QKq (Qqq (cj (hi γ s1 σ H1 _ I1 q1) fun iv s2⟨y,H2,I2,r2,q2⟩=>QKq (wpAny_standAt (QKq (Qqq (cj (hs γ s2 σ H2 x y v ov iv u _ I2 r1 r2 r q2) fun _ s3⟨H3,I3,q3⟩=>wpAny_release ⟨σ,H3,I3,q3⟩))))))
def xH(te:TE)(g:TG):TS:=fun D σ H=>te σ H fun x H1=>g x σ H1 D.nx
def Mh{te:TE}(he:PE X e te)(hg:PG X tg g)(hs:swapsWithSole [tg] e pos.line X.env=pure false:=by rfl)(hw:swappedStores [tg] e X.env=pure none:=by rfl)
  (h1:(assignEach [tg] X.env).map (·.2)=[assign tg X.env]:=by rfl):PS X (.Assign [tg] e pos) (xH te g):=by
 intro γ s σ H D I h
 refine wpAny_Assign_stores (cj (he γ s σ H _ I h) fun v s1⟨x,H1,I1,r1,q1⟩=>?_) hs hw
 rw[h1]
 exact cj (hg γ s1 σ H1 x v _ I1 r1 q1) fun _ s2 q=>q
def sZ{x:Str}{te:TE}(hN:X.N.Nodup)(hi:X.N[i]? =some x)(hx:Loc X.env.scope x)(he:PE X e te)(hs:swapsWith e (some (.Name x pos')) pos.line X.env=pure false:=by rfl)(hf:X.fn x=true\/X.env.scope.names.lookup x=some .local:=by first|exact .inl rfl|exact .inr rfl|assumption):
  PS X (.Assign [.Name x pos'] e pos) (xH te (oY i)):=by
 intro γ s σ H D I h
 exact wpAny_Assign_Name (cj (he γ s σ H _ I h) fun v s1⟨y,H1,I1,r1,q1⟩=>zK I1 hN hi hx r1 (fun s2 I2=>⟨_,H1,I2,q1⟩) hf) hs
end
section
variable{X:Cx}{pos:Pos}
noncomputable def KR(c:TT)(tb:TS):TS:=fun D σ H=>∃W:Nat->St->Hp->Prop,(∃m,W m σ H)/\∀m σ H,W m σ H->
 c σ H fun b H1=>if b=true then∃N:St->Hp->Prop,(∀ζ H',N ζ H'->∃m',m'<m/\W m' ζ H')/\tb {D with nx:=N,ct:=N,bk:=D.nx} σ H1 else D.nx σ H1
def z9{body:List Stmt}{tb:TS}(hp:PassesOwn (model X.prog X.w) X.A X.env X.xe)(hc:PT X c tc)(hb:vC X body tb):PS X (.While c body [] pos) (KR tc tb):=by
 intro γ s σ H D I h
 obtain⟨W,⟨m0,w0⟩,turn⟩:=h
 refine wpAny_While (codeAny_whileLoop (fun n s'=>∃ζ H',Inv X γ ζ H' s'/\W n ζ H') ?_ m0 ⟨σ,H,I,w0⟩)
 rintro n s1 ⟨ξ,H1,I1,w1⟩
 refine wpAny_passesOwn hp (cj (hc γ s1 ξ H1 _ I1 (turn n ξ H1 w1)) fun b s2⟨H2,I2,q2⟩=>?_)
 cases b with
 |true=>
  obtain⟨N,hN,q2⟩:=q2
  refine wpAny_passesOwn hp (cj (hb γ s2 ξ H2 _ I2 q2) fun f s3 q3=>?_)
  cases f with
  |next=>
   obtain⟨σ3,H3,I3,n3⟩:=q3
   obtain⟨m',hm,w3⟩:=hN σ3 H3 n3
   exact⟨m',hm,σ3,H3,I3,w3⟩
  |cont=>
   obtain⟨σ3,H3,I3,n3⟩:=q3
   obtain⟨m',hm,w3⟩:=hN σ3 H3 n3
   exact⟨m',hm,σ3,H3,I3,w3⟩
  |brk=>exact q3
  |ret v=>exact q3
 |false=>
  exact wpAny_execs_nil ⟨ξ,H2,I2,q2⟩
end
structure It where
 go:Nat->Hp->Prop
 yld:Nat->Hp->V->Hp->Prop
 stop:Nat->Hp->Prop
def dC(X:Cx)(γ:QQz)(H:Hp)(b:Addr):Prop:=
 H b=none/\b≠X.env.locals/\b∉X.fs/\(b∈X.ex\/X.s₀.heap.objs.size<=b)/\(∀x c,X.env.cells.lookup x=some c->c≠b)/\∀p∈X.pn++γ,p.1≠b
def Inv.uy{X:Cx}{σ:St}{H H':Hp}{b:Addr}(I:Inv X γ σ H s)(hb:s.heap.objs.size<=b)(hn:H' b=none):dC X γ H' b:=by
 refine⟨hn,Nat.ne_of_gt (Qvq I.lt hb),I.aeU hb,.inr (Nat.le_trans I.sz hb),fun x c e z=>?_,fun p hp z=>?_⟩
 ·obtain⟨v,q⟩:=I.cell x c e
  exact absurd (Qvq q.lt (by rw[z];exact hb)) (Nat.lt_irrefl _)
 ·exact absurd (Qvq (Qqz (I.pin p hp).1) (by rw[z];exact hb)) (Nat.lt_irrefl _)
structure Turn(P:Program)(w:World)(K:QQq)(tg:Expr)(J:It)(fp:List Addr)(it:Addr)(tn:Nat->Heap->Prop):Prop where
 mem:it∈fp
 obj:∀i h,tn i h->∀b∈fp,∃o,h.get? b=some o/\∀v,o.data≠ .cell v
 keep:∀i h h',tn i h->(∀b∈fp,∀o,h.get? b=some o->h'.get? b=some o)->tn i h'
 item:∀(X:Cx),X.prog=P->X.w=w->X.K=K->X.calm=true->∀(i:Nat)(γ:QQz)(s:Shared)(σ:St)(H:Hp)(E:QZq),Inv X γ σ H s->(∀b∈fp,dC X γ H b)->tn i s.heap->J.go i H->
  wpAny (model P w) X.A (pyNext (.ref it)) (fun r s1=>∃u,r=some u/\
   wpAny (model P w) X.A (letOwnedTupleGo tg (.ref it) u) (fun _ s2=>∃x H',Inv X γ σ H' s2/\RelV x u/\J.yld i H x H'/\tn (i+1) s2.heap/\∀b∈fp,H' b=none) E s1) E s
 done:∀(X:Cx),X.prog=P->X.w=w->X.K=K->X.calm=true->∀(i:Nat)(γ:QQz)(s:Shared)(σ:St)(H:Hp)(E:QZq),Inv X γ σ H s->(∀b∈fp,dC X γ H b)->tn i s.heap->J.stop i H->
  wpAny (model P w) X.A (pyNext (.ref it)) (fun r s1=>r=none/\Inv X γ σ H s1) E s
 self:∀(A:Around)(i:Nat)(s:Shared)(Q:QZq)(E:QZq),tn i s.heap->Q (.ref it) s->wpAny (model P w) A (pyIter (.ref it)) Q E s
abbrev TI:=St->Hp->(It->Hp->Prop)->Prop
def PIE(X:Cx)(γ:QQz)(σ:St)(tg:Expr)(R:It->Hp->Prop)(itv:Value)(s2:Shared):Prop:=
 ∃(it:Addr)(fp:List Addr)(tn:Nat->Heap->Prop)(J:It)(H':Hp),itv=.ref it/\Inv X γ σ H' s2/\Turn X.prog X.w X.K tg J fp it tn/\tn 0 s2.heap/\(∀b∈fp,dC X γ H' b)/\R J H'
def PI(X:Cx)(tg iter:Expr)(wi:TI):Prop:=
 ∀(γ:QQz)(s:Shared)(σ:St)(H:Hp)(R:It->Hp->Prop),Inv X γ σ H s->wi σ H R->
  wpAny (model X.prog X.w) X.A (eval iter X.env) (fun v s1=>wpAny (model X.prog X.w) X.A (pyIter v) (PIE X γ σ tg R) X.xe s1) X.xe s
def Hi {A : Around} {s : Shared} {it : Addr} {o : Obj} {vs : Array Value} (ho : s.heap.get? it = some o) (hc : o.cls = .type n) (hd : o.data = .fields vs)
    (hn : ["enumerate", "zip", "dict_itemiterator", "dict_reverseitemiterator", "odict_iterator", "itertools.zip_longest", "itertools.pairwise"].contains n = false) (hQ : Q () s) : wpAny M A (letOwnedTupleGo tg (.ref it) u) Q E s := by
  cases tg <;> first
    | exact QKz hQ
    | (cases u <;> first
        | exact QKz hQ
        | (refine QKq (wpAny_load ho ?_)
           rw [hc, hd]
           show wpAny M A (if _ = true then _ else _) Q E s
           rw [if_neg (by intro h; rw [hn, Bool.false_and] at h; cases h)]
           exact QKz hQ))
def Itl(K:QQq)(a:Addr):It:=
 ⟨fun i H=>∃xs x,jV K H a xs/\xs[i]? =some x,fun i H x H'=>H'=H/\∀xs,jV K H a xs->xs[i]? =some x,fun i H=>∃xs,jV K H a xs/\xs.length<=i⟩
def Itt(K:QQq)(a:Addr):It:=
 ⟨fun i H=>∃xs x,jU K H a xs/\xs[i]? =some x,fun i H x H'=>H'=H/\∀xs,jU K H a xs->xs[i]? =some x,fun i H=>∃xs,jU K H a xs/\xs.length<=i⟩
def Itr(lo:Int)(n:Nat):It:=⟨fun i _=>i<n,fun i H x H'=>H'=H/\x=.int (lo+i),fun i _=>n<=i⟩
theorem jg{w:World}{K:QQq}a it:Turn P w K tg (Itl K a) [it] it (fun i h=>h.IsListIter it a i) where
 mem:=by simp
 obj:=fun i h st b hb=>by
  have e:b=it:=by simpa using hb
  subst e
  obtain⟨o,e,c,d⟩:=st
  exact⟨o,e,fun v z=>by rw[d]at z;cases z⟩
 keep:=fun i h h' st k=>st.at fun o e=>k it (by simp) o e
 item:=by
  intro X hP hw hK hc i γ s σ H E I hf st hg
  subst hP hw hK
  obtain⟨xs,x,hq,hx⟩:=hg
  obtain⟨its,rv,p,hz⟩:=I.list hq
  obtain⟨u,hu,ru⟩:=rv.get hx
  obtain⟨f0,f1,f2,f3,f4,f5⟩:=hf it (by simp)
  refine wpAny_pyNext_list_item st p.isList (by simpa using hu) fun h' st' sb=>?_
  obtain⟨o,e,c,d⟩:=id st'
  exact⟨u,rfl,Hi e c d (by decide) ⟨x,H,I.turned (t':=s.toks) (fun b o hb e=>(sb.2 b hb).trans e) f0 f1 f3 f4 f5,ru,⟨rfl,fun ys hy=>by rw[I.An hy hq];exact hx⟩,st',fun b hb=>(hf b hb).1⟩⟩
 done:=by
  intro X hP hw hK hc i γ s σ H E I hf st hg
  subst hP hw hK
  obtain⟨xs,hq,hx⟩:=hg
  obtain⟨its,rv,p,hz⟩:=I.list hq
  obtain⟨f0,f1,f2,f3,f4,f5⟩:=hf it (by simp)
  have hl:=rv.length
  exact wpAny_pyNext_list_end (I.ok.hd hc) st p.isList (by simp;omega) fun h' eb=>⟨rfl,I.turned (fun b o hb e=>eb b o hb e) f0 f1 f3 f4 f5⟩
 self:=fun _ _ _ _ _ st h=>wpAny_pyIter_listiter st h
theorem Ci{w:World}{K:QQq}a it:Turn P w K tg (Itt K a) [it] it (fun i h=>h.IsTupleIter it a i) where
 mem:=by simp
 obj:=fun i h st b hb=>by
  have e:b=it:=by simpa using hb
  subst e
  obtain⟨o,e,c,d⟩:=st
  exact⟨o,e,fun v z=>by rw[d]at z;cases z⟩
 keep:=fun i h h' st k=>st.at fun o e=>k it (by simp) o e
 item:=by
  intro X hP hw hK hc i γ s σ H E I hf st hg
  subst hP hw hK
  obtain⟨xs,x,hq,hx⟩:=hg
  obtain⟨its,rv,p,hz⟩:=I.tuple hq
  obtain⟨u,hu,ru⟩:=rv.get hx
  obtain⟨f0,f1,f2,f3,f4,f5⟩:=hf it (by simp)
  refine wpAny_pyNext_tuple_item st (p) (by simpa using hu) fun h' st' sb=>?_
  obtain⟨o,e,c,d⟩:=id st'
  exact⟨u,rfl,Hi e c d (by decide) ⟨x,H,I.turned (t':=s.toks) (fun b o hb e=>(sb.2 b hb).trans e) f0 f1 f3 f4 f5,ru,⟨rfl,fun ys hy=>by rw[I.vH hy hq];exact hx⟩,st',fun b hb=>(hf b hb).1⟩⟩
 done:=by
  intro X hP hw hK hc i γ s σ H E I hf st hg
  subst hP hw hK
  obtain⟨xs,hq,hx⟩:=hg
  obtain⟨its,rv,p,hz⟩:=I.tuple hq
  obtain⟨f0,f1,f2,f3,f4,f5⟩:=hf it (by simp)
  have hl:=rv.length
  exact wpAny_pyNext_tuple_end (I.ok.hd hc) st (p) (by simp;omega) fun h' eb=>⟨rfl,I.turned (fun b o hb e=>eb b o hb e) f0 f1 f3 f4 f5⟩
 self:=fun _ _ _ _ _ st h=>wpAny_pyIter_tupleiter st h
theorem Cj{w:World}{K:QQq}it lo n:Turn P w K tg (Itr lo n) [it] it (fun i h=>IsRangeIter h it (lo+(i:Nat)*1) ((n:Int)- (i:Nat)) 1) where
 mem:=by simp
 obj:=fun i h st b hb=>by
  have e:b=it:=by simpa using hb
  subst e
  exact⟨_,st,fun v z=>by
   cases z⟩
 keep:=fun i h h' st k=>k it (by simp) _ st
 item:=by
  intro X hP hw hK hc i γ s σ H E I hf st hg
  subst hP hw hK
  obtain⟨f0,f1,f2,f3,f4,f5⟩:=hf it (by simp)
  refine(Walks.range (prog:=X.prog) (w:=X.w) (I.ok.hd hc) it lo 1 n).item i s _ _ hg st fun v h' tk hv st' kk=>?_
  obtain⟨t,rfl⟩:=hv
  refine⟨_,rfl,Hi st' rfl rfl (by decide) ⟨.int _,H,(I.turned (fun b o hb e=>kk b o (by simpa using hb) e) f0 f1 f3 f4 f5),⟨t,?_⟩,⟨rfl,rfl⟩,st',fun b hb=>(hf b hb).1⟩⟩
  rw[Int.mul_one]
 done:=by
  intro X hP hw hK hc i γ s σ H E I hf st hg
  obtain⟨f0,f1,f2,f3,f4,f5⟩:=hf it (by simp)
  exact wpAny_pyNext_range_end (I.ok.hd hc) st (by have:n<=i:=hg;omega) fun h' eb=>⟨rfl,I.turned (fun b o hb e=>eb b o hb e) f0 f1 f3 f4 f5⟩
 self:=fun _ _ _ _ _ st h=>wpAny_pyIter_rangeiter st h
section
variable{X:Cx}{tg:Expr}
def Lw{σ:St}{H:Hp}{R:It->Hp->Prop}{lo hi:Int}{tk:Nat}(I:Inv X γ σ H s)(h1: -(2 ^62)<=lo)(h2:lo<2 ^62)(h3: -(2 ^62)<=hi)(h4:hi<2 ^62)
  (q:R (Itr lo (hi-lo).toNat) H):wpAny (model X.prog X.w) X.A (pyIter (.ref s.heap.objs.size)) (PIE X γ σ tg R) E {s with heap:=s.heap.push {cls:=.type "range",data:=.fields #[.int lo t,.int hi u,.int 1 v]},toks:=tk}:=by
 refine wpAny_pyIter_range (IsRange.new ..) (small_one h1 h2 h3 h4) ?_
 have I1:Inv X γ σ H {s with heap:=s.heap.push {cls:=.type "range",data:=.fields #[.int lo t,.int hi u,.int 1 v]},toks:=tk}:=I.kept fun b o e=>QWq _ e
 refine⟨(s.heap.push {cls:=.type "range",data:=.fields #[.int lo t,.int hi u,.int 1 v]}).objs.size,[(s.heap.push {cls:=.type "range",data:=.fields #[.int lo t,.int hi u,.int 1 v]}).objs.size],_,_,H,rfl,
  I1.kept fun b o e=>QWq _ e,Cj _ lo (hi-lo).toNat,?_,fun b hb=>?_,q⟩
 ·have e1:lo+((0:Nat))*1=lo:=by simp
  have e2:(((hi-lo).toNat:Nat))- ((0:Nat))=Builtin.Range.rangeSize lo hi 1:=by rw[rangeSize_one];split<;>omega
  rw[e1,e2]
  exact Qzq _ rfl
 ·have e:b=(s.heap.push {cls:=.type "range",data:=.fields #[.int lo t,.int hi u,.int 1 v]}).objs.size:=by simpa using hb
  subst e
  exact I1.uy (QVz _) (I1.hok.fresh (QVz _))
def acb(ta:TA):TI:=fun σ H R=>ta σ H fun vs H1=>∃j:Int,vs=[.int j]/\ -(2 ^62)<=j/\j<2 ^62/\R (Itr 0 j.toNat) H1
def IW{ta:TA}(hg:Gl X "range")(hm:X.mg "range"=none)(ha:PA X [a] ta)(hs:starEach [a] X.env=[(false,eval a X.env)]:=by rfl):PI X tg (.Call (.Name "range" p) [a] [] pos) (acb ta):=by
 intro γ s σ H R I h
 refine Call_ (jJ I hg hm boot_range (PyProof.Rows.callWith_type1 (cj (ha pos γ s σ H _ I h) fun us s1⟨vs,H1,I1,r1,q1⟩=>?_) hs rfl))
 obtain⟨j,e,q1,q2,q⟩:=q1
 subst e
 cases r1 with
 |cons r rr=>
  cases rr
  obtain⟨t,rfl⟩:=r
  exact call_range_1 (Lw I1 (by omega) (by omega) q1 q2 (by simpa using q))
noncomputable def ad3(wi:TI)(g:TG)(tb:TS):TS:=fun D σ H=>wi σ H fun J H1=>∃W:Nat->Nat->St->Hp->Prop,(∃m,W 0 m σ H1)/\∀i m σ H,W i m σ H->
 (J.stop i H/\D.nx σ H)\/(J.go i H/\∃N:St->Hp->Prop,(∀ζ H',N ζ H'->∃m',m'<m/\W (i+1) m' ζ H')/\∀x H',J.yld i H x H'->g x σ H' fun φ H2=>tb {D with nx:=N,ct:=N,bk:=D.nx} φ H2)
def tH(fp:List Addr)(h:Heap):List (Addr×Obj):=fp.filterMap fun b=>(h.get? b).map fun o=>(b,o)
def jG{h:Heap}{o:Obj}(hb:b∈fp)(e:h.get? b=some o):(b,o)∈tH fp h:=List.mem_filterMap.mpr ⟨b,hb,by rw[e];rfl⟩
def Jd{h:Heap}(hp:p∈tH fp h):p.1∈fp/\h.get? p.1=some p.2:=by
 obtain⟨b,hb,e⟩:=List.mem_filterMap.mp hp
 cases q:h.get? b with
 |none=>rw[q]at e;cases e
 |some o=>
  rw[q]at e
  have e':=QEq e
  subst e'
  exact⟨hb,q⟩
def Inv.pinned{σ:St}{s:Shared}(I:Inv X γ σ H s)(hf:∀b∈fp,dC X γ H b)(ho:∀b∈fp,∃o,s.heap.get? b=some o/\∀v,o.data≠ .cell v):Inv X (γ++tH fp s.heap) σ H s:=
 I.xV fun p hp=>(QXz.mp hp).elim (fun z=>I.pin p (QVq _ z)) fun z=>by
  obtain⟨hb,e⟩:=Jd z
  obtain⟨f0,f1,f2,_⟩:=hf p.1 hb
  obtain⟨o,e',d⟩:=ho p.1 hb
  rw[e]at e';cases e'
  exact⟨e,f0,f1,f2,d⟩
def Inv.cV{σ:St}{H:Hp}(I:Inv X (γ++pl) σ H s):Inv X γ σ H s:=I.xV fun p hp=>I.pin p (QVq _ (QWz _ hp))
theorem Xc{body:List Stmt}{g:TG}{pos:Pos}(hp:PassesOwn (model X.prog X.w) X.A X.env X.xe)(hc:X.calm=true)(hi:PI X tg iter wi)(hg:PG X tg g)(hb:vC X body tb)
  (hs:∀x,foldedSetIterable iter X.env x=pure x:=by intro _;rfl):PS X (.For tg iter body [] pos) (ad3 wi g tb):=by
 intro γ s σ H D I h
 refine wpAny_For (cj (hi γ s σ H _ I h) fun v s1 h1=>cj h1 fun itv s2 h2=>?_) hs
 obtain⟨it,fp,tn,J,H2,e,I2,T,st2,f2,W,⟨m0,w0⟩,turn⟩:=h2
 subst e
 have stat:∀{H':Hp},(∀b∈fp,H' b=none)->∀b∈fp,dC X γ H' b:=fun hn b hb=>⟨hn b hb,(f2 b hb).2⟩
 refine codeAny_forLoop_any (fun n s'=>∃i ζ H',Inv X γ ζ H' s'/\tn i s'.heap/\(∀b∈fp,H' b=none)/\W i n ζ H') ?_ m0 ⟨0,σ,H2,I2,st2,fun b hb=>(f2 b hb).1,w0⟩
 rintro n s3 ⟨i,σ3,H3,I3,st3,fr3,w3⟩
 rcases turn i n σ3 H3 w3 with ⟨stop,qn⟩|⟨go,N,hN,step⟩
 ·refine wpAny_passesOwn hp (cj (T.done X rfl rfl rfl hc i γ s3 σ3 H3 X.xe I3 (stat fr3) st3 stop) fun r s4⟨hr,I4⟩=>?_)
  subst hr
  exact wpAny_execs_nil ⟨σ3,H3,I4,qn⟩
 ·refine wpAny_passesOwn hp (cj (T.item X rfl rfl rfl hc i γ s3 σ3 H3 X.xe I3 (stat fr3) st3 go) fun r s4⟨u,hr,h4⟩=>?_)
  subst hr
  refine wpAny_passesOwn hp (cj h4 fun _ s5⟨x,H5,I5,r5,y5,st5,fr5⟩=>?_)
  refine wpAny_passesOwn hp (cj (hg _ s5 σ3 H5 x u _ (I5.pinned (stat fr5) (T.obj _ _ st5)) r5 (step x H5 y5)) fun _ s6⟨σ6,H6,I6,q6⟩=>?_)
  refine wpAny_passesOwn hp (cj (hb _ s6 σ6 H6 _ I6 q6) fun f s7 q7=>?_)
  have again:∀{σ7:St}{H7:Hp},Inv X _ σ7 H7 s7->N σ7 H7->∃m,m<n/\∃i ζ H',Inv X γ ζ H' s7/\tn i s7.heap/\(∀b∈fp,H' b=none)/\W i m ζ H':=fun{σ7 H7}I7 n7=>by
   obtain⟨m',hm,w7⟩:=hN σ7 H7 n7
   refine⟨m',hm,i+1,σ7,H7,I7.cV,T.keep _ _ _ st5 fun b hb o e=>(I7.pin (b,o) (QVq _ (QVq _ (jG hb e)))).1,fun b hb=>?_,w7⟩
   obtain⟨o,e,d⟩:=T.obj _ _ st5 b hb
   exact(I7.pin (b,o) (QVq _ (QVq _ (jG hb e)))).2.1
  cases f with
  |next=>obtain⟨σ7,H7,I7,n7⟩:=q7;exact again I7 n7
  |cont=>obtain⟨σ7,H7,I7,n7⟩:=q7;exact again I7 n7
  |brk=>obtain⟨σ7,H7,I7,q7⟩:=q7;exact⟨σ7,H7,I7.cV,q7⟩
  |ret v=>obtain⟨x7,σ7,H7,I7,r7,q7⟩:=q7;exact⟨x7,σ7,H7,I7.cV,r7,q7⟩
end
abbrev R2:=V->V->Hp->VK->Prop
def iV(X:Cx)(f:Value->Value->Sem Value)(r:R2):Prop:=
 ∀(γ:QQz)(s:Shared)(σ:St)(H:Hp)(x y:V)(v u:Value)(Q:VK),Inv X γ σ H s->RelV x v->RelV y u->r x y H Q->
  wpAny (model X.prog X.w) X.A (f v u) (EP X γ σ Q) X.xe s
def UnR(X:Cx)(f:Value->Sem Value)(r:V->Hp->VK->Prop):Prop:=
 ∀(γ:QQz)(s:Shared)(σ:St)(H:Hp)(x:V)(v:Value)(Q:VK),Inv X γ σ H s->RelV x v->r x H Q->
  wpAny (model X.prog X.w) X.A (f v) (EP X γ σ Q) X.xe s
def gH(X:Cx)(f:Value)(r:List V->Hp->VK->Prop):Prop:=
 ∀(γ:QQz)(s:Shared)(σ:St)(H:Hp)(xs:List V)(us:List Value)(Q:VK),Inv X γ σ H s->Vals xs us->r xs H Q->
  wpAny (model X.prog X.w) X.A (call f us) (EP X γ σ Q) X.xe s
def agi(X:Cx)(r:V->Hp->(Bool->Hp->Prop)->Prop):Prop:=
 ∀(γ:QQz)(s:Shared)(σ:St)(H:Hp)(x:V)(v:Value)(Q:Bool->Hp->Prop),Inv X γ σ H s->RelV x v->r x H Q->
  wpAny (model X.prog X.w) X.A (truthy v) (TP X γ σ Q) X.xe s
def UW(r:R2)(ta tb:TE):TE:=fun σ H Q=>ta σ H fun x H1=>tb σ H1 fun y H2=>r x y H2 Q
def tUn(r:V->Hp->VK->Prop)(ta:TE):TE:=fun σ H Q=>ta σ H fun x H1=>r x H1 Q
def rI(C:Int->Int->Prop)(g:Int->Int->V):R2:=fun x y H Q=>∃i j,x=.int i/\y=.int j/\C i j/\Q (g i j) H
def QC(g:Int->Int->V):R2:=fun x y H Q=>∃i j,x=.int i/\y=.int j/\Q (g i j) H
def rU(g:Int->V):V->Hp->VK->Prop:=fun x H Q=>∃i,x=.int i/\Q (g i) H
section
variable{X:Cx}{a b c:Expr}{ta tb tc:TE}{pos:Pos}
def Y9(ha:PE X a ta)(hb:PE X b tb){s:Shared}{σ:St}{R:V->V->Hp->Prop}(I:Inv X γ σ H s)
  (h:ta σ H fun x H1=>tb σ H1 fun y H2=>R x y H2){f:Value->Value->Sem Value}
  (hf:∀v u s2 x y H2,Inv X γ σ H2 s2->RelV x v->RelV y u->R x y H2->wpAny (model X.prog X.w) X.A (f v u) Q X.xe s2):
  wpAny (model X.prog X.w) X.A (eval a X.env) (fun v θ=>wpAny (model X.prog X.w) X.A (eval b X.env) (fun u ω=>wpAny (model X.prog X.w) X.A (f v u) Q X.xe ω) X.xe θ) X.xe s:=by
 exact cj (ha γ s σ H _ I h) fun v s1⟨x,H1,I1,r1,q1⟩=>cj (hb γ s1 σ H1 _ I1 q1) fun u s2⟨y,H2,I2,r2,q2⟩=>hf v u s2 x y H2 I2 r1 r2 q2
def Gr{r:R2}(ho:iV X (binaryOp op) r)(ha:PE X a ta)(hb:PE X b tb):PE X (.BinOp a op b pos) (UW r ta tb):=by
 intro γ s σ H Q I h
 exact wpAny_BinOp (Y9 ha hb I h fun v u s2 x y H2 I2 rx ry q=>ho γ s2 σ H2 x y v u Q I2 rx ry q)
def abA{r:V->Hp->VK->Prop}(ho:UnR X (unaryOp op) r)(ha:PE X a ta):PE X (.UnaryOp op a pos) (tUn r ta):=by
 intro γ s σ H Q I h
 exact UnaryOp_ (cj (ha γ s σ H _ I h) fun v s1⟨x,H1,I1,r1,q1⟩=>ho γ s1 σ H1 x v Q I1 r1 q1)
def opI{C:Int->Int->Prop}{g:Int->Int->Int}
  (rule:∀(i j:Int)(t u:Tok)(s:Shared)(Q:QZq)(E:QZq),C i j->Q (.int (g i j) s.toks) {s with toks:=s.toks+1}->wpAny (model X.prog X.w) X.A (f (.int i t) (.int j u)) Q E s):
  iV X f (rI C fun i j=>.int (g i j)):=by
 intro γ s σ H x y v u Q I rx ry h
 obtain⟨i,j,rfl,rfl,hc,q⟩:=h
 obtain⟨t,rfl⟩:=rx
 obtain⟨t',rfl⟩:=ry
 exact rule i j t t' s _ _ hc ⟨.int _,H,I.tok _,⟨_,rfl⟩,q⟩
def abL{g:Int->Int->Int}
  (rule:∀(i j:Int)(t u:Tok)(s:Shared)(Q:QZq)(E:QZq),Q (.int (g i j) s.toks) {s with toks:=s.toks+1}->wpAny (model X.prog X.w) X.A (f (.int i t) (.int j u)) Q E s):
  iV X f (QC fun i j=>.int (g i j)):=by
 intro γ s σ H x y v u Q I rx ry h
 obtain⟨i,j,rfl,rfl,q⟩:=h
 obtain⟨t,rfl⟩:=rx
 obtain⟨t',rfl⟩:=ry
 exact rule i j t t' s _ _ ⟨.int _,H,I.tok _,⟨_,rfl⟩,q⟩
def Xx{g:Int->Int->Bool}
  (rule:∀(i j:Int)(t u:Tok)(s:Shared)(Q:QZq)(E:QZq),Q (.bool (g i j)) s->wpAny (model X.prog X.w) X.A (f (.int i t) (.int j u)) Q E s):
  iV X f (QC fun i j=>.bl (g i j)):=by
 intro γ s σ H x y v u Q I rx ry h
 obtain⟨i,j,rfl,rfl,q⟩:=h
 obtain⟨t,rfl⟩:=rx
 obtain⟨t',rfl⟩:=ry
 exact rule i j t t' s _ _ ⟨.bl _,H,I,rfl,q⟩
def Uo(i j:Int):Prop:=(-(2 ^64)<i/\i<2 ^64)\/(-(2 ^64)<j/\j<2 ^64)
def Uo.ok(h:Uo i j):IntMulOk i j:=by
 rcases h with ⟨h1,h2⟩|⟨h1,h2⟩
 ·exact .of_left (intBits_le_64 h1 h2)
 ·exact .of_right (intBits_le_64 h1 h2)
def Xv:iV X (binaryOp .Add) (QC fun i j=>.int (i+j)):=abL fun _ _ _ _ _ _ _ q=>add_int q
def Xm:iV X (binaryOp .Sub) (QC fun i j=>.int (i-j)):=abL fun _ _ _ _ _ _ _ q=>sub_int q
def Xo:iV X (binaryOp .Mult) (rI Uo fun i j=>.int (i*j)):=opI fun _ _ _ _ _ _ _ hc q=>mul_int q hc.ok
def Xp:iV X (binaryOp .Mod) (rI (fun _ j=>0<j) fun i j=>.int (i%j)):=opI fun i j _ _ _ _ _ hc q=>by
 have h1:=hc
 exact mod_int' (by omega) (by rw[Int.fmod_eq_emod_of_nonneg i (by omega)];exact q)
def unI{g:Int->Int}
  (rule:∀(i:Int)(t:Tok)(s:Shared)(Q:QZq)(E:QZq),Q (.int (g i) s.toks) {s with toks:=s.toks+1}->wpAny (model X.prog X.w) X.A (f (.int i t)) Q E s):
  UnR X f (rU fun i=>.int (g i)):=by
 intro γ s σ H x v Q I rx h
 obtain⟨i,rfl,q⟩:=h
 obtain⟨t,rfl⟩:=rx
 exact rule i t s _ _ ⟨.int (g i),H,I.tok _,⟨_,rfl⟩,q⟩
def Wh:UnR X (unaryOp .USub) (rU fun i=>.int (-i)):=unI fun _ _ _ _ _ q=>neg_int q
end
noncomputable def Ro:V->V->Bool
 |.non,.non=>true|.non,.int _=>true|.int _,.non=>true|.non,.bl _=>true|.bl _,.non=>true|.non,.str _=>true|.str _,.non=>true
 |.int _,.int _=>true|.bl _,.bl _=>true|.str _,.str _=>true
 |.int _,.str _=>true|.str _,.int _=>true|.bl _,.str _=>true|.str _,.bl _=>true
 |_,_=>false
def rEq:R2:=fun x y H Q=>Ro x y=true/\Q (.bl (decide (x=y))) H
def rNe:R2:=fun x y H Q=>Ro x y=true/\Q (.bl (!decide (x=y))) H
def Hr:decide (V.int i=V.int j)=(i==j):=by
 rw[Bool.eq_iff_iff]
 simp
def Pq:decide (V.bl i=V.bl j)=(i==j):=by
 rw[Bool.eq_iff_iff]
 simp
def Hq:decide (V.str i=V.str j)=(i==j):=by
 rw[Bool.eq_iff_iff]
 simp
section
variable{X:Cx}{a b c:Expr}{ta tb tc:TE}{pos:Pos}
def bK{σ:St}{H:Hp}{Q:VK}(I:Inv X γ σ H s)(q:Q (.bl k) H)(e:k=k'):EP X γ σ Q (.bool k') s:=by
 subst e
 exact⟨.bl k,H,I,rfl,q⟩
def abJ:iV X (compareOp .Eq) rEq:=by
 intro γ s σ H x y v u Q I rx ry h
 obtain⟨hs,q⟩:=h
 cases x with
 |non=>
  cases rx
  cases y with
  |non=>cases ry;exact PySem.EqNone.eq_none_none (bK I q (by simp))
  |bl j=>cases ry;exact PySem.EqNone.eq_none_bool (bK I q (by simp))
  |int j=>obtain⟨t',rfl⟩:=ry;exact PySem.EqNone.eq_none_int (bK I q (by simp))
  |str j=>obtain⟨t',rfl⟩:=ry;exact PySem.EqNone.eq_none_str (bK I q (by simp))
  |_=>exact absurd (hs) Qjz
 |bl i=>
  cases rx
  cases y with
  |non=>cases ry;exact PySem.EqNone.eq_bool_none (bK I q (by simp))
  |bl j=>cases ry;exact eq_bool (bK I q Pq)
  |str j=>obtain⟨t',rfl⟩:=ry;exact PySem.EqMixed.eq_bool_str (bK I q (by simp))
  |_=>exact absurd (hs) Qjz
 |int i=>
  obtain⟨t,rfl⟩:=rx
  cases y with
  |non=>cases ry;exact PySem.EqNone.eq_int_none (bK I q (by simp))
  |int j=>obtain⟨t',rfl⟩:=ry;exact eq_int (bK I q Hr)
  |str j=>obtain⟨t',rfl⟩:=ry;exact PySem.EqMixed.eq_int_str (bK I q (by simp))
  |_=>exact absurd (hs) Qjz
 |str i=>
  obtain⟨t,rfl⟩:=rx
  cases y with
  |non=>cases ry;exact PySem.EqNone.eq_str_none (bK I q (by simp))
  |bl j=>cases ry;exact PySem.EqMixed.eq_str_bool (bK I q (by simp))
  |int j=>obtain⟨t',rfl⟩:=ry;exact PySem.EqMixed.eq_str_int (bK I q (by simp))
  |str j=>obtain⟨t',rfl⟩:=ry;exact eq_str (bK I q Hq)
  |_=>exact absurd (hs) Qjz
 |_=>cases y<;>exact absurd (hs) Qjz
def abF:iV X (compareOp .NotEq) rNe:=by
 intro γ s σ H x y v u Q I rx ry h
 obtain⟨hs,q⟩:=h
 cases x with
 |non=>
  cases rx
  cases y with
  |non=>cases ry;exact PySem.EqNone.ne_none_none (bK I q (by simp))
  |bl j=>cases ry;exact PySem.EqNone.ne_none_bool (bK I q (by simp))
  |int j=>obtain⟨t',rfl⟩:=ry;exact PySem.EqNone.ne_none_int (bK I q (by simp))
  |str j=>obtain⟨t',rfl⟩:=ry;exact PySem.EqNone.ne_none_str (bK I q (by simp))
  |_=>exact absurd (hs) Qjz
 |bl i=>
  cases rx
  cases y with
  |non=>cases ry;exact PySem.EqNone.ne_bool_none (bK I q (by simp))
  |bl j=>cases ry;exact ne_bool (bK I q (congrArg not Pq))
  |str j=>obtain⟨t',rfl⟩:=ry;exact PySem.EqMixed.ne_bool_str (bK I q (by simp))
  |_=>exact absurd (hs) Qjz
 |int i=>
  obtain⟨t,rfl⟩:=rx
  cases y with
  |non=>cases ry;exact PySem.EqNone.ne_int_none (bK I q (by simp))
  |int j=>obtain⟨t',rfl⟩:=ry;exact ne_int (bK I q (congrArg not Hr))
  |str j=>obtain⟨t',rfl⟩:=ry;exact PySem.EqMixed.ne_int_str (bK I q (by simp))
  |_=>exact absurd (hs) Qjz
 |str i=>
  obtain⟨t,rfl⟩:=rx
  cases y with
  |non=>cases ry;exact PySem.EqNone.ne_str_none (bK I q (by simp))
  |bl j=>cases ry;exact PySem.EqMixed.ne_str_bool (bK I q (by simp))
  |int j=>obtain⟨t',rfl⟩:=ry;exact PySem.EqMixed.ne_str_int (bK I q (by simp))
  |str j=>obtain⟨t',rfl⟩:=ry;exact ne_str (bK I q (congrArg not Hq))
  |_=>exact absurd (hs) Qjz
 |_=>cases y<;>exact absurd (hs) Qjz
def abG:iV X (compareOp .Lt) (QC fun i j=>.bl (decide (i<j))):=Xx fun _ _ _ _ _ _ _ q=>lt_int q
def abH:iV X (compareOp .LtE) (QC fun i j=>.bl (decide (i<=j))):=Xx fun _ _ _ _ _ _ _ q=>le_int q
def abI:iV X (compareOp .Gt) (QC fun i j=>.bl (decide (j<i))):=Xx fun _ _ _ _ _ _ _ q=>gt_int q
def Ja:iV X (compareOp .In) (fun x y H Q=>∃i j,x=.str i/\y=.str j/\Q (.bl (!(Builtin.Str.occurrences j i 0 j.length 1).isEmpty)) H):=by
 intro γ s σ H x y v u Q I rx ry h
 obtain⟨i,j,rfl,rfl,q⟩:=h
 obtain⟨t,rfl⟩:=rx
 obtain⟨t',rfl⟩:=ry
 exact in_str (bK I q rfl)
def Dr:iV X (compareOp .Is) (fun x y H Q=>y=.non/\Q (.bl (decide (x=.non))) H):=by
 intro γ s σ H x y v u Q I rx ry h
 obtain⟨rfl,q⟩:=h
 cases ry
 refine is_none_gen (bK I q ?_)
 cases x<;>first
  |(cases rx;rfl)
  |(obtain⟨t,rfl⟩:=rx;rfl)
def iV.or{f:Value->Value->Sem Value}{r r':R2}(h:iV X f r)(h':iV X f r'):iV X f (fun x y H Q=>r x y H Q\/r' x y H Q):=by
 intro γ s σ H x y v u Q I rx ry q
 rcases q with q|q
 ·exact h γ s σ H x y v u Q I rx ry q
 ·exact h' γ s σ H x y v u Q I rx ry q
def R3{r:R2}(ho:iV X (compareOp op) r)(ha:PE X a ta)(hb:PE X b tb)(hm:behindInMarks op b=false):PE X (.Compare a [op] [b] pos) (UW r ta tb):=by
 intro γ s σ H Q I h
 exact wpAny_Compare1 (Y9 ha hb I h fun v u s2 x y H2 I2 rx ry q=>ho γ s2 σ H2 x y v u Q I2 rx ry q) hm
def FW(t:TE):TT:=fun σ H Q=>t σ H fun x H'=>∃k,x=.bl k/\Q k H'
def xT{r:R2}(ho:iV X (compareOp op) r)(ha:PE X a ta)(hb:PE X b tb)(hm:behindInMarks op b=false):PT X (.Compare a [op] [b] pos) (FW (UW r ta tb)):=by
 intro γ s σ H Q I h
 refine wpAny_isTrue_Compare1 (cj (ha γ s σ H _ I h) fun v s1⟨x,H1,I1,r1,q1⟩=>cj (hb γ s1 σ H1 _ I1 q1) fun u s2⟨y,H2,I2,r2,q2⟩=>
  cj (ho γ s2 σ H2 x y v u _ I2 r1 r2 q2) fun c s3⟨z,H3,I3,r3,k,e,q3⟩=>?_) hm
 subst e
 cases r3
 exact wpAny_truthy_bool ⟨H3,I3,q3⟩
def Cu(r r':R2)(ta tb tc:TE):TE:=fun σ H Q=>ta σ H fun x H1=>tb σ H1 fun y H2=>r x y H2 fun z H3=>∃k,z=.bl k/\
 (if k=true then tc σ H3 fun w' H4=>r' y w' H4 Q else Q (.bl false) H3)
theorem Mx{r r':R2}(ho:iV X (compareOp op) r)(ho':iV X (compareOp op') r')(ha:PE X a ta)(hb:PE X b tb)(hc:PE X c tc)
  (hm:lastMarks [op,op'] [b,c]=false:=by with_unfolding_all rfl):PE X (.Compare a [op,op'] [b,c] pos) (Cu r r' ta tb tc):=by
 intro γ s σ H Q I h
 refine Compare_chain (cj (ha γ s σ H _ I h) fun v s1⟨x,H1,I1,r1,q1⟩=>chain_link (cj (hb γ s1 σ H1 _ I1 q1) fun u s2⟨y,H2,I2,r2,q2⟩=>
  cj (ho γ s2 σ H2 x y v u _ I2 r1 r2 q2) fun d s3⟨z,H3,I3,r3,k,e,q3⟩=>?_)) hm
 subst e
 cases r3
 refine wpAny_truthy_bool ?_
 cases k with
 |false=>exact ite_ff ⟨.bl false,H3,I3,rfl,q3⟩
 |true=>exact ite_tt (chain_last (cj (hc γ s3 σ H3 _ I3 q3) fun w' s4⟨z',H4,I4,r4,q4⟩=>ho' γ s4 σ H4 y z' u w' Q I4 r2 r4 q4))
theorem Mf{r r':R2}(ho:iV X (compareOp op) r)(ho':iV X (compareOp op') r')(ha:PE X a ta)(hb:PE X b tb)(hc:PE X c tc)
  (hm:lastMarks [op,op'] [b,c]=false:=by with_unfolding_all rfl):PT X (.Compare a [op,op'] [b,c] pos) (FW (Cu r r' ta tb tc)):=by
 intro γ s σ H Q I h
 refine isTrue_chain (cj (ha γ s σ H _ I h) fun v s1⟨x,H1,I1,r1,q1⟩=>test_link (cj (hb γ s1 σ H1 _ I1 q1) fun u s2⟨y,H2,I2,r2,q2⟩=>
  cj (ho γ s2 σ H2 x y v u _ I2 r1 r2 q2) fun d s3⟨z,H3,I3,r3,k,e,q3⟩=>?_)) hm
 subst e
 cases r3
 refine wpAny_truthy_bool ?_
 cases k with
 |false=>
  obtain⟨k',e',q'⟩:=q3
  cases e'
  exact ite_ff ⟨H3,I3,q'⟩
 |true=>
  refine ite_tt (test_last (cj (hc γ s3 σ H3 _ I3 q3) fun w' s4⟨z',H4,I4,r4,q4⟩=>cj (ho' γ s4 σ H4 y z' u w' _ I4 r2 r4 q4) fun d' s5⟨z2,H5,I5,r5,k2,e2,q5⟩=>?_))
  subst e2
  cases r5
  exact wpAny_truthy_bool ⟨H5,I5,q5⟩
def Fq(K:QQq)(x:V)(H:Hp)(k:Bool):Prop:=
 match x with
 |.non=>k=false
 |.bl b=>k=b
 |.int i=>k=(i !=0)
 |.str y=>y.length<=sizeLine/\k=((y.length:Int) !=0)
 |.ref p=>(∃xs,jV K H p xs/\k= !xs.isEmpty)\/(∃xs,jU K H p xs/\k= !xs.isEmpty)\/∃kvs,H p=some (.dK kvs)/\k= !kvs.isEmpty
 |_=>False
def Eb{kvs:List (κ×V)}{vs:List (κ×Value)}(r:KV kvs vs):(!vs.isEmpty)= !kvs.isEmpty:=by
 cases r<;>rfl
def ug{its:List Value}(r:Vals xs its):(!its.toArray.isEmpty)= !xs.isEmpty:=by
 cases r<;>simp
def ym:(sizeLine:Nat)<2 ^63:=by rw[sizeLine_eq];decide
def Kz:agi X (fun x H Q=>∃k,Fq X.K x H k/\Q k H):=by
 intro γ s σ H x v Q I rx h
 obtain⟨k,e,q⟩:=h
 have hs:=sizeLine_eq
 cases x with
 |non=>
  cases rx
  subst e
  exact truthy_none ⟨H,I,q⟩
 |bl b=>
  cases rx
  subst e
  exact wpAny_truthy_bool ⟨H,I,q⟩
 |int i=>
  obtain⟨t,rfl⟩:=rx
  subst e
  exact PySem.P.truthy_int ⟨H,I,q⟩
 |str y=>
  obtain⟨t,rfl⟩:=rx
  obtain⟨hy,e'⟩:y.length<=sizeLine/\k=((y.length:Int) !=0):=e
  subst e'
  exact PySem.P.truthy_str (by omega) ⟨H,I.tok _,q⟩
 |ref p=>
  cases rx
  have e':=e
  rcases e' with ⟨xs,hx,e'⟩|⟨xs,hx,e'⟩|⟨kvs,hx,e'⟩
  ·subst e'
   obtain⟨its,r,pl,hz⟩:=I.list hx
   have hlen:=r.length
   exact wpAny_truthy_list pl.isList (by simp only[Qyq];omega) ⟨H,I.tok _,by rw[ug r];exact q⟩
  ·subst e'
   obtain⟨its,r,pl,hz⟩:=I.tuple hx
   have hlen:=r.length
   exact truthy_tuple pl (by simp only[Qyq];omega) ⟨H,I.tok _,by rw[ug r];exact q⟩
  ·subst e'
   obtain⟨hz,hS,vs,r,m⟩:kvs.length<=sizeLine/\(p==sysModules)=false/\∃vs,KV kvs vs/\s.heap.DictOf _ p vs:=I.hok p _ hx
   have hlen:=Paired.length r
   exact wpAny_truthy_dict hS m (by omega) ⟨H,I.tok _,by rw[Eb r];exact q⟩
 |_=>exact(e).elim
def oh(ha:PE X a ta)(he:∀whole,isTrue a X.env whole=(do let v<-whole;standAt a.pos;holding [v] (truthy v))):
  PT X a (fun σ H Q=>ta σ H fun x H'=>∃k,Fq X.K x H' k/\Q k H'):=by
 intro γ s σ H Q I h
 exact isTrue_plain (cj (ha γ s σ H _ I h) fun v s1⟨x,H1,I1,r1,q1⟩=>Kz γ s1 σ H1 x v Q I1 r1 q1) (he _)
def vals1{us:List Value}(r:Vals [x] us):∃u,us=[u]/\RelV x u:=by
 cases r with
 |cons r1 r2=>cases r2;exact⟨_,rfl,r1⟩
def JZ:gH X (.type "int") (fun xs H Q=>(∃i,xs=[.int i]/\Q (.int i) H)\/∃k,xs=[.bl k]/\Q (.int (if k then 1 else 0)) H):=by
 intro γ s σ H xs us Q I r h
 rcases h with ⟨i,rfl,q⟩|⟨k,rfl,q⟩
 ·obtain⟨u,rfl,t,rfl⟩:=vals1 r
  exact call_int_int ⟨.int i,H,I,⟨_,rfl⟩,q⟩
 ·obtain⟨u,rfl,r1⟩:=vals1 r
  cases r1
  exact call_int_bool ⟨.int _,H,I.tok _,⟨_,rfl⟩,q⟩
def Ul(K:QQq)(x:V)(H:Hp)(n:Nat):Prop:=
 match x with
 |.str y=>y.length<=sizeLine/\n=y.length
 |.ref p=>(∃xs,jV K H p xs/\n=xs.length)\/∃xs,jU K H p xs/\n=xs.length
 |_=>False
def Bt:gH X (.builtin "len") (fun xs H Q=>∃x n,xs=[x]/\Ul X.K x H n/\Q (.int n) H):=by
 intro γ s σ H xs us Q I r h
 obtain⟨x,n,rfl,e,q⟩:=h
 obtain⟨u,rfl,rx⟩:=vals1 r
 have hs:=sizeLine_eq
 cases x with
 |str y=>
  obtain⟨t,rfl⟩:=rx
  obtain⟨hy,e'⟩:y.length<=sizeLine/\n=y.length:=e
  subst e'
  exact len_str (by omega) ⟨.int _,H,I.tok _,⟨_,rfl⟩,q⟩
 |ref p=>
  cases rx
  have e':=e
  rcases e' with ⟨xs,hx,e'⟩|⟨xs,hx,e'⟩
  ·subst e'
   obtain⟨its,r',pl,hz⟩:=I.list hx
   have hlen:=r'.length
   exact Calls.call_len_list pl.isList (by simp only[Qyq];omega) ⟨.int xs.length,H,I.tok _,⟨_,by simp only[Qyq];rw[hlen]⟩,q⟩
  ·subst e'
   obtain⟨its,r',pl,hz⟩:=I.tuple hx
   have hlen:=r'.length
   exact len_tuple pl (by simp only[Qyq];omega) ⟨.int xs.length,H,I.tok _,⟨_,by simp only[Qyq];rw[hlen]⟩,q⟩
 |_=>exact(e).elim
end
structure Fv(h:Heap)(x dx C:Addr)(mA:QZz):Prop where
 obj:h.get? x=some (PySem.W.instObj C dx)
 ns:h.Ns1 dx mA
 ne:dx≠x
def Jl{h:Heap}{dx:Addr}{mA:QZz}(n:h.Ns1 dx mA):∃od,h.get? dx=some od/\∀name,PySem.W.lookIn name od=some (mA name):=by
 obtain⟨o,es,ep,ho,hd,hk,_,hm⟩:=n
 refine⟨o,ho,fun name=>?_⟩
 have e:=hm name
 unfold nsFind findBy at e
 rw[<-Array.find?_toList]at e
 unfold PySem.W.lookIn
 rw[hd]
 dsimp only
 split
 ·rename_i y q
  rw[q]at e
  exact congrArg some e
 ·rename_i q
  rw[q]at e
  have a:es.toList.any (·.refKey)=false:=by
   rw[List.any_eq_false]
   intro y hy
   obtain⟨z,t,hkey⟩:=hk y (Array.mem_toList_iff.mp hy)
   simp[DictEntry.refKey,hkey]
  have a':¬es.toList.any (·.refKey)=true:=by rw[a];exact Qjz
  rw[if_neg a']
  exact congrArg some e
def Fv.look{h:Heap}{x dx C:Addr}{mA:QZz}(I:Fv h x dx C mA):∃od,PySem.W.InstAt h x (PySem.W.instObj C dx) C (some od)/\∀name,PySem.W.lookIn name od=some (mA name):=
 let ⟨od,ho,hl⟩:=Jl I.ns
 ⟨od,⟨I.obj,rfl,rfl,ho⟩,hl⟩
section
variable{prog:Program}{w:World}{A:Around}{E:QZq}{s:Shared}{K:QQq}{x dx C f:Addr}{mA:QZz}{name:Str}{v:Value}
def Tt{expr:Bool}{Q:QZq}(X:K.In s.heap)(I:Fv s.heap x dx C mA)(hg:PySem.W.plainGet K C name=true)(hh:PySem.W.hasDictIn K C=true)
  (ha:PySem.W.findIn K (.ref C) name=some none)(hv:mA name=some v)(hv':PySem.W.handedIn v=true)(h:Q v {s with toks:=s.toks+1}):
  wpAny (model prog w) A (getAttr (.ref x) name expr) Q E s:=by
 obtain⟨od,J,hl⟩:=I.look
 exact PySem.W.get_value X J (PySem.W.plainGet_of hg).1 (PySem.W.findObj_own hh ha rfl (by rw[hl,hv])) hv' h
def Ot{pl:Sem Bool}{Q:Value×List Value->Shared->Prop}(X:K.In s.heap)(I:Fv s.heap x dx C mA)(hg:PySem.W.plainGet K C name=true)
  (hf:PySem.W.findIn K (.ref C) name=some (some (.ref f)))(ht:PySem.W.isFn K (.ref f)=true)(hv:mA name=none)(h:Q (.ref f,[.ref x]) s):
  wpAny (model prog w) A (getMethod (.ref x) name pl) Q E s:=by
 obtain⟨od,J,hl⟩:=I.look
 exact PySem.W.method_fn X J (PySem.W.plainGet_of hg).1 (PySem.W.plainGet_of hg).2 hf (beq_iff_eq.mp ht) (by show(PySem.W.lookIn name od).map (·.isSome)=some false;rw[hl,hv];rfl) h
def Ri{ns:List Str}{Q:Unit->Shared->Prop}(X:K.In s.heap)(I:Fv s.heap x dx C mA)
  (hs:PySem.W.findIn K (.ref C) "__setattr__"=some (some (.builtin "object.__setattr__")))(hp:PySem.W.plainOver K C=true)(ht:PySem.W.takerIn K C name=some none)(hh:PySem.W.hasDictIn K C=true)
  (hw:PySem.Within mA ns)(hsz:ns.length<=sizeLine)
  (h:∀h',Fv h' x dx C (fun y=>if y=name then some v else mA y)->Heap.SameBut dx s.heap h'->Q () {s with heap:=h',toks:=s.toks+2}):
  wpAny (model prog w) A (setAttr (.ref x) name v) Q E s:=by
 obtain⟨od,J,hl⟩:=I.look
 refine PySem.W.set_plain X J hs (PySem.W.osa_open (s:={s with toks:=s.toks+1}) (r:=none) X J hp ht fun b=>?_)
 obtain⟨cd,hc,hd'⟩:=PySem.W.any_some hh
 have hx:s.heap.get? x=some ⟨.ref C,some dx,.plain, #[]⟩:=I.obj
 refine QKq (QKz (QKq (QKq (wpAny_loadPart hx (QKq (PySem.W.Looks.here (s:={s with toks:=s.toks+1}) (PySem.W.looks_clsIn X hc) ?_))))))
 rw[hd']
 refine QKz (a:=some dx) (QKq (QKz (QKq ?_)))
 refine wpAny_nsSet1 (s:={s with toks:=s.toks+1}) I.ns fun h' hn2 hs2=>?_
 obtain⟨oD,esD,epD,hoD,hdD,hcD⟩:=hn2.count (PySem.Within.cons name v hw)
 refine QKq (wpAny_lookBehind hoD (by rw[hdD];exact pastItsLine_dict (Nat.le_trans hcD (by rw[QBq];omega))) ?_)
 exact QKz (h _ ⟨(hs2.2 _ (Ne.symm I.ne)).trans I.obj,hn2,I.ne⟩ hs2)
def Ni{R:Result->Shared->Prop}{vs:List Value}{kw:List (Str×Value)}(X:K.In s.heap)(hm:PySem.W.makesIn K C=true)
  (hi:PySem.W.findIn K (.ref C) "__init__"=some (some (.ref f)))(hf:PySem.W.typeIn K (.ref f)=some (.type "function"))
  (h:codeAny (model prog w) (A.under (.builtin "type.__call__" ⟨.ref C::vs,kw⟩)) (.call (.ref f) ⟨.ref (s.heap.objs.size+1)::vs,kw⟩) (PySem.W.InitBack (s.heap.objs.size+1) R)
   {s with heap:=(s.heap.push PySem.W.emptyDict).push (PySem.W.instObj C s.heap.objs.size)}):
  codeAny (model prog w) A (.call (.ref C) ⟨vs,kw⟩) R s:=by
 obtain⟨hh,g,d,t,os⟩:=s
 exact PySem.W.make_core (PySem.W.makes_of X hm) (PySem.W.looks_findIn X hi) (fun self=>PySem.W.bind_fn X self hf) (.inl rfl) h
end
def jE(f:Str)(v:V):List (Str×V)->List (Str×V)
 |[]=>[(f,v)]
 |(g,x)::r=>if g=f then(g,v)::r else(g,x)::jE f v r
theorem qH(f g:Str)(v:V):∀fs:List (Str×V),(jE f v fs).lookup g=if g=f then some v else fs.lookup g
 |[]=>by
  show List.lookup g [(f,v)]=_
  by_cases h:g=f
  ·have hb:(g==f)=true:=beq_iff_eq.mpr h
   simp only[List.lookup,hb,if_pos h]
  ·have hb:(g==f)=false:=beq_eq_false_iff_ne.mpr h
   simp only[List.lookup,hb,if_neg h]
 |(k,x)::r=>by
  have ih:=qH f g v r
  rw[show jE f v ((k,x)::r)=(if k=f then(k,v)::r else(k,x)::jE f v r)from rfl]
  by_cases hk:k=f
  ·rw[if_pos hk]
   by_cases h:g=k
   ·have hb:(g==k)=true:=beq_iff_eq.mpr h
    simp only[List.lookup,hb,if_pos (h.trans hk)]
   ·have hb:(g==k)=false:=beq_eq_false_iff_ne.mpr h
    simp only[List.lookup,hb,if_neg (fun e:g=f=>h (e.trans hk.symm))]
  ·rw[if_neg hk]
   by_cases h:g=k
   ·have hb:(g==k)=true:=beq_iff_eq.mpr h
    simp only[List.lookup,hb,if_neg (fun e:g=f=>hk (h.symm.trans e))]
   ·have hb:(g==k)=false:=beq_eq_false_iff_ne.mpr h
    simp only[List.lookup,hb]
    exact ih
theorem pP(f:Str)(v:V):∀fs:List (Str×V),f∈(jE f v fs).map (·.1)/\∀g,g∈fs.map (·.1)->g∈(jE f v fs).map (·.1)
 |[]=>⟨by simp[jE],fun g h=>by simp at h⟩
 |(k,x)::r=>by
  obtain⟨i1,i2⟩:=pP f v r
  rw[show jE f v ((k,x)::r)=(if k=f then(k,v)::r else(k,x)::jE f v r)from rfl]
  by_cases hk:k=f
  ·rw[if_pos hk]
   subst hk
   exact⟨by simp,fun g h=>by simpa using h⟩
  ·rw[if_neg hk]
   refine⟨?_,fun g h=>?_⟩
   ·rw[Qyz]
    exact QYq _ i1
   ·rw[Qyz]at h⊢
    rcases QCq.mp h with e|e
    ·exact QCq.mpr (.inl e)
    ·exact QYq _ (i2 g e)
theorem qJ(f:Str)(v:V):∀fs:List (Str×V),(jE f v fs).length<=fs.length+1
 |[]=>by simp[jE]
 |(k,x)::r=>by
  have ih:=qJ f v r
  rw[show jE f v ((k,x)::r)=(if k=f then(k,v)::r else(k,x)::jE f v r)from rfl]
  by_cases hk:k=f
  ·rw[if_pos hk,QBq,QBq];omega
  ·rw[if_neg hk,QBq,QBq];omega
def lK.some_of{o:Option Value}(r:lK (some v) o):∃u,o=some u/\RelV v u:=by
 cases o with
 |none=>exact(r).elim
 |some u=>exact⟨u,rfl,r⟩
def lK.none_of{o:Option Value}(r:lK none o):o=none:=by
 cases o with
 |none=>rfl
 |some u=>exact(show False from r).elim
def JH{v:V}{u:Value}(r:RelV v u):PySem.W.handedIn u=true:=by
 cases v with
 |non=>cases (show u=Value.none from r);rfl
 |bl b=>cases (show u=Value.bool b from r);rfl
 |int i=>obtain⟨t,e⟩:=(show∃t,u=Value.int i t from r);cases e;rfl
 |str x=>obtain⟨t,e⟩:=(show∃t,u=Value.str x t from r);cases e;rfl
 |ref a=>cases (show u=Value.ref a from r);rfl
 |ty n=>cases (show u=Value.type n from r);rfl
section
variable{P:Program}{w:World}{H H':Hp}{h h':Heap}{a C dx:Addr}{fs fs':List (Str×V)}
def rG(hok:pA P w H h)(e:H a=some (.ins C dx fs)):∃mA,Fv h a dx C mA/\(∀f,lK (fs.lookup f) (mA f))/\PySem.Within mA (fs.map (·.1))/\fs.length<=1000/\H dx=some (.own a):=by
 obtain⟨d,z,ne,ob,mA,n,r,q⟩:=(show dq P w H h a (.ins C dx fs)from hok a _ e)
 exact⟨mA,⟨ob,n,ne⟩,r,q,z,d⟩
end
structure ql(K:QQq)(C:Addr):Prop where
 pg:PySem.W.plainGet K C Str.empty=true
 hd:PySem.W.hasDictIn K C=true
 po:PySem.W.plainOver K C=true
 sa:PySem.W.findIn K (.ref C) "__setattr__"=some (some (.builtin "object.__setattr__"))
def ql.get{K:QQq}{C:Addr}(c:ql K C)(f:Str):PySem.W.plainGet K C f=true:=c.pg
def bh(K:QQq)(C:Addr)(f:Str):Prop:=PySem.W.findIn K (.ref C) f=some none
def bh.taker{K:QQq}{C:Addr}{f:Str}(n:bh K C f):PySem.W.takerIn K C f=some none:=by
 unfold PySem.W.takerIn
 rw[show PySem.W.findIn K (.ref C) f=some none from n]
 rfl
structure Meth(K:QQq)(C:Addr)(m:Str)(f:Addr):Prop where
 at_:PySem.W.findIn K (.ref C) m=some (some (.ref f))
 fn:PySem.W.isFn K (.ref f)=true
 kp:PySem.W.keepIn K (.ref f)=true
section
variable{X:Cx}{γ:QQz}{σ:St}{H:Hp}{s:Shared}{a C dx:Addr}{fs:List (Str×V)}{f:Str}{v:V}{A:Around}{E:QZq}
def Ef{b:Bool}{Q:QZq}(I:Inv X γ σ H s)(e:H a=some (.ins C dx fs))(c:ql X.K C)(n:bh X.K C f)(l:fs.lookup f=some v)
  (h:∀u s',Inv X γ σ H s'->RelV v u->Q u s'):wpAny (model X.prog X.w) A (getAttr (.ref a) f b) Q E s:=by
 obtain⟨mA,O,r,_,_,_⟩:=rG I.hok e
 obtain⟨u,hu,ru⟩:=lK.some_of (v:=v) (o:=mA f) (by rw[<-l];exact r f)
 exact Tt I.Av O (c.get f) c.hd n hu (JH ru) (h u _ (I.tok _) ru)
def uo{m:Str}{g:Addr}{pl:Sem Bool}{Q:Value×List Value->Shared->Prop}(I:Inv X γ σ H s)(e:H a=some (.ins C dx fs))(c:ql X.K C)(k:Meth X.K C m g)(l:fs.lookup m=none)
  (h:Q (.ref g,[.ref a]) s):wpAny (model X.prog X.w) A (getMethod (.ref a) m pl) Q E s:=by
 obtain⟨mA,O,r,_,_,_⟩:=rG I.hok e
 have hn:mA m=none:=lK.none_of (by rw[<-l];exact r m)
 exact Ot I.Av O (c.get m) k.at_ k.fn hn h
def CJ{y:V}{u:Value}{Q:Unit->Shared->Prop}(I:Inv X γ σ H s)(e:H a=some (.ins C dx fs))(c:ql X.K C)(n:bh X.K C f)(hl:fs.length<1000)(ry:RelV y u)
  (h:∀s',Inv X γ σ (upd H a (.ins C dx (jE f y fs))) s'->Q () s'):wpAny (model X.prog X.w) A (setAttr (.ref a) f u) Q E s:=by
 obtain⟨mA,O,r,wi,_,ho⟩:=rG I.hok e
 have hz:(fs.map (·.1)).length<=sizeLine:=by rw[QAq,sizeLine_eq];omega
 refine Ri I.Av O c.sa c.po n.taker c.hd wi hz fun h' O' sb=>h _ ?_
 have hd:∃o,h'.get? dx=some o:=let ⟨o,_,_,e',_⟩:=O'.ns;⟨o,e'⟩
 refine I.write (x:=a) (e:=dx) (by rw[e];exact True.intro) (.inr ho) (fun b q hb z=>(sb.2 b hb).trans z) hd ?_
 refine⟨by rw[au O.ne];exact ho,?_,O.ne,O'.obj,_,O'.ns,fun g=>?_,fun g hg=>?_⟩
 ·have:=qJ f y fs;omega
 ·show lK ((jE f y fs).lookup g) (if g=f then some u else mA g)
  rw[qH]
  by_cases q:g=f
  ·rw[if_pos q,if_pos q];exact ry
  ·rw[if_neg q,if_neg q];exact r g
 ·by_cases q:g=f
  ·rw[q];exact(pP f y fs).1
  ·refine(pP f y fs).2 g (wi g fun z=>hg ?_)
   show(if g=f then some u else mA g)=none
   rw[if_neg q];exact z
def Inv.made(I:Inv X γ σ H s):Inv X γ σ (upd (upd H s.heap.objs.size (.own (s.heap.objs.size+1))) (s.heap.objs.size+1) (.ins C s.heap.objs.size []))
  {s with heap:=(s.heap.push PySem.W.emptyDict).push (PySem.W.instObj C s.heap.objs.size)}:=by
 have e1:(s.heap.push PySem.W.emptyDict).get? s.heap.objs.size=some PySem.W.emptyDict:=Qzq s.heap rfl
 have e2:((s.heap.push PySem.W.emptyDict).push (PySem.W.instObj C s.heap.objs.size)).get? (s.heap.objs.size+1)=some (PySem.W.instObj C s.heap.objs.size):=by
  have:=Qzq (s.heap.push PySem.W.emptyDict) (o:=PySem.W.instObj C s.heap.objs.size) rfl
  rwa[Heap.size_push]at this
 have e3:(s.heap.push PySem.W.emptyDict).Ns s.heap.objs.size (fun _=>none):=⟨PySem.W.emptyDict, #[],_,e1,rfl,(fun e he=>absurd he (by simp)),fun _=>rfl⟩
 have I1:=I.laid (a:=s.heap.objs.size) (o:=.own (s.heap.objs.size+1)) (h':=s.heap.push PySem.W.emptyDict) (t':=s.toks) (fun b u q=>QWq _ q) (QVz _) ⟨_,e1⟩
 refine I1.laid (a:=s.heap.objs.size+1) (o:=.ins C s.heap.objs.size []) (t':=s.toks) (fun b u q=>QWq _ q) (Nat.le_of_eq (Heap.size_push _ _)) ?_
 have ne:s.heap.objs.size≠s.heap.objs.size+1:=Qvz (Nat.lt_succ_self _)
 refine⟨by rw[au ne,aB],QIq _,ne,e2,fun _=>none,(Heap.Ns1.of_empty e3).at fun o q=>QWq _ q,fun _=>True.intro,fun y hy=>absurd rfl hy⟩
def Hy{prog:Program}{w:World}{env:Env}{e:Expr}{f:Str}{pos:Pos}{s:Shared}{Q:QZq}(hb:attributeBase e f env (eval e env)=eval e env)
  (h:wpAny (model prog w) A (eval e env) (fun o θ=>wpAny (model prog w) A (getAttr o f true) Q E θ) E s):wpAny (model prog w) A (eval (.Attribute e f pos) env) Q E s:=
 Attribute_any_ h (by rw[arm_eval_Attribute,hb])
end
def Wq(K:QQq)(ta:TE)(f:Str):TE:=fun σ H Q=>ta σ H fun x H1=>∃a C dx fs v,x=.ref a/\H1 a=some (.ins C dx fs)/\ql K C/\bh K C f/\fs.lookup f=some v/\Q v H1
def m9(K:QQq)(ta tv:TE)(f:Str):TS:=fun D σ H=>tv σ H fun y H1=>ta σ H1 fun x H2=>∃a C dx fs,x=.ref a/\H2 a=some (.ins C dx fs)/\ql K C/\bh K C f/\fs.length<1000/\
 D.nx σ (upd H2 a (.ins C dx (jE f y fs)))
section
variable{X:Cx}{o e value:Expr}{f:Str}{pos pos' tpos:Pos}{ta tv:TE}
def nD(he:PE X e ta)(hb:attributeBase e f X.env (eval e X.env)=eval e X.env):PE X (.Attribute e f pos) (Wq X.K ta f):=by
 intro γ s σ H Q I h
 refine Hy hb (cj (he γ s σ H _ I h) fun u s1⟨x,H1,I1,rx,a,C,dx,fs,v,ex,ea,c,n,l,q⟩=>?_)
 subst ex
 obtain rfl:u=Value.ref a:=rx
 exact Ef I1 ea c n l fun u' s2 I2 ru=>⟨v,H1,I2,ru,q⟩
def lq(ha:PE X o ta)(hv:PE X value tv)(hs:swapsWith value (some (.Attribute o f pos')) pos.line X.env=pure false):PS X (.Assign [.Attribute o f pos'] value pos) (m9 X.K ta tv f):=by
 intro γ s σ H D I h
 refine plainObj_wpAny_Assign_Attribute (cj (hv γ s σ H _ I h) fun u s1⟨y,H1,I1,ry,q⟩=>cj (ha γ s1 σ H1 _ I1 q) fun ov s2⟨x,H2,I2,rx,a,C,dx,fs,ex,ea,c,n,l,q2⟩=>?_) hs
 subst ex
 obtain rfl:ov=Value.ref a:=rx
 exact CJ I2 ea c n l ry fun s3 I3=>⟨σ,_,I3,q2⟩
end
section
variable{X:Cx}{γ:QQz}{σ:St}{H:Hp}{s:Shared}{A:Around}{E:QZq}{Q:QZq}{c:Value}{b:Bool}
end
structure dR(k:Nat)(A:Around):Prop where
 hd:A.handled=none
 dp:A.depth+3*k+5<recursionLimit
 un:A.units+16*k+200<cLine
def dR.mono{A:Around}(r:dR k A)(h:j<=k):dR j A:=⟨r.hd,by have:=r.dp;omega,by have:=r.un;omega⟩
theorem dR.deeper{A:Around}(r:dR (k+1) A)env:dR k (A.deeper env):=
 ⟨r.hd,by have:=r.dp;show A.depth+1+3*k+5<_;omega,by have:=r.un;show A.units+3+16*k+200<_;omega⟩
theorem dR.in1{k:Nat}{A:Around}(r:dR (k+1) A):dR k A.in1:=
 ⟨r.hd,by have:=r.dp;show A.depth+3*k+5<_;omega,by have:=r.un;show A.units+1+16*k+200<_;omega⟩
def DN{A:Around}{C:Addr}{us:List Value}{kw:List (Str×Value)}:(A.under (.builtin "type.__call__" ⟨.ref C::us,kw⟩)).depth=A.depth+1:=by
 first|rfl|simp[Around.under,Code.weight,Code.isCreation,Code.isGuard,Code.isCaller,Code.frames,Code.isFrame,guardIds]
def DK{A:Around}{C:Addr}{us:List Value}{kw:List (Str×Value)}:(A.under (.builtin "type.__call__" ⟨.ref C::us,kw⟩)).units=A.units+1:=by
 first|rfl|simp[Around.under,Code.cUnits,Code.frames,Code.isFrame]
def dR.make{k:Nat}{A:Around}(r:dR (k+1) A)(C:Addr)(us:List Value)(kw:List (Str×Value)):dR k (A.under (.builtin "type.__call__" ⟨.ref C::us,kw⟩)):=
 ⟨r.hd,by have:=r.dp;rw[DN];omega,by have:=r.un;rw[DK];omega⟩
theorem dR.depth{A:Around}(r:dR k A):A.depth<recursionLimit:=by have:=r.dp;omega
theorem dR.units{k:Nat}{A:Around}(r:dR k A):A.units+64<cLine:=by have:=r.un;omega
def di:TA:=fun _ H Q=>Q [] H
def aJ(ta:TE)(tr:TA):TA:=fun σ H Q=>ta σ H fun x H1=>tr σ H1 fun xs H2=>Q (x::xs) H2
section
variable{X:Cx}{e:Expr}{es:List Expr}{te:TE}{t:TA}{pos:Pos}
def bO:PA X [] di:=fun _ _ _ _ H Q I h=>Calls.spliced_nil ⟨[],H,I,.nil,h⟩
def aC(ha:PE X e te)(hr:PA X es t)(hs:starEach (e::es) X.env=(false,eval e X.env)::starEach es X.env:=by rfl):PA X (e::es) (aJ te t):=by
 intro pos γ s σ H Q I h
 rw[hs]
 exact Calls.spliced_cons (cj (ha γ s σ H _ I h) fun u s1⟨x,H1,I1,r1,q1⟩=>cj (hr pos γ s1 σ H1 _ I1 q1) fun us s2⟨xs,H2,I2,r2,q2⟩=>⟨x::xs,H2,I2,.cons r1 r2,q2⟩)
def KY(t:TA):TE:=fun σ H Q=>t σ H fun xs H1=>xs.length<=sizeLine/\∀p,H1 p=none->Q (.ref p) (upd H1 p (.tup xs))
def K4(t:TA):TE:=fun σ H Q=>t σ H fun xs H1=>xs.length<=sizeLine/\∀p,H1 p=none->Q (.ref p) (upd H1 p (.lst xs))
def Dj{x1}(h:PA X es t):PE X (.Tuple es x1 pos) (KY t):=by
 intro γ s σ H Q I hq
 refine wpAny_Tuple_spliced (cj (h pos γ s σ H _ I hq) fun us s1⟨xs,H1,I1,r,z,q⟩=>⟨by rw[<-r.length];exact z,?_⟩)
 refine⟨.ref s1.heap.objs.size,upd H1 s1.heap.objs.size _,I1.laid (fun b u e=>QWq _ e) (QVz _) ?_,rfl,q _ (I1.hok.fresh (QVz _))⟩
 exact⟨z,us,r,TupOk.new _ _⟩
def Dm(h:PA X es t):PE X (.List es pos) (K4 t):=by
 intro γ s σ H Q I hq
 refine wpAny_List_spliced (cj (h pos γ s σ H _ I hq) fun us s1⟨xs,H1,I1,r,z,q⟩=>⟨by rw[<-r.length];exact z,?_⟩)
 refine⟨.ref s1.heap.objs.size,upd H1 s1.heap.objs.size _,I1.laid (fun b u e=>QWq _ e) (QVz _) ?_,rfl,q _ (I1.hok.fresh (QVz _))⟩
 exact⟨z,us,0,r,Qzq _ rfl⟩
end
abbrev Sp:=List V->Hp->VK->XK->Prop
abbrev J8:=List Env->Hp->Shared->XK->Value->Shared->Prop
structure yZ(P:Program)(w:World)(K:QQq)(mg:QZz)(base:Heap)(A:Around)(outer:List Env)(s:Shared)(H:Hp):Prop where
 frames:A.frames=some outer
 mod:Mod K mg base
 bs:∀b o,base.get? b=some o->s.heap.get? b=some o/\H b=none
 bsz:base.objs.size<=s.heap.objs.size
 mQ:s.heap.FunFrames base outer
 frf:∀b∈frs outer,H b=none
 hok:pA P w H s.heap
 bare:AllBare s.gens
def CE(outer:List Env)(P:Program)(w:World)(H:Hp)(s:Shared)(Q:VK)(u:Value)(s':Shared):Prop:=
 ∃v H',s'.os=s.os/\AllBare s'.gens/\Un (frs outer) [] H H' s.heap s'.heap/\pA P w H' s'.heap/\RelV v u/\Q v H'
def CR(CX:J8)(outer:List Env)(P:Program)(w:World)(H:Hp)(s:Shared)(Q:VK)(E:XK)(r:Result)(s':Shared):Prop:=
 match r with
 |.ok (.ret u)=>CE outer P w H s Q u s'
 |.ok _=>False
 |.error e=>CX outer H s E e s'
structure cD(P:Program)(w:World)(K:QQq)(mg:QZz)(base:Heap)(CX:J8)(k:Nat)(f:Addr)(fd:FuncData)(ps:List Str)(sp:Sp):Prop where
 len:∀vs H Q E,sp vs H Q E->vs.length=ps.length
 run:∀(A:Around)(outer:List Env)(s:Shared)(H:Hp)(args:Args)(us:List Value)(vs:List V)(Q:VK)(E:XK),dR k A->yZ P w K mg base A outer s H->BindsTo s fd args (ps.zip us)->Vals vs us->sp vs H Q E->
  codeAny (model P w) A (.call (.ref f) args) (CR CX outer P w H s Q E) s
theorem cD.mono{w:World}{K:QQq}{base:Heap}{CX:J8}{f:Addr}{ps:List Str}(F:cD P w K mg base CX j f fd ps sp)(h:j<=k):
  cD P w K mg base CX k f fd ps sp:=⟨F.len,fun A outer s H args us vs Q E hr=>F.run A outer s H args us vs Q E (hr.mono h)⟩
def cD.imp{w:World}{K:QQq}{base:Heap}{k:Nat}{f:Addr}{ps:List Str}(F:cD P w K mg base CX k f fd ps sp)
  (h:∀vs H Q E,sp' vs H Q E->sp vs H Q E):cD P w K mg base CX k f fd ps sp':=
 ⟨fun vs H Q E q=>F.len vs H Q E (h _ _ _ _ q),fun A outer s H args us vs Q E hr he hb hv hs=>F.run A outer s H args us vs Q E hr he hb hv (h _ _ _ _ hs)⟩
def yZ.make{P:Program}{w:World}{K:QQq}{mg:QZz}{base:Heap}{A:Around}{outer:List Env}{s:Shared}{H:Hp}(e:yZ P w K mg base A outer s H)(C:Addr)(us:List Value)(kw:List (Str×Value)):
  yZ P w K mg base (A.under (.builtin "type.__call__" ⟨.ref C::us,kw⟩)) outer s H:=⟨by first|exact e.frames|(simpa[Around.under,Code.envs,Code.isFrame,pushEnvs]using e.frames),e.mod,e.bs,e.bsz,e.mQ,e.frf,e.hok,e.bare⟩
theorem yZ.in1{P:Program}{w:World}{K:QQq}{mg:QZz}{base:Heap}{A:Around}{outer:List Env}{s:Shared}{H:Hp}(e:yZ P w K mg base A outer s H):
  yZ P w K mg base A.in1 outer s H:=⟨e.frames,e.mod,e.bs,e.bsz,e.mQ,e.frf,e.hok,e.bare⟩
section
variable{X:Cx}{γ:QQz}{σ:St}{H:Hp}{s s':Shared}
def Inv.env0(I:Inv X γ σ H s):yZ X.prog X.w X.K X.mg X.base X.A X.stack s H:=
 ⟨I.ok.frames,I.ok.mod,I.bs,Nat.le_trans I.ok.bsz I.sz,I.stack,I.Gb,I.hok,I.bare⟩
def Inv.after{u:Value}(I:Inv X γ σ H s)(h:CE X.stack X.prog X.w H s Q u s'):EP X γ σ Q u s':=by
 obtain⟨v,H',os,bare,un,hok,r,q⟩:=h
 obtain⟨hh,g,d,t,os'⟩:=s'
 obtain rfl:os'=s.os:=os
 exact⟨v,H',I.call un hok bare (fun b z=>absurd z (by simp)),r,q⟩
end
def ik(sp:Sp)(dvs:List V)(E:XK)(t:TA):TE:=fun σ H Q=>t σ H fun vs H1=>sp (vs++dvs) H1 Q E
noncomputable def qw(C:Addr)(m:Str)(sp:Sp)(dvs:List V)(E:XK)(ta:TE)(t:TA):TE:=fun σ H Q=>ta σ H fun x H1=>∃a dx fs,x=.ref a/\H1 a=some (.ins C dx fs)/\fs.lookup m=none/\
 t σ H1 fun vs H2=>sp (x::(vs++dvs)) H2 Q E
noncomputable def U3(C:Addr)(sp:Sp)(dvs:List V)(E:XK)(t:TA):TE:=fun σ H Q=>t σ H fun vs H1=>∀x dx,H1 x=none->H1 dx=none->dx≠x->
 sp (.ref x::(vs++dvs)) (upd (upd H1 dx (.own x)) x (.ins C dx [])) (fun v H2=>v=.non/\Q (.ref x) H2) E
def Binds(K:QQq)(fd:FuncData)(ps:List Str)(ds:List Value):Prop:=
 ∀(s:Shared)(us:List Value),K.In s.heap->(us++ds).length=ps.length->BindsTo s fd ⟨us,[]⟩ (ps.zip (us++ds))
def Binds.all{K:QQq}{fd:FuncData}(h:∀us:List Value,us.length=ps.length->bindArgs fd ⟨us,[]⟩=pure (ps.zip us)):Binds K fd ps []:=fun s us _ hl=>by
 rw[List.append_nil]at hl⊢
 exact .of_eq (h us hl)
def lL(CX:J8)(X:Cx)(E:XK):Prop:=∀(γ:QQz)(σ:St)(H:Hp)(s:Shared)(e:Value)(s':Shared),Inv X γ σ H s->CX X.stack H s E e s'->X.xe e s'
section
variable{X:Cx}{CX:J8}{k:Nat}{f C:Addr}{fd:FuncData}{ps:List Str}{sp:Sp}{dvs:List V}{ds:List Value}{E:XK}{x m:Str}{p pos apos:Pos}{e o:Expr}{es:List Expr}{ta:TE}{t:TA}
theorem CK{σ:St}{H:Hp}{Q:VK}{vs:List V}(F:cD X.prog X.w X.K X.mg X.base CX k f fd ps sp)(hr:dR k X.A)(hb:Binds X.K fd ps ds)(hd:Vals dvs ds)(hx:lL CX X E)
  (I:Inv X γ σ H s)(r:Vals vs us)(h:sp (vs++dvs) H Q E):wpAny (model X.prog X.w) X.A (call (.ref f) us) (EP X γ σ Q) X.xe s:=by
 have r2:=r.append hd
 refine wpAny_call (codeAny_mono (F.run X.A X.stack s H ⟨us,[]⟩ _ _ Q E hr I.env0 (hb s us I.Av (by rw[<-r2.length];exact F.len _ _ _ _ h)) r2 h) fun r s' hq=>?_)
 cases r with
 |error e=>exact hx γ σ H s e s' I hq
 |ok fl=>
  cases fl with
  |ret u=>exact I.after hq
  |next=>exact False.elim hq
  |brk=>exact False.elim hq
  |cont=>exact False.elim hq
def gU(F:cD X.prog X.w X.K X.mg X.base CX k f fd ps sp)(hr:dR k X.A)(hg:Gl X x)(hm:X.mg x=some (.ref f))(hk:PySem.W.keepIn X.K (.ref f)=true)(hb:Binds X.K fd ps ds)(hd:Vals dvs ds)(hx:lL CX X E)
  (ha:PA X (e::es) t)(hdb:(x==("__debug__":Str))=false:=by decide)(he:starEach (e::es) X.env=(false,eval e X.env)::starEach es X.env:=by rfl)(hpl:(backTo pos (starEach es X.env)).any (·.1)=false:=by rfl):
  PE X (.Call (.Name x p) (e::es) [] pos) (ik sp dvs E t):=by
 intro γ s σ H Q I h
 exact wpAny_Call_Name_kw (yq I hg hm (PySem.W.callWith_K I.ok.mod.kin hk (cj (ha pos γ s σ H _ I h) fun us s1⟨vs,H1,I1,r,q⟩=>⟨I1.Av,CK F hr hb hd hx I1 r q⟩) he hpl) hdb)
def RX{pl:Sem Bool}(he:PE X o ta)(c:ql X.K C)(hm:Meth X.K C m f)(F:cD X.prog X.w X.K X.mg X.base CX k f fd ps sp)(hr:dR k X.A)(hb:Binds X.K fd ps ds)(hd:Vals dvs ds)(hx:lL CX X E)(ha:PA X (e::es) t)
  (hst:starEach (e::es) X.env=(false,eval e X.env)::starEach es X.env:=by rfl)(hpl:(backTo pos (starEach es X.env)).any (·.1)=false:=by rfl)
  (ht:eval (.Call (.Attribute o m apos) (e::es) [] pos) X.env=(do
   let ov<-eval o X.env
   standAt apos.atName
   let (f,first)<-holding [ov] (getMethod ov m pl)
   callWith pos f first (backTo pos (starEach (e::es) X.env)) (backToKw pos (keywordEach [] X.env))):=by rfl):
  PE X (.Call (.Attribute o m apos) (e::es) [] pos) (qw C m sp dvs E ta t):=by
 intro γ s σ H Q I h
 refine PySem.W.methodCall_KW (pl:=pl) (cj (he γ s σ H _ I h) fun u s1⟨x,H1,I1,rx,a,dx,fs,ex,ea,l,q⟩=>?_) ht
 subst ex
 obtain rfl:u=Value.ref a:=rx
 refine uo I1 ea c hm l ?_
 refine PySem.W.callWith_K (first:=[.ref a]) (h₀:=X.base) I.ok.mod.kin hm.kp (cj (ha pos γ s1 σ H1 _ I1 q) fun us s2⟨vs,H2,I2,r,q2⟩=>⟨I2.Av,?_⟩) hst hpl
 exact CK (us:=.ref a::us) (vs:=.ref a::vs) F hr hb hd hx I2 (.cons rfl r) q2
def Aa{pl:Sem Bool}(he:PE X o ta)(c:ql X.K C)(hm:Meth X.K C m f)(F:cD X.prog X.w X.K X.mg X.base CX k f fd ps sp)(hr:dR k X.A)(hb:Binds X.K fd ps ds)(hd:Vals dvs ds)(hx:lL CX X E)
  (ht:eval (.Call (.Attribute o m apos) [] [] pos) X.env=(do
   let ov<-eval o X.env
   standAt apos.atName
   let (f,first)<-holding [ov] (getMethod ov m pl)
   callWith pos f first (backTo pos (starEach [] X.env)) (backToKw pos (keywordEach [] X.env))):=by rfl):
  PE X (.Call (.Attribute o m apos) [] [] pos) (qw C m sp dvs E ta di):=by
 intro γ s σ H Q I h
 refine PySem.W.methodCall_KW (pl:=pl) (cj (he γ s σ H _ I h) fun u s1⟨x,H1,I1,rx,a,dx,fs,ex,ea,l,q⟩=>?_) ht
 subst ex
 obtain rfl:u=Value.ref a:=rx
 refine uo I1 ea c hm l ?_
 exact PySem.W.callWith_K0 (first:=[.ref a]) I1.Av hm.kp (CK (us:=[.ref a]) (vs:=[.ref a]) F hr hb hd hx I1 (.cons rfl .nil) q)
structure Mk(K:QQq)(C f:Addr):Prop where
 makes:PySem.W.makesIn K C=true
 init:PySem.W.findIn K (.ref C) "__init__"=some (some (.ref f))
 fn:PySem.W.isFn K (.ref f)=true
 kp:PySem.W.keepIn K (.ref C)=true
theorem Lk{γ:QQz}{σ:St}{H:Hp}{s:Shared}{Q:VK}{us:List Value}{vs:List V}(M:Mk X.K C f)(F:cD X.prog X.w X.K X.mg X.base CX k f fd ps sp)(hr:dR (k+1) X.A)(hb:Binds X.K fd ps ds)(hd:Vals dvs ds)
  (hx:lL CX X E)(I:Inv X γ σ H s)(r:Vals vs us)
  (h:∀x dx,H x=none->H dx=none->dx≠x->sp (.ref x::(vs++dvs)) (upd (upd H dx (.own x)) x (.ins C dx [])) (fun v H2=>v=.non/\Q (.ref x) H2) E):
  wpAny (model X.prog X.w) X.A (call (.ref C) us) (EP X γ σ Q) X.xe s:=by
 have hq:=h (s.heap.objs.size+1) s.heap.objs.size (I.hok.fresh (Nat.le_succ _)) (I.hok.fresh (QVz _)) (Qvz (Nat.lt_succ_self _))
 have I2:=Inv.made (C:=C) I
 have r2:Vals (V.ref (s.heap.objs.size+1)::(vs++dvs)) (Value.ref (s.heap.objs.size+1)::(us++ds)):=.cons rfl (r.append hd)
 have hl:(Value.ref (s.heap.objs.size+1)::us++ds).length=ps.length:=by
  have e:=r2.length
  rw[F.len _ _ _ _ hq]at e
  exact e.symm
 refine wpAny_call (Ni (f:=f) I.Av M.makes M.init (beq_iff_eq.mp M.fn) (codeAny_mono (F.run _ X.stack _ _ ⟨Value.ref (s.heap.objs.size+1)::us,[]⟩ (Value.ref (s.heap.objs.size+1)::(us++ds)) _ _ E (hr.make C us [])
  (I2.env0.make C us []) (hb _ (Value.ref (s.heap.objs.size+1)::us) I2.Av hl) r2 hq) fun r s' hq'=>?_))
 cases r with
 |error e=>exact hx γ σ _ _ e s' I2 hq'
 |ok fl=>
  cases fl with
  |ret u=>
   obtain⟨v,H',I3,rv,ev,q3⟩:=I2.after hq'
   subst ev
   exact⟨rv,⟨V.ref (s.heap.objs.size+1),H',I3,rfl,q3⟩⟩
  |next=>exact False.elim hq'
  |brk=>exact False.elim hq'
  |cont=>exact False.elim hq'
def RZ(M:Mk X.K C f)(F:cD X.prog X.w X.K X.mg X.base CX k f fd ps sp)(hr:dR (k+1) X.A)(hg:Gl X x)(hm:X.mg x=some (.ref C))(hb:Binds X.K fd ps ds)(hd:Vals dvs ds)(hx:lL CX X E)
  (ha:PA X (e::es) t)(hdb:(x==("__debug__":Str))=false:=by decide)(he:starEach (e::es) X.env=(false,eval e X.env)::starEach es X.env:=by rfl)(hpl:(backTo pos (starEach es X.env)).any (·.1)=false:=by rfl):
  PE X (.Call (.Name x p) (e::es) [] pos) (U3 C sp dvs E t):=by
 intro γ s σ H Q I h
 refine wpAny_Call_Name_kw (yq I hg hm ?_ hdb)
 refine PySem.W.callWith_K (h₀:=X.base) I.ok.mod.kin M.kp (cj (ha pos γ s σ H _ I h) fun us s1⟨vs,H1,I1,r,q⟩=>⟨I1.Av,?_⟩) he hpl
 exact Lk M F hr hb hd hx I1 r q
end
def PK(X:Cx)(kws:List Keyword)(t:TA):Prop:=
 ∀(pos:Pos)(γ:QQz)(s:Shared)(σ:St)(H:Hp)(Q:List V->Hp->Prop),Inv X γ σ H s->t σ H Q->wpAny (model X.prog X.w) X.A (evalAll ((backToKw pos (keywordEach kws X.env)).map (·.2))) (AP X γ σ Q) X.xe s
section
variable{X:Cx}{CX:J8}{k:Nat}{f C:Addr}{fd:FuncData}{ps ks:List Str}{sp:Sp}{E:XK}{x m:Str}{p pos apos kpos:Pos}{e o:Expr}{es:List Expr}{kws:List Keyword}{te ta:TE}{t tk:TA}{nm:Option Str}
def Xd:PK X [] di:=fun _ _ _ _ H Q I h=>wpAny_evalAll_nil ⟨[],H,I,.nil,h⟩
def RP(ha:PE X e te)(hr:PK X kws t):PK X (⟨nm,e,kpos⟩::kws) (aJ te t):=by
 intro pos γ s σ H Q I h
 show wpAny _ _ (evalAll ((do let v<-eval e X.env;standAt pos;pure v)::(backToKw pos (keywordEach kws X.env)).map (·.2))) _ _ s
 refine wpAny_evalAll_cons (QKq (cj (ha γ s σ H _ I h) fun u s1⟨x,H1,I1,r1,q1⟩=>QKq (wpAny_standAt (QKz ?_))))
 exact cj (hr pos γ s1 σ H1 _ I1 q1) fun us s2⟨xs,H2,I2,r2,q2⟩=>⟨x::xs,H2,I2,.cons r1 r2,q2⟩
variable{g:List Value->List Value->List Value}{gV:List V->List V->List V}
end
structure eN(N P:List Str)(sc:Scope):Prop where
 kind:sc.kind=.function
 co:sc.isCoroutine=false
 gen:sc.isGenerator=false
 nd:N.Nodup
 pre:N.take P.length=P
 par:∀x∈P,sc.names.lookup x=some .local\/sc.names.lookup x=some .cell
 nofree:∀y∈sc.names,y.2≠ .free
theorem wZ{kindOf:Str->Option NameKind}:∀{binds:List (Str×Value)}{m:QZz},(∀v,(x,v)∉binds)->bindL kindOf binds m x=m x
 |[],_,_=>rfl
 |(n,v)::r,m,h=>by
  unfold bindL
  rw[wZ fun w hw=>h w (QYq _ hw)]
  split
  ·have:x≠n:=by rintro rfl;exact h v QYz
   simp[this]
  ·rfl
theorem w6{kindOf:Str->Option NameKind}:∀{binds:List (Str×Value)}{m:QZz},(∀v,(x,v)∉binds)->bindC kindOf binds m x=m x
 |[],_,_=>rfl
 |(n,v)::r,m,h=>by
  unfold bindC
  rw[w6 fun w hw=>h w (QYq _ hw)]
  split
  ·rfl
  ·have:x≠n:=by rintro rfl;exact h v QYz
   simp[this]
theorem w5{kindOf:Str->Option NameKind}{x:Str}{v:Value}:∀{P:List Str}{vs:List Value}{i:Nat}{m:QZz},P.Nodup->P[i]? =some x->vs[i]? =some v->kindOf x=some .local->
  bindL kindOf (P.zip vs) m x=some v
 |[],_,_,_,_,h,_,_=>by simp at h
 |_::_,[],_,_,_,_,h,_=>by simp at h
 |p::P,w::vs,0,m,nd,h1,h2,hk=>by
  simp at h1 h2;subst h1;subst h2
  show bindL kindOf ((p,w)::P.zip vs) m p=_
  unfold bindL
  rw[wZ fun v hv=>(List.nodup_cons.mp nd).1 (List.of_mem_zip hv).1,if_pos hk]
  simp
 |p::P,w::vs,i+1,m,nd,h1,h2,hk=>by
  unfold bindL
  exact w5 (List.nodup_cons.mp nd).2 (by simpa using h1) (by simpa using h2) hk
theorem xd{kindOf:Str->Option NameKind}{x:Str}{v:Value}:∀{P:List Str}{vs:List Value}{i:Nat}{m:QZz},P.Nodup->P[i]? =some x->vs[i]? =some v->kindOf x≠some .local->
  bindC kindOf (P.zip vs) m x=some v
 |[],_,_,_,_,h,_,_=>by simp at h
 |_::_,[],_,_,_,_,h,_=>by simp at h
 |p::P,w::vs,0,m,nd,h1,h2,hk=>by
  simp at h1 h2;subst h1;subst h2
  show bindC kindOf ((p,w)::P.zip vs) m p=_
  unfold bindC
  rw[w6 fun v hv=>(List.nodup_cons.mp nd).1 (List.of_mem_zip hv).1,if_neg hk]
  simp
 |p::P,w::vs,i+1,m,nd,h1,h2,hk=>by
  unfold bindC
  exact xd (List.nodup_cons.mp nd).2 (by simpa using h1) (by simpa using h2) hk
def start(N:List Str)(vs:List V):St:=vs.map some++List.replicate (N.length-vs.length) none
noncomputable def gG(CX:J8)(P:Program)(w:World)(K:QQq)(mg:QZz)(base:Heap)(N:List Str)(qual:Str)(scope:Scope)(f:Addr)(cd:Value)(A:Around)(outer:List Env)(s:Shared)(H:Hp)(E:XK):Cx where
 prog:=P
 w:=w
 K:=K
 mg:=mg
 base:=base
 A:=A.deeper (envOfC qual scope s.heap.objs.size f cd)
 N:=N
 s₀:=s
 H₀:=H
 env:=envOfC qual scope s.heap.objs.size f cd
 outer:=outer
 stack:=envOfC qual scope s.heap.objs.size f cd::outer
 ex:=[]
 calm:=true
 fn:=fun _=>true
 pn:=[]
 xe:=fun e s'=>wpAny (model P w) (A.deeper (envOfC qual scope s.heap.objs.size f cd)) (leaving (envOfC qual scope s.heap.objs.size f cd) e) (fun _ s''=>CX outer H s E e s'') (fun e' s''=>CX outer H s E e' s'') s'
def Br{sc:Scope}{n:Nat}(h:sc.names.lookup x=some .cell):∃c,(cellsFrom n sc.names []).lookup x=some c:=by
 exact Option.isSome_iff_exists.mp (PySem.W.cellsFrom_some sc.names n [] (.inl h))
def JC{CX:J8}{w:World}{K:QQq}{base:Heap}{qual:Str}{f:Addr}{A:Around}{s s1:Shared}{E:XK}
  (S:eN N ps scope)(hd:A.handled=none)(e0:yZ P w K mg base A outer s H)(hl:vs.length=ps.length)(r:Vals vs us)
  (x:InCallC s s.heap.objs.size (bindL (envOfC qual scope s.heap.objs.size f cd).kindOf (ps.zip us) fun _=>none) (cellsFrom (s.heap.objs.size+1) scope.names []) (bindC (envOfC qual scope s.heap.objs.size f cd).kindOf (ps.zip us) fun _=>none) s1):
  Inv (gG CX P w K mg base N qual scope f cd A outer s H E) [] (start N vs) H s1:=by
 have hpl:ps.length<=N.length:=by have:=congrArg List.length S.pre;rw[List.length_take]at this;omega
 obtain⟨h1,tk,rfl,hk⟩:=x.done
 have noA:∀b:Addr,b∉(gG CX P w K mg base N qual scope f cd A outer s H E).ex:=fun b z=>absurd (show b∈([])from z) (by simp)
 refine⟨⟨e0.mod,S.kind,rfl,rfl,QVz _,fun y z c h1 h2=>?_,fun y hy=>?_,fun y c _ h=>?_,fun _=>hd,Around.frames_deeper e0.frames,.inr ⟨rfl,rfl⟩,fun b z=>absurd z (noA b),e0.bs,e0.bsz,fun b _ _=>noA b,fun b z=>absurd z (noA b),e0.mQ,e0.frf⟩,
  rfl,e0.bare,Un.kept hk,⟨_,x.toInCall.ns,fun i y v h1 h2 h3=>?_⟩,fun y c h=>⟨_,x.cell y c h⟩,e0.hok.fresh (QVz _),fun y c h=>?_,fun p hp=>absurd (show p∈([])from hp) (by simp),e0.hok.kept hk,?_⟩
 ·exact name_of_addr x.apart (PySem.mem_of_lookup h1) (PySem.mem_of_lookup h2)
 ·have hy:=hy
  rcases hy with hy|hy
  ·exact Br hy
  ·exact absurd rfl (S.nofree _ (PySem.mem_of_lookup hy))
 ·exact Nat.le_of_lt (x.above y c (PySem.mem_of_lookup h))
 ·have hi:i<vs.length:=by
   unfold start at h2
   by_cases hi:i<vs.length
   ·exact hi
   ·rw[QIz (by simpa using hi)]at h2
    rw[List.getElem?_replicate]at h2
    split at h2<;>cases h2
  have ha:vs[i]? =some v:=by
   unfold start at h2
   rw[Qwz (by simpa using hi),QFz]at h2
   cases e:vs[i]? with
   |none=>rw[e]at h2;cases h2
   |some a=>rw[e]at h2;cases h2;rfl
  obtain⟨u,hu,rv⟩:=r.get ha
  have hp:ps[i]? =some y:=by
   rw[<-S.pre,List.getElem?_take_of_lt (by omega)];exact h1
  have ndP:ps.Nodup:=by rw[<-S.pre];exact S.nd.sublist (List.take_sublist _ _)
  refine⟨u,rv,?_⟩
  rcases S.par y (QBz hp)with k|k
  ·exact .inl ⟨k,w5 ndP hp hu k⟩
  ·obtain⟨c,e⟩:=Br k
   refine .inr ⟨.inl k,c,e,?_⟩
   have q:=x.cell y c e
   rw[xd ndP hp hu (by show scope.names.lookup y≠_;rw[k];decide)]at q
   exact q
 ·exact e0.hok.fresh (Nat.le_of_lt (x.above y c (PySem.mem_of_lookup h)))
 ·unfold start
  show _=N.length
  rw[QTq,QAq,List.length_replicate]
  omega
def acn{CX:J8}{w:World}{K:QQq}{base:Heap}{k:Nat}{name qual:Str}{body:List Stmt}{dV kV doc pm cdv ct oc:Value}
{N ps:List Str} (lk:K.lookup f=some ⟨oc,od,.func (PySem.W.fnOf name qual params body scope dV kV doc pm an cdv ct),osl⟩) (hcd:PySem.W.codeIn K cdv qual=true) (S:eN N ps scope)
  (len:∀vs H Q E,sp vs H Q E->vs.length=ps.length)
  (hbody:∀(A:Around)(outer:List Env)(s:Shared)(H:Hp)(vs:List V)(Q:VK)(E:XK),dR k (A.deeper (envOfC qual scope s.heap.objs.size f cdv))->sp vs H Q E->
   ∃t,vC (gG CX P w K mg base N qual scope f cdv A outer s H E) body t/\t {nx:=fun _ H'=>Q .non H',rt:=Q} (start N vs) H):
  cD P w K mg base CX (k+1) f (PySem.W.fnOf name qual params body scope dV kV doc pm an cdv ct) ps sp:=by
 refine⟨len,fun A outer s H args us vs Q E hr e0 hb r hsp=>?_⟩
 have hl:=len _ _ _ _ hsp
 have KX:=e0.mod.kin.keeps fun b o e=>(e0.bs b o e).1
 have lim:=e0.mod.nolimit.keeps fun b o e=>(e0.bs b o e).1
 have hkind:∀y∈ps.zip us,scope.names.lookup y.1=some .local\/(scope.names.lookup y.1=some .cell/\((cellsFrom (s.heap.objs.size+1) scope.names []).lookup y.1).isSome=true):=fun⟨n,v⟩hy=>by
  rcases S.par n (List.of_mem_zip hy).1 with q|q
  ·exact .inl q
  ·exact .inr ⟨q,PySem.W.cellsFrom_some _ _ _ (.inl q)⟩
 refine codeAny_call_function hr.depth (KX _ _ lk) rfl S.co S.gen rfl (PySem.W.codeRec_of KX hcd) (hb _ _ _ _ ?_)
 refine wpAny_newFunctionEnv_cells S.kind hkind fun env he s1 x=>?_
 subst he
 refine⟨lim.keeps x.toInCall.keep,codeAny_func ?_⟩
 obtain⟨t,ht,hq⟩:=hbody A outer s H vs Q E (hr.deeper _) hsp
 have I:Inv (gG CX P w K mg base N qual scope f cdv A outer s H E) [] _ H s1:=JC S hr.hd e0 hl r x
 refine QGq (ht [] s1 _ H _ I hq) (fun fl s' hs=>?_) fun e s' hs=>hs
 have fin:∀{ζ:St}{H':Hp}{v:V}{u:Value},Inv (gG CX P w K mg base N qual scope f cdv A outer s H E) [] ζ H' s'->RelV v u->Q v H'->CE outer P w H s Q u s':=
  fun{ζ H' v u}J rv q=>⟨v,H',J.os,J.bare,J.base,J.hok,rv,q⟩
 cases fl with
 |ret u=>
  obtain⟨v,ζ,H',J,rv,q⟩:=hs
  exact fin J rv q
 |next=>
  obtain⟨ζ,H',J,q⟩:=hs
  exact fin (v:=V.non) J rfl q
 |brk=>
  obtain⟨_,_,_,q⟩:=hs
  exact False.elim q
 |cont=>
  obtain⟨_,_,_,q⟩:=hs
  exact False.elim q
section
variable{X:Cx}{x:Str}{p pos:Pos}{e:Expr}{es:List Expr}{t:TA}{id T:String}{r:List V->Hp->VK->Prop}
def tCB(r:List V->Hp->VK->Prop)(t:TA):TE:=fun σ H Q=>t σ H fun vs H1=>r vs H1 Q
def oE(hc:gH X (.builtin id) r)(hg:Gl X x)(hm:X.mg x=none)(hv:bootBuiltins x=some (.builtin id))(ha:PA X (e::es) t)(hn:x≠"__name__":=by decide)(hdb:(x==("__debug__":Str))=false:=by decide)
  (he:starEach (e::es) X.env=(false,eval e X.env)::starEach es X.env:=by rfl)(hpl:(backTo pos (starEach es X.env)).any (·.1)=false:=by rfl):PE X (.Call (.Name x p) (e::es) [] pos) (tCB r t):=by
 intro γ s σ H Q I h
 exact wpAny_Call_Name_kw (jJ I hg hm hv (PyProof.Rows.callWith_builtin1 (cj (ha pos γ s σ H _ I h) fun us s1⟨vs,H1,I1,r1,q1⟩=>hc γ s1 σ H1 vs us Q I1 r1 q1) he hpl) hn hdb)
def lV(hc:gH X (.type T) r)(hg:Gl X x)(hm:X.mg x=none)(hv:bootBuiltins x=some (.type T))(ha:PA X (e::es) t)(hn:x≠"__name__":=by decide)(hdb:(x==("__debug__":Str))=false:=by decide)
  (he:starEach (e::es) X.env=(false,eval e X.env)::starEach es X.env:=by rfl)(hpl:(backTo pos (starEach es X.env)).any (·.1)=false:=by rfl):PE X (.Call (.Name x p) (e::es) [] pos) (tCB r t):=by
 intro γ s σ H Q I h
 exact wpAny_Call_Name_kw (jJ I hg hm hv (PyProof.Rows.callWith_type1 (cj (ha pos γ s σ H _ I h) fun us s1⟨vs,H1,I1,r1,q1⟩=>hc γ s1 σ H1 vs us Q I1 r1 q1) he hpl) hn hdb)
end
end L2
namespace HT
open PySem PyProof.Rows
def lexLt:List Int->List Int->Bool
 |[],[]=>false
 |[],_::_=>true
 |_::_,[]=>false
 |x::xs,y::ys=>if x=y then lexLt xs ys else decide (x<y)
def DQ(x y:Int)(xs ys:List Int):lexLt (x::xs) (y::ys)=if x=y then lexLt xs ys else decide (x<y):=rfl
def vq:lexLt [] []=false:=rfl
def tV(y:Int)(ys:List Int):lexLt [] (y::ys)=true:=rfl
def tX(x:Int)(xs:List Int):lexLt (x::xs) []=false:=rfl
def O7(A:Around)(s:Shared)(a:Int)(t:Tok)(c:Int)(u:Tok):∃e,SeqAt.EqAt A s (.int a t) (.int c u) e/\(e=true↔a=c):=
 ⟨(a==c),SeqAt.EqAt.int_int a t c u,by simp⟩
def Ls(A:Around)(s:Shared)(a:Int)(t:Tok)(c:Int)(u:Tok)(prog:Program)(w:World)(E:QZq)(Q:QZq)(h:Q (.bool (decide (a<c))) s):
  wpAny (model prog w) A (richCompare .Lt (.int a t) (.int c u)) Q E s:=
 (PyProof.Rows.lt_int h:wpAny (model prog w) A (compareOp .Lt (.int a t) (.int c u)) Q E s)
section
open PySem.SeqAt
open PySem.AutoSeq1 (wpAny_loadPart')
open PySem.MeetsSeq PySem.MeetsSeq2 PySem.MeetsSeq3
def uZ(l b:Addr)(items items2:Array Value)(n n2:Nat)(dd dd2:Option Addr)(sl sl2:Array (Option Value))(ns ms:List Int)(hi:IntsAre items.toList ns)(hj:IntsAre items2.toList ms):
  Meets (Builtin.«tuple.__lt__» ⟨[.ref l,.ref b],[]⟩)
   (fun _ R s=>s.heap.get? l=some {cls:=.type "tuple",dict:=dd,data:=.seq items n,slots:=sl}/\s.heap.get? b=some {cls:=.type "tuple",dict:=dd2,data:=.seq items2 n2,slots:=sl2}/\
    R (.ok (.ret (.bool (lexLt ns ms)))) s):=
 .of_wp fun prog w A R s h=>by
  obtain⟨hp,g,d,tk,os⟩:=s;obtain⟨hl,hb,h⟩:=h
  have f2:=AutoSeq1.sub_tuple_tuple
  have z1:items.size=ns.length:=by rw[<-hi.length];simp
  have z2:items2.size=ms.length:=by rw[<-hj.length];simp
  wp_walk using wpAny_loadPart' hl,wpAny_loadPart' hb,wpAny_forIn_list _ (fun rest b s'=>b.1=none/\s'=⟨hp,g,d,tk,os⟩/\∃(vs ws:List Value)(ns' ms':List Int),rest=vs.zip ws/\
   IntsAre vs ns'/\IntsAre ws ms'/\ns'.length+items2.size=ms'.length+items.size/\R (.ok (.ret (.bool (lexLt ns' ms')))) ⟨hp,g,d,tk,os⟩) _
  case turn=>
   rintro ⟨y,x⟩ rest b s' ⟨hb',rfl,vs,ws,ns',ms',hz,hvi,hwi,hlen,hR⟩
   cases hvi with
   |nil=>rw[List.zip_nil_left]at hz;cases hz
   |cons a t hvi'=>
    cases hwi with
    |nil=>rw[List.zip_nil_right]at hz;cases hz
    |cons c u hwi'=>
     rw[List.zip_cons_cons]at hz
     injection hz with hyx hrest
     injection hyx with hy hx
     subst hy hx
     rw[DQ]at hR
     simp only[QBq]at hlen
     obtain⟨e,he,hiff⟩:=O7 A.in1 ⟨hp,g,d,tk,os⟩ a t c u
     refine QKq (he prog w _ _ ?_)
     cases e with
     |true=>
      rw[if_pos (hiff.mp rfl)]at hR
      wp_walk
      exact⟨rfl,rfl,_,_,_,_,hrest,hvi',hwi',by omega,hR⟩
     |false=>
      rw[if_neg (fun q=>absurd (hiff.mpr q) Qjz)]at hR
      have hri:=Ls A.in1 ⟨hp,g,d,tk,os⟩ a t c u prog w
      wp_walk using hri
      exact⟨_,rfl,by simpa using hR⟩
  case fin=>
   rintro ⟨b1,b2⟩ s' ⟨hb',rfl,vs,ws,ns',ms',hz,hvi,hwi,hlen,hR⟩
   simp only at hb'
   subst hb'
   have hv:lexLt ns' ms'=decide (items.size<items2.size):=by
    cases hvi with
    |nil=>
     cases hwi with
     |nil=>
      simp only[List.length_nil]at hlen
      rw[vq]
      exact(QEz (by omega)).symm
     |cons c u hw=>
      simp only[List.length_nil,QBq]at hlen
      rw[tV]
      exact(QFq (by omega)).symm
    |cons a t hv=>
     cases hwi with
     |nil=>
      simp only[List.length_nil,QBq]at hlen
      rw[tX]
      exact(QEz (by omega)).symm
     |cons c u hw=>
      rw[List.zip_cons_cons]at hz
      cases hz
   rw[hv]at hR
   wp_walk
   exact⟨_,rfl,by simpa[Builtin.Tuple.tupleCompareSizes]using hR⟩
  case h=>
   exact⟨rfl,rfl,items.toList,items2.toList,ns,ms,rfl,hi,hj,by omega,h⟩
end
section
variable{prog:Program}{w:World}{A:Around}{E:QZq}{s:Shared}
def DP{l b:Addr}{items items2:Array Value}{ns ms:List Int}{Q:QZq}(hl:IsTup s.heap l items)(hb:IsTup s.heap b items2)(hi:IntsAre items.toList ns)(hj:IntsAre items2.toList ms)
  (hu:A.units<cLine)(h:Q (.bool (lexLt ns ms)) s):wpAny (model prog w) A (compareOp .Lt (.ref l) (.ref b)) Q E s:=by
 obtain⟨⟨cls,dd,data,sl⟩,ho,hc,n,hd⟩:=id hl
 obtain⟨⟨cls2,dd2,data2,sl2⟩,ho2,hc2,n2,hd2⟩:=id hb
 simp only at hc hd hc2 hd2
 subst hc hd hc2 hd2
 exact richCompare_meets_room (op:=.Lt) ⟨_,ho,rfl⟩ ⟨_,ho2,rfl⟩ PySem.F.slot_tuple_lt PySem.F.entry_tuple_lt (PySem.F.args_tuple_lt_2 _ _) (uZ l b items items2 n n2 dd dd2 sl sl2 ns ms hi hj)
  ⟨ho,ho2,show Value.bool (lexLt ns ms)≠Value.notImplemented/\Q (.bool (lexLt ns ms)) s from⟨(fun x=>nomatch x),h⟩⟩ hu
def T6{vs ws:List Value}(ht:IsTup s.heap t vs.toArray)(hb:IsTup s.heap b ws.toArray)(hv:vs≠[])
  (h1:ws=[]->Q (.ref t) s)(h2:ws≠[]->Q (.ref s.heap.objs.size) {s with heap:=s.heap.push {cls:=.type "tuple",data:=.seq (vs++ws).toArray}})
  (hsz:vs.length+ws.length<=sizeLine):wpAny (model prog w) A (binaryOp .Add (.ref t) (.ref b)) Q E s:=by
 obtain⟨⟨cls,dd,data,sl⟩,ho,hc,n,hd⟩:=id ht
 obtain⟨⟨cls2,dd2,data2,sl2⟩,ho2,hc2,n2,hd2⟩:=id hb
 subst hc hd hc2 hd2
 have e:vs.toArray++ws.toArray=(vs++ws).toArray:=by simp
 by_cases hw:ws=[]
 ·exact concat_meets ⟨_,ho,rfl⟩ ⟨_,ho2,rfl⟩ noFill_tuple_add seq_tuple_add PySem.F.slot_tuple_add PySem.F.entry_tuple_add (PySem.F.args_tuple_add_2 _ _)
   (tuple_addW1 t b vs.toArray ws.toArray n n2 dd dd2 sl sl2 (by simpa using hv) (by simp[hw])) ⟨ho,ho2,h1 hw⟩
 ·refine concat_meets ⟨_,ho,rfl⟩ ⟨_,ho2,rfl⟩ noFill_tuple_add seq_tuple_add PySem.F.slot_tuple_add PySem.F.entry_tuple_add (PySem.F.args_tuple_add_2 _ _)
   (tuple_addW2 t b vs.toArray ws.toArray n n2 dd dd2 sl sl2 (by simpa using hv) (by simpa using hw) (by rw[Qyq,Qyq];exact hsz)) ⟨ho,ho2,?_⟩
  rw[e]
  exact h2 hw
def gM(n d:Nat):Option Int->Nat
 |none=>d
 |some v=>if v<0 then(v+(n:Int)).toNat else min v.toNat n
def nW n d:gM n d none=d:=rfl
def Hu v(n d:Nat):(if v<0 then max (v+(n:Int)) 0 else min v (n:Int))=((gM n d (some v):Nat):Int):=by
 show(if v<0 then max (v+n) 0 else min v n)=(((if v<0 then(v+(n:Int)).toNat else min v.toNat n):Nat))
 by_cases hv:v<0
 ·simp only[if_pos hv];omega
 ·simp only[if_neg hv];omega
def Fp lo hi(n:Nat):Builtin.Slice.sliceAdjust lo hi 1 (n:Int)=(((gM n 0 lo:Nat):Int),((gM n n hi:Nat):Int)):=by
 have h1:¬(1<0):=by omega
 unfold Builtin.Slice.sliceAdjust
 refine Prod.ext ?_ ?_
 ·cases lo with
  |none=>rfl
  |some v=>exact Hu v n 0
 ·cases hi with
  |none=>rfl
  |some v=>exact Hu v n n
def Di(i j:Nat):Builtin.Slice.slicePlaces (i:Int) (j:Int) 1=j-i:=by
 unfold Builtin.Slice.slicePlaces
 split<;>omega
def sH{o:Option Int}(p:IsPart v o)(h:Q o s):wpAny (model prog w) A (Builtin.Slice.slicePartIndex v) Q E s:=by
 cases p with
 |none=>exact slicePart_none h
 |int i t=>exact slicePart_int h
def ji{sl:Addr}{lo hi:Option Int}{n:Nat}(hs:s.heap.IsSliceOf sl vl vu .none)(pl:IsPart vl lo)(pu:IsPart vu hi)
  (h:Q (((gM n 0 lo:Nat):Int),1,gM n n hi-gM n 0 lo) s):wpAny (model prog w) A (Builtin.Slice.sliceApplied (.ref sl) (pure (n:Int))) Q E s:=by
 obtain⟨os,hos,hcs,hds⟩:=id hs
 refine QKq (QKq (QGz hos hds rfl (QKq (QGz hos hds rfl (QKq (QGz hos hds rfl (QKz ?_)))))))
 refine QKq (slicePart_none ?_)
 refine QKq (sH pl (QKq (sH pu (QKq (QKz ?_)))))
 show wpAny _ _ (match Builtin.Slice.sliceAdjust lo hi 1 n with|(lo,hi)=>pure (lo,(1:Int),Builtin.Slice.slicePlaces lo hi 1)) _ _ s
 rw[Fp lo hi n]
 show wpAny _ _ (pure ((gM n 0 lo:Int),1,Builtin.Slice.slicePlaces ((gM n 0 lo:Nat)) ((gM n n hi:Nat)) 1)) _ _ s
 rw[Di]
 exact QKz h
def Ml(xs:Array Value)(i k:Nat):((List.range k).filterMap fun(m:Nat)=>xs[((i:Int)+(m:Int)*1).toNat]?).toArray=((xs.toList.drop i).take k).toArray:=by
 have e:(fun(m:Nat)=>xs[(i+(m:Int)*1).toNat]?)=fun m=>xs[i+m]? :=by
  funext m
  have:(i+(m:Int)*1).toNat=i+m:=by omega
  rw[this]
 rw[e]
 have:=pick_run xs i k
 rw[List.filterMap_map]at this
 have e2:((fun x=>xs[x]?)∘fun x=>i+x)=fun m=>xs[i+m]? :=rfl
 rw[e2]at this
 rw[this]
theorem oW{t sl:Addr}{vl vu:Value}{lo hi:Option Int}(ht:IsTup s.heap t items)(hs:s.heap.IsSliceOf sl vl vu .none)(pl:IsPart vl lo)(pu:IsPart vu hi)
  (hw:¬(gM items.size 0 lo=0/\gM items.size items.size hi=items.size))
  (h:Q (.ref s.heap.objs.size) {s with heap:=s.heap.push {cls:=.type "tuple",data:=.seq ((items.toList.drop (gM items.size 0 lo)).take (gM items.size items.size hi-gM items.size 0 lo)).toArray}})
  (hsz:items.size<=sizeLine):wpAny (model prog w) A (getItem (.ref t) (.ref sl)) Q E s:=by
 have htake:sizeOk (.seq ((items.toList.drop (gM items.size 0 lo)).take (gM items.size items.size hi-gM items.size 0 lo)).toArray):=by
  show((items.toList.drop _).take _).toArray.size<=sizeLine
  rw[Qyq,List.length_take,List.length_drop,Array.length_toList]
  omega
 obtain⟨os,hos,hcs,hds⟩:=id hs
 unfold getItem
 try with_reducible refine Qqq ?_
 first|refine QKq _|skip
 refine QKq (wpAny_sequenceKey ht.typeIs (by decide) ?_)
 refine QKq (wpAny_callSpecial?_slot ht.typeIs PyProof.Rows.slot_tuple_getitem
  (Qzz PyProof.Rows.slot_tuple_getitem ht.typeIs entry_tuple_getitem ?_ (args_tuple_getitem _ _)))
 show wpAny _ _ (Builtin.Tuple.tupleItemsOf _>>=_) _ _ s
 refine QKq (tupleItemsOf_ ht ?_)
 refine QKq (wpAny_typeOf ⟨os,hos,hcs⟩ ?_)
 refine QKq (ji hs pl pu ?_)
 have hno:¬((((gM items.size 0 lo):Int)==0&&(1:Int)==1&&(gM items.size items.size hi-gM items.size 0 lo)==items.size)=true):=by
  intro q
  rw[QUq,QUq]at q
  have q1:=eq_of_beq q.1.1
  have q2:=eq_of_beq q.2
  exact hw ⟨by omega,by omega⟩
 show wpAny _ _ (if (((gM items.size 0 lo):Int)==0&&1==1&&_==items.size)=true then _ else _) _ _ s
 rw[if_neg hno,Ml]
 first
  |exact QKq (Qjq (QKz ⟨_,rfl,QKz h⟩) htake)
  |exact QKq _
  |exact QKq (QKq _)
  |exact QKq (QKq _)
end
end HT
namespace L2
open PySem PySem.Spec PyProof.Rows
abbrev TO:=St->Hp->(Option Int->Hp->Prop)->Prop
def PO(X:Cx)(e:Option Expr)(t:TO):Prop:=
 ∀(γ:QQz)(s:Shared)(σ:St)(H:Hp)(Q:Option Int->Hp->Prop),Inv X γ σ H s->t σ H Q->
  wpAny (model X.prog X.w) X.A (evalPart e X.env) (fun u s'=>∃o H',Inv X γ σ H' s'/\IsPart u o/\Q o H') X.xe s
def Q8:TO:=fun _ H Q=>Q none H
def aaO(t:TE):TO:=fun σ H Q=>t σ H fun x H1=>∃i,x=.int i/\Q (some i) H1
def intsAre_of{ns:List Int}:∀{us:List Value},Vals (ns.map V.int) us->IntsAre us ns:=by
 induction ns with
 |nil=>intro us r;rw[List.map_nil]at r;cases r;exact .nil
 |cons n ns ih=>
  intro us r
  rw[Qyz]at r
  cases r with
  |cons r1 r2=>
   obtain⟨t,e⟩:=r1
   subst e
   exact .cons n t (ih r2)
section
variable{X:Cx}{e:Expr}{te:TE}{lo hi:Option Expr}{tl th:TO}{pos p2:Pos}
def RN:PO X none Q8:=by
 intro γ s σ H Q I h
 exact QKz ⟨none,H,I,.none,h⟩
def RM(h:PE X e te):PO X (some e) (aaO te):=by
 intro γ s σ H Q I hw
 refine cj (h γ s σ H _ I hw) fun u s1⟨x,H1,I1,r1,q1⟩=>?_
 obtain⟨i,rfl,q⟩:=q1
 obtain⟨t,rfl⟩:=r1
 exact⟨some i,H1,I1,.int i t,q⟩
def Ui(X:Cx)(r:V->Option Int->Option Int->Hp->VK->Prop):Prop:=
 ∀(γ:QQz)(s:Shared)(σ:St)(H:Hp)(x:V)(v vl vu:Value)(lo hi:Option Int)(sl:Addr)(Q:VK),Inv X γ σ H s->RelV x v->s.heap.IsSliceOf sl vl vu .none->IsPart vl lo->IsPart vu hi->r x lo hi H Q->
  ∃T id,typeLookup (.type T) "__getitem__"=pure (some (.builtin id))/\s.TypeIs v T/\wpAny (model X.prog X.w) X.A (getItem v (.ref sl)) (EP X γ σ Q) X.xe s
def Ui.or{r r':V->Option Int->Option Int->Hp->VK->Prop}(h:Ui X r)(h':Ui X r'):Ui X (fun x lo hi H Q=>r x lo hi H Q\/r' x lo hi H Q):=by
 intro γ s σ H x v vl vu lo hi sl Q I rx hs pl pu q
 rcases q with q|q
 ·exact h γ s σ H x v vl vu lo hi sl Q I rx hs pl pu q
 ·exact h' γ s σ H x v vl vu lo hi sl Q I rx hs pl pu q
def tSl(r:V->Option Int->Option Int->Hp->VK->Prop)(te:TE)(tl th:TO):TE:=fun σ H Q=>te σ H fun x H1=>tl σ H1 fun l H2=>th σ H2 fun u H3=>r x l u H3 Q
def Mq(hr:Ui X r)(he:PE X e te)(hl:PO X lo tl)(hu:PO X hi th):PE X (.Subscript e (.Slice lo hi none p2) pos) (tSl r te tl th):=by
 intro γ s σ H Q I h
 refine Subscript_ (cj (he γ s σ H _ I h) fun v s1⟨x,H1,I1,r1,q1⟩=>?_)
 refine wpAny_Slice (cj (hl γ s1 σ H1 _ I1 q1) fun vl s2⟨l,H2,I2,pl,q2⟩=>cj (hu γ s2 σ H2 _ I2 q2) fun vu s3⟨u,H3,I3,pu,q3⟩=>?_)
 refine QKz ?_
 obtain⟨T,id,hT,ht,hg⟩:=hr γ {s3 with heap:=s3.heap.push {cls:=.type "slice",data:=.fields #[vl,vu,.none]}} σ H3 x v vl vu l u s3.heap.objs.size Q (I3.kept fun b ob q=>QWq _ q) r1 (Heap.IsSliceOf.new ..) pl pu q3
 exact tail_any ht hT hg (by with_unfolding_all rfl)
def yO(xs:List V)(lo hi:Option Int):List V:=(xs.drop (HT.gM xs.length 0 lo)).take (HT.gM xs.length xs.length hi-HT.gM xs.length 0 lo)
def qO xs lo hi:(yO xs lo hi).length<=xs.length:=by
 unfold yO
 rw[List.length_take,List.length_drop]
 omega
noncomputable def abo(K:QQq):V->Option Int->Option Int->Hp->VK->Prop:=fun x lo hi H Q=>∃a xs,x=.ref a/\jU K H a xs/\
 ¬(HT.gM xs.length 0 lo=0/\HT.gM xs.length xs.length hi=xs.length)/\∀p,H p=none->Q (.ref p) (upd H p (.tup (yO xs lo hi)))
def WP:Ui X (abo X.K):=by
 intro γ s σ H x v vl vu lo hi sl Q I rx hs pl pu h
 obtain⟨a,xs,rfl,hx,hw,q⟩:=h
 cases rx
 obtain⟨its,r,ht,hz⟩:=I.tuple hx
 have hlen:its.toArray.size=xs.length:=by rw[Qyq];exact r.length.symm
 refine⟨"tuple",_,PyProof.Rows.slot_tuple_getitem.lookup,ht.typeIs,?_⟩
 refine HT.oW ht hs pl pu (by rw[hlen];exact hw) ?_ (by rw[hlen];exact hz)
 rw[hlen]
 refine⟨.ref s.heap.objs.size,_,I.laid (fun b ob q=>QWq _ q) (QVz _) ?_,rfl,q _ (I.hok.fresh (QVz _))⟩
 exact⟨Nat.le_trans (qO xs lo hi) hz,_,(r.drop _).take _,TupOk.new _ _⟩
noncomputable def abx(K:QQq):R2:=fun x y H Q=>∃a b xs ys,x=.ref a/\y=.ref b/\jU K H a xs/\jU K H b ys/\xs≠[]/\xs.length+ys.length<=sizeLine/\
 (ys=[]->Q (.ref a) H)/\(ys≠[]->∀p,H p=none->Q (.ref p) (upd H p (.tup (xs++ys))))
def Vals.bJ{us:List Value}(r:Vals xs us):us=[]↔xs=[]:=by
 cases r with
 |nil=>simp
 |cons _ _=>simp
def R8:iV X (binaryOp .Add) (abx X.K):=by
 intro γ s σ H x y v u Q I rx ry h
 obtain⟨a,b,xs,ys,rfl,rfl,ha,hb,hx,hz,q1,q2⟩:=h
 cases rx
 cases ry
 obtain⟨its,r1,p1,_⟩:=I.tuple ha
 obtain⟨its2,r2,p2,_⟩:=I.tuple hb
 refine HT.T6 p1 p2 (fun z=>hx (r1.bJ.mp z)) (fun z=>⟨.ref a,H,I,rfl,q1 (r2.bJ.mp z)⟩) (fun z=>?_) (by rw[<-r1.length,<-r2.length];exact hz)
 refine⟨.ref s.heap.objs.size,_,I.laid (fun b ob q=>QWq _ q) (QVz _) ?_,rfl,q2 (fun w=>z (r2.bJ.mpr w)) _ (I.hok.fresh (QVz _))⟩
 exact⟨by rw[QTq];exact hz,_,r1.append r2,TupOk.new _ _⟩
end
def Tc(n:Nat)(i:Int):Option Nat:=if 0<=i then(if i<n then some i.toNat else none)else if-(n:Int)<=i then some (i+n).toNat else none
def Zg{α:Type}(xs:List α)(i:Int):Option α:=(Tc xs.length i).bind fun j=>xs[j]?
def Hh{i:Int}(h:Tc n i=some j):seqIndex? i n=some j/\j<n/\ -(n:Int)<=i/\i<n:=by
 unfold Tc at h
 by_cases h0:0<=i
 ·rw[if_pos h0]at h
  by_cases h1:i<n
  ·rw[if_pos h1]at h
   have e:=QEq h
   exact⟨by rw[seqIndex_of h0 h1,e],by omega,by omega,h1⟩
  ·rw[if_neg h1]at h;cases h
 ·rw[if_neg h0]at h
  by_cases h1: -n<=i
  ·rw[if_pos h1]at h
   have e:=QEq h
   exact⟨by rw[seqIndex_neg (by omega) h1,e],by omega,h1,by omega⟩
  ·rw[if_neg h1]at h;cases h
def yW{xs:List α}{v:α}(h:Zg xs i=some v):∃j,seqIndex? i xs.length=some j/\xs[j]? =some v/\j<xs.length/\ -(xs.length:Int)<=i/\i<xs.length:=by
 unfold Zg at h
 cases e:Tc xs.length i with
 |none=>rw[e]at h;cases h
 |some j=>
  rw[e]at h
  obtain⟨h1,h2,h3,h4⟩:=Hh e
  exact⟨j,h1,h,h2,h3,h4⟩
def yX(b:Expr):Prop:=∀o i,subscripted b false o i=operate [o,i] (getItem o i)
def Qt(X:Cx)(r:R2):Prop:=
 ∀(value slice:Expr)(γ:QQz)(s:Shared)(σ:St)(H:Hp)(x y:V)(v u:Value)(Q:VK),Inv X γ σ H s->RelV x v->RelV y u->r x y H Q->
  subscripted slice false v u=operate [v,u] (getItem v u)->wpAny (model X.prog X.w) X.A (subscriptTail value slice v u) (EP X γ σ Q) X.xe s
def MtR(X:Cx)(id:String)(r:V->List V->Hp->VK->Prop):Prop:=
 ∀(γ:QQz)(s:Shared)(σ:St)(H:Hp)(x:V)(xs:List V)(v:Value)(us:List Value)(Q:VK),Inv X γ σ H s->RelV x v->Vals xs us->r x xs H Q->
  wpAny (model X.prog X.w) X.A (call (.builtin id) (v::us)) (EP X γ σ Q) X.xe s
section
variable{X:Cx}{a b:Expr}{ta tb:TE}{pos:Pos}
def Qt.or{r r':R2}(h:Qt X r)(h':Qt X r'):Qt X (fun x y H Q=>r x y H Q\/r' x y H Q):=by
 intro value slice γ s σ H x y v u Q I rx ry q hs
 rcases q with q|q
 ·exact h value slice γ s σ H x y v u Q I rx ry q hs
 ·exact h' value slice γ s σ H x y v u Q I rx ry q hs
def Vk(hr:Qt X r)(ha:PE X a ta)(hb:PE X b tb)(hs:yX b):PE X (.Subscript a b pos) (UW r ta tb):=by
 intro γ s σ H Q I h
 exact Subscript_ (Y9 ha hb I h fun v u s2 x y H2 I2 rx ry q=>hr a b γ s2 σ H2 x y v u Q I2 rx ry q (hs _ _))
def W6(K:QQq):R2:=fun x y H Q=>∃p xs i v,x=.ref p/\y=.int i/\jV K H p xs/\Zg xs i=some v/\Q v H
def W5(K:QQq):R2:=fun x y H Q=>∃p xs i v,x=.ref p/\y=.int i/\jU K H p xs/\Zg xs i=some v/\Q v H
def abt:R2:=fun x y H Q=>∃z i c,x=.str z/\y=.int i/\z.length<=sizeLine/\Zg z.cps.toList i=some c/\Q (.str ⟨#[c]⟩) H
def Hg:Qt X (W6 X.K):=by
 intro value slice γ s σ H x y v u Q I rx ry h hs
 obtain⟨p,xs,i,z,rfl,rfl,hq,he,q⟩:=h
 cases rx
 obtain⟨t,rfl⟩:=ry
 obtain⟨its,r,pl,hz⟩:=I.list hq
 obtain⟨j,h1,h2,h3,h4,h5⟩:=yW he
 obtain⟨w,ew,rw'⟩:=r.get h2
 have hl:=r.length
 have hn:=ym
 have fin:EP X γ σ Q w s:=⟨z,H,I,rw',q⟩
 by_cases h0:0<=i
 ·have hj:i.toNat=j:=by
   rw[seqIndex_of h0 h5]at h1
   exact QEq h1
  exact item_listR pl.isList h0 (by omega) (by rw[hj];simpa using ew) fin hs
 ·have hj:(i+its.toArray.size).toNat=j:=by
   rw[seqIndex_neg (by omega) h4]at h1
   rw[Qyq,<-hl]
   exact QEq h1
  exact subscriptTail_builtinR pl.isList.typeIs slot_list_getitem.lookup
   (wpAny_getItem_list_neg pl.isList (by omega) (by rw[Qyq]<;>omega) (by omega) (by rw[hj];simpa using ew) ⟨rfl,fin⟩) hs
def Nu:Qt X (W5 X.K):=by
 intro value slice γ s σ H x y v u Q I rx ry h hs
 obtain⟨p,xs,i,z,rfl,rfl,hq,he,q⟩:=h
 cases rx
 obtain⟨t,rfl⟩:=ry
 obtain⟨its,r,pl,hz⟩:=I.tuple hq
 obtain⟨j,h1,h2,h3,h4,h5⟩:=yW he
 obtain⟨w,ew,rw'⟩:=r.get h2
 have hn:=ym
 exact subscriptTail_builtinR pl.typeIs slot_tuple_getitem.lookup
  (getItem_tuple pl (by omega) (by omega) (by rw[Qyq,<-r.length];exact h1) (by simpa using ew) ⟨rfl,⟨z,H,I,rw',q⟩⟩) hs
def X6:Qt X abt:=by
 intro value slice γ s σ H x y v u Q I rx ry h hs
 obtain⟨z,i,c,rfl,rfl,hz,he,q⟩:=h
 obtain⟨t,rfl⟩:=rx
 obtain⟨t',rfl⟩:=ry
 obtain⟨j,h1,h2,h3,h4,h5⟩:=yW he
 have hl:z.cps.toList.length=z.length:=by simp[Str.length]
 rw[hl]at h1 h4 h5
 have hn:=ym
 exact tail_any (typeIs_str s z t) slot_str_getitem.lookup (getItem_str (c:=c) (by
  have e1:decide (i< -(2 ^63:Int))=false:=QEz (by omega)
  have e2:decide (i>=2 ^63)=false:=QEz (by omega)
  rw[e1,e2,Bool.or_false]) (by rw[h1];simpa using h2) ⟨.str ⟨#[c]⟩,H,I.tok _,⟨_,rfl⟩,q⟩) hs
def rIx(K:QQq):R2:=fun x y H Q=>W6 K x y H Q\/W5 K x y H Q\/abt x y H Q
def Nv:Qt X (rIx X.K):=Hg.or (Nu.or X6)
def DG(its:List Value)n j u:Obj.mapSeq (·.setIfInBounds j u) {cls:=.type "list",data:=.seq its.toArray n}={cls:=.type "list",data:=.seq (its.set j u).toArray n}:=by
 simp[Obj.mapSeq]
theorem Inv.lst{γ:QQz}{σ:St}{H:Hp}{s:Shared}{p:Addr}{xs:List V}(I:Inv X γ σ H s)(h:H p=some (.lst xs)):
  ∃(its:List Value)(n:Nat),Vals xs its/\s.heap.get? p=some {cls:=.type "list",data:=.seq its.toArray n}/\xs.length<=sizeLine:=by
 obtain⟨z,its,n,r,e⟩:=I.hok p _ h
 exact⟨its,n,r,e,z⟩
def Inv.XF{σ:St}{H:Hp}{p:Addr}{its its':List Value}{n n':Nat}(I:Inv X γ σ H s)(h:H p=some (.lst xs))
  (ho:s.heap.get? p=some {cls:=.type "list",data:=.seq its.toArray n})(hf:f {cls:=.type "list",data:=.seq its.toArray n}={cls:=.type "list",data:=.seq its'.toArray n'})(r:Vals ys its')(hz:ys.length<=sizeLine)t:
  Inv X γ σ (upd H p (.lst ys)) {s with heap:=s.heap.update p f,toks:=t}:=by
 have e:(s.heap.update p f).get? p=some {cls:=.type "list",data:=.seq its'.toArray n'}:=by
  rw[Heap.get?_update_self f ho (by rw[hf]<;>rfl),hf]
 refine I.write (by rw[h];trivial) (.inl rfl) (fun b u hb q=>(Heap.get?_update_other _ _ (Ne.symm hb)).trans q) ⟨_,e⟩ ?_
 exact⟨hz,its',n',r,e⟩
def Vc:V->V->V->Hp->(Hp->Prop)->Prop:=fun o i v H Q=>∃p xs k j,o=.ref p/\i=.int k/\H p=some (.lst xs)/\Tc xs.length k=some j/\Q (upd H p (.lst (xs.set j v)))
def set_list:Uk X Vc:=by
 intro γ s σ H o i v ov iv u Q I ro ri rv h
 obtain⟨p,xs,k,j,rfl,rfl,hp,hj,q⟩:=h
 cases ro
 obtain⟨t,rfl⟩:=ri
 obtain⟨its,n,r,ho,hz⟩:=I.lst hp
 obtain⟨h1,h2,h3,h4⟩:=Hh hj
 have hl:=r.length
 have hn:=ym
 have I':=
  I.XF hp ho (DG its n j u) (r.set rv j) (by rw[List.length_set];exact hz) s.toks
 by_cases h0:0<=k
 ·have hk:k.toNat=j:=by
   rw[seqIndex_of h0 h4]at h1
   exact QEq h1
  exact PySem.W.ki_setAt ho h0 (by omega) (by rw[Qyq,<-hl];exact h4) (by rw[hk];exact⟨_,I',q⟩)
 ·have hk:(k+its.toArray.size).toNat=j:=by
   rw[seqIndex_neg (by omega) h3]at h1
   rw[Qyq,<-hl]
   exact QEq h1
  exact PySem.W.ki_setBack ho (by omega) (by rw[Qyq,<-hl];exact h3) (by omega) (by rw[hk];exact⟨_,I',q⟩)
def xM lo hi n:(sliceBounds lo hi none n).1=((HT.gM n 0 lo:Nat):Int)/\(sliceBounds lo hi none n).2.1=((HT.gM n n hi:Nat):Int)/\(sliceBounds lo hi none n).2.2=1:=by
 refine⟨?_,?_,rfl⟩
 ·cases lo with
  |none=>simp[sliceBounds,HT.gM]
  |some i=>
   simp only[sliceBounds,HT.gM,Option.getD_none,show 1>0 by decide,if_true]
   by_cases h:i<0
   ·simp only[h,if_true]<;>omega
   ·simp only[h,if_false]<;>omega
 ·cases hi with
  |none=>simp[sliceBounds,HT.gM]
  |some i=>
   simp only[sliceBounds,HT.gM,Option.getD_none,show 1>0 by decide,if_true]
   by_cases h:i<0
   ·simp only[h,if_true]<;>omega
   ·simp only[h,if_false]<;>omega
def u0(its:List Value)lo hi:slicePick its.toArray lo hi none=((its.drop (HT.gM its.length 0 lo)).take (HT.gM its.length its.length hi-HT.gM its.length 0 lo)).toArray:=by
 obtain⟨h1,h2,h3⟩:=xM lo hi its.toArray.size
 unfold slicePick
 rw[h1,h2,h3]
 simp only[sliceRange_one,pick_run,Qyq]<;>rfl
def abp(K:QQq):V->Option Int->Option Int->Hp->VK->Prop:=fun x lo hi H Q=>∃a xs,x=.ref a/\jV K H a xs/\∀p,H p=none->Q (.ref p) (upd H p (.lst (yO xs lo hi)))
def Rg:Ui X (abp X.K):=by
 intro γ s σ H x v vl vu lo hi sl Q I rx hs pl pu h
 obtain⟨a,xs,rfl,hx,q⟩:=h
 cases rx
 obtain⟨its,r,ht,hz⟩:=I.list hx
 have hlen:=r.length
 refine⟨"list",_,slot_list_getitem.lookup,ht.isList.typeIs,?_⟩
 refine wpAny_getItem_list_slice ht.isList hs pl pu .none (by simp) ?_ (by rw[Qyq]<;>omega)
 rw[u0,<-hlen]
 refine⟨.ref s.heap.objs.size,_,I.laid (fun b ob q=>QWq _ q) (QVz _) ?_,rfl,q _ (I.hok.fresh (QVz _))⟩
 exact⟨Nat.le_trans (qO xs lo hi) hz,_,0,(r.drop _).take _,Qzq _ rfl⟩
def jo:V->Bool
 |.non=>true
 |.bl _=>true
 |.int _=>true
 |.str _=>true
 |_=>false
def Kc:V->V->Bool
 |.non,.non=>true
 |.bl a,.bl b=>a==b
 |.bl a,.int b=>(if a then 1 else 0)==b
 |.int a,.bl b=>a==(if b then 1 else 0)
 |.int a,.int b=>a==b
 |.str a,.str b=>a==b
 |_,_=>false
def YL{s:Shared}{u v:Value}(ry:RelV y u)(rx:RelV x v)(fy:jo y=true)(fx:jo x=true):SeqAt.EqAt A s u v (Kc y x):=by
 cases y with
 |non=>
  cases ry
  cases x with
  |non=>cases rx;exact SeqAt.EqAt.same _
  |bl b=>cases rx;exact SeqAt.EqAt.none_bool b
  |int b=>obtain⟨t,rfl⟩:=rx;exact SeqAt.EqAt.none_int b t
  |str b=>obtain⟨t,rfl⟩:=rx;exact SeqAt.EqAt.none_str b t
  |_=>exact absurd (fx) Qjz
 |bl a=>
  cases ry
  cases x with
  |non=>cases rx;exact SeqAt.EqAt.bool_none a
  |bl b=>cases rx;exact SeqAt.EqAt.bool_bool a b
  |int b=>obtain⟨t,rfl⟩:=rx;exact SeqAt.EqAt.bool_int a b t
  |str b=>obtain⟨t,rfl⟩:=rx;exact SeqAt.EqAt.bool_str a b t
  |_=>exact absurd (fx) Qjz
 |int a=>
  obtain⟨t',rfl⟩:=ry
  cases x with
  |non=>cases rx;exact SeqAt.EqAt.int_none a t'
  |bl b=>cases rx;exact SeqAt.EqAt.int_bool a t' b
  |int b=>obtain⟨t,rfl⟩:=rx;exact SeqAt.EqAt.int_int a t' b t
  |str b=>obtain⟨t,rfl⟩:=rx;exact SeqAt.EqAt.int_str a t' b t
  |_=>exact absurd (fx) Qjz
 |str a=>
  obtain⟨t',rfl⟩:=ry
  cases x with
  |non=>cases rx;exact SeqAt.EqAt.str_none a t'
  |bl b=>cases rx;exact SeqAt.EqAt.str_bool a t' b
  |int b=>obtain⟨t,rfl⟩:=rx;exact SeqAt.EqAt.str_int a t' b t
  |str b=>obtain⟨t,rfl⟩:=rx;exact SeqAt.EqAt.str_str a t' b t
  |_=>exact absurd (fx) Qjz
 |_=>exact absurd (fy) Qjz
def Kd(x:V)(u:Value):Bool:=match u with
 |.none=>Kc .non x
 |.bool b=>Kc (.bl b) x
 |.int i _=>Kc (.int i) x
 |.str z _=>Kc (.str z) x
 |_=>false
def yI{u:Value}(r:RelV y u)(f:jo y=true):Kd x u=Kc y x:=by
 cases y with
 |non=>cases r;rfl
 |bl b=>cases r;rfl
 |int i=>obtain⟨t,rfl⟩:=r;rfl
 |str z=>obtain⟨t,rfl⟩:=r;rfl
 |_=>exact absurd (f) Qjz
theorem ph{x:V}:∀{xs:List V}{us:List Value},Vals xs us->xs.all jo=true->us.any (Kd x)=xs.any fun y=>Kc y x
 |_,_,.nil=>fun _=>rfl
 |y::xs,u::us,.cons r t=>fun f=>by
  rw[List.all_cons,QUq]at f
  rw[List.any_cons,List.any_cons,yI r f.1,ph t f.2]
theorem gF{A:Around}{s:Shared}{x:V}{v:Value}(rx:RelV x v)(fx:jo x=true):∀{xs:List V}{us:List Value},Vals xs us->xs.all jo=true->∀u∈us,SeqAt.EqAt A s u v (Kd x u)
 |_,_,.nil=>fun _=>fun u hu=>by cases hu
 |y::xs,u::us,.cons r t=>fun f=>fun u' hu=>by
  rw[List.all_cons,QUq]at f
  rcases QCq.mp hu with rfl|hu
  ·rw[yI r f.1];exact YL r rx f.1 fx
  ·exact gF rx fx t f.2 u' hu
def inV(x:V)(xs:List V):Bool:=xs.any fun y=>Kc y x
def rIn(K:QQq)(neg:Bool):R2:=fun x y H Q=>∃p xs,y=.ref p/\(jV K H p xs\/jU K H p xs)/\jo x=true/\xs.all jo=true/\Q (.bl (if neg then !inV x xs else inV x xs)) H
def Jb:iV X (compareOp .In) (rIn X.K false):=by
 intro γ s σ H x y v u Q I rx ry h
 obtain⟨p,xs,rfl,hq,fx,fs,q⟩:=h
 cases ry
 rcases hq with hq|hq
 ·obtain⟨its,r,pl,hz⟩:=I.list hq
  refine SeqAt.in_listAt _ pl.isList (fun w hw=>gF rx fx r fs w (by simpa using hw)) ⟨.bl _,H,I,rfl,?_⟩
  rw[show its.toArray.any _=its.any (Kd x) by simp,ph r fs]
  exact q
 ·obtain⟨its,r,pl,hz⟩:=I.tuple hq
  refine SeqAt.in_tupleAt _ pl (fun w hw=>gF rx fx r fs w (by simpa using hw)) ⟨.bl _,H,I,rfl,?_⟩
  rw[show its.toArray.any _=its.any (Kd x) by simp,ph r fs]
  exact q
def yc:iV X (compareOp .NotIn) (rIn X.K true):=by
 intro γ s σ H x y v u Q I rx ry h
 obtain⟨p,xs,rfl,hq,fx,fs,q⟩:=h
 cases ry
 rcases hq with hq|hq
 ·obtain⟨its,r,pl,hz⟩:=I.list hq
  refine SeqAt.notIn_listAt _ pl.isList (fun w hw=>gF rx fx r fs w (by simpa using hw)) ⟨.bl _,H,I,rfl,?_⟩
  rw[show its.toArray.any _=its.any (Kd x) by simp,ph r fs]
  exact q
 ·obtain⟨its,r,pl,hz⟩:=I.tuple hq
  refine SeqAt.notIn_tupleAt _ pl (fun w hw=>gF rx fx r fs w (by simpa using hw)) ⟨.bl _,H,I,rfl,?_⟩
  rw[show its.toArray.any _=its.any (Kd x) by simp,ph r fs]
  exact q
def yU:gH X (.type "list") (fun xs H Q=>∃p ys,xs=[.ref p]/\(jV X.K H p ys\/jU X.K H p ys)/\∀l,H l=none->Q (.ref l) (upd H l (.lst ys))):=by
 intro γ s σ H xs us Q I r h
 obtain⟨p,ys,rfl,hq,q⟩:=h
 obtain⟨u,rfl,rx⟩:=vals1 r
 cases rx
 have fin:∀its,Vals ys its->ys.length<=sizeLine->∀h' c',_->
   h'.get? s.heap.objs.size=some {cls:=.type "list",dict:=none,data:=.seq its.toArray c',slots:= #[]}->EP X γ σ Q _ {s with heap:=h'}:=fun its r' hz h' c' kp e=>
  ⟨.ref s.heap.objs.size,_,I.laid kp (QVz _) (show dq X.prog X.w _ h' _ (.lst ys)from⟨hz,its,c',r',e⟩),rfl,q _ (I.hok.fresh (QVz _))⟩
 rcases hq with hq|hq
 ·obtain⟨its,r',pl,hz⟩:=I.list hq
  have hlen:=r'.length
  obtain⟨o,ho,hc,n,hd⟩:=pl.isList
  exact call_list_seq p (.inl rfl) ho hc hd (fun h' c' kp e=>fin its r' hz h' c' kp e) (by simp only[Qyq]<;>omega)
 ·obtain⟨its,r',pl,hz⟩:=I.tuple hq
  have hlen:=r'.length
  obtain⟨o,ho,hc,n,hd⟩:=pl
  exact call_list_seq p (.inr rfl) ho hc hd (fun h' c' kp e=>fin its r' hz h' c' kp e) (by simp only[Qyq]<;>omega)
def vB:gH X (.type "tuple") (fun xs H Q=>∃p ys,xs=[.ref p]/\((jV X.K H p ys/\∀l,H l=none->Q (.ref l) (upd H l (.tup ys)))\/(jU X.K H p ys/\Q (.ref p) H))):=by
 intro γ s σ H xs us Q I r h
 obtain⟨p,ys,rfl,h⟩:=h
 obtain⟨u,rfl,rx⟩:=vals1 r
 cases rx
 rcases h with ⟨hq,q⟩|⟨hq,q⟩
 ·obtain⟨its,r',pl,hz⟩:=I.list hq
  have hlen:=r'.length
  refine call_tuple_list pl.isList (fun h' kp=>?_) (by simp only[Qyq]<;>omega)
  have I1:=I.kept (t':=s.toks) kp
  have I2:=
   I1.laid (t':=s.toks) (fun b o e=>QWq _ e) (QVz _) (show dq X.prog X.w _ _ _ (.tup ys)from⟨hz,its,r',TupOk.new _ _⟩)
  exact⟨.ref h'.objs.size,_,I2,rfl,q _ (I1.hok.fresh (QVz _))⟩
 ·obtain⟨its,r',pl,hz⟩:=I.tuple hq
  exact call_tuple_same pl ⟨.ref p,H,I,rfl,q⟩
def tyV(K:QQq)(T:String)(x:V)(H:Hp):Prop:=match x with
 |.str _=>T="str"
 |.int _=>T="int"
 |.ref p=>(T="list"/\∃xs,jV K H p xs)\/(T="tuple"/\∃o,K.lookup p=some o/\o.cls=.type "tuple"/\o.dict=none)
 |_=>False
theorem Wj{σ:St}{H:Hp}{T:String}{x:V}(I:Inv X γ σ H s)(r:RelV x v)(ty:tyV X.K T x H):
  s.TypeIs v T/\∀a,v=.ref a->∃ob,s.heap.get? a=some ob/\ob.dict=none:=by
 cases x with
 |str z=>
  obtain⟨t,rfl⟩:=r
  cases (ty)
  exact⟨typeIs_str s z t,fun _ e=>nomatch e⟩
 |int i=>
  obtain⟨t,rfl⟩:=r
  cases (ty)
  exact⟨typeIs_int s i t,fun _ e=>nomatch e⟩
 |ref p=>
  cases r
  rcases ty with ⟨rfl,xs,hq⟩|⟨rfl,o,hk,hc,hd⟩
  ·obtain⟨its,_,pl,_⟩:=I.list hq
   refine⟨pl.isList.typeIs,fun a e=>?_⟩
   cases e
   obtain⟨o,n,e,c,hd,_⟩:=pl
   exact⟨o,e,hd⟩
  ·refine⟨⟨o,I.Av p o hk,hc⟩,fun a e=>?_⟩
   cases e
   exact⟨o,I.Av _ o hk,hd⟩
 |_=>exact False.elim ty
def tBM(K:QQq)(T:String)(r:V->List V->Hp->VK->Prop)(to:TE)(t:TA):TE:=fun σ H Q=>to σ H fun x H1=>tyV K T x H1/\t σ H1 fun xs H2=>r x xs H2 Q
variable{o e:Expr}{es:List Expr}{to:TE}{t:TA}{name:Str}{apos cpos:Pos}{T id:String}{r:V->List V->Hp->VK->Prop}
def abC(pa:PlainAttrs T)(slot:Slot T name id)(hty:typeOf (.builtin id)=pure (.type "method_descriptor"))(hm:MtR X id r)(ho:PE X o to)(ha:PA X (e::es) t)
  (hbase:attributeBase o name X.env (eval o X.env)=eval o X.env:=by rfl)
  (hfew:((backTo cpos (starEach (e::es) X.env)).all (fun x=> !x.1)&&(backToKw cpos (keywordEach [] X.env)).all (fun x=>x.1.isSome)
   &&decide ((e::es).length+([]:List Keyword).length+(if ([]:List Keyword).isEmpty then 0 else 1)<30))=true:=by rfl)
  (hline:(apos.endLine==cpos.line)=true:=by rfl)(hs:starEach (e::es) X.env=(false,eval e X.env)::starEach es X.env:=by rfl)(hplain:(backTo cpos (starEach es X.env)).any (·.1)=false:=by rfl):
  PE X (.Call (.Attribute o name apos) (e::es) [] cpos) (tBM X.K T r to t):=by
 intro γ s σ H Q I h
 refine wpAny_Call_method_late hbase hfew hline rfl (cj (ho γ s σ H _ I h) fun v s1⟨x,H1,I1,r1,ty,q1⟩=>?_)
 obtain⟨h1,h2⟩:=Wj I1 r1 ty
 refine⟨T,id,pa,slot,hty,h1,h2,?_⟩
 have hA:=ha cpos γ s1 σ H1 _ I1 q1
 rw[hs]at hA⊢
 exact Calls.callWith_builtin (by show(false||(backTo cpos _).any (·.1))=false;rw[hplain]<;>rfl) (Calls.evalArgs_plain (cj hA fun us s2⟨vs,H2,I2,r2,q2⟩=>hm γ s2 σ H2 x vs v us Q I2 r1 r2 q2))
end
def MtM(X:Cx)(id:String)(r:V->List V->Hp->VK->Prop):Prop:=
 ∀(γ:QQz)(s:Shared)(σ:St)(H:Hp)(x:V)(xs:List V)(v:Value)(us:List Value)(Q:VK),Inv X γ σ H s->RelV x v->Vals xs us->r x xs H Q->
  wpAny (model X.prog X.w) X.A (call (.builtin id) (v::us)) (EP X γ σ Q) X.xe s
theorem Vals.one:∀{x:V}{us:List Value},Vals [x] us->∃u,us=[u]/\RelV x u
 |_,_,.cons r .nil=>⟨_,rfl,r⟩
theorem Vals.two:∀{x y:V}{us:List Value},Vals [x,y] us->∃u v,us=[u,v]/\RelV x u/\RelV y v
 |_,_,_,.cons r (.cons q .nil)=>⟨_,_,rfl,r,q⟩
theorem Vals.eraseIdx:∀{xs:List V}{us:List Value}(i:Nat),Vals xs us->Vals (xs.eraseIdx i) (us.eraseIdx i)
 |_,_,_,.nil=>.nil
 |_,_,0,.cons _ t=>t
 |_,_,i+1,.cons r t=>.cons r (Vals.eraseIdx i t)
theorem wD{α:Type}:∀(l:List α)(i:Nat),(l.eraseIdx i).length<=l.length
 |[],_=>QVz _
 |_::_,0=>Nat.le_succ _
 |_::r,i+1=>Nat.succ_le_succ (wD r i)
section
variable{X:Cx}{γ:QQz}{σ:St}{H:Hp}{s:Shared}{l b:Addr}{xs ys zs:List V}
def Inv.abR{its its':List Value}{n:Nat}{t':Nat}(I:Inv X γ σ H s)(hH:H l=some (.lst xs))
  (e:s.heap.get? l=some {cls:=.type "list",data:=.seq its.toArray n})(hf:f its.toArray=its'.toArray)(hv:Vals ys its')(hz:ys.length<=sizeLine):
  Inv X γ σ (upd H l (.lst ys)) {s with heap:=s.heap.update l (Obj.mapSeq f),toks:=t'}:=by
 have q:=PySem.IsL.update e f
 rw[hf]at q
 refine I.write (by rw[hH];exact trivial) (.inl rfl) (fun b' u hb hu=>(Heap.get?_update_other s.heap _ (Ne.symm hb)).trans hu) ⟨_,q⟩ ?_
 exact⟨hz,its',_,hv,q⟩
def Inv.aeZ{t':Nat}(I:Inv X γ σ H s)(hv:Vals ys its)(hz:ys.length<=sizeLine):
  Inv X γ σ (upd H s.heap.objs.size (.lst ys)) {s with heap:=s.heap.push {cls:=.type "list",data:=.seq its.toArray},toks:=t'}:=
 I.laid (fun _ _ q=>QWq _ q) (QVz _) ⟨hz,its,0,hv,Qzq _ rfl⟩
theorem Inv.fresh(I:Inv X γ σ H s):H s.heap.objs.size=none:=I.hok.fresh (QVz _)
def Inv.abQ(I:Inv X γ σ H s)(hH:H l=some (.lst xs)):xs.length<=sizeLine/\∃(its:List Value)(n:Nat),Vals xs its/\xs.length=its.length/\s.heap.get? l=some {cls:=.type "list",data:=.seq its.toArray n}:=by
 obtain⟨z,its,n,r,e⟩:=I.hok l _ hH
 exact⟨z,its,n,r,r.length,e⟩
end
section
variable{X:Cx}
def xR:V->List V->Hp->VK->Prop:=fun x vs H Q=>∃l xs y,x=.ref l/\vs=[y]/\H l=some (.lst xs)/\xs.length<sizeLine/\Q .non (upd H l (.lst (xs++[y])))
def pM:MtM X "list.append" xR:=by
 intro γ s σ H x vs v us Q I rx rv h
 obtain⟨l,xs,y,rfl,rfl,hH,hz,q⟩:=h
 cases rx
 obtain⟨u,rfl,ru⟩:=rv.one
 obtain⟨z,its,n,r,hl,e⟩:=I.abQ hH
 refine call_meets F.slot_list_append ⟨_,e,rfl⟩ F.entry_list_append (F.args_list_append_2 _ _) (PySem.list_append l its.toArray n u (by rw[Qyq];omega)) ⟨e,?_⟩
 refine⟨.non,_,I.abR hH e (by simp) (r.append (.cons ru .nil)) ?_,rfl,q⟩
 rw[QTq,List.length_singleton]
 omega
noncomputable def W3:V->List V->Hp->VK->Prop:=fun x vs H Q=>∃l xs i k y,x=.ref l/\vs=[.int i]/\H l=some (.lst xs)/\ -(2 ^63)<=i/\i<2 ^63/\seqIndex? i xs.length=some k/\xs[k]? =some y/\Q y (upd H l (.lst (xs.eraseIdx k)))
def M8:MtM X "list.pop" W3:=by
 intro γ s σ H x vs v us Q I rx rv h
 obtain⟨l,xs,i,k,y,rfl,rfl,hH,h1,h2,hk,hy,q⟩:=h
 cases rx
 obtain⟨u,rfl,ru⟩:=rv.one
 obtain⟨t,rfl⟩:=ru
 obtain⟨z,its,n,r,hl,e⟩:=I.abQ hH
 obtain⟨w,hw,rw'⟩:=r.get hy
 refine call_meets F.slot_list_pop ⟨_,e,rfl⟩ F.entry_list_pop (F.args_list_pop_2 _ _)
  (MeetsSeq.list_pop_at l its.toArray n i t k w (fitsIndex_both h1 h2) (by rw[Qyq,<-hl];exact hk) (by rw[<-Array.getElem?_toList];exact hw) (by rw[Qyq];omega)) ⟨e,?_⟩
 refine⟨y,_,I.abR hH e ?_ (r.eraseIdx k) ?_,rw',q⟩
 ·show its.toArray.eraseIdxIfInBounds k=(its.eraseIdx k).toArray
  rw[List.eraseIdxIfInBounds_toArray]
 ·have:=wD xs k
  omega
end
section
variable{prog:Program}{w:World}{A:Around}{E:QZq}{s:Shared}
end
section
variable{X:Cx}
end
section
variable{κ:Type}[DecidableEq κ]
def f9(kvs:List (κ×V))(k:κ):Option V:=(kvs.find? fun kv=>decide (kv.1=k)).map (·.2)
def putK(kvs:List (κ×V))(k:κ)(v:V):List (κ×V):=
 if (kvs.any fun kv=>decide (kv.1=k))=true then kvs.map (fun kv=>if kv.1=k then(kv.1,v)else kv)else kvs++[(k,v)]
def qM(kvs:List (κ×V))(k:κ):List (κ×V):=kvs.filter fun kv=>decide (kv.1≠k)
def j9{p:κ×V}{k:κ}(e:p.1=k):f9 (p::r) k=some p.2:=by simp[f9,List.find?_cons,e]
def kj{p:κ×V}{k:κ}(e:¬p.1=k):f9 (p::r) k=f9 r k:=by simp[f9,List.find?_cons,e]
theorem zp(k:κ):∀kvs:List (κ×V),(kvs.any fun kv=>decide (kv.1=k))=(f9 kvs k).isSome
 |[]=>rfl
 |p::r=>by
  rw[List.any_cons]
  by_cases e:p.1=k
  ·simp only[j9 e,QFq e,Bool.true_or,Option.isSome_some]
  ·rw[kj e,QEz e,Bool.false_or];exact zp k r
def qI(kvs:List (κ×V))(k:κ)v:(putK kvs k v).length<=kvs.length+1:=by
 unfold putK
 split
 ·rw[QAq];omega
 ·rw[QTq,QBq,List.length_nil];omega
def lK.wK{u:Option Value}(r:lK o u):o.isSome=u.isSome:=by
 cases o with
 |none=>cases u with
  |none=>rfl
  |some _=>exact(r).elim
 |some _=>cases u with
  |none=>exact(r).elim
  |some _=>rfl
theorem lK.getD{u:Option Value}{d':Value}(r:lK o u)(rd:RelV d d'):RelV (o.getD d) (u.getD d'):=by
 cases o with
 |none=>cases u with
  |none=>exact rd
  |some _=>exact(r).elim
 |some _=>cases u with
  |none=>exact(r).elim
  |some _=>exact r
def KV.val{vs:List (κ×Value)}(r:KV kvs vs)(k:κ):lK (f9 kvs k) (valueAt vs k):=by
 induction r with
 |nil=>exact True.intro
 | @cons p q ps qs h t ih=>
  obtain⟨h1,h2⟩:=h
  by_cases e:p.1=k
  ·have b:valueAt (q::qs) k=some q.2:=by simp[valueAt,List.find?_cons,h1.symm.trans e]
   rw[j9 e,b];exact h2
  ·have e':¬q.1=k:=fun z=>e (h1.trans z)
   have b:valueAt (q::qs) k=valueAt qs k:=by simp[valueAt,List.find?_cons,e']
   rw[kj e,b];exact ih
theorem KV.any{vs:List (κ×Value)}(r:KV kvs vs)(k:κ):(kvs.any fun kv=>decide (kv.1=k))=vs.any fun kv=>decide (kv.1=k):=by
 induction r with
 |nil=>rfl
 |cons h t ih=>rw[List.any_cons,List.any_cons,ih,h.1]
theorem KV.repl{vs:List (κ×Value)}(r:KV kvs vs)(k:κ){u:Value}(ry:RelV y u):
  KV (kvs.map fun kv=>if kv.1=k then(kv.1,y)else kv) (vs.map fun kv=>if kv.1=k then(kv.1,u)else kv):=by
 induction r with
 |nil=>exact .nil
 | @cons p q ps qs h t ih=>
  rw[Qyz,Qyz]
  refine .cons ?_ ih
  obtain⟨h1,h2⟩:=h
  by_cases e:p.1=k
  ·rw[if_pos e,if_pos (h1.symm.trans e)];exact⟨h1,ry⟩
  ·rw[if_neg e,if_neg (fun z=>e (h1.trans z))];exact⟨h1,h2⟩
def KV.put{vs:List (κ×Value)}(r:KV kvs vs)(k:κ){u:Value}(ry:RelV y u):KV (putK kvs k y) (stored vs k u):=by
 unfold putK stored
 rw[r.any k]
 by_cases e:(vs.any fun kv=>decide (kv.1=k))=true
 ·rw[if_pos e,if_pos e];exact r.repl k ry
 ·rw[if_neg e,if_neg e];exact Paired.snoc r ⟨rfl,ry⟩
def KV.drop{vs:List (κ×Value)}(r:KV kvs vs)(k:κ):KV (qM kvs k) (without vs k):=by
 unfold qM without
 induction r with
 |nil=>exact .nil
 | @cons p q ps qs h t ih=>
  obtain⟨h1,h2⟩:=h
  rw[List.filter_cons,List.filter_cons]
  by_cases e:p.1=k
  ·have a:¬decide (p.1≠k)=true:=by simp[e]
   rw[if_neg a,if_neg (by simp[h1.symm.trans e])];exact ih
  ·have e':¬q.1=k:=fun z=>e (h1.trans z)
   rw[if_pos (by simp[e]),if_pos (by simp[e'])];exact .cons ⟨h1,h2⟩ ih
theorem KV.length{kvs:List (κ×V)}(r:KV kvs vs):kvs.length=vs.length:=Paired.length r
def Ph(kvs:List (κ×V))(k:κ):(qM kvs k).length<=kvs.length:=List.length_filter_le _ _
end
def ue{w:World}{u:Value}(r:RelV (kV k) u):(fV P w).is k u=true:=by
 cases k with
 |inl i=>obtain⟨t,e⟩:=(r);subst e;exact Aj P w i t
 |inr x=>obtain⟨t,e⟩:=(r);subst e;exact Ai P w x t
section
variable{P:Program}{w:World}{H:Hp}{h:Heap}{a:Addr}
def abg(ok:pA P w H h)(e:Rd H a u):dq P w H h a u:=e.ok ok
def uE(ok:pA P w H h)(e:Rd H a (.dK kvs)):kvs.length<=sizeLine/\(a==sysModules)=false/\∃vs,KV kvs vs/\h.DictOf (fV P w) a vs:=
 show dq P w H h a _ from abg ok e
def Pj(ok:pA P w H h)(e:H a=some (.dK kvs)):kvs.length<=sizeLine/\(a==sysModules)=false/\∃vs,KV kvs vs/\h.DictOf (fV P w) a vs:=uE ok (.inl e)
end
def nO(H:Hp)(a:Addr)(y:V)(r:Option V):Prop:=
 ∃kvs k,Rd H a (.dK kvs)/\y=kV k/\r=f9 kvs k
def Qw(H:Hp)(a:Addr)(y v:V)(H':Hp):Prop:=
 ∃kvs k,H a=some (.dK kvs)/\y=kV k/\kvs.length<sizeLine/\H'=upd H a (.dK (putK kvs k v))
theorem nO.k{a:Addr}{k:Key}(e:H a=some (.dK kvs)):nO H a (kV k) (f9 kvs k):=⟨kvs,k,.inl e,rfl,rfl⟩
theorem Qw.k{a:Addr}{k:Key}(e:H a=some (.dK kvs))(hl:kvs.length<sizeLine):Qw H a (kV k) v (upd H a (.dK (putK kvs k v))):=⟨kvs,k,e,rfl,hl,rfl⟩
section
variable{X:Cx}{γ:QQz}{σ:St}{H:Hp}{s:Shared}{a:Addr}{y v:V}{u r:Value}{o:Option V}{A:Around}{E:QZq}
def Inv.big(I:Inv X γ σ H s):sysModules<s.heap.objs.size:=by
 exact Nat.lt_trans (by decide) ((I.mod.glob.keeps I.bk).lt)
def wR(hu:A.units+1<cLine)(I:Inv X γ σ H s)(g:nO H a y (some v))(ry:RelV y u)(h:∀w' s',Inv X γ σ H s'->RelV v w'->Q w' s'):
  wpAny (model X.prog X.w) A (getItem (.ref a) u) Q E s:=by
 obtain⟨kvs,k,e,ey,l⟩:=g
 subst ey
 obtain⟨z,hd,vs,rel,dd⟩:=uE I.hok e
 obtain⟨w',hw,rw'⟩:=lK.some_of (by rw[l];exact rel.val k)
 exact wpAny_getItem_of (ue ry) dd.mapOf hw (h w' _ (I.tok _) rw')
def afX(hu:A.units+1<cLine)(I:Inv X γ σ H s)(g:nO H a y o)(ry:RelV y u)(h:∀s',Inv X γ σ H s'->Q (.bool o.isSome) s'):
  wpAny (model X.prog X.w) A (compareOp .In u (.ref a)) Q E s:=by
 obtain⟨kvs,k,e,ey,l⟩:=g
 subst ey
 obtain⟨z,hd,vs,rel,dd⟩:=uE I.hok e
 refine wpAny_in_of (ue ry) hd dd.mapOf ?_
 rw[<- (rel.val k).wK,<-l]
 exact h _ (I.tok _)
def T3(hu:A.units+1<cLine)(I:Inv X γ σ H s)(g:nO H a y o)(ry:RelV y u)(h:∀s',Inv X γ σ H s'->Q (.bool (!o.isSome)) s'):
  wpAny (model X.prog X.w) A (compareOp .NotIn u (.ref a)) Q E s:=by
 obtain⟨kvs,k,e,ey,l⟩:=g
 subst ey
 obtain⟨z,hd,vs,rel,dd⟩:=uE I.hok e
 refine wpAny_notIn_of (ue ry) hd dd.mapOf ?_
 rw[<- (rel.val k).wK,<-l]
 exact h _ (I.tok _)
def yM{t':Nat}(I:Inv X γ σ H s)(mu:Mut (H a))(hs:Heap.SameBut a s.heap h')(he:∃q,h'.get? a=some q)(new:dq X.prog X.w (upd H a ob) h' a ob):
  Inv X γ σ (upd H a ob) {s with heap:=h',toks:=t'}:=
 I.write mu (.inl rfl) (fun b q hb z=>(hs.2 b hb).trans z) he new
def El{w:World}{h':Heap}{vs:List (Key×Value)}(z:kvs.length<=sizeLine)(hd:(a==sysModules)=false)(rel:KV kvs vs)(dd:h'.DictOf (fV P w) a vs):
  dq P w H' h' a (.dK kvs):=⟨z,hd,vs,rel,dd⟩
def JS{Q:Unit->Shared->Prop}(hu:A.units+1<cLine)(I:Inv X γ σ H s)(g:Qw H a y v H')(ry:RelV y u)(rv:RelV v r)(h:∀s',Inv X γ σ H' s'->Q () s'):
  wpAny (model X.prog X.w) A (setItem (.ref a) u r) Q E s:=by
 obtain⟨kvs,k,e,ey,l,eH⟩:=g
 subst ey eH
 obtain⟨z,hd,vs,rel,dd⟩:=Pj I.hok e
 have hz:vs.length<=sizeLine:=by rw[<-rel.length];exact z
 refine wpAny_setItem_pairs (ue ry) dd fun h' dd' hs=>h _ ?_
 exact yM I (by rw[e];exact True.intro) hs (let ⟨q,_,_,hq,_⟩:=dd';⟨q,hq⟩) (El (by have:=qI kvs k v;omega) hd (rel.put k rv) dd')
end
section
variable{X:Cx}{γ:QQz}{σ:St}{H:Hp}{s:Shared}{a:Addr}{kvs:List (Key×V)}{k:Key}{u:Value}{A:Around}{E:QZq}
theorem acp{v:V}{more:List Value}{Q:QZq}(I:Inv X γ σ H s)(e:H a=some (.dK kvs))(ry:RelV (kV k) u)(l:f9 kvs k=some v)(hm:more=[]\/∃x,more=[x])
  (h:∀w' s',Inv X γ σ (upd H a (.dK (qM kvs k))) s'->RelV v w'->Q w' s'):wpAny (model X.prog X.w) A (call (.builtin "dict.pop") (.ref a::u::more)) Q E s:=by
 obtain⟨z,hd,vs,rel,dd⟩:=Pj I.hok e
 obtain⟨w',hw,rw'⟩:=lK.some_of (v:=v) (o:=valueAt vs k) (by rw[<-l];exact rel.val k)
 have hp:(keyPart u).isSome=true:=by
  cases k with
  |inl i=>obtain⟨t,q⟩:=(show∃t,u=Value.int i t from ry);subst q;rfl
  |inr x=>obtain⟨t,q⟩:=(show∃t,u=Value.str x t from ry);subst q;rfl
 have ha:argsOk "dict.pop" ⟨.ref a::u::more,[]⟩:=by
  rcases hm with q|⟨x,q⟩
  ·subst q;exact PySem.F.args_dict_pop_2 _ _
  ·subst q;exact PySem.F.args_dict_pop_3 _ _ _
 refine call_meetsIn PySem.F.slot_dict_pop dd.typeIs PySem.F.entry_dict_pop ha (meets_dict_pop_there (fV X.prog X.w) a (ue ry) more hm hp)
  ⟨vs,w',dd,by rw[<-rel.length];exact z,hw,fun h' dd' hs=>h w' _ ?_ rw'⟩
 have he:∃q,h'.get? a=some q:=let ⟨q,_,_,hq,_⟩:=dd';⟨q,hq⟩
 exact yM I (by rw[e];exact True.intro) hs he (El (Nat.le_trans (Ph kvs k) z) hd (rel.drop k) dd')
end
def acN(i:Expr):Prop:=∀ov iv,subscripted i false ov iv=operate [ov,iv] (getItem ov iv)
theorem Q9{prog:Program}{w:World}{A:Around}{E:QZq}{s:Shared}{env:Env}{value slice:Expr}{pos:Pos}{T id:String}{Q:QZq}
  (hl:typeLookup (.type T) "__getitem__"=pure (some (.builtin id)))(hs:acN slice)
  (h:wpAny (model prog w) A (eval value env) (fun o θ=>wpAny (model prog w) A (eval slice env) (fun i ω=>ω.TypeIs o T/\wpAny (model prog w) A (getItem o i) Q E ω) E θ) E s):
  wpAny (model prog w) A (eval (.Subscript value slice pos) env) Q E s:=by
 refine Subscript_ (QGq h (fun o θ Δ=>QGq Δ (fun i ω Φ=>?_) fun _ _ x=>x) fun _ _ x=>x)
 obtain⟨hT,Φ⟩:=Φ
 unfold subscriptTail
 refine QKq ?_
 rw[getitemInPython_of_ne hT.not_modules]
 refine QKq (wpAny_specialOf hT hl ?_)
 have fin:wpAny (model prog w) A (subscripted slice false o i) (fun r s₃=>wpAny (model prog w) A (letTemporaryGo value o r>>=fun _=>pure r) Q E s₃) E ω:=by
  rw[hs o i]
  exact wpAny_operating (QGq Φ (fun r s₃ h₃=>QKq (wpAny_letTemporaryGo (QKz h₃))) fun _ _ x=>x)
 first
  |exact QKz (QKq fin)
  |exact QKq (QKz (QKq fin))
  |exact QKq fin
def qN{X:Cx}{σ:St}{H:Hp}{a:Addr}{y:V}(I:Inv X γ σ H s)(g:nO H a y o):s.TypeIs (.ref a) "dict":=by
 obtain⟨kvs,k,e,_,_⟩:=g
 obtain⟨_,_,vs,_,dd⟩:=uE I.hok e
 exact dd.typeIs
def aaT(td ty:TE):TE:=fun σ H Q=>td σ H fun x H1=>ty σ H1 fun y H2=>∃a v,x=.ref a/\nO H2 a y (some v)/\Q v H2
section
variable{X:Cx}{o i e value:Expr}{pos pos' tpos:Pos}{td ty tv:TE}
def Gw(hu:X.A.units+1<cLine)(ho:PE X o td)(hi:PE X i ty)(hs:acN i):PE X (.Subscript o i pos) (aaT td ty):=by
 intro γ s σ H Q I h
 refine Q9 PySem.F.slot_dict_getitem.lookup hs (cj (ho γ s σ H _ I h) fun u s1⟨x,H1,I1,rx,q1⟩=>cj (hi γ s1 σ H1 _ I1 q1) fun iv s2⟨y,H2,I2,ry,a,v,ex,g,q2⟩=>?_)
 subst ex
 obtain rfl:u=Value.ref a:=rx
 exact⟨qN I2 g,wR hu I2 g ry fun w' s3 I3 rw'=>⟨v,H2,I3,rw',q2⟩⟩
end
def Bm{w:World}(h:Heap)(hb:sysModules<h.objs.size):dq P w H (h.push {cls:=.type "dict",data:=.dict #[]}) h.objs.size (.dK []):=
 ⟨QIq _,beq_eq_false_iff_ne.mpr (Ne.symm (Qvz hb)),[],.nil,Heap.DictOf.new h⟩
def Wr:TE:=fun _ H Q=>∀p,H p=none->Q (.ref p) (upd H p (.dK []))
section
variable{X:Cx}{pos:Pos}
def Mv:PE X (.Dict [] [] pos) Wr:=fun γ s σ H Q I h=>
 wpAny_Dict_empty ⟨.ref s.heap.objs.size,_,I.laid (fun _ _ q=>QWq _ q) (QVz _) (Bm s.heap I.big),rfl,h _ (I.hok.fresh (QVz _))⟩
end
structure M1(X:Cx)(o:Expr)(m:Str)(apos:Pos)(e:Expr)(cpos:Pos):Prop where
 base:attributeBase o m X.env (eval o X.env)=eval o X.env
 few:((backTo cpos (starEach [e] X.env)).all (fun x=> !x.1)&&(backToKw cpos (keywordEach [] X.env)).all (fun x=>x.1.isSome)
  &&decide (([e]:List Expr).length+([]:List Keyword).length+(if ([]:List Keyword).isEmpty then 0 else 1)<30))=true
 line:(apos.endLine==cpos.line)=true
 trees:backTo cpos (starEach [e] X.env)=[(false,eval e X.env)]
structure M2(X:Cx)(o:Expr)(m:Str)(apos:Pos)(e f:Expr)(cpos:Pos):Prop where
 base:attributeBase o m X.env (eval o X.env)=eval o X.env
 few:((backTo cpos (starEach [e,f] X.env)).all (fun x=> !x.1)&&(backToKw cpos (keywordEach [] X.env)).all (fun x=>x.1.isSome)
  &&decide (([e,f]:List Expr).length+([]:List Keyword).length+(if ([]:List Keyword).isEmpty then 0 else 1)<30))=true
 line:(apos.endLine==cpos.line)=true
 trees:backTo cpos (starEach [e,f] X.env)=[(false,eval e X.env),(false,eval f X.env)]
def IsD(H:Hp)(a:Addr):Prop:=∃kvs,Rd H a (.dK kvs)
def N8{X:Cx}{σ:St}{H:Hp}{a:Addr}(I:Inv X γ σ H s)(d:IsD H a):
  s.TypeIs (.ref a) "dict"/\(∀b,Value.ref a=.ref b->∃ob,s.heap.get? b=some ob/\ob.dict=none)/\(a==sysModules)=false:=by
 obtain⟨kvs,e⟩:=d
 obtain⟨_,hd,vs,_,dd⟩:=uE I.hok e
 refine⟨dd.typeIs,fun b q=>?_,hd⟩
 cases q
 obtain⟨ob,_,_,h1,h2,_⟩:=dd
 exact⟨ob,h1,h2.2.1⟩
section
variable{X:Cx}{γ:QQz}{σ:St}{H:Hp}{s:Shared}{a:Addr}{y d:V}{u r:Value}{o:Option V}{A:Around}{E:QZq}
def YX(hu:A.units+1<cLine)(I:Inv X γ σ H s)(g:nO H a y o)(ry:RelV y u)(rd:RelV d r)(h:∀w' s',Inv X γ σ H s'->RelV (o.getD d) w'->Q w' s'):
  wpAny (model X.prog X.w) A (call (.builtin "dict.get") [.ref a,u,r]) Q E s:=by
 obtain⟨kvs,k,e,ey,l⟩:=g
 subst ey
 obtain⟨z,hd,vs,rel,dd⟩:=uE I.hok e
 refine call_meetsIn PySem.F.slot_dict_get dd.typeIs PySem.F.entry_dict_get (PySem.F.args_dict_get_3 _ _ _) (meets_dict_get_default _ a (ue ry) hd r) ⟨_,dd.mapOf,h _ _ (I.tok _) ?_⟩
 rw[l]
 exact(rel.val k).getD rd
end
def Ws(td ty tx:TE):TE:=fun σ H Q=>td σ H fun x H1=>∃a,x=.ref a/\IsD H1 a/\ty σ H1 fun y H2=>tx σ H2 fun z H3=>∃o,nO H3 a y o/\Q (o.getD z) H3
def Cr(td ty:TE):TE:=fun σ H Q=>td σ H fun x H1=>∃a,x=.ref a/\IsD H1 a/\ty σ H1 fun y H2=>∃kvs k v,H2 a=some (.dK kvs)/\y=kV k/\f9 kvs k=some v/\Q v (upd H2 a (.dK (qM kvs k)))
section
variable{X:Cx}{o e f:Expr}{apos cpos:Pos}{td ty tx:TE}
def Mw(hu:X.A.units+1<cLine)(ho:PE X o td)(he:PE X e ty)(hf:PE X f tx)(m:M2 X o "get" apos e f cpos):PE X (.Call (.Attribute o "get" apos) [e,f] [] cpos) (Ws td ty tx):=by
 intro γ s σ H Q I h
 refine wpAny_Call_method m.base m.few m.line PySem.F.plainAttrs_dict PySem.F.slot_dict_get PySem.F.type_dict_get (cj (ho γ s σ H _ I h) fun u s1⟨x,H1,I1,rx,a,ex,d,q1⟩=>?_)
 subst ex
 obtain rfl:u=Value.ref a:=rx
 obtain⟨t1,t2,_⟩:=N8 I1 d
 refine⟨t1,t2,?_⟩
 rw[m.trees]
 refine Calls.callWith_builtin rfl (Calls.evalArgs_plain (Calls.spliced_cons (cj (he γ s1 σ H1 _ I1 q1) fun iv s2⟨y,H2,I2,ry,q2⟩=>
  Calls.spliced_cons (cj (hf γ s2 σ H2 _ I2 q2) fun fv s3⟨z,H3,I3,rz,ov,g,q3⟩=>Calls.spliced_nil ?_))))
 exact YX hu I3 g ry rz fun w' s4 I4 rw'=>⟨_,H3,I4,rw',q3⟩
def Mt(ho:PE X o td)(he:PE X e ty)(m:M1 X o "pop" apos e cpos):PE X (.Call (.Attribute o "pop" apos) [e] [] cpos) (Cr td ty):=by
 intro γ s σ H Q I h
 refine wpAny_Call_method m.base m.few m.line PySem.F.plainAttrs_dict PySem.F.slot_dict_pop PySem.F.type_dict_pop (cj (ho γ s σ H _ I h) fun u s1⟨x,H1,I1,rx,a,ex,d,q1⟩=>?_)
 subst ex
 obtain rfl:u=Value.ref a:=rx
 obtain⟨t1,t2,_⟩:=N8 I1 d
 refine⟨t1,t2,?_⟩
 rw[m.trees]
 refine Calls.callWith_builtin rfl (Calls.evalArgs_plain (Calls.spliced_cons (cj (he γ s1 σ H1 _ I1 q1) fun iv s2⟨y,H2,I2,ry,kvs,k,v,ea,ey,l,q2⟩=>Calls.spliced_nil ?_)))
 subst ey
 exact acp I2 ea ry l (.inl rfl) fun w' s3 I3 rw'=>⟨v,_,I3,rw',q2⟩
end
section
variable{X:Cx}{γ:QQz}{σ:St}{H:Hp}{s:Shared}{a:Addr}{kvs:List (Key×V)}{A:Around}{E:QZq}
end
section
variable{X:Cx}{γ:QQz}{σ:St}{H:Hp}{s:Shared}{a:Addr}{y:V}{u:Value}{A:Around}{E:QZq}
end
end L2
namespace Att
open PySem PySem.W PySem.Calls PyProof.Rows
def rA{h:Heap}:∀(ns:List Int)(vs:List Value),WellAll P h vs (ns.map WData.int)->IntsAre vs ns:=by
 intro ns
 induction ns with
 |nil=>
  intro vs w
  cases w
  exact .nil
 |cons n ns ih=>
  intro vs w
  cases w with
  |cons a b=>
   cases a
   exact .cons _ _ (ih _ b)
theorem Ig{l:OpenLaw}(hn:l.most=some n){h:Heap}
  (hpre:l.row.toRowW.claim.pre args=true)(hwl:WellAll P h vals args):
  ∃a vs ns,vals=[Value.ref a]/\args=[WData.list (ns.map WData.int)]/\h.get? a=some {cls:=.type "list",data:=.seq vs.toArray}/\IntsAre vs ns/\ns.length<=n:=by
 obtain⟨d,r,rfl,h1,h2⟩:=hasAllW_cons ((pre_splitW hpre).1)
 obtain rfl:=hasAllW_nil h2
 obtain⟨xs,rfl,h3⟩:=hasW_list h1
 obtain⟨ns,rfl⟩:=items_int h3
 have hlen:ns.length<=n:=by
  have h4:(WTm.not (.lt (.lit (.int n)) (.len (.arg 0)))).holds [] {args:=[.list (ns.map .int)]}=true:=by
   have h4:=(holds_andW ((pre_splitW hpre).2)).1
   rw[hn]at h4
   exact h4
  have h5:=condW_of h4 (w_not (w_lt w_lit (w_len_list (w_arg rfl))))
  refine Nat.le_of_not_lt fun q=>?_
  first
   |(rw[QFq q']at h5;exact absurd h5 (by decide))
   |(simp at h5;omega)
 cases hwl with
 |cons w1 w2=>
  cases w2
  cases w1 with
  |list ho hall=>exact⟨_,_,ns,rfl,rfl,ho,rA ns _ hall,hlen⟩
def IV(l:OpenLaw)args:l.row.toRowW.claim.post args (.bool true) args=true:=
 postW_of
  (show WShape.has [] _ .bool=true by first|rfl|decide|simp[WShape.has,WShape.arms,WShape.armsAll])
  (w_eq_bool (w_res rfl) w_lit) rfl
def BJ{l:OpenLaw}{n:Nat}{loose:List Str}{YP:World->Heap->Prop}
  (hn:l.most=some n)(hdf:d.params.defaults=[])
  (call:∀(w:World)(s₀ θ:Shared)(mg mb:QZz)(fa:Addr)(o:Obj)(pm cd doc:Value)(a:Addr)(vs:List Value)(ns:List Int),
   Ground q loose [] XP w s₀ mg mb θ.heap->YP w θ.heap->
   θ.heap.get? fa=some o->o.data=.func (docDef d.name d.params d.body d.scope pm cd doc)->θ.heap.CodeRec cd d.name->mg d.name=some (.ref fa)->
   θ.heap.get? a=some {cls:=.type "list",data:=.seq vs.toArray}->IntsAre vs ns->ns.length<=n->θ.gens= #[]->
   codeAny (model l.prog w) callerA (.call (.ref fa) ⟨[.ref a],[]⟩) (fun r s'=>r=.ok (.ret (.bool true))/\OldK θ.heap s'.heap/\s'.os=θ.os/\AllBare s'.gens) θ):
  WalkO q loose XP YP l.row.toRowW d [] (fun f vs=>PySem.call f vs):=by
 intro w s₀ θ mg mb G Y fa o pm cd doc dV kV ho hd hcd hD hmg hg args vals as hpre hlay hrd hwl hlo
 obtain rfl:dV=.none:=Dflts.none hD hdf
 obtain rfl:kV=.none:=Dflts.noKw hD
 obtain⟨a,vs,ns,rfl,rfl,hobj,hints,hlen⟩:=Ig hn hpre hwl
 refine enter_call (codeAny_mono (call w s₀ θ mg mb fa o pm cd doc a vs ns G Y ho (fd_plain hd) hcd hmg hobj hints hlen hg) fun r s' hq=>?_)
 obtain⟨rfl,h2,h3,h4⟩:=hq
 exact⟨.inl ⟨.bool true,.bool true,[],rfl,fun _=>rfl,.bool true,IV l _,fun _=>⟨List.Pairwise.nil,fun _ hm=>(nomatch hm)⟩⟩,h2,h3,h4⟩
section
variable{prog:Program}{w:World}{A:Around}{E:QZq}{s:Shared}{K:Frag}
end
end Att
namespace L2
open PySem PySem.Spec PyProof.Rows
theorem vG:∀{vs:List Value}{ns:List Int},IntsAre vs ns->Vals (ns.map V.int) vs
 |_,_,.nil=>.nil
 |_,_,.cons n t h=>.cons ⟨t,rfl⟩ (vG h)
def Only(H:Hp):Prop:=∀b,H b=none\/∃o xs,H b=some (.frz o (.lst xs))
theorem Nm{w:World}{K:QQq}{CX:J8}{fa a:Addr}{x:Str}{θ:Shared}
  (KX:K.In θ.heap)(hns:θ.heap.Ns mainGlobals mg)(hb:θ.heap.Ns builtinsNs mb)(hbb:∀x:Str,x≠"__name__"->mb x=bootBuiltins x)(hlim:θ.heap.NoLimit)(hg:θ.gens= #[])
  (ha:θ.heap.get? a=some {cls:=.type "list",data:=.seq vs.toArray})(hi:IntsAre vs ns)(hl:ns.length<=sizeLine)(hr:dR k callerA)
  (F:∀base:Heap,K.In base->base.Ns mainGlobals mg->cD P w K mg base CX k fa fd [x] sp)(hbind:∀(s:Shared)(u:Value),BindsTo s fd ⟨[u],[]⟩ [(x,u)])
  (hsp:∀H:Hp,Only H->jV K H a (ns.map V.int)->sp [.ref a] H (fun v _=>v=.bl true) fun _ _ _=>False)
  (hCX:∀H e s',CX [] H θ (fun _ _ _=>False) e s'->False):
  codeAny (model P w) callerA (.call (.ref fa) ⟨[.ref a],[]⟩) (fun r s'=>r=.ok (.ret (.bool true))/\OldK θ.heap s'.heap/\s'.os=θ.os/\AllBare s'.gens) θ:=by
 have rv:=vG hi
 have core:∀H:Hp,Only H->jV K H a (ns.map V.int)->pA P w H θ.heap->(∀b,H b≠none->b=a)->(H a≠none->K.lookup a=none)->
   codeAny (model P w) callerA (.call (.ref fa) ⟨[.ref a],[]⟩) (fun r s'=>r=.ok (.ret (.bool true))/\OldK θ.heap s'.heap/\s'.os=θ.os/\AllBare s'.gens) θ:=by
  intro H hO hS hok hA hK
  have mJ:∀{b:Addr}{o:Obj},θ.heap.get? b=some o->H b=none->(JG θ.heap H).get? b=some o:=fun e n=>Oe e n
  have noA:∀{b:Addr}{o:Obj}{es:Array DictEntry}{ep:Nat},θ.heap.get? b=some o->o.data=.dict es ep->H b=none:=fun{b o es ep}e d=>by
   cases q:H b with
   |none=>rfl
   |some u=>
    have e':=hA b (by rw[q];simp)
    subst e'
    rw[ha]at e;cases e
    cases d
  have nsK:∀{b:Addr}{m:QZz},θ.heap.Ns b m->(JG θ.heap H).Ns b m:=fun{b m}⟨o,es,ep,e,d,r⟩=>⟨o,es,ep,mJ e (noA e d),d,r⟩
  have hKb:=fun b o e=>mJ (KX b o e) (by
   cases q:H b with
   |none=>rfl
   |some u=>
    have e':=hA b (by rw[q];simp)
    subst e'
    rw[hK (by rw[q];simp)]at e;cases e)
  have hM:Mod K mg _:=⟨hKb,nsK hns,⟨mb,nsK hb,hbb⟩,let ⟨mc,h1,h2⟩:=hlim;⟨mc,nsK h1,h2⟩⟩
  refine codeAny_mono ((F _ hKb (nsK hns)).run callerA [] θ H ⟨[.ref a],[]⟩ [.ref a] [.ref a] _ _ hr ⟨rfl,hM,fun b o e=>Sq e,Nat.le_of_eq (JF _ _),trivial,fun b hb=>absurd (show b∈([])from hb) (by simp),hok,.of_eq hg⟩ (hbind θ _) (.cons rfl .nil) (hsp H hO hS)) fun r s' h=>?_
  cases r with
  |error e=>exact(hCX H e s' h).elim
  |ok fl=>
   cases fl with
   |next=>exact False.elim h
   |brk=>exact False.elim h
   |cont=>exact False.elim h
   |ret u=>
    obtain⟨v,H',os,bare,un,hok',r',q⟩:=h
    subst q
    obtain rfl:u=Value.bool true:=r'
    refine⟨rfl,OldK.of_keep fun b o e=>?_,os,bare⟩
    cases q:H b with
    |none=>exact un.keep b o e q (by intro z;exact absurd (show b∈([])from z) (by simp)) (by simp)
    |some u=>
     rcases hO b with z|⟨ob,xs,z⟩
     ·rw[q]at z;cases z
     ·obtain⟨e1,_⟩:=hok b _ z
      obtain⟨e2,_⟩:=hok' b _ (un.frzs b ob _ z)
      rw[e]at e1;cases e1
      exact e2
 cases hk:K.lookup a with
 |some o=>
  have e:=KX a o hk
  rw[ha]at e
  cases e
  refine core _ (fun _=>.inl rfl) (.inr ⟨_,vs.toArray,_,hk,rfl,rfl,rfl,by rw[Qyq,hi.length];exact hl,by simpa using rv⟩) (fun b u z=>by have z':=z;cases z') (fun b z=>absurd rfl z) fun z=>absurd rfl z
 |none=>
  refine core (fun b=>if b=a then some _ else none) (fun b=>?_) (.inl (.inr ⟨{cls:=.type "list",data:=.seq vs.toArray},if_pos rfl⟩)) (fun b u z=>?_) (fun b z=>?_) fun _=>hk
  ·by_cases hb:b=a
   ·exact .inr ⟨_,_,if_pos hb⟩
   ·exact .inl (if_neg hb)
  ·by_cases hb:b=a
   ·cases ((if_pos hb).symm.trans z)
    subst hb
    exact⟨ha,by rw[QAq];exact hl,vs,_,rv,ha⟩
   ·cases ((if_neg hb).symm.trans z)
  ·by_cases hb:b=a
   ·exact hb
   ·exact absurd (if_neg hb) z
def QK{l:PySem.W.OpenLaw}{n k:Nat}{loose:List Str}{YP:World->Heap->Prop}{K:Params->QQq}{CX:World->J8}{sp:World->Sp}
  (hn:l.most=some n)(hn2:n<=sizeLine)(hdf:d.params.defaults=[])(hr:dR k callerA)
  (hY:∀(w:World)(h:Heap),YP w h->(K w.params).In h)
  (F:∀(w:World)(mg:QZz)(fa:Addr)(h:Heap),(K w.params).In h->h.Ns mainGlobals mg->mg d.name=some (.ref fa)->
   ∃fd:FuncData,(∀(s:Shared)(u:Value),BindsTo s fd ⟨[u],[]⟩ [(x,u)])/\
    ∀base:Heap,(K w.params).In base->base.Ns mainGlobals mg->cD l.prog w (K w.params) mg base (CX w) k fa fd [x] (sp w))
  (hsp:∀(w:World)(H:Hp)(a:Addr)(ns:List Int),ns.length<=n->Only H->jV (K w.params) H a (ns.map V.int)->sp w [.ref a] H (fun v _=>v=.bl true) fun _ _ _=>False)
  (hCX:∀(w:World)(H:Hp)(s:Shared)(e:Value)(s':Shared),CX w [] H s (fun _ _ _=>False) e s'->False):
  PySem.W.WalkO q loose XP YP l.row.toRowW d [] (fun f vs=>PySem.call f vs):=by
 refine Att.BJ hn hdf fun w s₀ θ mg mb fa o pm cd doc a vs ns G Y ho hd hcd hmg hobj hints hlen hg=>?_
 have KX:=hY w _ Y
 obtain⟨fd,hb,hF⟩:=F w mg fa _ KX G.T.g hmg
 exact Nm KX G.T.g G.T.b G.T.builtins G.T.nolimit hg hobj hints (Nat.le_trans hlen hn2) hr hF hb (fun H hO hS=>hsp w H a ns hlen hO hS) fun H e s'=>hCX w H θ e s'
abbrev gw:J8:=fun _ _ _ _ _ _=>False
abbrev E0:XK:=fun _ _ _=>False
def iK:lL gw X E0:=fun _ _ _ _ _ _ _ h=>h.elim
structure Hz(K:QQq)(x qual:Str)(st:Stmt)(f:Addr)(fd:FuncData):Prop where
 ex:∃(oc:Value)(od:Option Addr)(kV doc pm:Value)(an:Option Addr)(cdv ct:Value)(osl:Array (Option Value)),
  fd=PySem.W.fnOf x qual (dM st) (cF st) (aq st) .none kV doc pm an cdv ct/\K.lookup f=some ⟨oc,od,.func fd,osl⟩/\PySem.W.codeIn K cdv qual=true
 kp:PySem.W.keepIn K (.ref f)=true
section
variable{P:Program}{w:World}{K:QQq}{mg:QZz}{base:Heap}
def Hz.ok{st:Stmt}{fd:FuncData}{k:Nat}(F:Hz K x qual st f fd)(S:eN N ps (aq st))(len:∀vs H Q E,sp vs H Q E->vs.length=ps.length)
  (hbody:∀(cdv:Value)(A:Around)(outer:List Env)(s:Shared)(H:Hp)(vs:List V)(Q:VK)(E:XK),dR k (A.deeper (envOfC qual (aq st) s.heap.objs.size f cdv))->sp vs H Q E->
   ∃t,vC (gG gw P w K mg base N qual (aq st) f cdv A outer s H E).rE (cF st) t/\t {nx:=fun _ H'=>Q .non H',rt:=Q} (start N vs) H):cD P w K mg base gw (k+1) f fd ps sp:=by
 obtain⟨oc,od,kV,doc,pm,an,cdv,ct,osl,rfl,lk,hcd⟩:=F.ex
 refine acn lk hcd S len fun A outer s H vs Q E hr hsp=>?_
 obtain⟨t,h,q⟩:=hbody cdv A outer s H vs Q E hr hsp
 exact⟨t,h.rE,q⟩
def Hz.binds{st:Stmt}{f:Addr}{ps:List Str}(F:Hz K x qual st f fd)
  (h:∀(kV doc pm:Value)(an:Option Addr)(cdv ct:Value)(us:List Value),us.length=ps.length->bindArgs (PySem.W.fnOf x qual (dM st) (cF st) (aq st) .none kV doc pm an cdv ct) ⟨us,[]⟩=pure (ps.zip us)):Binds K fd ps []:=by
 obtain⟨oc,od,kV,doc,pm,an,cdv,ct,osl,rfl,lk,hcd⟩:=F.ex
 exact .all (h kV doc pm an cdv ct)
def OJ{st:Stmt}{f:Addr}{od an:Option Addr}{kV doc pm cdv ct:Value}(l:K.lookup f=some ⟨oc,od,.func (PySem.W.fnOf x qual (dM st) (cF st) (aq st) .none kV doc pm an cdv ct),osl⟩)
  (c:PySem.W.codeIn K cdv qual=true)(k:PySem.W.keepIn K (.ref f)=true):Hz K x qual st f (PySem.W.fnOf x qual (dM st) (cF st) (aq st) .none kV doc pm an cdv ct):=⟨⟨oc,od,kV,doc,pm,an,cdv,ct,osl,rfl,l,c⟩,k⟩
end
def Ie(h:n<=1000):n<sizeLine:=Nat.lt_of_le_of_lt h (by decide)
section
variable{X:Cx}
end
end L2
end
section
namespace Mini
open PySem L2
def rC(h:Heap)(d:Addr)(es:Array DictEntry)(ep:Nat):Prop:=∃o,h.get? d=some o/\o.ExactDict/\o.data=.dict es ep
section
def J3(y:(d==sysModules)=false)(B:rC s.heap d es ep)
  (q:Q (.ref s.heap.objs.size) {s with heap:=s.heap.push {cls:=.type "dict_keyiterator",data:=.fields #[.ref d,.int 0 0,.int es.size 0,.int ep 0]}}):wpAny (model prog w) A (pyIter (.ref d)) Q E s:=by
 obtain⟨o,h1,h2,h3⟩:=B
 have t:s.TypeIs (.ref d) "dict":=⟨o,h1,h2.1⟩
 refine wpAny_pyIter_slot t F.slot_dict_iter (Qzz F.slot_dict_iter t F.entry_dict_iter ?_ (F.args_dict_iter_1 _))
 refine QKq (QKq (wpAny_notOrdered_dict t (QKz ?_)))
 show wpAny _ _ (Builtin.Dict.showsAll d>>=_) _ _ s;unfold Builtin.Dict.showsAll;rw[if_neg (by rw[y];decide)]
 refine QKq (QKz (QKq (wpAny_dictEntries h1 h3 (QKq (wpAny_dictEpoch h1 h3 ?_)))))
 refine QKq (Qjq (QKz ⟨_,rfl,"dict_keyiterator",_,⟨_,Qzq _ rfl,rfl⟩,F.slot_dict_keyiterator_next.lookup,q⟩))
def J4{Q:Option Value->Shared->Prop}(st:s.heap.IsKeyIter it d i es.size ep)(B:rC s.heap d es ep)(x:es[i]? =some e)
  (q:∀h',h'.IsKeyIter it d (i+1) es.size ep->Heap.SameBut it s.heap h'->Q (some e.key) {s with heap:=h'}):wpAny (model prog w) A (pyNext (.ref it)) Q E s:=by
 obtain⟨o,g1,g2,g3⟩:=id st
 obtain⟨od,h1,h2,h3⟩:=B
 refine QKq (wpAny_attempt (wpAny_callSpecial?_slot st.typeIs F.slot_dict_keyiterator_next (Qzz F.slot_dict_keyiterator_next st.typeIs F.entry_dict_keyiterator_next ?_ (F.args_dict_keyiterator_next_1 _))))
 refine QKq (QKz (QKq (QKq ?_)))
 first|refine QKq (wpAny_typeNameOfWhole_keyiter st.typeIs (QKz ?_))|refine QKq _
 refine QKq (wpAny_fieldsOf g1 g3 ?_)
 refine QKq (QKz (QKq (wpAny_dictEntries h1 h3 ?_)))
 rw[if_neg (by simp)]
 refine QKq (QKz (QKq (wpAny_dictEpoch h1 h3 ?_)))
 rw[if_neg (by simp)]
 refine QKz ?_
 simp only[show¬(i<0) by omega,if_false,Int.toNat_natCast,x]
 refine QKq ?_
 first|refine QKq (wpAny_typeNameOfWhole_keyiter st.typeIs (QKz ?_))|refine QKq _
 refine QKq (wpAny_isOneOf_keyiter st.typeIs ?_)
 show wpAny _ _ (setField _ 1 (rawInt (i+1))>>=_) _ _ s;refine QKq (wpAny_setField g1 g3 (by simp) ?_)
 have st':(s.heap.update it (Obj.mapFields (·.setIfInBounds 1 (rawInt (i+1))))).IsKeyIter it d (i+1) es.size ep:=⟨_,Heap.get?_update_self _ g1 (Obj.isFreed_of_fields (Obj.data_mapFields g3 _)),(Obj.cls_mapFields ..).trans g2,by rw[Obj.data_mapFields g3];simp[rawInt]⟩
 exact QKq (Qqq (QKq (wpAny_isOneOf_keyiter (s:={s with heap:=s.heap.update it (Obj.mapFields (·.setIfInBounds 1 (rawInt (i+1))))}) st'.typeIs (QKz (QKz ⟨_,rfl,QKz (q _ st' (Heap.SameBut.update ..))⟩)))))
def Qc(hh:A.handled=none)(st:s.heap.IsKeyIter it d i es.size ep)(B:rC s.heap d es ep)(x:es.size<=i)
  (q:∀h',Heap.ExtBut it s.heap h'->Q none {s with heap:=h'}):wpAny (model prog w) A (pyNext (.ref it)) Q E s:=by
 obtain⟨o,g1,g2,g3⟩:=id st
 obtain⟨od,h1,h2,h3⟩:=B
 refine QKq (wpAny_attempt (wpAny_callSpecial?_slot st.typeIs F.slot_dict_keyiterator_next (Qzz F.slot_dict_keyiterator_next st.typeIs F.entry_dict_keyiterator_next ?_ (F.args_dict_keyiterator_next_1 _))))
 refine QKq (QKz (QKq (QKq ?_)))
 first|refine QKq (wpAny_typeNameOfWhole_keyiter st.typeIs (QKz ?_))|refine QKq _
 refine QKq (wpAny_fieldsOf g1 g3 ?_)
 refine QKq (QKz (QKq (wpAny_dictEntries h1 h3 ?_)))
 rw[if_neg (by simp)]
 refine QKq (QKz (QKq (wpAny_dictEpoch h1 h3 ?_)))
 rw[if_neg (by simp)]
 refine QKz ?_
 simp only[show¬(i<0) by omega,if_false,Int.toNat_natCast,Array.getElem?_eq_none x]
 refine QKq ?_
 first|refine QKq (wpAny_typeNameOfWhole_keyiter st.typeIs (QKz ?_))|refine QKq _
 show wpAny _ _ (setField _ 0 .none>>=_) _ _ s;refine QKq (wpAny_setField g1 g3 (by simp) ?_)
 show wpAny _ _ _ _ _ _;refine QKq ?_
 refine QKq (Qjq (QKq (wpAny_of_eq (by first|rfl|(simp only[firstArgMember];rfl)) ?_)) (by size_fits))
 refine Qjq ?_ (by size_fits);simp only[raiseNew]
 refine QKq (wpAny_handled ?_);rw[show A.in1.handled=none from hh]
 refine QKq (QKz (wpAny_throw ?_));refine QKq (wpAny_isInstance ⟨_,Qzq _ rfl,rfl⟩ isSubtype_stop ?_)
 exact QKz (q _ (((Heap.SameBut.update ..).extBut.push _).push _))
end
section
variable{s:Shared}
def rC.stay(B:rC h d es ep)(k:∀o,h.get? d=some o->h'.get? d=some o):rC h' d es ep:=let ⟨o,e,r⟩:=B;⟨o,k _ e,r⟩
def rC.lt(B:rC h d es ep):d<h.objs.size:=let ⟨_,e,_⟩:=B;Qqz e
def rC.type(B:rC s.heap d es ep):s.TypeIs (.ref d) "dict":=let ⟨o,e,c,_⟩:=B;⟨o,e,c.1⟩
theorem Ff(hh:A.handled=none)(ne:d≠it):Walks prog w A it [it,d] [it] es.size (fun i v=>∃e,es[i]? =some e/\v=e.key) (fun i h=>h.IsKeyIter it d i es.size ep/\rC h d es ep) where
 sub:=fun b hb=>QCq.mpr (.inl (QDz.mp hb))
 frame:=fun _ _ _ st k=>⟨st.1.at fun o e=>k it QYz o e,st.2.stay fun o e=>k d (QYq _ QYz) o e⟩
 item:=fun i s Q E hi st q=>J4 st.1 st.2 (Array.getElem?_eq_getElem hi) fun h' st' sb=>q _ h' s.toks ⟨es[i],Array.getElem?_eq_getElem hi,rfl⟩ ⟨st',st.2.stay fun o e=>(sb.2 d ne).trans e⟩ fun b o hb e=>(sb.2 b fun z=>hb (QDz.mpr z)).trans e
 done:=fun s Q E st q=>Qc hh st.1 st.2 (QVz _) fun h' eb=>q h' s.toks fun b o hb e=>eb b o (fun z=>hb (QDz.mpr z)) e
 self:=fun _ _ _ _ st q=>wpAny_pyIter_keyiter st.1 q
theorem Qa(y:(d==sysModules)=false):PySem.W.KdlSrc prog w "dict" d d es.size (fun i v=>∃e,es[i]? =some e/\v=e.key) (fun h=>rC h d es ep) where
 type:=fun _ B=>B.type
 there:=fun _ B=>⟨B.lt,B.lt⟩
 keep:=fun _ _ B k=>B.stay fun o e=>k d (.inl rfl) o e
 notList:=by decide
 notTuple:=by decide
 hint:=fun _ _ _ _ B q=>PySem.W.kdl_hint_dict B.type q
 iter:=fun _ _ hh B=>⟨_,_,(fun _ _ q=>J3 y B q),Ff hh (Qvz B.lt),⟨⟨_,Qzq _ rfl,rfl,rfl⟩,B.stay fun o e=>QWq _ e⟩⟩
end
end Mini
end
section
namespace Mini
open PySem L2 PyProof.Rows
def uW(b:Bool)(h:Heap)(it l:Addr)(k:Nat):Prop:=match b with|true=>h.IsListIter it l k|false=>h.IsTupleIter it l k
def zc(b:Bool)(h:Heap)(l:Addr)(xs:Array Value):Prop:=match b with|true=>h.IsList l xs|false=>h.IsTuple l xs
def uW.at{h h':Heap}{k:Nat}(x:uW b h it l k)(e:∀o,h.get? it=some o->h'.get? it=some o):uW b h' it l k:=by
 cases b<;>exact Exists.elim x fun o⟨h1,h2⟩=>⟨o,e o h1,h2⟩
def zc.at{h h':Heap}{xs:Array Value}(x:zc b h l xs)(e:∀o,h.get? l=some o->h'.get? l=some o):zc b h' l xs:=by
 cases b<;>exact Exists.elim x fun o⟨h1,h2⟩=>⟨o,e o h1,h2⟩
def uW.obj{h:Heap}{k:Nat}(x:uW b h it l k):∃o,h.get? it=some o/\∀v,o.data≠ .cell v:=by
 cases b<;>exact Exists.elim x fun o⟨h1,_,h2⟩=>⟨o,h1,fun v z=>by rw[h2]at z;cases z⟩
def uW.lt{h:Heap}{k:Nat}(x:uW b h it l k):it<h.objs.size:=let ⟨_,e,_⟩:=x.obj;Qqz e
section
def oG{i:Nat}{items}{Q:QZq}(hit:s.heap.IsTupleIter it l i)
  (hl:s.heap.IsTuple l items)(hx:items[i]? =some x)
  (hQ:∀h',h'.IsTupleIter it l (i+1)->Heap.SameBut it s.heap h'->Q x {s with heap:=h'}):
  wpAny (model prog w) A (Builtin.SmallTypes.nextOf (.ref it)) Q E s:=by
 obtain⟨o,ho,hc,hd⟩:=id hit
 obtain⟨ol,hol,_,nl,hdl⟩:=hl
 refine QKq (wpAny_callSpecial?_slot hit.typeIs PySem.F.slot_tuple_iterator_next
  (Qzz PySem.F.slot_tuple_iterator_next hit.typeIs PySem.F.entry_tuple_iterator_next ?_ (PySem.F.args_tuple_iterator_next_1 _)))
 show wpAny _ _ (field _ 0>>=_) _ _ s
 refine QKq (QGz ho hd rfl ?_)
 refine QKq (QGz ho hd rfl ?_)
 refine QKq (wpAny_seqItems hol hdl ?_)
 simp only[Int.toNat_natCast,hx]
 refine QKq (wpAny_setField ho hd (by simp) (QKz ⟨x,rfl,QKz (hQ _ ?_ (Heap.SameBut.update ..))⟩))
 exact⟨_,Heap.get?_update_self _ ho (Obj.isFreed_of_fields (Obj.data_mapFields hd _)),(Obj.cls_mapFields ..).trans hc,by
  rw[Obj.data_mapFields hd];simp[rawInt]⟩
def pL{i:Nat}{items}(hh:A.handled=none)
  (hit:s.heap.IsTupleIter it l i)(hl:s.heap.IsTuple l items)(hx:items[i]? =none)
  (hE:∀h' e,Heap.ExtBut it s.heap h'->(∃o,h'.get? e=some o/\o.cls=.type "StopIteration")->E (.ref e) {s with heap:=h'}):
  wpAny (model prog w) A (Builtin.SmallTypes.nextOf (.ref it)) Q E s:=by
 obtain⟨o,ho,hc,hd⟩:=id hit
 obtain⟨ol,hol,_,nl,hdl⟩:=hl
 refine QKq (wpAny_callSpecial?_slot hit.typeIs PySem.F.slot_tuple_iterator_next
  (Qzz PySem.F.slot_tuple_iterator_next hit.typeIs PySem.F.entry_tuple_iterator_next ?_ (PySem.F.args_tuple_iterator_next_1 _)))
 show wpAny _ _ (field _ 0>>=_) _ _ s
 refine QKq (QGz ho hd rfl ?_)
 refine QKq (QGz ho hd rfl ?_)
 refine QKq (wpAny_seqItems hol hdl ?_)
 simp only[Int.toNat_natCast,hx]
 refine QKq (wpAny_rule (QKq (wpAny_setField ho hd (by simp) ?_)))
 refine QKq ?_
 refine QKq (Qjq ?_ (by size_fits))
 refine QKq (wpAny_of_eq (by first|rfl|(simp only[firstArgMember];rfl)) ?_)
 refine Qjq ?_ (by size_fits)
 refine QKq (wpAny_handled ?_)
 first|rw[show A.in1.handled=none from hh]|rw[hh]
 refine QKq (QKz (wpAny_throw (hE _ _ (((Heap.SameBut.update ..).extBut.push _).push _) ⟨_,Qzq _ rfl,rfl⟩)))
theorem gm{it l:Addr}{items}{Q:QZq}(hit:uW b s.heap it l i)
  (hl:zc b s.heap l items)(hx:items[i]? =some x)(hQ:∀h',uW b h' it l (i+1)->Heap.SameBut it s.heap h'->Q x {s with heap:=h'}):
  wpAny (model prog w) A (Builtin.SmallTypes.nextOf (.ref it)) Q E s:=by
 cases b with
 |true=>exact wpAny_nextOf_list_item hit hl hx hQ
 |false=>exact oG hit hl hx hQ
theorem lX{it l:Addr}{items}(hh:A.handled=none)
  (hit:uW b s.heap it l i)(hl:zc b s.heap l items)(hx:items[i]? =none)
  (hE:∀h' e,Heap.ExtBut it s.heap h'->(∃o,h'.get? e=some o/\o.cls=.type "StopIteration")->E (.ref e) {s with heap:=h'}):
  wpAny (model prog w) A (Builtin.SmallTypes.nextOf (.ref it)) Q E s:=by
 cases b with
 |true=>exact wpAny_nextOf_list_end hh hit hl hx hE
 |false=>exact pL hh hit hl hx hE
end
def jT(h:Heap)(z TI TO:Addr)(f0 f1:Value):Prop:=
 h.get? z=some {cls:=.type "zip",dict:=none,data:=.fields #[f0,f1,.bool false,.ref TI,.ref TO],slots:= #[]}
def F0(f0:Value):Prop:=f0=.none\/∃T:Nat,f0=rawInt T
section
def nP{a:Addr}(h:Q (s.heap.get? a) s):wpAny M A (loadIfAlive a) Q E s:=fun Γ p hΓ=>by
 show Sem.wp M Γ _ _ _ p s
 exact(QKz (M:=M) (E:=E) h) Γ p hΓ
theorem zj{z TI TO:Addr}{f0 f1:Value}(hz:jT s.heap z TI TO f0 f1)(h0:F0 f0)(hQ1:Q true s)
  (hQ2:∀h' g1,jT h' z TI TO f0 g1->Heap.SameBut z s.heap h'->Q false {s with heap:=h'}):wpAny (model prog w) A (Builtin.SmallTypes.ownedTupleIsFree (.ref z)) Q E s:=by
 rcases h0 with rfl|⟨T,rfl⟩
 ·exact QKq (QGz hz rfl rfl (QKz hQ1))
 ·refine QKq (QGz hz rfl rfl ?_)
  refine QKq (nP ?_)
  cases hT:s.heap.get? _ with
  |none=>exact QKz hQ1
  |some o=>
   refine QKq (QGz hz rfl (x:=f1) rfl ?_)
   by_cases hf:(f1 != .bool true)=true
   ·rw[if_pos hf]
    refine QKq (wpAny_setField_rec hz (by simp) fun h' hz' hs'=>QKz (hQ2 h' _ hz' hs'))
   ·rw[if_neg hf]
    exact QKz (hQ2 s.heap f1 hz (Heap.SameBut.refl ..))
structure Qn(z TI TO i1 i2:Addr)(b1 b2:Bool)(l1 l2:Addr)(k1 k2:Nat)(T:Addr)(x y:Value)(h h':Heap):Prop where
 zr:∃f0 f1,jT h' z TI TO f0 f1/\F0 f0
 ti:IsPair h' TI (.ref i1) (.ref i2)
 to:∃a b,IsPair h' TO a b
 it1:uW b1 h' i1 l1 k1
 it2:uW b2 h' i2 l2 k2
 new:IsPair h' T x y
 size:h'.objs.size=T+1
 keep:∀c o,c≠z->c≠TO->c≠i1->c≠i2->h.get? c=some o->h'.get? c=some o
def HH{z TI TO i1 i2 l1 l2:Addr}{k1 k2:Nat}{xs ys:Array Value}{Q:QZq}(D:ZipApart z TI TO i1 i2 l1 l2)
  (hz:jT s.heap z TI TO f0 f1)(h0:F0 f0)(hTI:IsPair s.heap TI (.ref i1) (.ref i2))(hTO:IsPair s.heap TO a b)
  (h1:uW b1 s.heap i1 l1 k1)(h2:uW b2 s.heap i2 l2 k2)(hl1:zc b1 s.heap l1 xs)(hl2:zc b2 s.heap l2 ys)(hx:xs[k1]? =some x)(hy:ys[k2]? =some y)
  (hQ:∀h',Qn z TI TO i1 i2 b1 b2 l1 l2 (k1+1) (k2+1) s.heap.objs.size x y s.heap h'->Q (.ref s.heap.objs.size) {s with heap:=h'}):
  wpAny (model prog w) A (Builtin.«zip.__next__» ⟨[.ref z],[]⟩) (fun fin s'=>∃v,fin=.done (.ret v)/\Q v s') E s:=by
 show wpAny _ _ (field (.ref z) 2>>=_) _ _ _
 refine QKq (QGz hz rfl rfl ?_)
 refine QKq (QGz hz rfl rfl ?_)
 refine QKq (wpAny_seqItems hTI rfl ?_)
 refine QKq (zj hz h0 ?_ ?_)
 ·--the tuple of its own is used again
  refine QKq (wpAny_rule ?_)
  refine QKq (QGz hz rfl rfl ?_)
  refine QKq (wpAny_setField_rec hz (by simp) fun Δ Θ ι=>?_)
  replace Θ:jT Δ z TI TO .ellipsis f1:=Θ
  refine QKq ?_
  refine QKq (QKq (wpAny_onRaise ?_))
  refine QKq (gm (h1.at fun o e=>ι.extBut _ _ D.i1z e) (hl1.at fun o e=>ι.extBut _ _ D.l1z e) hx fun Φ h1₂ μ=>QKz ?_)
  have hTO₂:=μ.extBut _ _ D.TOi1 (ι.extBut _ _ D.TOz hTO)
  refine QKq (wpAny_seqItems hTO₂ rfl ?_)
  refine QKq (wpAny_updateSeq_pair hTO₂ fun h₃ hTO₃ ψ=>?_)
  replace hTO₃:IsPair h₃ TO x b:=hTO₃
  refine QKq (wpAny_letGo (QKz ?_))
  refine QKq (QKq (wpAny_onRaise ?_))
  refine QKq (gm (h2.at fun o e=>ψ.extBut _ _ D.TOi2.symm (μ.extBut _ _ D.i12.symm (ι.extBut _ _ D.i2z e)))
   (hl2.at fun o e=>ψ.extBut _ _ D.l2TO (μ.extBut _ _ D.l2i1 (ι.extBut _ _ D.l2z e))) hy fun h₄ h2₄ χ=>QKz ?_)
  have hTO₄:=χ.extBut _ _ D.TOi2 hTO₃
  refine QKq (wpAny_seqItems hTO₄ rfl ?_)
  refine QKq (wpAny_updateSeq_pair hTO₄ fun h₅ hTO₅ Ψ=>?_)
  replace hTO₅:IsPair h₅ TO x y:=hTO₅
  refine QKq (wpAny_letGo (QKz (QKz ?_)))
  refine QKq (wpAny_seqItems hTO₅ rfl ?_)
  refine QKq (wpAny_newTuple ?_)
  have hsz:h₅.objs.size=s.heap.objs.size:=by rw[Ψ.1,χ.1,ψ.1,μ.1,ι.1]
  have hz₅:=Ψ.extBut _ _ D.TOz.symm (χ.extBut _ _ D.i2z.symm (ψ.extBut _ _ D.TOz.symm (μ.extBut _ _ D.i1z.symm Θ)))
  have hk₅:∀c o,c≠z->c≠TO->c≠i1->c≠i2->s.heap.get? c=some o->h₅.get? c=some o:=fun c o c1 c2 c3 c4 e=>
   Ψ.extBut _ _ c2 (χ.extBut _ _ c4 (ψ.extBut _ _ c2 (μ.extBut _ _ c3 (ι.extBut _ _ c1 e))))
  have hzlt:=Qqz hz₅
  refine QKq ?_
  refine QKq (wpAny_setField_rec (QWq _ hz₅) (by simp) fun h₇ hz₇ hs₇=>?_)
  replace hz₇:jT h₇ z TI TO (rawInt h₅.objs.size) f1:=hz₇
  refine wpAny_setField_rec hz₇ (by simp) fun h₈ hz₈ hs₈=>?_
  replace hz₈:jT h₈ z TI TO (rawInt h₅.objs.size) (.bool false):=hz₈
  have up:∀c o,c≠z->h₅.get? c=some o->h₈.get? c=some o:=fun c o c1 e=>hs₈.extBut _ _ c1 (hs₇.extBut _ _ c1 (QWq _ e))
  have hT₈:=hs₈.extBut _ _ (Nat.ne_of_gt hzlt) (hs₇.extBut _ _ (Nat.ne_of_gt hzlt) (Qzq _ rfl))
  have hz8:h₈.objs.size=h₅.objs.size+1:=by rw[hs₈.1,hs₇.1,Heap.size_push]
  rw[hsz]at hz₈ hT₈ hz8
  refine QKz ⟨_,rfl,?_⟩
  rw[hsz]
  exact hQ h₈ ⟨⟨_,_,hz₈,.inr ⟨_,rfl⟩⟩,up _ _ D.TIz (hk₅ _ _ D.TIz D.TITO D.TIi1 D.TIi2 hTI),⟨_,_,up _ _ D.TOz hTO₅⟩,(h1₂.at fun o e=>Ψ.extBut _ _ D.TOi1.symm (χ.extBut _ _ D.i12 (ψ.extBut _ _ D.TOi1.symm e))).at fun o e=>up _ o D.i1z e,(h2₄.at fun o e=>Ψ.extBut _ _ D.TOi2.symm e).at fun o e=>up _ o D.i2z e,hT₈,hz8,fun c o c1 c2 c3 c4 e=>up c o c1 (hk₅ c o c1 c2 c3 c4 e)⟩
 ·--it was kept:a new one
  intro Δ g1 Θ ι
  refine QKq ?_
  refine QKq (QKq (Qqq ?_))
  refine QKq (gm (h1.at fun o e=>ι.extBut _ _ D.i1z e) (hl1.at fun o e=>ι.extBut _ _ D.l1z e) hx fun Φ h1₂ μ=>QKz ?_)
  refine QKz ?_
  refine QKq (QKq (Qqq ?_))
  refine QKq (gm (h2.at fun o e=>μ.extBut _ _ D.i12.symm (ι.extBut _ _ D.i2z e))
   (hl2.at fun o e=>μ.extBut _ _ D.l2i1 (ι.extBut _ _ D.l2z e)) hy fun h₄ h2₄ χ=>QKz ?_)
  refine QKz (QKz ?_)
  have hsz:h₄.objs.size=s.heap.objs.size:=by rw[χ.1,μ.1,ι.1]
  have hk:∀c o,c≠z->c≠i1->c≠i2->s.heap.get? c=some o->h₄.get? c=some o:=fun c o c1 c3 c4 e=>χ.extBut _ _ c4 (μ.extBut _ _ c3 (ι.extBut _ _ c1 e))
  refine QKq (wpAny_newTuple (QKz ⟨_,rfl,?_⟩) (by show 2<=sizeLine;rw[sizeLine_eq];decide))
  have T:Qn z TI TO i1 i2 b1 b2 l1 l2 (k1+1) (k2+1) s.heap.objs.size x y s.heap (h₄.push {cls:=.type "tuple",data:=.seq #[x,y]}):=by
   refine⟨⟨f0,g1,QWq _ (χ.extBut _ _ D.i2z.symm (μ.extBut _ _ D.i1z.symm Θ)),h0⟩,QWq _ (hk _ _ D.TIz D.TIi1 D.TIi2 hTI),⟨a,b,QWq _ (hk _ _ D.TOz D.TOi1 D.TOi2 hTO)⟩,
    h1₂.at fun o e=>QWq _ (χ.extBut _ _ D.i12 e),h2₄.at fun o e=>QWq _ e,?_,by rw[Heap.size_push,hsz],fun c o c1 c2 c3 c4 e=>QWq _ (hk c o c1 c3 c4 e)⟩
   rw[<-hsz]
   exact Qzq _ rfl
  rw[hsz]
  exact hQ _ T
theorem Km{z TI TO i1 i2 l1 l2:Addr}{k1 k2:Nat}{a b f0 f1:Value}(hh:A.handled=none)(D:ZipApart z TI TO i1 i2 l1 l2)
  (hz:jT s.heap z TI TO f0 f1)(h0:F0 f0)(hTI:IsPair s.heap TI (.ref i1) (.ref i2))(hTO:IsPair s.heap TO a b)
  (h1:uW b1 s.heap i1 l1 k1)(h2:uW b2 s.heap i2 l2 k2)(hl1:zc b1 s.heap l1 xs)(hl2:zc b2 s.heap l2 ys)(hend:xs[k1]? =none\/ys[k2]? =none)
  (hE:∀h' e,(∀c o,c≠z->c≠TO->c≠i1->c≠i2->s.heap.get? c=some o->h'.get? c=some o)->(∃o,h'.get? e=some o/\o.cls=.type "StopIteration")->E (.ref e) {s with heap:=h'}):
  wpAny (model prog w) A (Builtin.«zip.__next__» ⟨[.ref z],[]⟩) Q E s:=by
 show wpAny _ _ (field _ 2>>=_) _ _ _
 refine QKq (QGz hz rfl rfl ?_)
 refine QKq (QGz hz rfl rfl ?_)
 refine QKq (wpAny_seqItems hTI rfl ?_)
 refine QKq (zj hz h0 ?_ ?_)
 ·simp only[if_true]
  refine QKq (wpAny_rule ?_)
  refine QKq (QGz hz rfl rfl ?_)
  refine QKq (wpAny_setField_rec hz (by simp) fun Δ Θ ι=>?_)
  replace Θ:jT Δ z TI TO .ellipsis f1:=Θ
  refine QKq ?_
  refine QKq (QKq (wpAny_onRaise ?_))
  cases hx:xs[k1]? with
  |none=>
   refine QKq (lX hh (h1.at fun o e=>ι.extBut _ _ D.i1z e) (hl1.at fun o e=>ι.extBut _ _ D.l1z e) hx fun Φ e μ he=>?_)
   obtain⟨oe,hoe,hce⟩:=he
   have hz₂:jT Φ z TI TO .ellipsis f1:=μ _ _ D.i1z.symm Θ
   refine wpAny_setField_rec hz₂ (by simp) fun h₃ _ ψ=>hE h₃ e (fun c o c1 _ c3 _ x=>ψ.extBut _ _ c1 (μ _ _ c3 (ι.extBut _ _ c1 x))) ⟨oe,ψ.extBut _ _ (fun x=>by subst x;unfold jT at hz₂;rw[hz₂]at hoe;cases hoe;simp at hce) hoe,hce⟩
  |some x=>
   have hy:ys[k2]? =none:=by
    rcases hend with h|h
    ·rw[hx]at h;cases h
    ·exact h
   refine QKq (gm (h1.at fun o e=>ι.extBut _ _ D.i1z e) (hl1.at fun o e=>ι.extBut _ _ D.l1z e) hx fun Φ h1₂ μ=>QKz ?_)
   have hTO₂:=μ.extBut _ _ D.TOi1 (ι.extBut _ _ D.TOz hTO)
   refine QKq (wpAny_seqItems hTO₂ rfl ?_)
   refine QKq (wpAny_updateSeq_pair hTO₂ fun h₃ hTO₃ ψ=>?_)
   refine QKq (wpAny_letGo (QKz ?_))
   refine QKq (QKq (wpAny_onRaise ?_))
   refine QKq (lX hh (h2.at fun o e=>ψ.extBut _ _ D.TOi2.symm (μ.extBut _ _ D.i12.symm (ι.extBut _ _ D.i2z e)))
    (hl2.at fun o e=>ψ.extBut _ _ D.l2TO (μ.extBut _ _ D.l2i1 (ι.extBut _ _ D.l2z e))) hy fun h₄ e χ he=>?_)
   obtain⟨oe,hoe,hce⟩:=he
   have hz₄:jT h₄ z TI TO .ellipsis f1:=χ _ _ D.i2z.symm (ψ.extBut _ _ D.TOz.symm (μ.extBut _ _ D.i1z.symm Θ))
   refine wpAny_setField_rec hz₄ (by simp) fun h₅ _ Ψ=>hE h₅ e (fun c o c1 c2 c3 c4 x=>Ψ.extBut _ _ c1 (χ _ _ c4 (ψ.extBut _ _ c2 (μ.extBut _ _ c3 (ι.extBut _ _ c1 x))))) ⟨oe,Ψ.extBut _ _ (fun x=>by subst x;unfold jT at hz₄;rw[hz₄]at hoe;cases hoe;simp at hce) hoe,hce⟩
 ·intro Δ g1 Θ ι
  refine QKq ?_
  refine QKq (QKq (Qqq ?_))
  cases hx:xs[k1]? with
  |none=>
   exact QKq (lX hh (h1.at fun o e=>ι.extBut _ _ D.i1z e) (hl1.at fun o e=>ι.extBut _ _ D.l1z e) hx fun Φ e μ he=>hE Φ e (fun c o c1 _ c3 _ x=>μ _ _ c3 (ι.extBut _ _ c1 x)) he)
  |some x=>
   have hy:ys[k2]? =none:=by
    rcases hend with h|h
    ·rw[hx]at h;cases h
    ·exact h
   refine QKq (gm (h1.at fun o e=>ι.extBut _ _ D.i1z e) (hl1.at fun o e=>ι.extBut _ _ D.l1z e) hx fun Φ h1₂ μ=>QKz ?_)
   refine QKz ?_
   refine QKq (QKq (Qqq ?_))
   exact QKq (lX hh (h2.at fun o e=>μ.extBut _ _ D.i12.symm (ι.extBut _ _ D.i2z e))
    (hl2.at fun o e=>μ.extBut _ _ D.l2i1 (ι.extBut _ _ D.l2z e)) hy fun h₄ e χ he=>hE h₄ e (fun c o c1 _ c3 c4 x=>χ _ _ c4 (μ.extBut _ _ c3 (ι.extBut _ _ c1 x))) he)
def q9{z TI TO i1 i2 l1 l2:Addr}{k1 k2:Nat}{x y a b f0 f1:Value}(D:ZipApart z TI TO i1 i2 l1 l2)
  (hz:jT s.heap z TI TO f0 f1)(h0:F0 f0)(hTI:IsPair s.heap TI (.ref i1) (.ref i2))(hTO:IsPair s.heap TO a b)
  (h1:uW b1 s.heap i1 l1 k1)(h2:uW b2 s.heap i2 l2 k2)(hl1:zc b1 s.heap l1 xs)(hl2:zc b2 s.heap l2 ys)(hx:xs[k1]? =some x)(hy:ys[k2]? =some y)
  (hQ:∀h',Qn z TI TO i1 i2 b1 b2 l1 l2 (k1+1) (k2+1) s.heap.objs.size x y s.heap h'->Q (some (.ref s.heap.objs.size)) {s with heap:=h'}):
  wpAny (model prog w) A (pyNext (.ref z)) Q E s:=by
 have hT:s.TypeIs (.ref z) "zip":=⟨_,hz,rfl⟩
 exact QKq (wpAny_attempt (wpAny_callSpecial?_slot hT PySem.F.slot_zip_next
  (Qzz PySem.F.slot_zip_next hT PySem.F.entry_zip_next
   (HH D hz h0 hTI hTO h1 h2 hl1 hl2 hx hy fun h' T=>QKz (hQ h' T)) (PySem.F.args_zip_next_1 _))))
def sY{z TI TO i1 i2 l1 l2:Addr}{k1 k2:Nat}{a b f0 f1:Value}(hh:A.handled=none)(D:ZipApart z TI TO i1 i2 l1 l2)
  (hz:jT s.heap z TI TO f0 f1)(h0:F0 f0)(hTI:IsPair s.heap TI (.ref i1) (.ref i2))(hTO:IsPair s.heap TO a b)
  (h1:uW b1 s.heap i1 l1 k1)(h2:uW b2 s.heap i2 l2 k2)(hl1:zc b1 s.heap l1 xs)(hl2:zc b2 s.heap l2 ys)(hend:xs[k1]? =none\/ys[k2]? =none)
  (hQ:∀h',(∀c o,c≠z->c≠TO->c≠i1->c≠i2->s.heap.get? c=some o->h'.get? c=some o)->Q none {s with heap:=h'}):wpAny (model prog w) A (pyNext (.ref z)) Q E s:=by
 have hT:s.TypeIs (.ref z) "zip":=⟨_,hz,rfl⟩
 refine QKq (wpAny_attempt (wpAny_callSpecial?_slot hT PySem.F.slot_zip_next
  (Qzz PySem.F.slot_zip_next hT PySem.F.entry_zip_next (Km hh D hz h0 hTI hTO h1 h2 hl1 hl2 hend fun h' e hk he=>?_) (PySem.F.args_zip_next_1 _))))
 obtain⟨o,ho,hc⟩:=he
 exact QKq (wpAny_isInstance ⟨o,ho,hc⟩ isSubtype_stop (QKz (hQ _ hk)))
end
section
theorem Jp{z TI TO T:Addr}{f0 f1:Value}(hz:jT s.heap z TI TO f0 f1)(h0:F0 f0)
  (hQ:∀h' g0,jT h' z TI TO g0 f1->F0 g0->Heap.SameBut z s.heap h'->Q () {s with heap:=h'}):wpAny (model prog w) A (letOwnedTupleGo tg (.ref z) (.ref T)) Q E s:=by
 have same:=hQ s.heap f0 hz h0 (Heap.SameBut.refl ..)
 have go:wpAny (model prog w) A (do
   let o<-load z
   match o.cls,o.data with
   |.type n,.fields vs=>
    if ["enumerate","zip","dict_itemiterator","dict_reverseitemiterator","odict_iterator","itertools.zip_longest","itertools.pairwise"].contains n&&vs[0]? ==some (rawInt T)then
     rule "for.unpacks-the-owned-tuple"
     updateField z 0 .none
   |_,_=>pure ()) Q E s:=by
  refine QKq (wpAny_load hz ?_)
  show wpAny _ _ (if (["enumerate","zip","dict_itemiterator","dict_reverseitemiterator","odict_iterator","itertools.zip_longest","itertools.pairwise"].contains "zip"&&
   (#[f0,f1,.bool false,.ref TI,.ref TO])[0]? ==some _)=true then _ else _) Q E s
  split
  ·exact QKq (wpAny_rule (wpAny_setField_rec hz (by simp) fun h' hz' hs'=>hQ h' .none hz' (.inl rfl) hs'))
  ·exact QKz same
 cases tg<;>first
  |exact QKz same
  |exact go
def jD{z TI TO:Addr}{f0 f1:Value}(hz:jT s.heap z TI TO f0 f1)(h:Q (.ref z) s):wpAny (model prog w) A (pyIter (.ref z)) Q E s:=by
 have hT:s.TypeIs (.ref z) "zip":=⟨_,hz,rfl⟩
 exact wpAny_pyIter_slot hT PySem.F.slot_zip_iter (Qzz PySem.F.slot_zip_iter hT PySem.F.entry_zip_iter (QKz ⟨_,rfl,"zip",_,hT,PySem.F.slot_zip_next.lookup,h⟩) (PySem.F.args_zip_iter_1 _))
end
def itN(b:Bool):String:=if b then "list_iterator" else "tuple_iterator"
abbrev zH1(b1:Bool)(h:Heap)(l1:Addr):Heap:=h.push {cls:=.type (itN b1),data:=.fields #[.ref l1,.int 0 0]}
abbrev zH2(b1 b2:Bool)(h:Heap)(l1 l2:Addr):Heap:=(zH1 b1 h l1).push {cls:=.type (itN b2),data:=.fields #[.ref l2,.int 0 0]}
abbrev zH3(b1 b2:Bool)(h:Heap)(l1 l2:Addr):Heap:=(zH2 b1 b2 h l1 l2).push {cls:=.type "tuple",data:=.seq #[.ref h.objs.size,.ref (zH1 b1 h l1).objs.size]}
abbrev zH4(b1 b2:Bool)(h:Heap)(l1 l2:Addr):Heap:=(zH3 b1 b2 h l1 l2).push {cls:=.type "tuple",data:=.seq #[.none,.none]}
abbrev Zq(b1 b2:Bool)(h:Heap)(l1 l2:Addr):Heap:=(zH4 b1 b2 h l1 l2).push {cls:=.type "zip",data:=.fields #[.none,.bool false,.bool false,.ref (zH2 b1 b2 h l1 l2).objs.size,.ref (zH3 b1 b2 h l1 l2).objs.size]}
def Kl b1 b2 l1 l2 xs ys:
  Meets (Builtin.«zip.__new__» ⟨[.type "zip",.ref l1,.ref l2],[]⟩) (fun _ R s=>zc b1 s.heap l1 xs/\zc b2 s.heap l2 ys/\
   R (.ok (.ret (.ref (zH4 b1 b2 s.heap l1 l2).objs.size))) {s with heap:=Zq b1 b2 s.heap l1 l2}):=
 .of_wp fun prog w A R s h=>by
  obtain⟨hp,g,d,tk,os⟩:=s;obtain⟨hl1,hl2,h⟩:=h
  have hsub:=sub_zip
  cases b1<;>cases b2
  ·have hL1:Heap.IsTuple (Shared.heap ⟨hp,g,d,tk,os⟩) l1 xs:=hl1
   have hL2:Heap.IsTuple (Shared.heap ⟨hp.push {cls:=.type "tuple_iterator",data:=.fields #[.ref l1,.int 0 0]},g,d,tk,os⟩) l2 ys:=hl2.at (b:=false) fun o e=>QWq _ e
   wp_walk using wpAny_pyIter_tuple hL1,wpAny_pyIter_tuple hL2
   exact⟨_,rfl,h⟩
  ·have hL1:Heap.IsTuple (Shared.heap ⟨hp,g,d,tk,os⟩) l1 xs:=hl1
   have hL2:Heap.IsList (Shared.heap ⟨hp.push {cls:=.type "tuple_iterator",data:=.fields #[.ref l1,.int 0 0]},g,d,tk,os⟩) l2 ys:=hl2.at (b:=true) fun o e=>QWq _ e
   wp_walk using wpAny_pyIter_tuple hL1,wpAny_pyIter_list hL2
   exact⟨_,rfl,h⟩
  ·have hL1:Heap.IsList (Shared.heap ⟨hp,g,d,tk,os⟩) l1 xs:=hl1
   have hL2:Heap.IsTuple (Shared.heap ⟨hp.push {cls:=.type "list_iterator",data:=.fields #[.ref l1,.int 0 0]},g,d,tk,os⟩) l2 ys:=hl2.at (b:=false) fun o e=>QWq _ e
   wp_walk using wpAny_pyIter_list hL1,wpAny_pyIter_tuple hL2
   exact⟨_,rfl,h⟩
  ·have hL1:Heap.IsList (Shared.heap ⟨hp,g,d,tk,os⟩) l1 xs:=hl1
   have hL2:Heap.IsList (Shared.heap ⟨hp.push {cls:=.type "list_iterator",data:=.fields #[.ref l1,.int 0 0]},g,d,tk,os⟩) l2 ys:=hl2.at (b:=true) fun o e=>QWq _ e
   wp_walk using wpAny_pyIter_list hL1,wpAny_pyIter_list hL2
   exact⟨_,rfl,h⟩
end Mini
end
section
namespace Mini
open PySem
def uc{w:World}{E:QZq}{a:Addr}{k:Nat}
  (hx:s.heap.get? a=some {cls:=.type "list",dict:=none,data:=.seq xs k,slots:=sl})(hA:A.handled=none)
  (h:∀h' tk,(∀b o,s.heap.get? b=some o->h'.get? b=some o)->Q none {s with heap:=h',toks:=tk}):
  wpAny (model prog w) A (getAttr? (.ref a) "keys") Q E s:=by
 obtain⟨hp,g,d,tk,os⟩:=s
 have hT:∀tk',(⟨hp,g,d,tk',os⟩:Shared).TypeIs (.ref a) "list":=fun _=>⟨_,hx,rfl⟩
 have f1:=sub_AttributeError
 have f3:=F.slot_list_getattribute.lookup
 have f4:=F.slot_list_getattribute.bind (.ref a)
 have f5:=am_list_getattr_none
 repeat (any_goals (first|assumption|exact hT _|((with_reducible show wpAny _ _ (call (Value.builtin "list.__getattribute__") _ _) _ _ _);refine call_meets F.slot_list_getattribute (hT _) am_entry_list_getattribute (F.args_list_getattribute_2 _ _) (meets_getattribute_miss_list a xs k sl "keys" _ (am_miss_of_fast (by kernel_rfl)) (by decide+kernel) (by size_fits)) ⟨hx,hA,fun h' tk' e hx'=>?_⟩)|wp_step))
 obtain⟨t',u',he⟩:=hx'.there
 unfold getattributeRaised
 repeat (any_goals (first|assumption|wp_step))
 all_goals exact h _ _ hx'.keeps
def rn{w:World}{E:QZq}{a:Addr}{k:Nat}
  (hx:s.heap.get? a=some {cls:=.type "tuple",dict:=none,data:=.seq xs k,slots:=sl})(hA:A.handled=none)
  (h:∀h' tk,(∀b o,s.heap.get? b=some o->h'.get? b=some o)->Q none {s with heap:=h',toks:=tk}):
  wpAny (model prog w) A (getAttr? (.ref a) "keys") Q E s:=by
 obtain⟨hp,g,d,tk,os⟩:=s
 have hT:∀tk',(⟨hp,g,d,tk',os⟩:Shared).TypeIs (.ref a) "tuple":=fun _=>⟨_,hx,rfl⟩
 have f1:=sub_AttributeError
 have f3:=F.slot_tuple_getattribute.lookup
 have f4:=F.slot_tuple_getattribute.bind (.ref a)
 have f5:=am_tuple_getattr_none
 repeat (any_goals (first|assumption|exact hT _|((with_reducible show wpAny _ _ (call (Value.builtin "tuple.__getattribute__") _ _) _ _ _);refine call_meets F.slot_tuple_getattribute (hT _) am_entry_tuple_getattribute (F.args_tuple_getattribute_2 _ _) (meets_getattribute_miss_tuple a xs k sl "keys" _ (am_miss_of_fast (by kernel_rfl)) (by decide+kernel) (by size_fits)) ⟨hx,hA,fun h' tk' e hx'=>?_⟩)|wp_step))
 obtain⟨t',u',he⟩:=hx'.there
 unfold getattributeRaised
 repeat (any_goals (first|assumption|wp_step))
 all_goals exact h _ _ hx'.keeps
def mU:typeLookup (.type "zip") "__getattr__"=pure none:=by rw[typeLookup_type,builtinLookup_eq_fast];kernel_rfl
def dg:Slot "zip" "__getattribute__" "zip.__getattribute__":=
 .of (owner:="zip") (n:="__getattribute__") (by rw[typeLookup_type,builtinLookup_eq_fast];kernel_rfl) (by decide+kernel) (by decide+kernel) (by decide+kernel)
  (by first|exact .inl (by decide+kernel)|exact .inr (by decide+kernel)) (by rw[isSubtype_type];kernel_rfl)
def iI:entryFor table "zip.__getattribute__"=some Builtin.«object.__getattribute__»:=
 entryFor_alias (id':="object.__getattribute__") (by kernel_rfl) (by decide+kernel) (by decide+kernel) (by kernel_rfl)
def je a b:argsOk "zip.__getattribute__" ⟨[a,b],[]⟩:=by
 unfold argsOk;kernel_rfl
def gW(a:Addr)(xs:Array Value)(sl:Array (Option Value))(name:Str)(u:Tok)(hmiss:typeLookup (.type "zip") name=pure none)(hname:(["__module__","__name__","__qualname__","__doc__","__annotations__"]:List Str).contains name=false)(hsz:name.length+100<=sizeLine:=by size_fits):
  Meets (Builtin.«object.__getattribute__» ⟨[.ref a,.str name u],[]⟩) (fun A R s=>s.heap.get? a=some {cls:=.type "zip",dict:=none,data:=.fields xs,slots:=sl}/\raisesAttr (.ref a) name A R s):=
 Meets.of_wp fun prog w A R s hs=>by
  obtain⟨hp,g,d,tk,os⟩:=s
  obtain⟨hx,hs⟩:=hs
  repeat (any_goals (first|assumption|wp_step))
  simp only[hname,Qxq,if_false]
  repeat (any_goals (first|assumption|wp_step))
  exact wpAny_raiseAttrError hs.1 hs.2 (attrMsg_fits (by decide+kernel) hsz)
def vz{w:World}{E:QZq}{a:Addr}{sl:Array (Option Value)}
  (hx:s.heap.get? a=some {cls:=.type "zip",dict:=none,data:=.fields xs,slots:=sl})(hA:A.handled=none)
  (h:∀h' tk,(∀b o,s.heap.get? b=some o->h'.get? b=some o)->Q none {s with heap:=h',toks:=tk}):
  wpAny (model prog w) A (getAttr? (.ref a) "keys") Q E s:=by
 obtain⟨hp,g,d,tk,os⟩:=s
 have hT:∀tk',(⟨hp,g,d,tk',os⟩:Shared).TypeIs (.ref a) "zip":=fun _=>⟨_,hx,rfl⟩
 have f1:=sub_AttributeError
 have f3:=dg.lookup
 have f4:=dg.bind (.ref a)
 have f5:=mU
 repeat (any_goals (first|assumption|exact hT _|((with_reducible show wpAny _ _ (call (Value.builtin "zip.__getattribute__") _ _) _ _ _);refine call_meets dg (hT _) iI (je _ _) (gW a xs sl "keys" _ (am_miss_of_fast (by kernel_rfl)) (by decide+kernel) (by size_fits)) ⟨hx,hA,fun h' tk' e hx'=>?_⟩)|wp_step))
 obtain⟨t',u',he⟩:=hx'.there
 unfold getattributeRaised
 repeat (any_goals (first|assumption|wp_step))
 all_goals exact h _ _ hx'.keeps
inductive D where
 |non|bl (b:Bool)|int (i:Int)|str (x:Str)
 |tup (xs:List D)|lst (xs:List D)|eE (ks:List D) (vs:List D)
 deriving Inhabited
inductive Ob where
 |lst (xs:List D)|dct (ks vs:List D)
 deriving Inhabited
def Ob.d:Ob->D
 |.lst xs=>.lst xs
 |.dct ks vs=>.eE ks vs
inductive Sl where
 |un|val (d:D)|own (o:Ob)|bor (o:Ob)
 deriving Inhabited
abbrev Ev:=List Sl
inductive Rv where
 |val (d:D)|new (o:Ob)|ref (i:Nat)
noncomputable def Rv.j8:Rv->Option D
 |.val d=>some d
 |.new o=>some o.d
 |_=>none
noncomputable def Rv.CG:Rv->Option Sl
 |.val d=>some (.val d)
 |.new o=>some (.own o)
 |_=>none
def aZ:List Rv->Option (List D)
 |[]=>some []
 |r::rs=>r.j8.bind fun d=>(aZ rs).map (d:: ·)
inductive Out(α:Type)where
 |ok (a:α) (σ:Ev)|exc (c:Nat) (σ:Ev)|bad
noncomputable def Out.bind{α β:Type}:Out α->(α->Ev->Out β)->Out β
 |.ok a σ,f=>f a σ
 |.exc c σ,_=>.exc c σ
 |.bad,_=>.bad
noncomputable def Out.ao{β:Type}:Out Rv->(D->Ev->Out β)->Out β
 |.ok (.val d) σ,f=>f d σ
 |.ok (.new o) σ,f=>f o.d σ
 |.ok _ _,_=>.bad
 |.exc c σ,_=>.exc c σ
 |.bad,_=>.bad
def Out.cZ{β:Type}(tr:D->Option Bool)(r:Out Rv)(f:Bool->Ev->Out β):Out β:=
 r.ao fun d σ=>match tr d with|some b=>f b σ|none=>.bad
noncomputable def Out.map{α β:Type}(g:α->β):Out α->Out β
 |.ok a σ=>.ok (g a) σ
 |.exc c σ=>.exc c σ
 |.bad=>.bad
def lift{α:Type}(σ:Ev):Option α->Out α
 |some a=>.ok a σ
 |none=>.bad
inductive Zm where
 |add|sub|mul|mod
 deriving DecidableEq
inductive Cm where
 |eq|ne|lt|le|gt|isin|notin|lE
 deriving DecidableEq
inductive Ty where
 |tup|lst|str|bool|int
 deriving DecidableEq
inductive Bi where
 |all|any|tuple|list|sorted|int|dict|len|min
 deriving DecidableEq
inductive Tg where
 |name (i:Nat)|tup (is:List Nat)
inductive E where
 |var (i:Nat)|con (d:D)|glob (k:Nat)
 |nil|cons (h t:E)
 |tup (es:E)|lis (es:E)
 |op (o:Zm) (a b:E)|neg (a:E)|cmp (o:Cm) (a b:E)|chain (ρ υ:Cm) (a b c:E)
 |and (es:E)|or (es:E)|not (a:E)|ite (c a b:E)
 |idx (a i:E)|slc (a lo hi:E)|noneE
 |call (f:Nat) (args:E)|ref (i:Nat)|rd (e:E)
 |isi (a:E) (t:Ty)|bi (b:Bi) (a:E)
 |range1 (a:E)|zip (a b:E)
 |count (a b:E)|popAt (i:Nat) (a:E)|index (a b:E)
 |get2 (d k x:E)|emp
 |comp (nl:Nat) (tg:Tg) (it:E) (cond:E) (elt:E)
inductive S where
 |nil|cons (h t:S)
 |set (i:Nat) (e:E)|setT (is:List Nat) (e:E)|setIx (i:Nat) (ix e:E)
 |expr (e:E)|append (i:Nat) (e:E)
 |ret (e:E)|ite (c:E) (a b:S)|callx (f:Nat) (args:E)
 |for_ (tg:Tg) (it:E) (b:S)|while_ (c:E) (b:S)
 |raise (c:Nat)|brk|cont
abbrev AAG:E:=.con (.int 1)
abbrev AAH:E:=.idx (.var 0) (.con (.int 0))
abbrev AAL:E:=.con (.bl true)
abbrev AAP:E:=.con (.int 2)
abbrev AAQ:S:=.cons (.ret (.con (.bl false))) .nil
abbrev AAR:S:=.cons (.set 6 (.call 47 (.cons (.var 1) (.cons (.var 2) (.cons (.var 4) (.cons (.var 5) .nil)))))) (.cons (.ret (.and (.cons (.isi (.var 6) .tup) (.cons (.isi (.idx (.var 6) (.con (.int 0))) .lst) (.cons (.cmp .eq (.var 6) (.call 45 (.cons (.var 1) (.cons (.var 2) (.cons (.var 4) (.cons (.var 5) .nil)))))) .nil))))) .nil)
abbrev AAS:E:=.cons (.var 0) .nil
abbrev AAT:E:=.con (.int 3)
abbrev AAV:E:=.cons (.var 1) (.cons (.var 2) .nil)
abbrev AAX:E:=.cons (.con (.str "same")) (.cons (.con (.str "not")) .nil)
abbrev AAZ:E:=.idx (.var 2) (.con (.int 0))
abbrev AAa:E:=.idx (.var 1) (.con (.int 0))
abbrev AAb:E:=.idx (.var 0) AAG
abbrev AAc:E:=.call 29 (.cons (.var 0) (.cons (.ref 1) (.cons AAP .nil)))
abbrev AAd:E:=.con (.int 0)
abbrev AAe:E:=.idx (.var 2) AAG
abbrev AAf:E:=.idx (.var 0) AAP
abbrev AAg:E:=.cons (.var 3) .nil
abbrev AAh:E:=.call 28 (.cons (.var 1) (.cons (.op .add AAG (.var 0)) (.cons (.var 4) .nil)))
abbrev AAi:E:=.cons (.var 1) .nil
abbrev AAj:E:=.cons (.con (.str "p")) (.cons (.con (.str "q")) (.cons (.con (.str "rr")) (.cons (.con (.str "go")) (.cons (.con (.str "abcdef")) .nil))))
abbrev AAk:E:=.cons (.op .add (.idx (.var 7) (.var 0)) (.idx (.var 3) (.index (.var 5) (.var 0)))) (.cons (.index (.var 5) (.var 0)) .nil)
abbrev AAl:S:=.cons (.ret (.or (.cons (.bi .all (.var 4)) (.cons (.and (.cons (.var 1) (.cons (.bi .any (.var 4)) .nil))) .nil)))) .nil
abbrev AAm:E:=.con (.str "held")
abbrev AAn:S:=.cons (.set 3 (.call 41 (.cons AAb AAV))) (.cons (.ret (.idx (.lis (.cons (.var 2) AAg)) (.bi .int (.cmp .eq (.idx (.var 1) AAf) (.cmp .eq (.var 3) (.idx (.var 0) AAT)))))) .nil)
abbrev AAo:E:=.and (.cons (.cmp .gt (.bi .len (.var 5)) (.var 3)) (.cons (.or (.cons (.cmp .gt (.bi .len (.var 5)) (.var 4)) (.cons (.cmp .eq AAc AAG) .nil))) .nil))
abbrev AAp:S:=.set 3 (.idx (.lis (.cons (.con (.int 4)) (.cons (.con (.int 99)) .nil))) (.call 28 (.cons (.var 0) (.cons AAd (.cons AAP .nil)))))
abbrev AAq:E:=.cmp .ne (.call 15 (.cons (.var 1) (.cons (.idx (.var 4) (.var 0)) (.cons (.var 4) .nil)))) (.idx (.var 4) (.var 0))
abbrev AAr:E:=.idx (.var 1) AAG
abbrev AAs:E:=.con (.str "a")
abbrev AAt:S:=.cons (.expr (.popAt 5 (.call 29 (.cons (.var 0) (.cons (.ref 1) (.cons (.bi .len (.var 5)) .nil)))))) .nil
abbrev AAu:E:=.con (.str "same")
abbrev AAv:E:=.cons (.con (.int 4)) .nil
abbrev AAw:E:=.cmp .ne (.call 41 (.cons AAb (.cons (.var 3) (.cons (.idx (.var 3) AAH) .nil)))) (.idx (.var 3) AAH)
abbrev AAx:S:=.cons (.set 5 (.call 28 (.cons (.var 0) (.cons (.con (.int 8)) (.cons (.con (.int 41)) .nil))))) AAR
abbrev AAy:E:=.con (.str "and")
abbrev AAz:E:=.cons AAT .nil
abbrev ABG:E:=.cons AAP .nil
abbrev ABH:E:=.and (.cons (.cmp .isin AAL (.var 4)) (.cons (.cmp .isin (.con (.bl false)) (.var 4)) .nil))
abbrev ABI:E:=.idx (.var 2) (.call 29 (.cons (.var 0) (.cons (.ref 1) (.cons (.bi .len (.var 2)) .nil))))
abbrev ABJ:E:=.con (.str "table")
abbrev ABK:E:=.con (.str "or")
abbrev ABL:E:=.con (.str "both")
abbrev ABM:S:=.cons (.ret (.tup (.cons (.var 8) (.cons (.con (.str "on")) .nil)))) .nil
abbrev ABN:E:=.cons (.var 0) (.cons (.ref 2) .nil)
abbrev ABO:E:=.con (.str "b")
abbrev ABP:S:=.setT [1,2] (.call 39 (.cons (.var 0) (.cons (.con (.int 9)) .nil)))
abbrev ABQ:E:=.cons AAd .nil
abbrev ABR:E:=.cons (.var 0) (.cons (.get2 (.var 2) (.var 0) (.var 3)) .nil)
abbrev ABS:E:=.op .add AAG (.call 29 (.cons (.var 0) (.cons (.ref 1) AAg)))
abbrev ABT:E:=.cmp .gt (.call 29 (.cons (.var 1) (.cons (.ref 2) AAz))) AAd
abbrev ABU:E:=.cmp .eq (.call 29 (.cons (.var 1) (.cons (.ref 2) ABG))) AAG
abbrev ABV:E:=.cmp .eq (.call 29 (.cons (.var 0) (.cons (.ref 2) ABG))) AAG
abbrev ABW:S:=.cons (.ret (.cmp .notin (.con (.bl false)) (.var 4))) .nil
abbrev ABX:E:=.cons (.bi .len (.var 1)) .nil
abbrev ABY:E:=.con (.str "q")
abbrev ABZ:E:=.con (.str "p")
abbrev ABa:S:=.cons (.ret (.cmp .isin (.bi .tuple (.var 4)) AAf)) .nil
abbrev ABb:E:=.cons (.var 2) .nil
abbrev ABc:E:=.bi .tuple (.var 5)
abbrev ABd:E:=.bi .len (.idx (.var 1) AAP)
abbrev ABe:E:=.cons AAG .nil
abbrev ABf:E:=.idx (.var 2) AAb
abbrev ABg:E:=.idx (.var 1) AAb
abbrev ABh:E:=.cons (.var 0) (.cons AAG (.cons (.glob 9) .nil))
abbrev ABi:S:=.cons (.ret (.call 16 (.cons (.var 0) AAV))) .nil
abbrev ABj:E:=.con (.str "not")
abbrev ABk:E:=.bi .len (.var 2)
abbrev ABl:E:=.bi .len (.var 0)
abbrev ABm:S:=.ret (.con .non)
abbrev ABn:E:=.cmp .eq AAc AAG
abbrev ABo:E:=.idx (.var 4) (.var 13)
abbrev ABp:S:=.cons (.ret (.cmp .isin AAL (.var 4))) .nil
abbrev ABq:S:=.cons (.ret (.cmp .isin (.var 4) AAf)) .nil
abbrev ABr:E:=.cmp .eq (.idx (.var 5) (.var 0)) (.var 4)
abbrev ABs:E:=.lis .nil
abbrev ABt:S:=.cons (.raise 0) .nil
abbrev ABu:E:=.con (.non)
abbrev ABv:E:=.cmp .eq (.var 4) AAP
abbrev ABw:E:=.cmp .eq (.var 3) ABJ
abbrev ABx:E:=.cmp .eq (.var 3) AAm
abbrev ABy:E:=.call 3 (.cons (.var 0) (.cons AAP ABG))
abbrev ABz:S:=.cons (.ret (.idx (.var 4) AAd)) .nil
abbrev ACG:S:=.cons (.ret (.bi .any (.var 4))) .nil
abbrev ACH:S:=.cons (.ret (.bi .all (.var 4))) .nil
abbrev ACI:E:=.idx AAr AAe
abbrev ACJ:E:=.cons (.op .sub (.var 3) AAG) .nil
abbrev ACL:E:=.cons (.op .add (.var 2) AAG) .nil
abbrev ACM:E:=.call 40 AAS
abbrev ACN:E:=.call 13 AAS
abbrev ACO:E:=.idx (.idx (.var 3) AAd) (.var 0)
abbrev ACP:E:=.cons (.var 0) (.cons AAZ .nil)
def small(i:Int):Bool:=decide (-18446744073709551616<i/\i<18446744073709551616)
def zb(i:Int):Bool:=decide (-4611686018427387904<=i/\i<4611686018427387904)
def fits(n:Nat):Bool:=decide (n<=16777216)
def b2i(b:Bool):Int:=if b then 1 else 0
def ix?(n:Nat)(i:Int):Option Nat:=
 let j:=if i<0 then i+n else i
 if 0<=j/\j<n then some j.toNat else none
def at?(xs:List D)(i:Int):Option D:=(ix? xs.length i).bind fun k=>xs[k]?
def clip(n:Nat)(i:Int):Nat:=
 let j:=if i<0 then i+n else i
 if j<0 then 0 else if j>n then n else j.toNat
noncomputable def cut(xs:List D)(lo hi:Option Int):List D:=
 let a:=match lo with|some i=>clip xs.length i|none=>0
 let b:=match hi with|some i=>clip xs.length i|none=>xs.length
 (xs.take b).drop a
mutual
def dH:D->D->Bool
 |.non,.non=>true
 |.bl a,.bl b=>a==b
 |.bl a,.int j=>b2i a==j
 |.int i,.bl b=>i==b2i b
 |.int i,.int j=>i==j
 |.str x,.str y=>decide (x=y)
 |.tup xs,.tup ys=>Bk xs ys
 |.lst xs,.lst ys=>Bk xs ys
 |_,_=>false
def Bk:List D->List D->Bool
 |[],[]=>true
 |x::xs,y::ys=>dH x y&&Bk xs ys
 |_,_=>false
end
mutual
def dep:D->Nat
 |.tup xs=>mR xs+1
 |.lst xs=>mR xs+1
 |_=>0
def mR:List D->Nat
 |[]=>0
 |x::xs=>max (dep x) (mR xs)
end
def WW(x:Str):Bool:=x.cps.all fun c=>decide (c<128)
mutual
def nd:D->Bool
 |.str x=>WW x
 |.tup xs=>mV xs
 |.lst xs=>mV xs
 |.eE _ _=>false
 |_=>true
def mV:List D->Bool
 |[]=>true
 |x::xs=>nd x&&mV xs
end
noncomputable def flat:D->Bool
 |.non=>true
 |.bl _=>true
 |.int _=>true
 |.str _=>true
 |_=>false
def j6(a b:D):Bool:=(flat a&&flat b)||(nd a&&decide (dep a<=50)&&nd b)
def gr(a:D)(xs:List D):Bool:=(flat a&&xs.all flat)||(nd a&&decide (dep a<=50)&&mV xs)
def aR(x:D):List D->Bool
 |[]=>false
 |y::ys=>dH y x||aR x ys
def bB(x:D):List D->Nat
 |[]=>0
 |y::ys=>if dH y x then 0 else bB x ys+1
def iB(x:D):List D->Nat
 |[]=>0
 |y::ys=>(if dH y x then 1 else 0)+iB x ys
noncomputable def mK:List Bool->List Bool->Bool
 |[],[]=>false
 |[],_::_=>true
 |_::_,[]=>false
 |x::xs,y::ys=>if x=y then mK xs ys else(!x&&y)
noncomputable def bools:List D->Option (List Bool)
 |[]=>some []
 |.bl b::r=>(bools r).map (b:: ·)
 |_=>none
noncomputable def ltD:D->D->Option Bool
 |.int i,.int j=>some (decide (i<j))
 |.tup xs,.tup ys=>(bools xs).bind fun a=>(bools ys).map fun b=>mK a b
 |_,_=>none
noncomputable def ju:D->Option Bool
 |.non=>some false
 |.bl b=>some b
 |.int i=>some (i !=0)
 |.tup xs=>some (!xs.isEmpty)
 |.lst xs=>some (!xs.isEmpty)
 |_=>none
noncomputable def pR:Ty->D->Bool
 |.tup,.tup _=>true
 |.lst,.lst _=>true
 |.str,.str _=>true
 |.bool,.bl _=>true
 |.int,.int _=>true
 |.int,.bl _=>true
 |_,_=>false
def cH(k:D):List D->List D->Option D
 |k'::ks,v::vs=>if dH k' k then some v else cH k ks vs
 |_,_=>none
noncomputable def keyOk:D->Bool
 |.str _=>true
 |.int _=>true
 |_=>false
def signs(x:Str):List D:=x.cps.toList.map fun c=>D.str ⟨#[c]⟩
noncomputable def items:D->Option (List D)
 |.tup xs=>some xs
 |.lst xs=>some xs
 |.str x=>if fits x.length then some (signs x)else none
 |_=>none
noncomputable def binop:Zm->D->D->Option Rv
 |.add,.int i,.int j=>some (.val (.int (i+j)))
 |.sub,.int i,.int j=>some (.val (.int (i-j)))
 |.mul,.int i,.int j=>if small i||small j then some (.val (.int (i*j)))else none
 |.mod,.int i,.int j=>if 0<j then some (.val (.int (i%j)))else none
 |.add,.tup xs,.tup ys=>if fits (xs.length+ys.length)then some (.val (.tup (xs++ys)))else none
 |.add,.lst xs,.lst ys=>if fits (xs.length+ys.length)then some (.new (.lst (xs++ys)))else none
 |_,_,_=>none
def gh:D->Bool
 |.non=>true
 |_=>false
noncomputable def aN:Cm->D->D->Option Bool
 |.eq,a,b=>if j6 a b then some (dH a b)else none
 |.ne,a,b=>if j6 a b then some (!dH a b)else none
 |.lt,a,b=>ltD a b
 |.gt,.int i,.int j=>some (decide (j<i))
 |.le,.int i,.int j=>some (decide (i<=j))
 |.isin,a,.tup xs=>if gr a xs then some (aR a xs)else none
 |.isin,a,.lst xs=>if gr a xs then some (aR a xs)else none
 |.isin,a,.eE ks _=>if keyOk a then some (aR a ks)else none
 |.isin,.str x,.str y=>if x.length=1 then some (aR (.str x) (signs y))else none
 |.notin,a,.tup xs=>if gr a xs then some (!aR a xs)else none
 |.notin,a,.lst xs=>if gr a xs then some (!aR a xs)else none
 |.notin,a,.eE ks _=>if keyOk a then some (!aR a ks)else none
 |.lE,a,.non=>some (gh a)
 |_,_,_=>none
noncomputable def jY:List D->Option (List (List Bool))
 |[]=>some []
 |.tup ys::r=>match bools ys with
  |some (b::bs)=>(jY r).map ((b::bs):: ·)
  |_=>none
 |_=>none
noncomputable def Ln{α:Type}(f:Nat->Nat->Option Bool):PySem.W.KasT α->Option α
 |.ret a=>some a
 |.ask i j k=>match f i j with
  |some b=>Ln f (k b)
  |none=>none
def acB(rs:List (List Bool))(i j:Nat):Option Bool:=(rs[i]?).bind fun a=>(rs[j]?).map fun b=>mK a b
def ur(xs:List D):List Nat->Option (List D)
 |[]=>some []
 |i::is=>(xs[i]?).bind fun d=>(ur xs is).map (d:: ·)
def acA(xs:List D):Option (Nat->Nat->Option Bool):=match jY xs with
 |some rs=>some (acB rs)
 |none=>none
noncomputable def qz(xs:List D):Option (List D):=
 if xs.length<2 then some xs
 else if xs.length<64 then(acA xs).bind fun f=>(Ln f (PySem.W.kas_sort xs.length)).bind fun p=>if p.size=xs.length then ur xs p.toList else none
 else none
def nZ(k v:D):List D->List D->List D
 |k'::ks,v'::vs=>(if dH k' k then v else v')::nZ k v ks vs
 |_,_=>[]
def putD(k v:D)(ks vs:List D):List D×List D:=if aR k ks then(ks,nZ k v ks vs)else(ks++[k],vs++[v])
noncomputable def dictOf:List D->List D->List D->Option (List D×List D)
 |ks,vs,[]=>some (ks,vs)
 |ks,vs,.tup [k,v]::r=>if keyOk k then let p:=putD k v ks vs;dictOf p.1 p.2 r else none
 |_,_,_=>none
def aV:List D->List D->List D
 |x::xs,y::ys=>.tup [x,y]::aV xs ys
 |_,_=>[]
def bN(lo:Int):Nat->List D
 |0=>[]
 |n+1=>.int lo::bN (lo+1) n
noncomputable def pK:List D->Option (List (Int×Int))
 |[]=>some []
 |.tup [.int a,.int b]::r=>(pK r).map ((a,b):: ·)
 |_=>none
def SX(p q:Int×Int):Bool:=decide (p.1<q.1)||(decide (p.1=q.1)&&decide (p.2<q.2))
def gj(bt:Nat->Nat->Bool):Nat->Nat
 |0=>0
 |k+1=>if bt (k+1) (gj bt k)then k+1 else gj bt k
def Y8(ps:List (Int×Int))(i j:Nat):Bool:=SX (ps.getD i (0,0)) (ps.getD j (0,0))
def Ng(xs:List D):Option D:=(pK xs).bind fun ps=>if xs.isEmpty then none else xs[gj (Y8 ps) (xs.length-1)]?
noncomputable def QG:Bi->List D->Option Rv
 |.all,xs=>(bools xs).map fun bs=>.val (.bl (bs.all id))
 |.any,xs=>(bools xs).map fun bs=>.val (.bl (bs.any id))
 |.tuple,xs=>some (.val (.tup xs))
 |.list,xs=>some (.new (.lst xs))
 |.sorted,xs=>(qz xs).map fun ys=>.new (.lst ys)
 |.dict,xs=>(dictOf [] [] xs).map fun p=>.new (.dct p.1 p.2)
 |.len,_=>none
 |.int,_=>none
 |.min,xs=>(Ng xs).map .val
def E.az:E->Option Nat
 |.var i=>some i
 |_=>none
noncomputable def sV(i:Nat)(σ:Ev):Out Rv:=
 match σ[i]? with
 |some (.val d)=>.ok (.val d) σ
 |some (.own o)=>.ok (.val o.d) (σ.set i (.val o.d))
 |_=>.bad
noncomputable def bA(i:Nat)(σ:Ev):Option D:=
 match σ[i]? with
 |some (.val d)=>some d
 |some (.own o)=>some o.d
 |some (.bor o)=>some o.d
 |_=>none
noncomputable def yo:D->Option Nat
 |.tup xs=>some xs.length
 |.lst xs=>some xs.length
 |.str x=>if fits x.length then some x.length else none
 |_=>none
noncomputable def getD(d:D)(i:D):Option D:=
 match d,i with
 |.tup xs,.int i=>at? xs i
 |.lst xs,.int i=>at? xs i
 |.eE ks vs,k=>if keyOk k then cH k ks vs else none
 |_,_=>none
noncomputable def jB(d:D)(lo hi:Option Int):Option Rv:=
 match d with
 |.tup xs=>some (.val (.tup (cut xs lo hi)))
 |.lst xs=>some (.new (.lst (cut xs lo hi)))
 |_=>none
noncomputable def eX(lE:Bool)(d:D):Option (Option Int):=
 match lE,d with
 |true,_=>some none
 |false,.int i=>some (some i)
 |_,_=>none
def E.lE:E->Bool
 |.noneE=>true
 |_=>false
noncomputable def eO(i:Nat)(s:Sl)(σ:Ev):Option Ev:=
 match σ[i]? with
 |some (.bor _)=>none
 |some _=>some (σ.set i s)
 |none=>none
noncomputable def iY:List Nat->List D->Ev->Option Ev
 |[],[],σ=>some σ
 |i::is,d::ds,σ=>(eO i (.val d) σ).bind (iY is ds)
 |_,_,_=>none
noncomputable def cR:Tg->D->Ev->Option Ev
 |.name i,d,σ=>eO i (.val d) σ
 |.tup is,.tup ds,σ=>iY is ds σ
 |_,_,_=>none
noncomputable def fM(i:Nat)(f:Ob->Option Ob)(σ:Ev):Option Ev:=
 match σ[i]? with
 |some (.own o)=>(f o).map fun q=>σ.set i (.own q)
 |some (.bor o)=>(f o).map fun q=>σ.set i (.bor q)
 |_=>none
def Dt(f:List D->Option (List D)):Ob->Option Ob
 |.lst xs=>(f xs).map .lst
 |_=>none
noncomputable def pI(i v:D):Ob->Option Ob
 |.lst xs=>match i with
  |.int i=>(ix? xs.length i).map fun j=>.lst (xs.set j v)
  |_=>none
 |.dct ks vs=>if keyOk i&&fits (ks.length+1)then let p:=putD i v ks vs;some (.dct p.1 p.2)else none
inductive Res where
 |ok (r:Rv) (ps:List Sl)|exc (c:Nat) (ps:List Sl)|bad
structure Cf where
 fn:Nat->List Sl->Res
 gl:Nat->Option D
 turns:Nat
def mj(i:Nat):Rv->Bool
 |.ref j=>i==j
 |_=>false
def argv:Rv->Rv
 |.new o=>.val o.d
 |x=>x
noncomputable def enter:List Rv->Ev->Option (List Sl)
 |[],_=>some []
 |.val d::as,σ=>(enter as σ).map (.val d:: ·)
 |.new _::_,_=>none
 |.ref i::as,σ=>
  if as.any (mj i)then none else
  match σ[i]? with
  |some (.own o)=>(enter as σ).map (.bor o:: ·)
  |some (.bor o)=>(enter as σ).map (.bor o:: ·)
  |_=>none
noncomputable def giveBack:List Rv->List Sl->Ev->Option Ev
 |[],[],σ=>some σ
 |.ref i::as,.bor o::ps,σ=>(fM i (fun _=>some o) σ).bind (giveBack as ps)
 |.ref _::_,_::_,_=>none
 |_::as,_::ps,σ=>giveBack as ps σ
 |_,_,_=>none
noncomputable def uJ(c:Cf)(f:Nat)(as:List Rv)(σ:Ev):Out Rv:=
 match enter as σ with
 |none=>.bad
 |some ps=>
  match c.fn f ps with
  |.ok r qs=>match giveBack as qs σ with|some ζ=>.ok r ζ|none=>.bad
  |_=>.bad
noncomputable def aQ(tg:Tg)(cond elt:Ev->Out Rv):List D->List D->Ev->Out (List D)
 |[],acc,σ=>.ok acc σ
 |x::xs,acc,σ=>
  match cR tg x σ with
  |none=>.bad
  |some σ₁=>(cond σ₁).cZ ju fun b σ₂=>
   if b then(elt σ₂).ao fun d σ₃=>aQ tg cond elt xs (acc++[d]) σ₃
   else aQ tg cond elt xs acc σ₂
def gQ:Option D->Bool
 |some (.lst _)=>true
 |_=>false
def lC:D->Option (List D)
 |.lst xs=>some xs
 |_=>none
noncomputable def tE(k:Nat)(y:D)(σ:Ev):Out Rv:=
 match y,bA k σ with
 |.int i,some (.lst xs)=>if !fits xs.length then .bad else match ix? xs.length i with
  |some j=>match xs[j]?,fM k (Dt fun xs=>some (xs.eraseIdx j)) σ with
   |some d,some ζ=>.ok (.val d) ζ
   |_,_=>.bad
  |none=>.bad
 |_,_=>.bad
def oU:Option D->Bool
 |some (.eE _ _)=>true
 |_=>false
noncomputable def Bq(x y:D):Option Rv:=
 match x with
 |.tup xs=>if flat y&&xs.all flat then some (.val (.int (iB y xs)))else none
 |.lst xs=>if flat y&&xs.all flat then some (.val (.int (iB y xs)))else none
 |_=>none
noncomputable def Od(x y:D):Option Rv:=
 match x with
 |.lst xs=>if flat y&&xs.all flat&&aR y xs then some (.val (.int (bB y xs)))else none
 |_=>none
noncomputable def oX(d k x:D):Option D:=
 match d with
 |.eE ks vs=>if keyOk k then some ((cH k ks vs).getD x)else none
 |_=>none
noncomputable def bM:D->Option (List D)
 |.tup xs=>some xs
 |.lst xs=>some xs
 |_=>none
def Rn:D->Option (List D)
 |x=>bM x
noncomputable def b1(b:Bi)(x:D):Option Rv:=
 match b with
 |.list=>(Rn x).bind (QG .list)
 |.len=>(yo x).map fun n=>.val (.int n)
 |.int=>match x with|.bl b=>some (.val (.int (b2i b)))|.int i=>some (.val (.int i))|_=>none
 |.sorted=>(lC x).bind (QG .sorted)
 |.min=>(lC x).bind (QG .min)
 |b=>(bM x).bind (QG b)
mutual
noncomputable def ev(c:Cf):E->Ev->Out Rv
 |.var i,σ=>sV i σ
 |.con d,σ=>.ok (.val d) σ
 |.glob k,σ=>match c.gl k with|some d=>.ok (.val d) σ|none=>.bad
 |.tup es,σ=>(evs c es σ).bind fun rs σ=>lift σ ((aZ rs).bind fun ds=>if fits ds.length then some (.val (.tup ds))else none)
 |.lis es,σ=>(evs c es σ).bind fun rs σ=>lift σ ((aZ rs).bind fun ds=>if fits ds.length then some (.new (.lst ds))else none)
 |.op o a b,σ=>(ev c a σ).ao fun x σ=>(ev c b σ).ao fun y σ=>lift σ (binop o x y)
 |.neg a,σ=>(ev c a σ).ao fun x σ=>lift σ (match x with|.int i=>some (.val (.int (-i)))|_=>none)
 |.cmp o a b,σ=>(ev c a σ).ao fun x σ=>match b.az with
  |some k=>lift σ ((bA k σ).bind fun d=>(aN o x d).map fun q=>.val (.bl q))
  |none=>(ev c b σ).ao fun y σ=>lift σ ((aN o x y).map fun q=>.val (.bl q))
 |.chain ρ υ a b d,σ=>(ev c a σ).ao fun x σ=>(ev c b σ).ao fun y σ=>(lift σ (aN ρ x y)).bind fun q σ=>
   if q then(ev c d σ).ao fun z σ=>lift σ ((aN υ y z).map fun q=>.val (.bl q))else .ok (.val (.bl false)) σ
 |.and es,σ=>iT c es σ
 |.or es,σ=>oZ c es σ
 |.not a,σ=>(ev c a σ).cZ ju fun b σ=>.ok (.val (.bl (!b))) σ
 |.ite t a b,σ=>(ev c t σ).cZ ju fun q σ=>if q then ev c a σ else ev c b σ
 |.idx a i,σ=>match a.az with
  |some k=>if (bA k σ).isNone then .bad else(ev c i σ).ao fun y σ=>lift σ ((bA k σ).bind fun d=>(getD d y).map Rv.val)
  |none=>(ev c a σ).ao fun x σ=>(ev c i σ).ao fun y σ=>lift σ ((getD x y).map Rv.val)
 |.slc a lo hi,σ=>(ev c a σ).ao fun x σ=>(ev c lo σ).ao fun l σ=>match eX lo.lE l with
  |none=>.bad
  |some l=>(ev c hi σ).ao fun h σ=>lift σ ((eX hi.lE h).bind fun h=>jB x l h)
 |.noneE,σ=>.ok (.val .non) σ
 |.call f as,σ=>(evs c as σ).bind fun as σ=>uJ c f as σ
 |.ref i,σ=>match σ[i]? with
  |some (.own _)=>.ok (.ref i) σ
  |some (.bor _)=>.ok (.ref i) σ
  |_=>.bad
 |.rd e,σ=>ev c e σ
 |.isi a t,σ=>(ev c a σ).ao fun x σ=>.ok (.val (.bl (pR t x))) σ
 |.bi b a,σ=>match a.az with
  |some k=>lift σ ((bA k σ).bind fun d=>b1 b d)
  |none=>(ev c a σ).ao fun x σ=>lift σ (b1 b x)
 |.range1 a,σ=>(ev c a σ).ao fun x σ=>lift σ (match x with|.int n=>if fits n.toNat&&zb n then some (.val (.lst (bN 0 n.toNat)))else none|_=>none)
 |.zip a b,σ=>(ev c a σ).ao fun x σ=>(ev c b σ).ao fun y σ=>lift σ ((bM x).bind fun xs=>(bM y).map fun ys=>.val (.lst (aV xs ys)))
 |.count a b,σ=>(ev c a σ).ao fun x σ=>if (bM x).isNone then .bad else(ev c b σ).ao fun y σ=>lift σ (Bq x y)
 |.popAt k a,σ=>if !gQ (bA k σ)then .bad else(ev c a σ).ao fun y σ=>tE k y σ
 |.index a b,σ=>(ev c a σ).ao fun x σ=>if (lC x).isNone then .bad else(ev c b σ).ao fun y σ=>lift σ (Od x y)
 |.get2 d k x,σ=>match d.az with
  |some i=>if !oU (bA i σ)then .bad else(ev c k σ).ao fun k σ=>(ev c x σ).ao fun x σ=>lift σ ((bA i σ).bind fun y=>(oX y k x).map Rv.val)
  |none=>.bad
 |.emp,σ=>.ok (.new (.dct [] [])) σ
 |.comp nl tg it cond elt,σ=>(ev c it σ).ao fun x σ=>match items x with
  |some xs=>match aQ tg (ev c cond) (ev c elt) xs [] (List.replicate nl .un++σ)with
   |.ok ys τ=>.ok (.new (.lst ys)) (τ.drop nl)
   |_=>.bad
  |none=>.bad
 |.nil,_=>.bad
 |.cons _ _,_=>.bad
noncomputable def iT(c:Cf):E->Ev->Out Rv
 |.cons h t,σ=>match t with
  |.nil=>ev c h σ
  |t=>(ev c h σ).ao fun x σ=>match x with|.bl true=>iT c t σ|.bl false=>.ok (.val (.bl false)) σ|_=>.bad
 |_,_=>.bad
noncomputable def oZ(c:Cf):E->Ev->Out Rv
 |.cons h t,σ=>match t with
  |.nil=>ev c h σ
  |t=>(ev c h σ).ao fun x σ=>match x with|.bl true=>.ok (.val (.bl true)) σ|.bl false=>oZ c t σ|_=>.bad
 |_,_=>.bad
noncomputable def evs(c:Cf):E->Ev->Out (List Rv)
 |.nil,σ=>.ok [] σ
 |.cons h t,σ=>(ev c h σ).bind fun x σ=>(evs c t σ).bind fun xs σ=>.ok (argv x::xs) σ
 |_,_=>.bad
end
inductive Fl where
 |next (σ:Ev)|ret (r:Rv) (σ:Ev)|brk (σ:Ev)|cont (σ:Ev)|exc (k:Nat) (σ:Ev)|bad
noncomputable def Out.fl{α:Type}:Out α->(α->Ev->Fl)->Fl
 |.ok a σ,f=>f a σ
 |.exc k σ,_=>.exc k σ
 |.bad,_=>.bad
noncomputable def Out.pZ:Out Rv->(D->Ev->Fl)->Fl
 |.ok (.val d) σ,f=>f d σ
 |.ok (.new o) σ,f=>f o.d σ
 |.ok _ _,_=>.bad
 |.exc k σ,_=>.exc k σ
 |.bad,_=>.bad
def Out.O2(r:Out Rv)(f:Bool->Ev->Fl):Fl:=r.pZ fun d σ=>match ju d with|some b=>f b σ|none=>.bad
noncomputable def vd:Rv->Ev->Fl
 |.val d,σ=>.ret (.val d) σ
 |.new o,σ=>.ret (.new o) σ
 |_,_=>.bad
def Fl.seq:Fl->(Ev->Fl)->Fl
 |.next σ,f=>f σ
 |r,_=>r
noncomputable def Fl.turn:Fl->(Ev->Fl)->Fl
 |.next σ,f=>f σ
 |.cont σ,f=>f σ
 |.brk σ,_=>.next σ
 |r,_=>r
noncomputable def cX(tg:Tg)(b:Ev->Fl):List D->Ev->Fl
 |[],σ=>.next σ
 |x::xs,σ=>match cR tg x σ with
  |none=>.bad
  |some σ₁=>(b σ₁).turn (cX tg b xs)
def gA(t:Ev->Out Rv)(b:Ev->Fl):Nat->Ev->Fl
 |0,_=>.bad
 |n+1,σ=>(t σ).O2 fun q σ=>if q then(b σ).turn (gA t b n)else .next σ
def Gy:Option Ev->Fl
 |some σ=>.next σ
 |none=>.bad
noncomputable def acs(c:Cf)(f:Nat)(as:List Rv)(σ:Ev):Fl:=
 match enter as σ with
 |none=>.bad
 |some ps=>
  match c.fn f ps with
  |.ok _ qs=>Gy (giveBack as qs σ)
  |.exc k qs=>match giveBack as qs σ with|some ζ=>.exc k ζ|none=>.bad
  |.bad=>.bad
noncomputable def ex(c:Cf):S->Ev->Fl
 |.nil,σ=>.next σ
 |.cons h t,σ=>(ex c h σ).seq (ex c t)
 |.brk,σ=>.brk σ
 |.cont,σ=>.cont σ
 |.set i e,σ=>(ev c e σ).fl fun x σ=>Gy (x.CG.bind fun s=>eO i s σ)
 |.setT is e,σ=>(ev c e σ).pZ fun x σ=>Gy (cR (.tup is) x σ)
 |.setIx k ix e,σ=>(ev c e σ).pZ fun x σ=>if (bA k σ).isNone then .bad else(ev c ix σ).pZ fun y σ=>Gy (fM k (pI y x) σ)
 |.expr e,σ=>(ev c e σ).pZ fun _ σ=>.next σ
 |.append k e,σ=>if !gQ (bA k σ)then .bad else(ev c e σ).pZ fun x σ=>Gy (fM k (Dt fun xs=>if fits (xs.length+1)then some (xs++[x])else none) σ)
 |.ret e,σ=>match e.az with
  |some i=>match σ[i]? with
   |some (.own o)=>.ret (.new o) (σ.set i .un)
   |_=>(ev c e σ).fl vd
  |none=>(ev c e σ).fl vd
 |.ite t a b,σ=>(ev c t σ).O2 fun q σ=>if q then ex c a σ else ex c b σ
 |.for_ tg it b,σ=>(ev c it σ).pZ fun x σ=>match items x with
  |some xs=>cX tg (ex c b) xs σ
  |none=>.bad
 |.while_ t b,σ=>gA (ev c t) (ex c b) c.turns σ
 |.raise k,σ=>.exc k σ
 |.callx f as,σ=>(evs c as σ).fl fun as σ=>acs c f as σ
structure Fn where
 pars:Nat
 names:Nat
 body:S
noncomputable def ir(c:Cf)(f:Fn)(ps:List Sl):Res:=
 if ps.length=f.pars then
  match ex c f.body (ps++List.replicate (f.names-f.pars) .un)with
  |.next σ=>.ok (.val .non) (σ.take f.pars)
  |.ret r σ=>.ok r (σ.take f.pars)
  |.exc k σ=>.exc k (σ.take f.pars)
  |_=>.bad
 else .bad
structure Pg where
 fns:List Fn
 gl:Nat->Option D
 turns:Nat
 pf:Cf->Nat->List Sl->Res:=fun _ _ _=>.bad
noncomputable def Pg.fn(p:Pg):Nat->Nat->List Sl->Res
 |0,_,_=>.bad
 |n+1,f,ps=>match p.fns[f]? with
  |some g=>ir ⟨p.fn n,p.gl,p.turns⟩ g ps
  |none=>p.pf ⟨p.fn n,p.gl,p.turns⟩ f ps
def Pg.cf(p:Pg)(n:Nat):Cf:=⟨p.fn n,p.gl,p.turns⟩
def v_0 c(i σ):ev c (.var i) σ=sV i σ:=rfl
def v_1 c(d σ):ev c (.con d) σ=.ok (.val d) σ:=rfl
def v_2 c(k σ):ev c (.glob k) σ=match c.gl k with|some d=>.ok (.val d) σ|none=>.bad:=rfl
def v_3 c(es σ):ev c (.tup es) σ=(evs c es σ).bind fun rs σ=>lift σ ((aZ rs).bind fun ds=>if fits ds.length then some (.val (.tup ds))else none):=rfl
def v_4 c(es σ):ev c (.lis es) σ=(evs c es σ).bind fun rs σ=>lift σ ((aZ rs).bind fun ds=>if fits ds.length then some (.new (.lst ds))else none):=rfl
def v_5 c(o a b σ):ev c (.op o a b) σ=(ev c a σ).ao fun x σ=>(ev c b σ).ao fun y σ=>lift σ (binop o x y):=rfl
def v_6 c(a σ):ev c (.neg a) σ=(ev c a σ).ao fun x σ=>lift σ (match x with|.int i=>some (.val (.int (-i)))|_=>none):=rfl
theorem v_7 c(o a b σ):ev c (.cmp o a b) σ=(ev c a σ).ao fun x σ=>match b.az with
  |some k=>lift σ ((bA k σ).bind fun d=>(aN o x d).map fun q=>.val (.bl q))
  |none=>(ev c b σ).ao fun y σ=>lift σ ((aN o x y).map fun q=>.val (.bl q)):=rfl
def v_8 c(ρ υ a b d σ):ev c (.chain ρ υ a b d) σ=(ev c a σ).ao fun x σ=>(ev c b σ).ao fun y σ=>(lift σ (aN ρ x y)).bind fun q σ=>
   if q then(ev c d σ).ao fun z σ=>lift σ ((aN υ y z).map fun q=>.val (.bl q))else .ok (.val (.bl false)) σ:=rfl
def ZG c(es σ):ev c (.and es) σ=iT c es σ:=rfl
def HQ c(es σ):ev c (.or es) σ=oZ c es σ:=rfl
def QZ c(a σ):ev c (.not a) σ=(ev c a σ).cZ ju fun b σ=>.ok (.val (.bl (!b))) σ:=rfl
def aaC c(t a b σ):ev c (.ite t a b) σ=(ev c t σ).cZ ju fun q σ=>if q then ev c a σ else ev c b σ:=rfl
theorem Ks c(a i σ):ev c (.idx a i) σ=match a.az with
  |some k=>if (bA k σ).isNone then .bad else(ev c i σ).ao fun y σ=>lift σ ((bA k σ).bind fun d=>(getD d y).map Rv.val)
  |none=>(ev c a σ).ao fun x σ=>(ev c i σ).ao fun y σ=>lift σ ((getD x y).map Rv.val):=rfl
theorem aaB c(a lo hi σ):ev c (.slc a lo hi) σ=(ev c a σ).ao fun x σ=>(ev c lo σ).ao fun l σ=>match eX lo.lE l with
  |none=>.bad
  |some l=>(ev c hi σ).ao fun h σ=>lift σ ((eX hi.lE h).bind fun h=>jB x l h):=rfl
def aaA c(σ):ev c .noneE σ=.ok (.val .non) σ:=rfl
def Wg c(f as σ):ev c (.call f as) σ=(evs c as σ).bind fun as σ=>uJ c f as σ:=rfl
theorem QX c(i σ):ev c (.ref i) σ=match σ[i]? with
  |some (.own _)=>.ok (.ref i) σ
  |some (.bor _)=>.ok (.ref i) σ
  |_=>.bad:=rfl
def QW c(e σ):ev c (.rd e) σ=ev c e σ:=rfl
def aaz c(a t σ):ev c (.isi a t) σ=(ev c a σ).ao fun x σ=>.ok (.val (.bl (pR t x))) σ:=rfl
theorem qY c(b a σ):ev c (.bi b a) σ=match a.az with
  |some k=>lift σ ((bA k σ).bind fun d=>b1 b d)
  |none=>(ev c a σ).ao fun x σ=>lift σ (b1 b x):=rfl
def Wf c(a σ):ev c (.range1 a) σ=(ev c a σ).ao fun x σ=>lift σ (match x with|.int n=>if fits n.toNat&&zb n then some (.val (.lst (bN 0 n.toNat)))else none|_=>none):=rfl
def We c(a b σ):ev c (.zip a b) σ=(ev c a σ).ao fun x σ=>(ev c b σ).ao fun y σ=>lift σ ((bM x).bind fun xs=>(bM y).map fun ys=>.val (.lst (aV xs ys))):=rfl
def aay c(a b σ):ev c (.count a b) σ=(ev c a σ).ao fun x σ=>if (bM x).isNone then .bad else(ev c b σ).ao fun y σ=>lift σ (Bq x y):=rfl
def Wd c(k a σ):ev c (.popAt k a) σ=if !gQ (bA k σ)then .bad else(ev c a σ).ao fun y σ=>tE k y σ:=rfl
theorem nQ c(nl tg it cond elt σ):ev c (.comp nl tg it cond elt) σ=(ev c it σ).ao fun x σ=>match items x with
  |some xs=>match aQ tg (ev c cond) (ev c elt) xs [] (List.replicate nl .un++σ)with
   |.ok ys τ=>.ok (.new (.lst ys)) (τ.drop nl)
   |_=>.bad
  |none=>.bad:=rfl
def adT(c:Cf)(a b σ):ev c (.index a b) σ=(ev c a σ).ao fun x σ=>if (lC x).isNone then .bad else(ev c b σ).ao fun y σ=>lift σ (Od x y):=rfl
theorem Wc c(d k x σ):ev c (.get2 d k x) σ=match d.az with
  |some i=>if !oU (bA i σ)then .bad else(ev c k σ).ao fun k σ=>(ev c x σ).ao fun x σ=>lift σ ((bA i σ).bind fun y=>(oX y k x).map Rv.val)
  |none=>.bad:=rfl
def x_0 c(σ):ex c .nil σ=.next σ:=rfl
def x_1 c(h t σ):ex c (.cons h t) σ=(ex c h σ).seq (ex c t):=rfl
def x_5 c(i e σ):ex c (.set i e) σ=(ev c e σ).fl fun x σ=>Gy (x.CG.bind fun s=>eO i s σ):=rfl
def x_7 c(k ix e σ):ex c (.setIx k ix e) σ=(ev c e σ).pZ fun x σ=>if (bA k σ).isNone then .bad else(ev c ix σ).pZ fun y σ=>Gy (fM k (pI y x) σ):=rfl
def x_9 c(k e σ):ex c (.append k e) σ=if !gQ (bA k σ)then .bad else(ev c e σ).pZ fun x σ=>Gy (fM k (Dt fun xs=>if fits (xs.length+1)then some (xs++[x])else none) σ):=rfl
theorem Cd c(e σ):ex c (.ret e) σ=match e.az with
  |some i=>match σ[i]? with
   |some (.own o)=>.ret (.new o) (σ.set i .un)
   |_=>(ev c e σ).fl vd
  |none=>(ev c e σ).fl vd:=rfl
theorem adR c(tg it b σ):ex c (.for_ tg it b) σ=(ev c it σ).pZ fun x σ=>match items x with
  |some xs=>cX tg (ex c b) xs σ
  |none=>.bad:=rfl
end Mini
end
section
namespace Mini
open PySem L2
def Qu(K:QQq)(H:Hp)(a:Addr)(xs:List V):Prop:=
 (∃o,H a=some (.frz o (.lst xs)))\/
  ∃(o:Obj)(its:Array Value)(n:Nat),K.lookup a=some o/\o.cls=.type "list"/\o.dict=none/\o.data=.seq its n/\its.size<=sizeLine/\Vals xs its.toList
def Qu.sq{H:Hp}{xs:List V}(h:Qu K H a xs):jV K H a xs:=by
 rcases h with ⟨o,h⟩|h
 ·exact .inl (.inr ⟨o,h⟩)
 ·exact .inr h
def dO:Key->D
 |.inl i=>.int i
 |.inr x=>.str x
mutual
def bj(K:QQq)(H:Hp):D->V->Prop
 |.non,v=>v=.non
 |.bl b,v=>v=.bl b
 |.int i,v=>v=.int i
 |.str x,v=>v=.str x
 |.tup ds,v=>∃a vs,v=.ref a/\jU K H a vs/\ak K H ds vs
 |.lst ds,v=>∃a vs,v=.ref a/\Qu K H a vs/\ak K H ds vs
 |.eE ks ds,v=>∃a o kvs,v=.ref a/\H a=some (.frz o (.dK kvs))/\ks=kvs.map (fun p=>dO p.1)/\ak K H ds (kvs.map (·.2))
def ak(K:QQq)(H:Hp):List D->List V->Prop
 |[],vs=>vs=[]
 |d::ds,vs=>∃v r,vs=v::r/\bj K H d v/\ak K H ds r
end
structure bV(H H':Hp):Prop where
 tups:∀b xs,H b=some (.tup xs)->H' b=some (.tup xs)
 frzs:∀b o u,H b=some (.frz o u)->H' b=some (.frz o u)
def bV.refl H:bV H H:=⟨fun _ _ h=>h,fun _ _ _ h=>h⟩
def bV.trans(a:bV H H1)(b:bV H1 H2):bV H H2:=⟨fun c xs h=>b.tups c xs (a.tups c xs h),fun c o u h=>b.frzs c o u (a.frzs c o u h)⟩
section
def bV.WM(p:bV H H')(h:jU K H a xs):jU K H' a xs:=by
 rcases h with (h|⟨o,h⟩)|h
 ·exact .inl (.inl (p.tups _ _ h))
 ·exact .inl (.inr ⟨o,p.frzs _ _ _ h⟩)
 ·exact .inr h
def bV.Vz(p:bV H H')(h:Qu K H a xs):Qu K H' a xs:=by
 rcases h with ⟨o,h⟩|h
 ·exact .inl ⟨o,p.frzs _ _ _ h⟩
 ·exact .inr h
mutual
theorem bj.mono(p:bV H H'):∀{d:D}{v:V},bj K H d v->bj K H' d v
 |.non,_,h=>h
 |.bl _,_,h=>h
 |.int _,_,h=>h
 |.str _,_,h=>h
 |.tup ds,v,h=>by
  unfold bj at h⊢
  obtain⟨a,vs,e,s,l⟩:=h
  exact⟨a,vs,e,p.WM s,ak.mono p l⟩
 |.lst ds,v,h=>by
  unfold bj at h⊢
  obtain⟨a,vs,e,s,l⟩:=h
  exact⟨a,vs,e,p.Vz s,ak.mono p l⟩
 |.eE ks ds,v,h=>by
  unfold bj at h⊢
  obtain⟨a,o,kvs,e,s,k,l⟩:=h
  exact⟨a,o,kvs,e,p.frzs _ _ _ s,k,ak.mono p l⟩
theorem ak.mono(p:bV H H'):∀{ds:List D}{vs:List V},ak K H ds vs->ak K H' ds vs
 |[],_,h=>by unfold ak at h⊢;exact h
 |d::ds,vs,h=>by
  obtain⟨v,r,e,s,l⟩:=h
  exact⟨v,r,e,bj.mono p s,ak.mono p l⟩
end
def ak.bJ:ak K H [] vs↔vs=[]:=by unfold ak;exact Iff.rfl
def ak.aX{ds:List D}:ak K H (d::ds) vs↔ ∃v r,vs=v::r/\bj K H d v/\ak K H ds r:=by
 constructor
 ·intro h;unfold ak at h;exact h
 ·intro h;unfold ak;exact h
def ak.bF{ds:List D}{vs:List V}(h:bj K H d v)(t:ak K H ds vs):ak K H (d::ds) (v::vs):=ak.aX.mpr ⟨v,vs,rfl,h,t⟩
def ak.eY:ak K H [] []:=ak.bJ.mpr rfl
theorem ak.length:∀{ds:List D}{vs:List V},ak K H ds vs->ds.length=vs.length
 |[],_,h=>by rw[ak.bJ.mp h];rfl
 |d::ds,vs,h=>by
  obtain⟨v,r,rfl,_,t⟩:=ak.aX.mp h
  simp[ak.length t]
theorem ak.get:∀{ds:List D}{vs:List V}{i:Nat}{d:D},ak K H ds vs->ds[i]? =some d->∃v,vs[i]? =some v/\bj K H d v
 |[],_,_,_,_,e=>by simp at e
 |d::ds,vs,i,d',h,e=>by
  obtain⟨v,r,rfl,hd,t⟩:=ak.aX.mp h
  cases i with
  |zero=>simp at e;subst e;exact⟨v,rfl,hd⟩
  |succ i=>obtain⟨w,q,z⟩:=ak.get t (by simpa using e);exact⟨w,by simpa using q,z⟩
theorem ak.append:∀{ds es:List D}{vs ws:List V},ak K H ds vs->ak K H es ws->ak K H (ds++es) (vs++ws)
 |[],_,_,_,h,t=>by rw[ak.bJ.mp h];exact t
 |d::ds,es,vs,ws,h,t=>by
  obtain⟨v,r,rfl,hd,q⟩:=ak.aX.mp h
  exact ak.bF hd (ak.append q t)
theorem ak.take:∀{ds:List D}{vs:List V}(n:Nat),ak K H ds vs->ak K H (ds.take n) (vs.take n)
 |_,_,0=>fun _=>ak.eY
 |[],_,_+1=>fun h=>by rw[ak.bJ.mp h];exact ak.eY
 |d::ds,vs,n+1=>fun h=>by
  obtain⟨v,r,rfl,hd,q⟩:=ak.aX.mp h
  exact ak.bF hd (ak.take n q)
theorem ak.drop:∀{ds:List D}{vs:List V}(n:Nat),ak K H ds vs->ak K H (ds.drop n) (vs.drop n)
 |_,_,0=>fun h=>h
 |[],_,_+1=>fun h=>by rw[ak.bJ.mp h];exact ak.eY
 |d::ds,vs,n+1=>fun h=>by
  obtain⟨v,r,rfl,hd,q⟩:=ak.aX.mp h
  exact ak.drop n q
theorem ak.eraseIdx:∀{ds:List D}{vs:List V}(n:Nat),ak K H ds vs->ak K H (ds.eraseIdx n) (vs.eraseIdx n)
 |[],_,_=>fun h=>by rw[ak.bJ.mp h];exact ak.eY
 |d::ds,vs,0=>fun h=>by
  obtain⟨v,r,rfl,hd,q⟩:=ak.aX.mp h
  exact q
 |d::ds,vs,n+1=>fun h=>by
  obtain⟨v,r,rfl,hd,q⟩:=ak.aX.mp h
  exact ak.bF hd (ak.eraseIdx n q)
theorem ak.set{v:V}(hd:bj K H d v):∀{ds:List D}{vs:List V}(n:Nat),ak K H ds vs->ak K H (ds.set n d) (vs.set n v)
 |[],_,_=>fun h=>by rw[ak.bJ.mp h];exact ak.eY
 |e::ds,vs,0=>fun h=>by
  obtain⟨w,r,rfl,he,q⟩:=ak.aX.mp h
  exact ak.bF hd q
 |e::ds,vs,n+1=>fun h=>by
  obtain⟨w,r,rfl,he,q⟩:=ak.aX.mp h
  exact ak.bF he (ak.set hd n q)
end
def isOwn:Sl->Option Ob
 |.own o=>some o
 |.bor o=>some o
 |_=>none
def J7(K:QQq)(H:Hp):Ob->HO->Prop
 |.lst xs,u=>∃vs,u=.lst vs/\ak K H xs vs
 |.dct ks ds,u=>∃kvs,u=.dK kvs/\ks=kvs.map (fun p=>dO p.1)/\ak K H ds (kvs.map (·.2))
theorem J7.mono{K:QQq}{H H':Hp}(p:bV H H'):∀{o:Ob}{u:HO},J7 K H o u->J7 K H' o u
 |.lst _,_,⟨vs,e,l⟩=>⟨vs,e,l.mono p⟩
 |.dct _ _,_,⟨kvs,e,k,l⟩=>⟨kvs,e,k,l.mono p⟩
structure Qy(u:HO):Prop where
 tup:∀xs,u≠ .tup xs
 frz:∀q w,u≠ .frz q w
 tbl:∀ps,u≠ .tbl ps
 own:∀x,u≠ .own x
theorem J7.qD{K:QQq}{H:Hp}:∀{o:Ob}{u:HO},J7 K H o u->Qy u
 |.lst _,_,⟨vs,e,_⟩=>by
  subst e
  constructor
  all_goals (intros;intro z;cases z)
 |.dct _ _,_,⟨kvs,e,_⟩=>by
  subst e
  constructor
  all_goals (intros;intro z;cases z)
def j7(K:QQq)(H:Hp)(o:Ob)(a:Addr):Prop:=∃u,H a=some u/\J7 K H o u
def Uj(K:QQq)(H:Hp):Sl->Option V->Prop
 |.un,_=>True
 |.val d,o=>∃v,o=some v/\bj K H d v
 |.own q,o=>∃a,o=some (.ref a)/\j7 K H q a
 |.bor q,o=>∃a,o=some (.ref a)/\j7 K H q a
def aO(env:Ev)(σ:St)(i:Nat)(a:Addr):Prop:=(∃s xs,env[i]? =some s/\isOwn s=some xs)/\σ[i]? =some (some (.ref a))
structure Sat(K:QQq)(env:Ev)(σ:St)(H:Hp):Prop where
 len:env.length=σ.length
 sl:∀(i:Nat)s,env[i]? =some s->Uj K H s (σ[i]?).join
 ne:∀(i j:Nat)a,aO env σ i a->aO env σ j a->i=j
structure Nx(K:QQq)(env:Ev)(σ:St)(H:Hp)(env':Ev)(H':Hp):Prop where
 gK:Sat K env' σ H'
 sub:∀(i:Nat)a,aO env' σ i a->aO env σ i a
 pers:bV H H'
 keep:∀b u,H b=some u->(∀i,¬aO env σ i b)->H' b=some u
 dom:∀b,H' b=none->H b=none
 bors:∀(i:Nat)xs,env[i]? =some (.bor xs)->∃ys,env'[i]? =some (.bor ys)
section
theorem Nx.refl(h:Sat K env σ H):Nx K env σ H env H:=⟨h,fun _ _ z=>z,bV.refl H,fun _ _ z _=>z,fun _ z=>z,fun _ xs e=>⟨xs,e⟩⟩
theorem Nx.trans(a:Nx K env σ H δ H1)(b:Nx K δ σ H1 ε H2):Nx K env σ H ε H2:=
 ⟨b.gK,fun i c z=>a.sub i c (b.sub i c z),a.pers.trans b.pers,fun c vs z n=>b.keep c vs (a.keep c vs z n) fun i w=>n i (a.sub i c w),fun c z=>a.dom c (b.dom c z),fun i xs e=>let ⟨ys,e1⟩:=a.bors i xs e;b.bors i ys e1⟩
theorem Sat.own(h:Sat K env σ H){a:Addr}(o:aO env σ i a):∃q,j7 K H q a:=by
 obtain⟨⟨s,xs,e1,e2⟩,e3⟩:=o
 have q:=h.sl i s e1
 rw[e3]at q
 cases s with
 |un=>simp[isOwn]at e2
 |val d=>simp[isOwn]at e2
 |own ys=>obtain⟨b,e,z⟩:=q;cases e;exact⟨ys,z⟩
 |bor ys=>obtain⟨b,e,z⟩:=q;cases e;exact⟨ys,z⟩
def Sat.yd(h:Sat K env σ H)(hn:H a=none)i:¬aO env σ i a:=fun o=>by
 obtain⟨q,u,z,_⟩:=h.own o
 rw[hn]at z;cases z
end
def iJ(K:QQq)(σ:St)(H₀ H:Hp):Rv->V->Prop
 |.val d,v=>bj K H d v
 |.new q,v=>∃a,v=.ref a/\j7 K H q a/\H₀ a=none
 |.ref i,v=>σ[i]? =some (some v)
abbrev Wi:=Nat->Ev->St->Hp->Prop
noncomputable def tM(K:QQq)(W:Wi)(env:Ev)(r:Out Rv):TE:=fun σ H Q=>Sat K env σ H/\match r with
 |.ok x env'=>∀v H',Nx K env σ H env' H'->iJ K σ H H' x v->Q v H'
 |.exc c env'=>∀H',Nx K env σ H env' H'->W c env' σ H'
 |.bad=>False
noncomputable def tD(K:QQq)(W:Wi)(env:Ev)(r:Out Rv):TE:=fun σ H Q=>Sat K env σ H/\match r with
 |.ok (.val d) env'=>∀v H',Nx K env σ H env' H'->bj K H' d v->Q v H'
 |.ok (.new q) env'=>∀v H',Nx K env σ H env' H'->bj K H' q.d v->Q v H'
 |.ok _ _=>False
 |.exc c env'=>∀H',Nx K env σ H env' H'->W c env' σ H'
 |.bad=>False
noncomputable def tT(K:QQq)(W:Wi)(env:Ev)(r:Out Rv):TT:=fun σ H Q=>Sat K env σ H/\match r with
 |.ok x env'=>∃d b,x.j8=some d/\ju d=some b/\∀H',Nx K env σ H env' H'->Q b H'
 |.exc c env'=>∀H',Nx K env σ H env' H'->W c env' σ H'
 |.bad=>False
def PE.imp{e:Expr}(h:PE X e t)(i:∀σ H Q,t' σ H Q->t σ H Q):PE X e t':=fun γ s σ H Q I q=>h γ s σ H Q I (i σ H Q q)
def PT.imp{e:Expr}(h:PT X e t)(i:∀σ H Q,t' σ H Q->t σ H Q):PT X e t':=fun γ s σ H Q I q=>h γ s σ H Q I (i σ H Q q)
def _root_.L2.dq.there{w:World}{h:Heap}{o:HO}(x:dq P w H h a o):∃u,h.get? a=some u:=by
 cases o with
 |lst xs=>obtain⟨_,_,_,_,e⟩:=x;exact⟨_,e⟩
 |tup xs=>obtain⟨_,_,_,p⟩:=x;obtain⟨o,e,_⟩:=p;exact⟨_,e⟩
 |dK kvs=>obtain⟨_,_,_,_,o,_,_,e,_⟩:=x;exact⟨_,e⟩
 |ins C dx fs=>obtain⟨_,_,_,e,_⟩:=x;exact⟨_,e⟩
 |own y=>obtain⟨_,e⟩:=x;exact⟨_,e⟩
 |frz ob u=>obtain⟨e,_⟩:=x;exact⟨_,e⟩
 |tbl ps=>exact⟨_,show h.get? a=some _ from x⟩
 |met f y=>exact⟨_,show h.get? a=some _ from x⟩
def Inv.freeze{X:Cx}{σ:St}{H:Hp}{a:Addr}(I:Inv X γ σ H s)(h:H a=some u)(hu:Qy u):
  ∃o,Inv X γ σ (upd H a (.frz o u)) s:=by
 obtain⟨o,ho⟩:=(I.hok a _ h).there
 refine⟨o,?_⟩
 have ne:∀b w,H b=some w->w≠u->b≠a:=fun b w q n z=>by subst z;rw[h]at q;cases q;exact n rfl
 have stay:∀b w,b≠a->H b=some w->upd H a (.frz o u) b=some w:=fun b w n q=>by rw[au n];exact q
 have hok:pA X.prog X.w (upd H a (.frz o u)) s.heap:=fun b w q=>by
  have st:∀c v,dq X.prog X.w H s.heap c v->dq X.prog X.w _ s.heap c v:=fun c v z=>
   z.stay (fun c v _ q=>q) (fun e q=>stay e _ (ne e _ q (hu.own c).symm) q) fun e xs q=>stay e _ (ne e _ q (hu.tup xs).symm) q
  by_cases hb:b=a
  ·subst hb
   rw[aB]at q
   cases q
   exact⟨ho,st _ _ (I.hok b _ h)⟩
  ·rw[au hb]at q
   exact st _ _ (I.hok b w q)
 have J:=I.step (t':=s.toks) (d':=s.drawn) (ch:=[]) (fun _ z=>nomatch z)
  (fun b o _ _ _ q _=>q) (fun b o _ _ _ q _=>⟨o.slots,q⟩) (fun b o _ q n=>by
   rw[au (fun z=>by subst z;rw[h]at n;cases n)];exact n) (fun b o _ q=>⟨o,q⟩)
  (fun b xs q=>stay b _ (ne b _ q (hu.tup xs).symm) q) (fun b o w q=>stay b _ (ne b _ q (hu.frz o w).symm) q) (fun b ps q=>⟨#[],by rw[stay b _ (ne b _ q (hu.tbl ps).symm) q];simp⟩) (fun m q=>q) hok I.bare
 exact J
section
def dX(h:H a=some u)(hu:Qy u):bV H (upd H a (.frz o u)):=by
 refine⟨fun b xs q=>?_,fun b o' w q=>?_⟩
 ·rw[au (fun z=>by subst z;rw[h]at q;cases q;exact hu.tup xs rfl)];exact q
 ·rw[au (fun z=>by subst z;rw[h]at q;cases q;exact hu.frz o' w rfl)];exact q
def J7.den{H':Hp}(h:J7 K H' q u)(e:H' a=some (.frz o u)):bj K H' q.d (.ref a):=by
 cases q with
 |lst xs=>
  obtain⟨vs,rfl,l⟩:=h
  show bj K H' (.lst xs) (.ref a)
  unfold bj
  exact⟨a,vs,rfl,.inl ⟨o,e⟩,l⟩
 |dct ks ds=>
  obtain⟨kvs,rfl,k,l⟩:=h
  show bj K H' (.eE ks ds) (.ref a)
  unfold bj
  exact⟨a,o,kvs,rfl,e,k,l⟩
def Uj.keep{sl:Sl}(p:bV H H')(h:Uj K H sl v)(k:∀b u,isOwn sl≠none->v=some (.ref b)->H b=some u->H' b=some u):Uj K H' sl v:=by
 cases sl with
 |un=>trivial
 |val d=>obtain⟨v,e1,e2⟩:=h;exact⟨v,e1,e2.mono p⟩
 |own q=>
  obtain⟨b,e1,w,e2,e3⟩:=h
  exact⟨b,e1,w,k b w (by simp[isOwn]) e1 e2,e3.mono p⟩
 |bor q=>
  obtain⟨b,e1,w,e2,e3⟩:=h
  exact⟨b,e1,w,k b w (by simp[isOwn]) e1 e2,e3.mono p⟩
def xY{sl:Sl}(e:env[i]? =some sl)(ho:isOwn sl≠none)(ev:(σ[i]?).join=some (.ref b)):aO env σ i b:=by
 refine⟨?_,?_⟩
 ·cases q:isOwn sl with
  |none=>exact absurd q ho
  |some o=>exact⟨sl,o,e,q⟩
 ·cases w:σ[i]? with
  |none=>rw[w]at ev;cases ev
  |some y=>rw[w]at ev;simp at ev;rw[ev]
theorem Sat.keep(S:Sat K env σ H)(p:bV H H')(k:∀i b u,aO env σ i b->H b=some u->H' b=some u):Sat K env σ H':=
 ⟨S.len,fun i sl e=>(S.sl i sl e).keep p fun b u ho ev hb=>k i b u (xY e ho ev) hb,S.ne⟩
def Sat.freeze(S:Sat K env σ H)(h:H a=some u)(hu:Qy u)(no:∀i,¬aO env σ i a):Sat K env σ (upd H a (.frz o u)):=
 S.keep (dX h hu) fun i b w ow hb=>by
  rw[au (fun z=>by subst z;exact no i ow)];exact hb
end
def Mp{W:Wi}{env:Ev}(h:PE X e (tM X.K W env r)):PE X e (tD X.K W env r):=by
 intro γ s σ H Q I q
 obtain⟨S,q⟩:=q
 cases r with
 |bad=>exact q.elim
 |exc c env'=>exact h γ s σ H Q I ⟨S,q⟩
 |ok x env'=>
  cases x with
  |val d=>exact h γ s σ H Q I ⟨S,q⟩
  |ref i=>exact False.elim q
  |new xs=>
   refine cj (h γ s σ H (fun v H'=>Nx X.K env σ H env' H'/\iJ X.K σ H H' _ v) I ⟨S,fun v H' n k=>⟨n,k⟩⟩) fun u s1⟨v,H1,I1,r1,N,k⟩=>?_
   obtain⟨a,rfl,⟨u,ha,hl⟩,h0⟩:=k
   have hu:=hl.qD
   obtain⟨o,I2⟩:=Inv.freeze I1 ha hu
   have p:=dX (o:=o) ha hu
   refine⟨.ref a,_,I2,r1,q _ _ ⟨N.gK.freeze ha hu (fun i z=>S.yd h0 i (N.sub i a z)),N.sub,N.pers.trans p,fun b ws z n=>?_,fun b z=>?_,N.bors⟩ ((hl.mono p).den aB)⟩
   ·rw[au (fun w=>by subst w;rw[h0]at z;cases z)];exact N.keep b ws z n
   ·refine N.dom b ?_
    by_cases hb:b=a
    ·subst hb;rw[aB]at z;cases z
    ·rw[au hb]at z;exact z
def iJ.weaken{σ:St}{x:Rv}(h:iJ K σ H1 H x v)(d:∀b,H1 b=none->H0 b=none):iJ K σ H0 H x v:=by
 cases x with
 |val d=>exact h
 |ref i=>exact h
 |new xs=>obtain⟨a,e,p,z⟩:=h;exact⟨a,e,p,d a z⟩
section
def U4{H1:Hp}(S:tM K W env r σ H Q)(N:Nx K env σ H δ H1):tM K W δ r σ H1 Q:=by
 obtain⟨_,h⟩:=S
 refine⟨N.gK,?_⟩
 cases r with
 |bad=>exact h
 |exc c ε=>exact fun H' N'=>h H' (N.trans N')
 |ok x ε=>exact fun v H' N' z=>h v H' (N.trans N') (z.weaken N.dom)
theorem aP{f:D->Ev->Out Rv}(h:tM K W env (r.ao f) σ H Q)
  (k:∀d δ v H1,Nx K env σ H δ H1->bj K H1 d v->tM K W δ (f d δ) σ H1 Q->R v H1):tD K W env r σ H R:=by
 have step:∀d δ,r.ao f=f d δ->∀v H1,Nx K env σ H δ H1->bj K H1 d v->R v H1:=fun d δ e v H1 N D=>by
  rw[e]at h
  exact k d δ v H1 N D (U4 h N)
 obtain⟨S,h⟩:=h
 refine⟨S,?_⟩
 cases r with
 |bad=>exact h
 |exc c δ=>exact h
 |ok x δ=>
  cases x with
  |val d=>exact fun v H1 N D=>step d δ rfl v H1 N D
  |new xs=>exact fun v H1 N D=>step xs.d δ rfl v H1 N D
  |ref i=>exact h
theorem zF{f:Bool->Ev->Out Rv}(h:tM K W env (r.cZ ju f) σ H Q)
  (k:∀b δ H1,Nx K env σ H δ H1->tM K W δ (f b δ) σ H1 Q->R b H1):tT K W env r σ H R:=by
 have step:∀d δ x,x.j8=some d->r=.ok x δ->∃b,ju d=some b/\∀H1,Nx K env σ H δ H1->R b H1:=fun d δ x ex er=>by
  subst er
  cases q:ju d with
  |none=>
   cases x with
   |val d'=>cases ex;simp only[Out.cZ,Out.ao,q]at h;exact h.2.elim
   |new xs=>cases ex;simp only[Out.cZ,Out.ao,q]at h;exact h.2.elim
   |ref i=>cases ex
  |some b=>
   refine⟨b,rfl,fun H1 N=>k b δ H1 N (U4 ?_ N)⟩
   cases x with
   |val d'=>cases ex;simp only[Out.cZ,Out.ao,q]at h;exact h
   |new xs=>cases ex;simp only[Out.cZ,Out.ao,q]at h;exact h
   |ref i=>cases ex
 refine⟨h.1,?_⟩
 cases r with
 |bad=>exact h.2
 |exc c δ=>exact h.2
 |ok x δ=>
  cases x with
  |val d=>obtain⟨b,e,q⟩:=step d δ _ rfl rfl;exact⟨d,b,rfl,e,q⟩
  |new xs=>obtain⟨b,e,q⟩:=step xs.d δ _ rfl rfl;exact⟨xs.d,b,rfl,e,q⟩
  |ref i=>exact h.2.elim
def cW(h:tM K W env (lift env o) σ H Q):∃z,o=some z/\Sat K env σ H/\∀v H',Nx K env σ H env H'->iJ K σ H H' z v->Q v H':=by
 obtain⟨S,h⟩:=h
 cases o with
 |none=>exact h.elim
 |some z=>exact⟨z,rfl,S,h⟩
def fP{v:V}(h:tM K W env (.ok (.val d) env) σ H Q)(e:bj K H d v):Q v H:=h.2 v H (Nx.refl h.1) e
def Nx.laid{o:HO}(S:Sat K env σ H)(hp:H p=none):Nx K env σ H env (upd H p o):=by
 have ne:∀b u,H b=some u->b≠p:=fun b u q z=>by subst z;rw[hp]at q;cases q
 have pe:bV H (upd H p o):=⟨fun b xs q=>by rw[au (ne b _ q)];exact q,fun b o' u q=>by rw[au (ne b _ q)];exact q⟩
 refine⟨S.keep pe fun i b u _ q=>by rw[au (ne b _ q)];exact q,fun _ _ z=>z,pe,fun b vs q _=>by rw[au (ne b _ q)];exact q,fun b q=>?_,fun _ xs e=>⟨xs,e⟩⟩
 ·by_cases hb:b=p
  ·subst hb;exact hp
  ·rw[au hb]at q;exact q
end
def GE(X:Cx)(W:Wi)(c:Cf)(m:E)(e:Expr):Prop:=∀env,PE X e (tM X.K W env (ev c m env))
def aD(X:Cx)(W:Wi)(c:Cf)(m:E):TE:=fun σ H Q=>∃env,tD X.K W env (ev c m env) σ H Q
def aT(X:Cx)(W:Wi)(c:Cf)(m:E):TT:=fun σ H Q=>∃env,tT X.K W env (ev c m env) σ H Q
def GT(X:Cx)(W:Wi)(c:Cf)(m:E)(e:Expr):Prop:=PT X e (aT X W c m)
section
def GE.d(h:GE X W c m e):PE X e (aD X W c m):=fun γ s σ H Q I⟨env,q⟩=>Mp (h env) γ s σ H Q I q
theorem bj.ju{K:QQq}{H:Hp}{x:D}{v:V}{k:Bool}(h:bj K H x v)(e:ju x=some k):Fq K v H k:=by
 cases x with
 |non=>cases h;simp[Mini.ju]at e;subst e;rfl
 |bl b=>cases h;simp[Mini.ju]at e;subst e;rfl
 |int i=>cases h;simp[Mini.ju]at e;subst e;rfl
 |str y=>simp[Mini.ju]at e
 |tup xs=>
  unfold bj at h
  obtain⟨p,vs,rfl,hq,l⟩:=h
  have e':(!xs.isEmpty)=k:=QEq e
  refine .inr (.inl ⟨vs,hq,?_⟩)
  have:=l.length
  rw[<-e']
  cases xs<;>cases vs<;>simp_all
 |lst xs=>
  unfold bj at h
  obtain⟨p,vs,rfl,hq,l⟩:=h
  have e':(!xs.isEmpty)=k:=QEq e
  refine .inl ⟨vs,hq.sq,?_⟩
  have:=l.length
  rw[<-e']
  cases xs<;>cases vs<;>simp_all
 |eE ks vs=>simp[Mini.ju]at e
def zH{env:Ev}{σ:St}{Q:Bool->Hp->Prop}(h:tT K W env r σ H Q):tD K W env r σ H (fun v H'=>∃k,Fq K v H' k/\Q k H'):=by
 obtain⟨S,h⟩:=h
 refine⟨S,?_⟩
 cases r with
 |bad=>exact h
 |exc c δ=>exact h
 |ok x δ=>
  obtain⟨d,b,e1,e2,q⟩:=h
  cases x with
  |val d'=>cases e1;exact fun v H' N D=>⟨b,D.ju e2,q H' N⟩
  |new xs=>cases e1;exact fun v H' N D=>⟨b,D.ju e2,q H' N⟩
  |ref i=>cases e1
def GE.t(h:GE X W c m e)(he:∀whole,isTrue e X.env whole=(do let v<-whole;standAt e.pos;holding [v] (truthy v))):GT X W c m e:=
 PT.imp (oh h.d he) fun σ H Q⟨env,q⟩=>⟨env,zH q⟩
def Jc:D->Const->Bool
 |.non,.none=>true
 |.bl b,.bool b'=>b==b'
 |.int i,.int j=>i==j
 |.str x,.str y=>decide (x=y)
 |_,_=>false
def YF{x:D}{k:Const}{i:Nat}(h:Jc x k=true):GE X W c (.con x) (.Constant k i pos):=by
 intro env
 cases x with
 |non=>cases k<;>first|exact PE.imp Dl (fun σ H Q q=>fP q rfl)|simp[Jc]at h
 |bl y=>cases k<;>first|(simp[Jc]at h;subst h;exact PE.imp abD (fun σ H Q q=>fP q rfl))|simp[Jc]at h
 |int y=>cases k<;>first|(simp[Jc]at h;subst h;exact PE.imp Dn (fun σ H Q q=>fP q rfl))|simp[Jc]at h
 |str y=>cases k<;>first|(simp[Jc]at h;subst h;exact PE.imp xW (fun σ H Q q=>fP q rfl))|simp[Jc]at h
 |tup _=>cases k<;>simp[Jc]at h
 |lst _=>cases k<;>simp[Jc]at h
 |eE _ _=>cases k<;>simp[Jc]at h
def cN{σ:St}{i:Nat}(h:(σ[i]?).join=some v):σ[i]? =some (some v):=by
 cases w:σ[i]? with
 |none=>rw[w]at h;cases h
 |some y=>rw[w]at h;simp at h;rw[h]
def Nx.give{env:Ev}{H:Hp}{q:Ob}{a:Addr}{u:HO}(S:Sat K env σ H)(e:env[i]? =some (.own q))(es:σ[i]? =some (some (.ref a)))
  (ha:H a=some u)(l:J7 K H q u):Nx K env σ H (env.set i (.val q.d)) (upd H a (.frz o u)):=by
 have p:=dX (o:=o) ha l.qD
 have oa:aO env σ i a:=⟨⟨_,q,e,rfl⟩,es⟩
 have hi:=(QCz.mp e).1
 have sub:∀j b,aO (env.set i (.val q.d)) σ j b->aO env σ j b/\j≠i:=fun j b z=>by
  obtain⟨⟨s,ys,e1,e2⟩,e3⟩:=z
  by_cases hj:i=j
  ·subst hj;rw[Qwq hi]at e1;cases e1;simp[isOwn]at e2
  ·rw[Qxz hj]at e1;exact⟨⟨⟨s,ys,e1,e2⟩,e3⟩,fun z=>hj z.symm⟩
 have ne:∀j b,aO env σ j b->j≠i->b≠a:=fun j b z hj q=>hj (S.ne j i a (q▸z) oa)
 refine⟨⟨by simpa using S.len,fun j s ej=>?_,fun j k b z w=>S.ne j k b (sub j b z).1 (sub k b w).1⟩,fun j b z=>(sub j b z).1,p,fun b ws q n=>?_,fun b q=>?_,fun j ys ej=>?_⟩
 ·by_cases hj:i=j
  ·subst hj
   rw[Qwq hi]at ej
   cases ej
   exact⟨.ref a,by rw[es];rfl,(l.mono p).den aB⟩
  ·rw[Qxz hj]at ej
   refine(S.sl j s ej).keep p fun b w ho ev hb=>?_
   rw[au (ne j b (xY ej ho ev) fun z=>hj z.symm)];exact hb
 ·rw[au (fun z=>by subst z;exact n i oa)];exact q
 ·by_cases hb:b=a
  ·subst hb;rw[aB]at q;cases q
  ·rw[au hb]at q;exact q
 ·by_cases hj:i=j
  ·subst hj;rw[e]at ej;cases ej
  ·exact⟨ys,by rw[Qxz hj];exact ej⟩
def Ys{x:Str}(hN:X.N[i]? =some x)(hv:J5 X.env.scope x)(hd:(x==("__debug__":Str))=false)(hcd:(x==("__classdict__":Str))=false):GE X W c (.var i) (.Name x pos):=by
 intro env γ s σ H Q I q
 have B:=dj (pos:=pos) hN hv hd hcd
 simp only[v_0,sV]at q
 cases e:env[i]? with
 |none=>rw[e]at q;exact q.2.elim
 |some sl=>
  rw[e]at q
  cases sl with
  |un=>exact q.2.elim
  |bor xs=>exact q.2.elim
  |val d=>
   obtain⟨v,e1,e2⟩:=q.1.sl i _ e
   exact B γ s σ H Q I ⟨v,cN e1,fP q e2⟩
  |own xs=>
   obtain⟨a,e1,w,e2,e3⟩:=q.1.sl i _ e
   refine cj (B γ s σ H (fun v H'=>v=.ref a/\H'=H) I ⟨.ref a,cN e1,rfl,rfl⟩) fun u s1⟨v,H1,I1,r1,k1,k2⟩=>?_
   subst k1 k2
   obtain⟨o,I2⟩:=Inv.freeze I1 e2 e3.qD
   exact⟨.ref a,_,I2,r1,q.2 _ _ (Nx.give q.1 e (cN e1) e2 e3) ((e3.mono (dX e2 e3.qD)).den aB)⟩
end
section
end
def j5(K:QQq)(σ:St)(H₀ H:Hp):List Rv->List V->Prop
 |[],vs=>vs=[]
 |x::xs,vs=>∃v r,vs=v::r/\iJ K σ H₀ H x v/\j5 K σ H₀ H xs r
noncomputable def tMs(K:QQq)(W:Wi)(env:Ev)(r:Out (List Rv)):TA:=fun σ H Q=>Sat K env σ H/\match r with
 |.ok xs env'=>∀vs H',Nx K env σ H env' H'->j5 K σ H H' xs vs->Q vs H'
 |.exc c env'=>∀H',Nx K env σ H env' H'->W c env' σ H'
 |.bad=>False
noncomputable def tA(K:QQq)(W:Wi)(env:Ev)(r:Out Rv):TE:=fun σ H Q=>Sat K env σ H/\match r with
 |.ok x env'=>∀v H',Nx K env σ H env' H'->iJ K σ H H' (argv x) v->Q v H'
 |.exc c env'=>∀H',Nx K env σ H env' H'->W c env' σ H'
 |.bad=>False
def GA(X:Cx)(W:Wi)(c:Cf)(m:E)(es:List Expr):Prop:=∀env,PA X es (tMs X.K W env (evs c m env))
def iJ.on{env δ ε:Ev}{H H1 H2:Hp}{v:V}(S:Sat K env σ H)(N:Nx K env σ H δ H1)(N2:Nx K δ σ H1 ε H2)(h:iJ K σ H H1 x v):iJ K σ H H2 x v:=by
 have no:=fun a h0 i z=>S.yd h0 i (N.sub i a z)
 cases x with
 |val d=>exact bj.mono N2.pers h
 |ref i=>exact h
 |new xs=>obtain⟨a,e,⟨u,p,l⟩,z⟩:=h;exact⟨a,e,⟨u,N2.keep a u p (no a z),l.mono N2.pers⟩,z⟩
def oH{env:Ev}{H:Hp}{xs:List D}(S:Sat K env σ H)(l:ak K H xs vs)(hp:H p=none):iJ K σ H (upd H p (.lst vs)) (.new (.lst xs)) (.ref p):=
 ⟨p,rfl,⟨_,aB,vs,rfl,l.mono (Nx.laid S hp).pers⟩,hp⟩
theorem j5.weaken{K:QQq}{σ:St}{H0 H1 H:Hp}:∀{xs:List Rv}{vs:List V},j5 K σ H1 H xs vs->(∀b,H1 b=none->H0 b=none)->j5 K σ H0 H xs vs
 |[],_,h,_=>h
 |x::xs,vs,h,d=>by
  obtain⟨v,r,e,h1,h2⟩:=h
  exact⟨v,r,e,h1.weaken d,j5.weaken h2 d⟩
section
def PA.imp(h:PA X es t)(i:∀σ H Q,t' σ H Q->t σ H Q):PA X es t':=fun p γ s σ H Q I q=>h p γ s σ H Q I (i σ H Q q)
def GE.ag(h:GE X W c m e)env:PE X e (tA X.K W env (ev c m env)):=by
 intro γ s σ H Q I q
 obtain⟨S,q⟩:=q
 cases r:ev c m env with
 |bad=>rw[r]at q;exact q.elim
 |exc k env'=>rw[r]at q;exact h env γ s σ H Q I ⟨S,by rw[r];exact q⟩
 |ok x env'=>
  rw[r]at q
  cases x with
  |new xs=>exact Mp (h env) γ s σ H Q I ⟨S,by rw[r];exact q⟩
  |val d=>exact h env γ s σ H Q I ⟨S,by rw[r];exact q⟩
  |ref i=>exact h env γ s σ H Q I ⟨S,by rw[r];exact q⟩
def OD:GA X W c .nil []:=fun env=>PA.imp bO fun σ H Q q=>by
 obtain⟨S,q⟩:=q
 exact q [] H (Nx.refl S) rfl
def Hj(h:GE X W c m1 e)(t:GA X W c m2 es)(hs:starEach (e::es) X.env=(false,eval e X.env)::starEach es X.env):GA X W c (.cons m1 m2) (e::es):=by
 intro env
 have B:PA X _ (aJ (fun σ H Q=>∃env,tA X.K W env _ σ H Q) (fun σ H Q=>∃env,tMs X.K W env _ σ H Q)):=
  aC (fun γ s σ H Q I⟨env,q⟩=>h.ag env γ s σ H Q I q) (fun p γ s σ H Q I⟨env,q⟩=>t env p γ s σ H Q I q) hs
 refine PA.imp B fun σ H Q q=>?_
 obtain⟨S,q⟩:=q
 refine⟨env,S,?_⟩
 simp only[evs]at q
 cases r:ev c m1 env with
 |bad=>rw[r]at q;exact q.elim
 |exc k δ=>rw[r]at q;exact q
 |ok x δ=>
  rw[r]at q
  intro v H1 N1 k1
  refine⟨δ,N1.gK,?_⟩
  simp only[Out.bind]at q
  cases r2:evs c m2 δ with
  |bad=>rw[r2]at q;exact q.elim
  |exc k ε=>rw[r2]at q;exact fun H2 N2=>q H2 (N1.trans N2)
  |ok xs ε=>
   rw[r2]at q
   intro vs H2 N2 k2
   exact q _ H2 (N1.trans N2) ⟨v,vs,rfl,k1.on S N1 N2,k2.weaken N1.dom⟩
theorem j5.ds{K:QQq}{σ:St}{H₀ H:Hp}:∀{xs:List Rv}{vs:List V}{ds:List D},j5 K σ H₀ H (xs.map argv) vs->aZ xs=some ds->ak K H ds vs
 |[],vs,ds,h,e=>by
  simp[aZ]at e
  subst e
  cases h
  exact ak.eY
 |x::xs,vs,ds,h,e=>by
  obtain⟨v,r,rfl,h1,h2⟩:=h
  cases x with
  |ref i=>simp[aZ,Rv.j8]at e
  |val d=>
   simp[aZ,Rv.j8]at e
   obtain⟨ds',e1,e2⟩:=e
   subst e2
   exact ak.bF h1 (j5.ds h2 e1)
  |new ys=>
   simp[aZ,Rv.j8]at e
   obtain⟨ds',e1,e2⟩:=e
   subst e2
   exact ak.bF h1 (j5.ds h2 e1)
def O5:∀(m:E)(env:Ev){xs:List Rv}{env':Ev},evs c m env=.ok xs env'->xs.map argv=xs:=by
 have aa:∀x:Rv,argv (argv x)=argv x:=fun x=>by cases x<;>rfl
 intro m
 induction m with
 |nil=>intro env xs env' h;simp only[evs]at h;cases h;rfl
 |cons h t _ ih=>
  intro env xs env' q
  simp only[evs]at q
  cases r:ev c h env with
  |bad=>rw[r]at q;cases q
  |exc k e1=>rw[r]at q;cases q
  |ok x e1=>
   rw[r]at q
   simp only[Out.bind]at q
   cases r2:evs c t e1 with
   |bad=>rw[r2]at q;cases q
   |exc k e2=>rw[r2]at q;cases q
   |ok ys e2=>
    rw[r2]at q
    cases q
    rw[Qyz,aa,ih e1 r2]
 |_=>intro env xs env' h;simp only[evs]at h;cases h
def gC(h:fits n=true):n<=sizeLine:=by
 rw[sizeLine_eq]
 simpa[fits]using h
theorem zE{env:Ev}{H:Hp}{f:List D->Option Rv}
  (h:tM K W env ((evs c m env).bind fun rs σ=>lift σ ((aZ rs).bind f)) σ H Q)
  (k:∀δ H1 ds vs z,Nx K env σ H δ H1->ak K H1 ds vs->f ds=some z->(∀v H',Nx K δ σ H1 δ H'->iJ K σ H1 H' z v->Q v H')->R vs H1):tMs K W env (evs c m env) σ H R:=by
 obtain⟨S,q⟩:=h
 refine⟨S,?_⟩
 cases r:evs c m env with
 |bad=>rw[r]at q;exact q.elim
 |exc k δ=>rw[r]at q;exact q
 |ok xs δ=>
  rw[r]at q
  simp only[Out.bind]at q
  intro vs H1 N1 k1
  cases e:aZ xs with
  |none=>rw[e]at q;exact q.elim
  |some ds=>
   rw[e]at q
   simp only[Option.bind]at q
   cases e2:f ds with
   |none=>rw[e2]at q;exact q.elim
   |some z=>
    rw[e2]at q
    have k2:=k1
    rw[<-O5 m env r]at k2
    exact k δ H1 ds vs z N1 (j5.ds k2 e) e2 fun v H' N' w=>q v H' (N1.trans N') (w.weaken N1.dom)
def Yt(h:GA X W c m es):GE X W c (.tup m) (.Tuple es k pos):=by
 intro env
 refine PE.imp (Dj (h env)) fun σ H Q q=>?_
 refine zE q fun δ H1 ds vs z N1 l e q=>?_
 split at e
 ·rename_i hf
  cases e
  refine⟨by rw[<-l.length];exact gC hf,fun p hp=>q _ _ (Nx.laid N1.gK hp) ?_⟩
  show bj _ _ _ _
  exact⟨p,vs,rfl,.inl (.inl aB),l.mono (Nx.laid N1.gK hp).pers⟩
 ·cases e
def Yz(h:GA X W c m es):GE X W c (.lis m) (.List es pos):=by
 intro env
 refine PE.imp (Dm (h env)) fun σ H Q q=>?_
 refine zE q fun δ H1 ds vs z N1 l e q=>?_
 split at e
 ·rename_i hf
  cases e
  exact⟨by rw[<-l.length];exact gC hf,fun p hp=>q _ _ (Nx.laid N1.gK hp) (oH N1.gK l hp)⟩
 ·cases e
def Rul(X:Cx)(r:R2)(f:D->D->Option Rv):Prop:=
 ∀(env:Ev)(σ:St)(H:Hp)(x y:D)(z:Rv)(v u:V)(Q:VK),Sat X.K env σ H->bj X.K H x v->bj X.K H y u->f x y=some z->(∀w H',Nx X.K env σ H env H'->iJ X.K σ H H' z w->Q w H')->r v u H Q
def Rul.bin{f:D->D->Option Rv}(R:Rul X r f)(h:PE X e (UW r (aD X W c m1) (aD X W c m2))):
  ∀env,PE X e (tM X.K W env ((ev c m1 env).ao fun x σ=>(ev c m2 σ).ao fun y σ=>lift σ (f x y))):=fun env=>
 PE.imp h fun σ H Q q=>⟨env,aP q fun d δ v H1 N1 D1 q1=>⟨δ,aP q1 fun d2 ε v2 H2 N2 D2 q2=>by
  obtain⟨z,ez,S,q3⟩:=cW q2
  exact R ε σ H2 d d2 z v v2 Q S (D1.mono N2.pers) D2 ez q3⟩⟩
def abK:Zm->Operator
 |.add=>.Add
 |.sub=>.Sub
 |.mul=>.Mult
 |.mod=>.Mod
noncomputable def Vi(K:QQq):R2:=fun x y H Q=>∃a b xs ys,x=.ref a/\y=.ref b/\jU K H a xs/\jU K H b ys/\xs.length+ys.length<=sizeLine/\
 (xs=[]->Q (.ref b) H)/\(xs≠[]->ys=[]->Q (.ref a) H)/\(xs≠[]->ys≠[]->∀p,H p=none->Q (.ref p) (upd H p (.tup (xs++ys))))
def Sg:iV X (binaryOp .Add) (Vi X.K):=by
 intro γ s σ H x y v u Q I rx ry h
 obtain⟨a,b,xs,ys,rfl,rfl,ha,hb,hz,q0,q1,q2⟩:=h
 by_cases hx:xs=[]
 ·cases rx
  cases ry
  obtain⟨its,r1,p1,_⟩:=I.tuple ha
  obtain⟨its2,r2,p2,_⟩:=I.tuple hb
  obtain⟨⟨cls,dd,data,sl⟩,ho,hc,n,hd⟩:=id p1
  obtain⟨⟨cls2,dd2,data2,sl2⟩,ho2,hc2,n2,hd2⟩:=id p2
  subst hc hd hc2 hd2
  have e0:its.toArray.isEmpty=true:=by
   have:=r1.bJ.mpr hx
   rw[this];rfl
  exact concat_meets ⟨_,ho,rfl⟩ ⟨_,ho2,rfl⟩ noFill_tuple_add seq_tuple_add PySem.F.slot_tuple_add PySem.F.entry_tuple_add (PySem.F.args_tuple_add_2 _ _)
   (PyProof.Rows.tuple_addW0 a b its.toArray its2.toArray n n2 dd dd2 sl sl2 e0) ⟨ho,ho2,⟨.ref b,H,I,rfl,q0 hx⟩⟩
 ·exact R8 γ s σ H _ _ v u Q I rx ry ⟨a,b,xs,ys,rfl,rfl,ha,hb,hx,hz,q1 hx,q2 hx⟩
def Vh(K:QQq):R2:=fun x y H Q=>∃l b xs zs,x=.ref l/\y=.ref b/\jV K H l xs/\jV K H b zs/\xs.length+zs.length<=sizeLine/\∀p,H p=none->Q (.ref p) (upd H p (.lst (xs++zs)))
def R9:iV X (binaryOp .Add) (Vh X.K):=by
 intro γ s σ H x y v u Q I rx ry h
 obtain⟨l,b,xs,zs,rfl,rfl,hH,hB,hz,q⟩:=h
 cases rx
 cases ry
 obtain⟨its,r1,pl,_⟩:=I.list hH
 obtain⟨its2,r2,pl2,_⟩:=I.list hB
 obtain⟨⟨cls,dd,data,sl⟩,n,ho,hc,_,hd⟩:=id pl
 obtain⟨⟨cls2,dd2,data2,sl2⟩,n2,ho2,hc2,_,hd2⟩:=id pl2
 subst hc hd hc2 hd2
 have hl:=r1.length
 have hl2:=r2.length
 have ea:its.toArray++its2.toArray=(its++its2).toArray:=by simp
 refine concat_meets ⟨_,ho,rfl⟩ ⟨_,ho2,rfl⟩ noFill_list_add seq_list_add F.slot_list_add F.entry_list_add (F.args_list_add_2 _ _) (PyProof.Rows.list_addW l b its.toArray its2.toArray n n2 dd dd2 sl sl2 (by rw[Qyq,Qyq];omega)) ⟨ho,ho2,?_⟩
 rw[ea]
 exact⟨.ref _,_,I.aeZ (r1.append r2) (by rw[QTq];omega),rfl,q _ I.fresh⟩
def Vj(K:QQq):R2:=fun x y H Q=>QC (fun i j=>.int (i+j)) x y H Q\/Vi K x y H Q\/Vh K x y H Q
def Sh:iV X (binaryOp .Add) (Vj X.K):=Xv.or (Sg.or R9)
def cY{H:Hp}{v:V}(h:bj K H (.tup ds) v):∃a vs,v=.ref a/\jU K H a vs/\ak K H ds vs:=by unfold bj at h;exact h
def dJ{H:Hp}{v:V}(h:bj K H (.lst ds) v):∃a vs,v=.ref a/\Qu K H a vs/\ak K H ds vs:=by unfold bj at h;exact h
def fD{H:Hp}{a:Addr}(h:jU K H a vs)(l:ak K H ds vs):bj K H (.tup ds) (.ref a):=by unfold bj;exact⟨a,vs,rfl,h,l⟩
def zO(h:small i=true): -(2 ^64)<i/\i<2 ^64:=by
 simp only[small,QUz]at h
 exact⟨by omega,by omega⟩
def RC:Rul X (Vj X.K) (binop .add):=by
 intro env σ H x y z v u Q S Dx Dy e q
 cases x with
 |int i=>
  cases y with
  |int j=>cases e;exact .inl ⟨i,j,Dx,Dy,q _ H (Nx.refl S) rfl⟩
  |_=>cases e
 |tup xs=>
  cases y with
  |tup ys=>
   unfold binop at e;dsimp only at e
   split at e
   ·rename_i hf
    cases e
    obtain⟨a,vs,rfl,ha,la⟩:=cY Dx
    obtain⟨b,ws,rfl,hb,lb⟩:=cY Dy
    refine .inr (.inl ⟨a,b,vs,ws,rfl,rfl,ha,hb,by rw[<-la.length,<-lb.length];exact gC hf,fun e0=>?_,fun _ e0=>?_,fun _ _ p hp=>?_⟩)
    ·subst e0
     have:xs=[]:=by have:=la.length;cases xs<;>simp_all
     subst this
     exact q _ H (Nx.refl S) (fD hb lb)
    ·subst e0
     have:ys=[]:=by have:=lb.length;cases ys<;>simp_all
     subst this
     exact q _ H (Nx.refl S) (by rw[List.append_nil];exact fD ha la)
    ·have N:=Nx.laid (o:=.tup (vs++ws)) S hp
     exact q _ _ N (fD (.inl (.inl aB)) ((la.append lb).mono N.pers))
   ·cases e
  |_=>cases e
 |lst xs=>
  cases y with
  |lst ys=>
   unfold binop at e;dsimp only at e
   split at e
   ·rename_i hf
    cases e
    obtain⟨a,vs,rfl,ha,la⟩:=dJ Dx
    obtain⟨b,ws,rfl,hb,lb⟩:=dJ Dy
    exact .inr (.inr ⟨a,b,vs,ws,rfl,rfl,ha.sq,hb.sq,by rw[<-la.length,<-lb.length];exact gC hf,fun p hp=>q _ _ (Nx.laid (o:=.lst (vs++ws)) S hp) (oH S (la.append lb) hp)⟩)
   ·cases e
  |_=>cases e
 |_=>cases y<;>cases e
def Bv(ho:o≠ .add)(hm:o≠ .mul){z:Rv}(e:binop o x y=some z):(∃i,x=.int i)/\∃j,y=.int j:=by
 cases x with
 |int i=>exact⟨⟨i,rfl⟩,by cases y with
  |int j=>exact⟨j,rfl⟩
  |_=>cases o<;>cases e⟩
 |tup _=>cases o<;>first|exact absurd rfl ho|exact absurd rfl hm|cases e
 |lst _=>cases o<;>first|exact absurd rfl ho|cases e
 |_=>cases o<;>cases e
def Rr:Rul X (QC fun i j=>.int (i-j)) (binop .sub):=by
 intro env σ H x y z v u Q S Dx Dy e q
 obtain⟨⟨i,rfl⟩,j,rfl⟩:=Bv (by intro h;cases h) (by intro h;cases h) e
 cases e
 exact⟨_,_,Dx,Dy,q _ H (Nx.refl S) rfl⟩
def Ve(K:QQq):R2:=fun x y H Q=>rI Uo (fun i j=>.int (i*j)) x y H Q
def R7:iV X (binaryOp .Mult) (Ve X.K):=Xo
def Rt:Rul X (Ve X.K) (binop .mul):=by
 intro env σ H x y z v u Q S Dx Dy e q
 cases x with
 |int i=>
  cases y with
  |int j=>
   unfold binop at e;dsimp only at e
   split at e
   ·rename_i hs
    cases e
    simp only[Bool.or_eq_true]at hs
    exact⟨i,j,Dx,Dy,hs.imp zO zO,q _ H (Nx.refl S) rfl⟩
   ·cases e
  |_=>cases e
 |_=>cases y<;>cases e
def Ru:Rul X (rI (fun _ j=>0<j) fun i j=>.int (i%j)) (binop .mod):=by
 intro env σ H x y z v u Q S Dx Dy e q
 obtain⟨⟨i,rfl⟩,j,rfl⟩:=Bv (by intro h;cases h) (by intro h;cases h) e
 unfold binop at e;dsimp only at e
 split at e
 ·rename_i hs
  cases e
  exact⟨i,j,Dx,Dy,hs,q _ H (Nx.refl S) rfl⟩
 ·cases e
def acj(ha:GE X W c m1 a)(hb:GE X W c m2 b):GE X W c (.op o m1 m2) (.BinOp a (abK o) b pos):=by
 intro env
 cases o with
 |add=>exact RC.bin (Gr Sh ha.d hb.d) env
 |sub=>exact Rr.bin (Gr Xm ha.d hb.d) env
 |mul=>exact Rt.bin (Gr R7 ha.d hb.d) env
 |mod=>exact Ru.bin (Gr Xp ha.d hb.d) env
def Yy(ha:GE X W c m1 a):GE X W c (.neg m1) (.UnaryOp .USub a pos):=by
 intro env
 refine PE.imp (abA Wh ha.d) fun σ H Q q=>?_
 refine⟨env,aP q fun d δ v H1 N1 D1 q1=>?_⟩
 obtain⟨z,ez,S,q3⟩:=cW q1
 cases d<;>first
  |(cases ez;done)
  |(cases ez;exact⟨_,D1,q3 _ H1 (Nx.refl S) rfl⟩)
end
mutual
def py:D->PyData
 |.non=>.none
 |.bl b=>.bool b
 |.int i=>.int i
 |.str x=>.str x
 |.tup xs=>.tuple (BX xs)
 |.lst xs=>.list (BX xs)
 |.eE _ _=>.none
def BX:List D->List PyData
 |[]=>[]
 |x::xs=>py x::BX xs
end
mutual
theorem yG:∀a b:D,nd a=true->nd b=true->PyData.eqv (py a) (py b)=dH a b
 |.eE _ _,_=>fun h _=>by simp[nd]at h
 |.non,.eE _ _=>fun _ h=>by simp[nd]at h
 |.bl _,.eE _ _=>fun _ h=>by simp[nd]at h
 |.int _,.eE _ _=>fun _ h=>by simp[nd]at h
 |.str _,.eE _ _=>fun _ h=>by simp[nd]at h
 |.tup _,.eE _ _=>fun _ h=>by simp[nd]at h
 |.lst _,.eE _ _=>fun _ h=>by simp[nd]at h
 |.tup xs,.tup ys=>fun h h'=>by simp only[py,PyData.eqv,dH];exact yF xs ys (by simpa[nd]using h) (by simpa[nd]using h')
 |.lst xs,.lst ys=>fun h h'=>by simp only[py,PyData.eqv,dH];exact yF xs ys (by simpa[nd]using h) (by simpa[nd]using h')
 |.non,.non=>fun _ _=>rfl
 |.non,.bl _=>fun _ _=>rfl
 |.non,.int _=>fun _ _=>rfl
 |.non,.str _=>fun _ _=>rfl
 |.non,.tup _=>fun _ _=>rfl
 |.non,.lst _=>fun _ _=>rfl
 |.bl _,.non=>fun _ _=>rfl
 |.bl _,.bl _=>fun _ _=>rfl
 |.bl a,.int j=>fun _ _=>rfl
 |.bl _,.str _=>fun _ _=>rfl
 |.bl _,.tup _=>fun _ _=>rfl
 |.bl _,.lst _=>fun _ _=>rfl
 |.int _,.non=>fun _ _=>rfl
 |.int i,.bl b=>fun _ _=>rfl
 |.int _,.int _=>fun _ _=>rfl
 |.int _,.str _=>fun _ _=>rfl
 |.int _,.tup _=>fun _ _=>rfl
 |.int _,.lst _=>fun _ _=>rfl
 |.str _,.non=>fun _ _=>rfl
 |.str _,.bl _=>fun _ _=>rfl
 |.str _,.int _=>fun _ _=>rfl
 |.str x,.str y=>fun _ _=>by simp only[py,PyData.eqv,dH];rw[Bool.beq_eq_decide_eq]
 |.str _,.tup _=>fun _ _=>rfl
 |.str _,.lst _=>fun _ _=>rfl
 |.tup _,.non=>fun _ _=>rfl
 |.tup _,.bl _=>fun _ _=>rfl
 |.tup _,.int _=>fun _ _=>rfl
 |.tup _,.str _=>fun _ _=>rfl
 |.tup _,.lst _=>fun _ _=>rfl
 |.lst _,.non=>fun _ _=>rfl
 |.lst _,.bl _=>fun _ _=>rfl
 |.lst _,.int _=>fun _ _=>rfl
 |.lst _,.str _=>fun _ _=>rfl
 |.lst _,.tup _=>fun _ _=>rfl
theorem yF:∀xs ys:List D,mV xs=true->mV ys=true->PyData.eqvAll (BX xs) (BX ys)=Bk xs ys
 |[],[]=>fun _ _=>rfl
 |[],_::_=>fun _ _=>rfl
 |_::_,[]=>fun _ _=>rfl
 |x::xs,y::ys=>fun h h'=>by
  simp only[mV,QUq]at h h'
  simp only[BX,PyData.eqvAll,Bk]
  rw[yG x y h.1 h'.1,yF xs ys h.2 h'.2]
end
def K5(h:WW x=true):PyData.strOk x=true:=by
 unfold WW at h
 unfold PyData.strOk
 rw[Array.all_eq_true]at h⊢
 intro i hi
 have:=h i hi
 simp only[QUz]at this⊢
 omega
mutual
theorem jP:∀a:D,nd a=true->(py a).canLay0=true
 |.non=>fun _=>rfl
 |.bl _=>fun _=>rfl
 |.int _=>fun _=>rfl
 |.str x=>fun h=>K5 h
 |.tup xs=>fun h=>by simp only[py,PyData.canLay0];exact jO xs (by simpa[nd]using h)
 |.lst xs=>fun h=>by simp only[py,PyData.canLay0];exact jO xs (by simpa[nd]using h)
 |.eE _ _=>fun h=>by simp[nd]at h
theorem jO:∀xs:List D,mV xs=true->PyData.canLayAll0 (BX xs)=true
 |[]=>fun _=>rfl
 |x::xs=>fun h=>by
  simp only[mV,QUq]at h
  simp only[BX,PyData.canLayAll0,QUq]
  exact⟨jP x h.1,jO xs h.2⟩
end
mutual
theorem yK:∀a:D,nd a=true->(py a).depth=dep a
 |.non=>fun _=>rfl
 |.bl _=>fun _=>rfl
 |.int _=>fun _=>rfl
 |.str _=>fun _=>rfl
 |.tup xs=>fun h=>by simp only[py,PyData.depth,dep];rw[yJ xs (by simpa[nd]using h)]
 |.lst xs=>fun h=>by simp only[py,PyData.depth,dep];rw[yJ xs (by simpa[nd]using h)]
 |.eE _ _=>fun h=>by simp[nd]at h
theorem yJ:∀xs:List D,mV xs=true->PyData.depthAll (BX xs)=mR xs
 |[]=>fun _=>rfl
 |x::xs=>fun h=>by
  simp only[mV,QUq]at h
  simp only[BX,PyData.depthAll,mR]
  rw[yK x h.1,yJ xs h.2]
end
def eZ(K:QQq)(H:Hp)(d:D)(v:V):Prop:=bj K H d v\/∃q a,d=Ob.d q/\v=.ref a/\j7 K H q a
section
mutual
theorem bj.reads(I:Inv X γ σ H s):∀{d:D}{v:V}{u:Value},nd d=true->bj X.K H d v->RelV v u->∃as,Reads s.heap u (py d) as
 |.non,v,u,_,h,r=>by cases h;cases r;exact⟨_,.none⟩
 |.bl b,v,u,_,h,r=>by cases h;cases r;exact⟨_,.bool b⟩
 |.int i,v,u,_,h,r=>by cases h;obtain⟨t,rfl⟩:=r;exact⟨_,.int i t⟩
 |.str x,v,u,_,h,r=>by cases h;obtain⟨t,rfl⟩:=r;exact⟨_,.str x t⟩
 |.tup ds,v,u,hn,h,r=>by
  obtain⟨a,vs,rfl,hq,l⟩:=cY h
  cases r
  obtain⟨its,rv,⟨o,e,c,n,dt⟩,_⟩:=I.tuple hq
  obtain⟨as,q⟩:=ak.reads I (by simpa[nd]using hn) l rv
  exact⟨as,by rw[py];exact .tuple e c dt (by simpa using q)⟩
 |.lst ds,v,u,hn,h,r=>by
  obtain⟨a,vs,rfl,hq,l⟩:=dJ h
  cases r
  obtain⟨its,rv,⟨o,n,e,c,_,dt⟩,_⟩:=I.list hq.sq
  obtain⟨as,q⟩:=ak.reads I (by simpa[nd]using hn) l rv
  exact⟨a::as,by rw[py];exact .list e c dt (by simpa using q)⟩
 |.eE _ _,_,_,h,_,_=>by simp[nd]at h
theorem ak.reads(I:Inv X γ σ H s):∀{ds:List D}{vs:List V}{us:List Value},mV ds=true->ak X.K H ds vs->Vals vs us->∃as,ReadsAll s.heap us (BX ds) as
 |[],vs,us,_,h,r=>by rw[ak.bJ.mp h]at r;cases r;exact⟨_,.nil⟩
 |d::ds,vs,us,hn,h,r=>by
  obtain⟨v,rs,rfl,h1,h2⟩:=ak.aX.mp h
  simp only[mV,QUq]at hn
  cases r with
  |cons r1 r2=>
   obtain⟨as,q1⟩:=bj.reads I hn.1 h1 r1
   obtain⟨bs,q2⟩:=ak.reads I hn.2 h2 r2
   exact⟨as++bs,.cons q1 q2⟩
end
theorem eZ.reads(I:Inv X γ σ H s){d:D}{v:V}{u:Value}(hn:nd d=true)(h:eZ X.K H d v)(r:RelV v u):∃as,Reads s.heap u (py d) as:=by
 rcases h with h|⟨q,a,rfl,rfl,u',ha,hq⟩
 ·exact bj.reads I hn h r
 ·cases r
  cases q with
  |dct ks ds=>simp[Ob.d,nd]at hn
  |lst ds=>
  obtain⟨vs,rfl,l⟩:=hq
  obtain⟨its,rv,⟨o,n,e,c,_,dt⟩,_⟩:=I.list (.inl (.inl ha))
  obtain⟨as,q⟩:=ak.reads I (by simpa[Ob.d,nd]using hn) l rv
  exact⟨a::as,by rw[Ob.d,py];exact .list e c dt (by simpa using q)⟩
end
section
theorem eZ.flat{H:Hp}{v:V}(h:eZ K H x v)(f:flat x=true):bj K H x v:=by
 rcases h with h|⟨q,a,rfl,_⟩
 ·exact h
 ·cases q<;>simp[Ob.d,Mini.flat]at f
def Hk(f:flat x=true)(hs:∀y,x≠ .str y):nd x=true/\dep x=0:=by
 cases x<;>simp_all[flat,nd,dep]
def aeT(K:QQq):R2:=fun x y H Q=>∃p q,eZ K H p x/\eZ K H q y/\j6 p q=true/\Q (.bl (dH p q)) H
def aeP(K:QQq):R2:=fun x y H Q=>∃p q,eZ K H p x/\eZ K H q y/\j6 p q=true/\Q (.bl (!dH p q)) H
def Hm{H:Hp}{x y:V}(Dp:bj K H p x)(Dq:bj K H q y)(fp:flat p=true)(fq:flat q=true)(hs:(∃z,p=.str z)\/∃z,q=.str z):Ro x y=true/\decide (x=y)=dH p q:=by
 cases p<;>cases q<;>simp_all[flat]<;>(cases Dp;cases Dq;unfold Ro dH;simp)
def Hl{p q:D}(hu:u+60<cLine)(hp:nd p=true)(hq:nd q=true)(hd:dep p<=50):u+min (py p).depth (py q).depth<cLine:=by
 rw[yK p hp,yK q hq]
 omega
def uD(h:j6 p q=true):(nd p=true/\nd q=true/\dep p<=50)\/(flat p=true/\flat q=true/\((∃z,p=.str z)\/∃z,q=.str z)):=by
 simp only[j6,Bool.or_eq_true,QUq,QUz]at h
 rcases h with ⟨h1,h2⟩|⟨⟨h1,h2⟩,h3⟩
 ·by_cases hs:(∃z,p=.str z)\/∃z,q=.str z
  ·exact .inr ⟨h1,h2,hs⟩
  ·have k1:=Hk h1 (fun y e=>hs (.inl ⟨y,e⟩))
   exact .inl ⟨k1.1,(Hk h2 (fun y e=>hs (.inr ⟨y,e⟩))).1,by omega⟩
 ·exact .inl ⟨h1,h3,h2⟩
def Xu(hu:X.A.units+60<cLine):iV X (compareOp .Eq) (aeT X.K):=by
 intro γ s σ H x y v u Q I rx ry h
 obtain⟨p,q,Dp,Dq,ok,k⟩:=h
 rcases uD ok with ⟨h1,h2,h3⟩|⟨h1,h2,h3⟩
 ·obtain⟨as,ra⟩:=Dp.reads I h1 rx
  obtain⟨bs,rb⟩:=Dq.reads I h2 ry
  exact SeqAt.compareEq_reads ra rb (jP p h1) (jP q h2) (Hl hu h1 h2 h3) (by rw[yG p q h1 h2];exact⟨.bl _,H,I,rfl,k⟩)
 ·obtain⟨e1,e2⟩:=Hm (Dp.flat h1) (Dq.flat h2) h1 h2 h3
  exact abJ γ s σ H x y v u Q I rx ry ⟨e1,by rw[e2];exact k⟩
def Xn(hu:X.A.units+60<cLine):iV X (compareOp .NotEq) (aeP X.K):=by
 intro γ s σ H x y v u Q I rx ry h
 obtain⟨p,q,Dp,Dq,ok,k⟩:=h
 rcases uD ok with ⟨h1,h2,h3⟩|⟨h1,h2,h3⟩
 ·obtain⟨as,ra⟩:=Dp.reads I h1 rx
  obtain⟨bs,rb⟩:=Dq.reads I h2 ry
  exact SeqAt.compareNe_reads ra rb (jP p h1) (jP q h2) (Hl hu h1 h2 h3) (by rw[yG p q h1 h2];exact⟨.bl _,H,I,rfl,k⟩)
 ·obtain⟨e1,e2⟩:=Hm (Dp.flat h1) (Dq.flat h2) h1 h2 h3
  exact abF γ s σ H x y v u Q I rx ry ⟨e1,by rw[e2];exact k⟩
theorem um{K:QQq}{H:Hp}{p:D}{x:V}(Dp:bj K H p x)(fp:flat p=true):∀{ds:List D}{vs:List V},ak K H ds vs->ds.all flat=true->vs.all jo=true/\inV x vs=aR p ds
 |[],vs,h,_=>by rw[ak.bJ.mp h];exact⟨rfl,rfl⟩
 |d::ds,vs,h,f=>by
  obtain⟨v,r,rfl,h1,h2⟩:=ak.aX.mp h
  rw[List.all_cons,QUq]at f
  obtain⟨k1,k2⟩:=um Dp fp h2 f.2
  have fv:jo v=true/\Kc v x=dH d p:=by
   obtain⟨f1,_⟩:=f
   cases d<;>cases p<;>simp_all[flat]<;>(cases h1;cases Dp;first|exact⟨rfl,rfl⟩|(refine⟨rfl,?_⟩;simp[Kc,dH];try (rw[Bool.beq_eq_decide_eq])))
  refine⟨by rw[List.all_cons,fv.1,k1];rfl,?_⟩
  unfold inV at k2⊢
  rw[List.any_cons,fv.2,k2]
  rfl
theorem uT(hp:nd p=true):∀{ds:List D},mV ds=true->((BX ds).any fun y=>PyData.eqv y (py p))=aR p ds
 |[]=>fun _=>rfl
 |d::ds=>fun h=>by
  simp only[mV,QUq]at h
  rw[BX,List.any_cons,yG d p h.1 hp,uT hp h.2]
  rfl
def Qp(K:QQq)(H:Hp)(xs:List D)(y:V):Prop:=∃a vs,y=.ref a/\(jV K H a vs\/jU K H a vs)/\ak K H xs vs
def abw(K:QQq)(neg:Bool):R2:=fun x y H Q=>∃p xs,bj K H p x/\Qp K H xs y/\gr p xs=true/\Q (.bl (if neg then !aR p xs else aR p xs)) H
def rH{p:D}(hu:u+60<cLine)(hp:nd p=true)(hd:dep p<=50):u+1+min (PyData.depthAll (BX xs)) (py p).depth<cLine:=by
 rw[yK p hp]
 omega
theorem Qp.reads{s:Shared}{σ:St}{H:Hp}{y:V}(I:Inv X γ σ H s)(h:Qp X.K H xs y)(hn:mV xs=true)(r:RelV y u):
  ∃as,Reads s.heap u (.list (BX xs)) as\/Reads s.heap u (.tuple (BX xs)) as:=by
 obtain⟨a,vs,rfl,hq,l⟩:=h
 cases r
 rcases hq with hq|hq
 ·obtain⟨its,rv,⟨o,n,e,c,_,dt⟩,_⟩:=I.list hq
  obtain⟨as,q⟩:=ak.reads I hn l rv
  exact⟨a::as,.inl (.list e c dt (by simpa using q))⟩
 ·obtain⟨its,rv,⟨o,e,c,n,dt⟩,_⟩:=I.tuple hq
  obtain⟨as,q⟩:=ak.reads I hn l rv
  exact⟨as,.inr (.tuple e c dt (by simpa using q))⟩
def Xr(hu:X.A.units+60<cLine):iV X (compareOp .In) (abw X.K false):=by
 intro γ s σ H x y v u Q I rx ry h
 obtain⟨p,xs,Dp,hS,ok,k⟩:=h
 simp only[gr,Bool.or_eq_true,QUq,QUz]at ok
 rcases ok with ⟨h1,h2⟩|⟨⟨h1,h2⟩,h3⟩
 ·obtain⟨a,vs,rfl,hq,l⟩:=hS
  obtain⟨k1,k2⟩:=um Dp h1 l h2
  exact Jb γ s σ H x _ v u Q I rx ry ⟨a,vs,rfl,hq,(by cases p<;>simp_all[flat]<;>(cases Dp;rfl)),k1,by simpa[k2]using k⟩
 ·obtain⟨bs,rb⟩:=bj.reads I h1 Dp rx
  obtain⟨as,ra|ra⟩:=hS.reads I h3 ry
  ·exact SeqAt.in_list_reads ra rb (jO xs h3) (jP p h1) (rH hu h1 h2) (by rw[uT h1 h3];exact⟨.bl _,H,I,rfl,k⟩)
  ·exact SeqAt.in_tuple_reads ra rb (jO xs h3) (jP p h1) (rH hu h1 h2) (by rw[uT h1 h3];exact⟨.bl _,H,I,rfl,k⟩)
def I9(hu:X.A.units+60<cLine):iV X (compareOp .NotIn) (abw X.K true):=by
 intro γ s σ H x y v u Q I rx ry h
 obtain⟨p,xs,Dp,hS,ok,k⟩:=h
 simp only[gr,Bool.or_eq_true,QUq,QUz]at ok
 rcases ok with ⟨h1,h2⟩|⟨⟨h1,h2⟩,h3⟩
 ·obtain⟨a,vs,rfl,hq,l⟩:=hS
  obtain⟨k1,k2⟩:=um Dp h1 l h2
  exact yc γ s σ H x _ v u Q I rx ry ⟨a,vs,rfl,hq,(by cases p<;>simp_all[flat]<;>(cases Dp;rfl)),k1,by simpa[k2]using k⟩
 ·obtain⟨bs,rb⟩:=bj.reads I h1 Dp rx
  obtain⟨as,ra|ra⟩:=hS.reads I h3 ry
  ·exact SeqAt.notIn_list_reads ra rb (jO xs h3) (jP p h1) (rH hu h1 h2) (by rw[uT h1 h3];exact⟨.bl _,H,I,rfl,k⟩)
  ·exact SeqAt.notIn_tuple_reads ra rb (jO xs h3) (jP p h1) (rH hu h1 h2) (by rw[uT h1 h3];exact⟨.bl _,H,I,rfl,k⟩)
end
structure Gives(K:QQq)(J:It)(xs:List D)(H:Hp):Prop where
 go:∀H1,bV H H1->∀(i:Nat)d,xs[i]? =some d->J.go i H1
 yld:∀H1,bV H H1->∀(i:Nat)d,xs[i]? =some d->∀x H2,J.yld i H1 x H2->bj K H2 d x/\(H2=H1\/∃p vs,H1 p=none/\H2=upd H1 p (.tup vs))
 stop:∀H1,bV H H1->∀(i:Nat),xs.length<=i->J.stop i H1
 len:xs.length<=sizeLine
noncomputable def tI(K:QQq)(W:Wi)(env:Ev)(r:Out Rv):TI:=fun σ H R=>Sat K env σ H/\match r with
 |.ok x env'=>∃d xs,x.j8=some d/\items d=some xs/\∀J H',Nx K env σ H env' H'->Gives K J xs H'->R J H'
 |.exc c env'=>∀H',Nx K env σ H env' H'->W c env' σ H'
 |.bad=>False
def GI(X:Cx)(W:Wi)(c:Cf)(m:E)(tg e:Expr):Prop:=∀env,PI X tg e (tI X.K W env (ev c m env))
section
theorem yP{ifs:List Expr}{pos:Pos}{env:Env}(I:Nat->Shared->Prop)
  (turn:∀n s,I n s->wpAny (model prog w) A (pyNext it) (fun r θ=>match r with
   |none=>R (.ok .next) θ
   |some v=>wpAny (model prog w) A (letOwnedTupleGo target it v) (fun _ s₁'=>wpAny (model prog w) A (assign target env v) (fun _ ω=>
     wpAny (model prog w) A (forIn ifs true fun c r=>if r=true then do let ok<-isTrue c env (eval c env);pure (ForInStep.yield ok)else pure (ForInStep.yield r)) (fun ok s₃=>
      if ok=true then wpAny (model prog w) A (eval elt env) (fun x s₄=>
       wpAny (model prog w) A (call (.builtin "list.append") [acc,x]) (fun _ s₅=>∃m,m<n/\I m s₅) (fun _ _=>False) s₄) (fun _ _=>False) s₃
      else∃m,m<n/\I m s₃) (fun _ _=>False) ω) (fun _ _=>False) s₁') (fun _ _=>False) θ) (fun _ _=>False) s)
  n(h:I n s):
  codeAny (model prog w) A (.compLoop (.ListComp elt [⟨target,iter,ifs,0⟩] scope pos) 0 it acc env) R s:=by
 refine codeAny_loop rfl I (fun n s hI=>?_) n h
 refine wpAny_noted ?_
 refine QKq (wpAny_standAt (QKq (QGq (turn n s hI) (fun r θ Δ=>?_) fun _ _ h'=>h'.elim)))
 cases r with
 |none=>exact QKz Δ
 |some v=>
  refine QKq (QGq Δ (fun _ s₁' h₁'=>?_) fun _ _ h'=>h'.elim)
  refine QKq (QGq h₁' (fun _ ω Φ=>QKq (QGq Φ (fun ok s₃ h₃=>?_) fun _ _ h'=>h'.elim)) fun _ _ h'=>h'.elim)
  cases ok with
  |false=>exact QKz ⟨rfl,h₃⟩
  |true=>
   exact QKq (QKq (QGq h₃ (fun x s₄ h₄=>QKq (QGq h₄ (fun _ s₅ h₅=>QKz (QKz ⟨rfl,h₅⟩)) fun _ _ h'=>h'.elim)) fun _ _ h'=>h'.elim))
end
noncomputable def blk(X:Cx)(scope:Scope)(cl:List (Str×Addr))(N:List Str)(fp:List Addr)(s₀:Shared)(H₀:Hp):Cx where
 prog:=X.prog
 w:=X.w
 K:=X.K
 mg:=X.mg
 base:=X.base
 A:=X.A
 N:=N
 s₀:=s₀
 H₀:=H₀
 env:=compEnvC scope cl s₀.heap.objs.size X.env
 outer:=X.stack
 stack:=X.stack
 ex:=fp
 fn:=fun _=>false
 calm:=X.calm
 pn:=[]
 xe:=fun _ _=>False
def cC(η N:List Str):List Str:=η++N.map fun x=>if η.contains x then(".":Str)++x else x
structure J6(sc inner:Scope)(η N:List Str):Prop where
 kind:inner.kind=.function
 nd:(cC η N).Nodup
 loc:∀x,inner.names.lookup x=some .local->x∈η\/x=(".0":Str)
 locs:∀x∈inner.names,x.2=.local->inner.names.lookup x.1=some .local
 tg:∀x∈η,inner.names.lookup x=some .local
 nocell:∀x∈inner.names,x.2≠ .cell
 fre:∀x∈inner.names,x.2=.free->sc.names.lookup x.1=some .cell\/sc.names.lookup x.1=some .free
 dot:∀x∈N,η.contains x=true->inner.names.lookup ((".":Str)++x)=none
 dot0:(".0":Str)∉N
structure Qx(scope:Scope)(env:Env)(cl:List (Str×Addr)):Prop where
 eq:closureFor scope env=pure cl
 to:∀x c,cl.lookup x=some c->env.cells.lookup x=some c
 has:∀x,scope.names.lookup x=some .free->∃c,cl.lookup x=some c
theorem bY{env:Env}:∀{names:List (Str×NameKind)}{x:Str}{k:NameKind},
  (names.map fun(n,k)=>if (k==NameKind.free&&env.scope.kind== .function&&env.kindOf n==some .cell)then(n,NameKind.cell)else(n,k)).lookup x=some k->
   names.lookup x=some k\/(k=.cell/\names.lookup x=some .free)
 |[],_,_,h=>by simp at h
 |(n,k')::r,x,k,h=>by
  rw[Qyz]at h
  cases hx:x==n with
  |true=>
   by_cases hc:(k'==NameKind.free&&env.scope.kind== .function&&env.kindOf n==some .cell)=true
   ·simp only[hc,if_true,QHz,hx]at h
    cases h
    simp only[QUq,beq_iff_eq]at hc
    exact .inr ⟨rfl,by simp[QHz,hx,hc.1.1]⟩
   ·simp only[eq_false_of_ne_true hc,Qxq,if_false,QHz,hx]at h
    exact .inl (by simpa[QHz,hx]using h)
  |false=>
   have h':(r.map fun(n,k)=>if (k==NameKind.free&&env.scope.kind== .function&&env.kindOf n==some .cell)then(n,NameKind.cell)else(n,k)).lookup x=some k:=by
    by_cases hc:(k'==NameKind.free&&env.scope.kind== .function&&env.kindOf n==some .cell)=true
    ·simpa only[hc,if_true,QHz,hx]using h
    ·simpa only[eq_false_of_ne_true hc,Qxq,if_false,QHz,hx]using h
   rcases (@bY env r x k) h' with q|⟨q1,q2⟩
   ·exact .inl (by simpa[QHz,hx]using q)
   ·exact .inr ⟨q1,by simpa[QHz,hx]using q2⟩
theorem PX{scope:Scope}{η:List Str}{fp:List Addr}{σ:St}
  (I:Inv X γ σ H s)(sc:J6 X.env.scope scope η X.N)(co:Qx scope X.env cl)(hf:∀b∈fp,dC X γ H b)(hlt:∀b∈fp,b<s.heap.objs.size):
  (blk X scope cl (cC η X.N) fp s H).Ok where
 mod:=I.ok.mod
 kind:=sc.kind
 glob:=I.ok.glob
 blt:=I.ok.blt
 above:=QVz _
 inj:=fun x y c h1 h2=>I.ok.inj x y c (co.to x c h1) (co.to y c h2)
 has:=fun x h=>by
  have z:scope.names.lookup x=some .free:=by
   rcases h with h|h
   ·rcases bY h with q|⟨_,q⟩
    ·exact absurd rfl (sc.nocell _ (PySem.mem_of_lookup q))
    ·exact q
   ·rcases bY h with q|⟨q,_⟩
    ·exact q
    ·cases q
  exact co.has x z
 cab:=fun x c h=>by cases h
 hd:=I.ok.hd
 frames:=I.ok.frames
 stk:=.inl rfl
 exf:=fun b hb=>⟨Qvz (hlt b hb),fun x c h=>(hf b hb).2.2.2.2.1 x c (co.to x c h)⟩
 bs:=I.bs
 bsz:=Nat.le_trans I.ok.bsz I.sz
 noex:=fun b o e hb=>by
  rcases (hf b hb).2.2.2.1 with z|z
  ·exact I.ok.noex b o e z
  ·exact absurd (Qvq (Qqz e) (Nat.le_trans I.ok.bsz z)) (Nat.lt_irrefl _)
 exfs:=fun b hb hs=>by
  obtain⟨_,h1,h2,_⟩:=hf b hb
  rcases QCq.mp (I.Cw b hs)with z|z
  ·exact h1 z
  ·exact h2 z
 mQ:=I.stack
 frf:=I.Gb
theorem Ua{scope:Scope}{η:List Str}{fp:List Addr}{σ:St}{H:Hp}{h':Heap}
  (I:Inv X γ σ H s)(sc:J6 X.env.scope scope η X.N)(co:Qx scope X.env cl)(hf:∀b∈fp,dC X γ H b)(hlt:∀b∈fp,b<s.heap.objs.size)
  (hn:h'.Ns s.heap.objs.size fun _=>none)(hk:∀b o,s.heap.get? b=some o->h'.get? b=some o):
  Inv (blk X scope cl (cC η X.N) fp s H) [] (List.replicate η.length none++σ) H {s with heap:=h',toks:=t}:=by
 have cellK:∀c v,s.heap.IsCell c v->h'.IsCell c v:=fun c v⟨o,e,d⟩=>⟨o,hk c o e,d⟩
 refine⟨PX I sc co hf hlt,rfl,I.bare,Un.kept hk,⟨_,hn,fun i x v e1 e2 e3=>?_⟩,fun x c e=>?_,I.hok.fresh (QVz _),fun x c e=>I.freeC x c (co.to x c e),fun p hp=>absurd (show p∈([])from hp) (by simp),I.hok.kept hk,?_⟩
 ·--an outer name that is seen within
  have hi:η.length<=i:=by
   refine Nat.le_of_not_lt fun q=>?_
   rw[Qwz (by simpa using q),List.getElem?_replicate]at e2
   split at e2<;>cases e2
  rw[QIz (by simpa using hi)]at e2
  simp only[List.length_replicate]at e2
  have e1':(cC η X.N)[i]? =some x:=e1
  unfold cC at e1'
  rw[QIz hi,QFz]at e1'
  cases ey:X.N[i-η.length]? with
  |none=>rw[ey]at e1';cases e1'
  |some y=>
   rw[ey]at e1'
   have e1'':(if η.contains y=true then(".")++y else y)=x:=QEq e1'
   have e3':=e3
   by_cases hy:η.contains y=true
   ·rw[if_pos hy]at e1''
    subst e1''
    have no:=sc.dot y (QBz ey) hy
    rcases e3' with q|q|q
    ·rcases bY q with z|⟨z,_⟩
     ·rw[no]at z;cases z
     ·cases z
    ·rcases bY q with z|⟨_,z⟩
     ·rw[no]at z;cases z
     ·rw[no]at z;cases z
    ·rcases bY q with z|⟨z,_⟩
     ·rw[no]at z;cases z
     ·cases z
   ·rw[if_neg hy]at e1''
    subst e1''
    have fr:scope.names.lookup y=some .free:=by
     rcases e3' with q|q|q
     ·rcases bY q with z|⟨z,_⟩
      ·rcases sc.loc y z with w|w
       ·exact absurd (by simpa using w) hy
       ·exact absurd (w▸QBz ey) sc.dot0
      ·cases z
     ·rcases bY q with z|⟨_,z⟩
      ·exact absurd rfl (sc.nocell _ (PySem.mem_of_lookup z))
      ·exact z
     ·rcases bY q with z|⟨z,_⟩
      ·exact z
      ·cases z
    have ou:=sc.fre _ (PySem.mem_of_lookup fr) rfl
    obtain⟨m,hm,hl⟩:=I.loc
    obtain⟨u,r,l⟩:=hl _ y v ey e2 (.inr ou)
    obtain⟨c,hc⟩:=co.has y fr
    refine⟨u,r,.inr ⟨?_,c,hc,?_⟩⟩
    ·have z:=e3'
     rcases z with z|z|z
     ·rcases bY z with w|⟨w,_⟩
      ·rw[fr]at w;cases w
      ·cases w
     ·exact .inl z
     ·exact .inr z
    ·rcases l with ⟨k,_⟩|⟨_,c',hc',z⟩
     ·have k':X.env.scope.names.lookup y=some .local:=k
      rcases ou with w|w
      ·rw[k']at w;cases w
      ·rw[k']at w;cases w
     ·rw[co.to y c hc]at hc'
      cases hc'
      exact cellK c _ z
 ·obtain⟨v,z⟩:=I.cell x c (co.to x c e)
  exact⟨v,cellK c v z⟩
 ·show(List.replicate η.length none++σ).length=(cC η X.N).length
  unfold cC
  simp only[QTq,List.length_replicate,QAq,I.len]
def slots:Tg->List Nat
 |.name i=>[i]
 |.tup is=>is
structure j4(K:QQq)(tg:Tg)(env:Ev)(σ:St)(env':Ev)(ζ:St)(H:Hp):Prop where
 gK:Sat K env' ζ H
 same:∀(i:Nat),i∉slots tg->env'[i]? =env[i]? /\ζ[i]? =σ[i]?
 vals:∀(i:Nat),i∈slots tg->∃d,env'[i]? =some (.val d)
 bors:∀(i:Nat)xs,env[i]? =some (.bor xs)->i∉slots tg
 len:ζ.length=σ.length
def tG(K:QQq)(tg:Tg):TG:=fun v σ H Q=>∃env d env',Sat K env σ H/\bj K H d v/\cR tg d env=some env'/\∀ζ,j4 K tg env σ env' ζ H->Q ζ H
def GG(X:Cx)(tg:Tg)(e:Expr):Prop:=PG X e (tG X.K tg)
section
def j4.sub(h:j4 K tg env σ env' ζ H){a:Addr}(o:aO env' ζ i a):aO env σ i a:=by
 obtain⟨⟨s,xs,e1,e2⟩,e3⟩:=o
 by_cases hi:i∈slots tg
 ·obtain⟨d,e⟩:=h.vals i hi
  rw[e]at e1;cases e1;cases e2
 ·obtain⟨q1,q2⟩:=h.same i hi
  exact⟨⟨s,xs,by rw[<-q1];exact e1,e2⟩,by rw[<-q2];exact e3⟩
def sS{s:Sl}(h:eO i s env=some env'):env'=env.set i s/\i<env.length/\∀xs,env[i]? ≠some (.bor xs):=by
 unfold eO at h
 cases e:env[i]? with
 |none=>rw[e]at h;cases h
 |some t=>
  rw[e]at h
  have hi:=(QCz.mp e).1
  cases t with
  |bor xs=>cases h
  |un=>cases h;exact⟨rfl,hi,fun xs q=>by cases q⟩
  |val d=>cases h;exact⟨rfl,hi,fun xs q=>by cases q⟩
  |own ys=>cases h;exact⟨rfl,hi,fun xs q=>by cases q⟩
def Sat.put{d:D}(S:Sat K env σ H)(hi:i<env.length)(hd:bj K H d v):Sat K (env.set i (.val d)) (σ.set i (some v)) H:=by
 have own:∀j a,aO (env.set i (.val d)) (σ.set i (some v)) j a->aO env σ j a:=fun j a⟨⟨s,xs,e1,e2⟩,e3⟩=>by
  by_cases hj:i=j
  ·subst hj;rw[Qwq hi]at e1;cases e1;cases e2
  ·rw[Qxz hj]at e1 e3;exact⟨⟨s,xs,e1,e2⟩,e3⟩
 refine⟨by simpa using S.len,fun j s e=>?_,fun j k a h1 h2=>S.ne j k a (own j a h1) (own k a h2)⟩
 by_cases hj:i=j
 ·subst hj
  rw[Qwq hi]at e
  cases e
  rw[Qwq (by rw[<-S.len];exact hi)]
  exact⟨v,rfl,hd⟩
 ·rw[Qxz hj]at e⊢
  exact S.sl j s e
def Rh{d:D}(S:Sat K env σ H)(hd:bj K H d v)(h:eO i (.val d) env=some env'):j4 K (.name i) env σ env' (σ.set i (some v)) H:=by
 obtain⟨rfl,hi,hb⟩:=sS h
 refine⟨S.put hi hd,fun j hj=>?_,fun j hj=>?_,fun j xs e hj=>?_,by simp⟩
 ·have:i≠j:=fun z=>hj (by simp[slots,z])
  exact⟨Qxz this,Qxz this⟩
 ·have e:j=i:=by simpa[slots]using hj
  subst e
  exact⟨d,Qwq hi⟩
 ·have e':j=i:=by simpa[slots]using hj
  subst e'
  exact hb xs e
end
section
def yD{x:Str}(hN:X.N.Nodup)(hi:X.N[i]? =some x)(hx:Loc X.env.scope x)(hf:X.fn x=true\/X.env.scope.names.lookup x=some .local):GG X (.name i) (.Name x pos):=by
 intro γ s σ H v u Q I r q
 obtain⟨env,d,env',S,hd,e,k⟩:=q
 exact RT hN hi hx hf γ s σ H v u Q I r (k _ (Rh S hd e))
def iM(sc:Scope)(N:List Str):List Nat->List Expr->Bool
 |[],[]=>true
 |i::is,.Name x _::es=>(N[i]? ==some x)&&(sc.names.lookup x==some .local)&&iM sc N is es
 |_,_=>false
inductive uV(X:Cx):List Nat->List Expr->Prop
 |nil:uV X [] []
 |cons {i:Nat} {is:List Nat} {x:Str} {p:Pos} {es:List Expr}:X.N[i]? =some x->Loc X.env.scope x->(X.fn x=true\/X.env.scope.names.lookup x=some .local)->uV X is es->uV X (i::is) (.Name x p::es)
theorem MP:∀{is:List Nat}{es:List Expr},iM X.env.scope X.N is es=true->uV X is es
 |[],[]=>fun _=>.nil
 |[],_::_=>fun h=>by simp[iM]at h
 |_::_,[]=>fun h=>by simp[iM]at h
 |i::is,e::es=>fun h=>by
  cases e with
  |Name x p=>
   simp only[iM,QUq,beq_iff_eq]at h
   exact .cons h.1.1 (.inl h.1.2) (.inr h.1.2) (MP h.2)
  |_=>simp[iM]at h
theorem Ba(hN:X.N.Nodup):∀(is:List Nat)(es:List Expr),uV X is es->
  PGs X es (fun vs σ H Q=>∃env ds env',Sat X.K env σ H/\ak X.K H ds vs/\iY is ds env=some env'/\∀ζ,j4 X.K (.tup is) env σ env' ζ H->Q ζ H)
 |[],[],_=>fun γ s σ H vs us Q I r⟨env,ds,env',S,l,e,k⟩=>by
  cases ds with
  |nil=>
   cases e
   refine RQ γ s σ H vs us Q I r ⟨ak.bJ.mp l,k σ ⟨S,fun i _=>⟨rfl,rfl⟩,fun i hi=>?_,fun i xs _=>?_,rfl⟩⟩
   ·simp[slots]at hi
   ·simp[slots]
  |cons d ds=>cases e
 |i::is,_,.cons (x:=x) (p:=p) (es:=es) h1 h2 h3 h4=>by
   intro γ s σ H vs us Q I r q
   refine Mm (yD hN h1 h2 h3) (Ba hN is es h4) (by rfl) γ s σ H vs us Q I r ?_
   obtain⟨env,ds,env',S,l,e,k⟩:=q
   cases ds with
   |nil=>cases e
   |cons d ds=>
    obtain⟨v,vr,rfl,hd,l'⟩:=ak.aX.mp l
    have e':(eO i _ env).bind _=some env':=e
    cases e1:eO i _ env with
    |none=>rw[e1]at e';cases e'
    |some δ=>
     rw[e1]at e'
     refine⟨v,vr,rfl,env,d,δ,S,hd,e1,fun ξ s1=>⟨δ,ds,env',s1.gK,l',e',fun φ s2=>k φ ⟨s2.gK,fun j hj=>?_,fun j hj=>?_,fun j xs q hj=>?_,s2.len.trans s1.len⟩⟩⟩
     ·have h1:j∉slots (.name i):=fun z=>hj (by simp[slots]at z⊢;exact .inl z)
      have h2:=fun z=>hj (by simp[slots]at z⊢;exact .inr z)
      exact⟨(s2.same j h2).1.trans (s1.same j h1).1,(s2.same j h2).2.trans (s1.same j h1).2⟩
     ·by_cases h2:j∈slots (.tup is)
      ·exact s2.vals j h2
      ·obtain⟨d',q⟩:=s1.vals j (by simp[slots]at hj h2⊢;exact hj.resolve_right h2)
       exact⟨d',(s2.same j h2).1.trans q⟩
     ·by_cases h1:j∈slots (.name i)
      ·exact s1.bors j xs q h1
      ·exact s2.bors j xs ((s1.same j h1).1.trans q) (by simp[slots]at hj h1⊢;exact hj.resolve_left h1)
def Ed{is:List Nat}{k:Nat}(hN:X.N.Nodup)(hc:X.calm=true)(h:uV X is es)(hl:(assignEach es X.env).length=is.length)(hst:(assignEach es X.env).findIdx? (·.1)=none):GG X (.tup is) (.Tuple es k pos):=by
 intro γ s σ H v u Q I r q
 obtain⟨env,d,env',S,hd,e,k⟩:=q
 cases d with
 |tup ds=>
  obtain⟨a,vs,rfl,hq,l⟩:=cY hd
  refine Xe hc (Ba hN is es h) hl hst γ s σ H _ u Q I r ⟨a,vs,rfl,hq,?_,env,ds,env',S,l,e,k⟩
  have lens:∀is ds env env',iY is ds env=some env'->ds.length=is.length:=by
   intro is
   induction is with
   |nil=>intro ds env env' e;cases ds with|nil=>rfl|cons _ _=>cases e
   |cons i is ih=>
    intro ds env env' e
    cases ds with
    |nil=>cases e
    |cons d ds=>
     have e':(eO i _ env).bind _=some env':=e
     cases e1:eO i _ env with
     |none=>rw[e1]at e';cases e'
     |some δ=>rw[e1]at e';simp[ih ds δ env' e']
  rw[<-l.length]
  exact lens is ds env env' e
 |_=>cases e
end
def W0:Wi:=fun _ _ _ _=>False
def Sat.lay{env:Ev}{H H2:Hp}(S:Sat K env σ H)(h:H2=H\/∃p vs,H p=none/\H2=upd H p (.tup vs)):Nx K env σ H env H2:=by
 rcases h with rfl|⟨p,vs,hp,rfl⟩
 ·exact Nx.refl S
 ·exact Nx.laid S hp
def tL{σ:St}{a:Addr}:aO (env.drop nl) (σ.drop nl) i a↔aO env σ (nl+i) a:=by
 unfold aO
 rw[List.getElem?_drop,List.getElem?_drop]
theorem Sat.drop{env:Ev}{H:Hp}(S:Sat K env σ H):Sat K (env.drop nl) (σ.drop nl) H:=by
 refine⟨by rw[List.length_drop,List.length_drop,S.len],fun i s e=>?_,fun i j a h1 h2=>?_⟩
 ·rw[List.getElem?_drop]at e⊢
  exact S.sl _ s e
 ·have:=S.ne _ _ a (tL.mp h1) (tL.mp h2)
  omega
def jk{σ:St}{i:Nat}(h:aO (List.replicate nl .un++env) (List.replicate nl none++σ) i a):∃j,i=nl+j/\aO env σ j a:=by
 obtain⟨⟨s,xs,e1,e2⟩,e3⟩:=h
 by_cases hi:i<nl
 ·rw[Qwz (by simpa using hi),List.getElem?_replicate,if_pos hi]at e1
  cases e1;cases e2
 ·refine⟨i-nl,by omega,?_⟩
  rw[QIz (by simp;omega)]at e1 e3
  simp only[List.length_replicate]at e1 e3
  exact⟨⟨s,xs,e1,e2⟩,e3⟩
def Sat.front{env:Ev}{H:Hp}(S:Sat K env σ H)nl:Sat K (List.replicate nl .un++env) (List.replicate nl none++σ) H:=by
 refine⟨by simp[S.len],fun i s e=>?_,fun i j a h1 h2=>?_⟩
 ·by_cases hi:i<nl
  ·rw[Qwz (by simpa using hi),List.getElem?_replicate,if_pos hi]at e
   cases e;trivial
  ·rw[QIz (by simp;omega)]at e⊢
   simp only[List.length_replicate]at e⊢
   exact S.sl _ s e
 ·obtain⟨i',rfl,o1⟩:=jk h1
  obtain⟨j',rfl,o2⟩:=jk h2
  rw[S.ne i' j' a o1 o2]
structure BV(X:Cx)(c:Cf)(scope:Scope)(η:List Str)(tg:Tg)(cond elt:E)(Ω Ξ:Expr)(ifs:List Expr):Prop where
 sc:J6 X.env.scope scope η X.N
 small:∀i∈slots tg,i<η.length
 tgt:∀cl fp s₀ H₀,(blk X scope cl (cC η X.N) fp s₀ H₀).Ok->GG (blk X scope cl (cC η X.N) fp s₀ H₀) tg Ω
 tests:(ifs=[]/\cond=.con (.bl true))\/∃ce,ifs=[ce]/\∀cl fp s₀ H₀,(blk X scope cl (cC η X.N) fp s₀ H₀).Ok->GT (blk X scope cl (cC η X.N) fp s₀ H₀) W0 c cond ce
 elts:∀cl fp s₀ H₀,(blk X scope cl (cC η X.N) fp s₀ H₀).Ok->GE (blk X scope cl (cC η X.N) fp s₀ H₀) W0 c elt Ξ
structure LI(X:Cx)(c:Cf)(tg:Tg)(cond elt:E)(xs ys:List D)(τ env0:Ev)(σ σ0:St)(H3:Hp)(D:Addr)(nl i:Nat)(acc:List Mini.D)(vs:List V)(τ1:Ev)(ξ:St)(H1:Hp):Prop where
 le:i<=xs.length
 go:aQ tg (ev c cond) (ev c elt) (xs.drop i) acc τ1=.ok ys τ
 gK:Sat X.K τ1 ξ H1
 out:ξ.drop nl=σ
 acl:acc.length<=i
 cur:H1 D=some (.lst vs)
 den:ak X.K H1 acc vs
 sub:∀k a,aO τ1 ξ k a->aO env0 σ0 k a
 pers:bV H3 H1
 keep:∀b u,H3 b=some u->b≠D->(∀k,¬aO env0 σ0 k b)->H1 b=some u
 dom:∀b,H1 b=none->H3 b=none
 bors:∀(k:Nat)ws,env0[k]? =some (.bor ws)->∃ws',τ1[k]? =some (.bor ws')
section
variable{cond elt:E}{D:Addr}
def LI.no(L:LI X c tg cond elt xs ys τ env0 σ σ0 H3 D nl i acc vs τ1 ξ H1)(hD:∀k,¬aO env0 σ0 k D):∀k,¬aO τ1 ξ k D:=fun k z=>hD k (L.sub k D z)
end
structure Ch(K:QQq)(env:Ev)(σ:St)(H:Hp)(env':Ev)(ζ:St)(H':Hp):Prop where
 gK:Sat K env' ζ H'
 sub:∀(i:Nat)a,aO env' ζ i a->aO env σ i a
 pers:bV H H'
 keep:∀b u,H b=some u->(∀i,¬aO env σ i b)->H' b=some u
 dom:∀b,H' b=none->H b=none
 bors:∀(i:Nat)xs,env[i]? =some (.bor xs)->∃ys,env'[i]? =some (.bor ys)
section
def Nx.ch(N:Nx K env σ H δ H1):Ch K env σ H δ σ H1:=⟨N.gK,N.sub,N.pers,N.keep,N.dom,N.bors⟩
def j4.ch(h:j4 K tg env σ δ ξ H):Ch K env σ H δ ξ H:=⟨h.gK,fun _ _ z=>h.sub z,bV.refl H,fun _ _ z _=>z,fun _ z=>z,fun i xs e=>⟨xs,(h.same i (h.bors i xs e)).1.trans e⟩⟩
theorem Ch.trans(a:Ch K env σ H δ ξ H1)(b:Ch K δ ξ H1 ε φ H2):Ch K env σ H ε φ H2:=
 ⟨b.gK,fun i c z=>a.sub i c (b.sub i c z),a.pers.trans b.pers,fun c vs z n=>b.keep c vs (a.keep c vs z n) fun i w=>n i (a.sub i c w),fun c z=>a.dom c (b.dom c z),fun i xs e=>let ⟨ys,e1⟩:=a.bors i xs e;b.bors i ys e1⟩
end
def j4.out{tg:Tg}{σ ξ:St}{nl:Nat}(h:j4 K tg env σ δ ξ H)(hs:∀i∈slots tg,i<nl):ξ.drop nl=σ.drop nl:=by
 apply List.ext_getElem?
 intro i
 rw[List.getElem?_drop,List.getElem?_drop]
 exact(h.same _ fun z=>by have:=hs _ z;omega).2
section
variable{cond elt:E}{D:Addr}
theorem LI.skip(L:LI X c tg cond elt xs ys τ env0 σ σ0 H3 D nl i acc vs τ1 ξ H1)(hD:∀k,¬aO env0 σ0 k D)(C:Ch X.K τ1 ξ H1 τ2 φ H2)(hi:i<xs.length)(ho:φ.drop nl=σ)
  (go:aQ tg (ev c cond) (ev c elt) (xs.drop (i+1)) acc τ2=.ok ys τ):LI X c tg cond elt xs ys τ env0 σ σ0 H3 D nl (i+1) acc vs τ2 φ H2 where
 le:=hi
 go:=go
 gK:=C.gK
 out:=ho
 acl:=Nat.le_succ_of_le L.acl
 cur:=C.keep D _ L.cur (L.no hD)
 den:=L.den.mono C.pers
 sub:=fun k a z=>L.sub k a (C.sub k a z)
 pers:=L.pers.trans C.pers
 keep:=fun b ws z n1 n2=>C.keep b ws (L.keep b ws z n1 n2) fun k o=>n2 k (L.sub k b o)
 dom:=fun b z=>L.dom b (C.dom b z)
 bors:=fun k ws e=>let ⟨w1,e1⟩:=L.bors k ws e;C.bors k w1 e1
def LI.push{v:V}(L:LI X c tg cond elt xs ys τ env0 σ σ0 H3 D nl i acc vs τ1 ξ H1)(hD:∀k,¬aO env0 σ0 k D)(C:Ch X.K τ1 ξ H1 τ2 φ H2)(hi:i<xs.length)(ho:φ.drop nl=σ)
  (go:aQ tg (ev c cond) (ev c elt) (xs.drop (i+1)) (acc++[d]) τ2=.ok ys τ)(hd:bj X.K H2 d v):LI X c tg cond elt xs ys τ env0 σ σ0 H3 D nl (i+1) (acc++[d]) (vs++[v]) τ2 φ (upd H2 D (.lst (vs++[v]))):=by
 have cur:=C.keep D _ L.cur (L.no hD)
 have ne:∀b u,H2 b=some u->(∀ws,u≠ .lst ws)->b≠D:=fun b u q n z=>by subst z;rw[cur]at q;cases q;exact n vs rfl
 have p:bV H2 (upd H2 D (.lst (vs++[v]))):=⟨fun b ws q=>by rw[au (ne b _ q (by intro ws z;cases z))];exact q,fun b o u q=>by rw[au (ne b _ q (by intro ws z;cases z))];exact q⟩
 have no2:=fun k z=>L.no hD k (C.sub k D z)
 refine⟨hi,go,C.gK.keep p fun k b u ow hb=>?_,ho,by rw[QTq];exact Nat.succ_le_succ L.acl,aB,((L.den.mono C.pers).append (ak.bF hd ak.eY)).mono p,fun k a z=>L.sub k a (C.sub k a z),
  (L.pers.trans C.pers).trans p,fun b ws z n1 n2=>?_,fun b z=>L.dom b (C.dom b ?_),fun k ws e=>let ⟨w1,e1⟩:=L.bors k ws e;C.bors k w1 e1⟩
 ·rw[au (fun z=>by subst z;exact no2 k ow)];exact hb
 ·rw[au n1]
  exact C.keep b ws (L.keep b ws z n1 n2) fun k o=>n2 k (L.sub k b o)
 ·by_cases hb:b=D
  ·subst hb;rw[aB]at z;cases z
  ·rw[au hb]at z;exact z
end
def wQ{α:Type}{xs:List α}{d:α}(h:xs[i]? =some d):xs.drop i=d::xs.drop (i+1):=by
 obtain⟨hi,e⟩:=QCz.mp h
 rw[List.drop_eq_getElem_cons hi,e]
def wU{X:Cx}{c:Cf}{scope:Scope}{η:List Str}{tg:Tg}{cond elt:E}{Ω π Ξ:Expr}{ifs:List Expr}{pos:Pos}{cl:List (Str×Addr)}
  {γ:QQz}{σ:St}{H:Hp}{s:Shared}{env τ:Ev}{J:It}{fp:List Addr}{it:Addr}{tn:Nat->Heap->Prop}{xs ys:List D}{RR:Value->Addr->Result->Shared->Prop}{E:QZq}
  (B:BV X c scope η tg cond elt Ω Ξ ifs)(hc:X.calm=true)(co:Qx scope X.env cl)
  (I:Inv X γ σ H s)(S:Sat X.K env σ H)(T:Turn X.prog X.w X.K Ω J fp it tn)(t0:tn 0 s.heap)(hf:∀b∈fp,dC X γ H b)(G:Gives X.K J xs H)
  (hgo:aQ tg (ev c cond) (ev c elt) xs [] (List.replicate η.length .un++env)=.ok ys τ)
  (hRR:∀(D C:Addr)(s':Shared)(H':Hp)(vs:List V)(m:QZz),Inv X γ σ H' s'->Nx X.K env σ H (τ.drop η.length) H'->H' D=some (.lst vs)->ak X.K H' ys vs->H D=none->
   s'.heap.Ns C m->dC X γ H' C->RR (.ref D) C (.ok .next) s'):
  wpAny (model X.prog X.w) X.A (newList []) (fun acc s₃=>wpAny (model X.prog X.w) X.A (newFunctionEnv scope X.env.globals cl [] X.env.qual none .none (some X.env)) (fun cenv s₄=>
   codeAny (model X.prog X.w) X.A (.compStart (.ListComp Ξ [⟨Ω,π,ifs,0⟩] scope pos) 0 (.ref it) acc {cenv with scope:=relabel scope X.env}) (RR acc cenv.locals) s₄) E s₃) E s:=by
 have hlt:∀b∈fp,b<s.heap.objs.size:=fun b hb=>by
  obtain⟨o,e,_⟩:=T.obj 0 _ t0 b hb
  exact Qqz e
 refine Qjq (wpAny_newFunctionEnv B.sc.nocell (by intro y hy;simp at hy) (fun Δ hns₁ hsb₁=>?_) B.sc.kind)
 dsimp only at hns₁ hsb₁⊢
 generalize hDd:s.heap.objs.size=D at*
 have hDn:H D=none:=by rw[<-hDd];exact I.hok.fresh (QVz _)
 have I3:Inv X γ σ (upd H D (.lst [])) {s with heap:=s.heap.push {cls:=.type "list",dict:=none,data:=.seq ([]:List Value).toArray}}:=by
  have:=I.laid (a:=s.heap.objs.size) (o:=.lst []) (t':=s.toks) (h':=s.heap.push {cls:=.type "list",dict:=none,data:=.seq ([]:List Value).toArray}) (fun b o e=>QWq _ e) (QVz _) ⟨QIq _,[],0,.nil,Qzq _ rfl⟩
  rw[hDd]at this
  exact this
 obtain⟨s3,hs3⟩:∃s3:Shared,s3={s with heap:=s.heap.push {cls:=.type "list",dict:=none,data:=.seq ([]:List Value).toArray}}:=⟨_,rfl⟩
 rw[<-hs3]at I3
 have hs3h:s.heap.push {cls:=.type "list",dict:=none,data:=.seq ([]:List Value).toArray}=s3.heap:=by rw[hs3]
 rw[hs3h]at hns₁ hsb₁⊢
 have hsz:s3.heap.objs.size=D+1:=by rw[<-hs3h,Heap.size_push,hDd]
 have hk3:∀b o,s3.heap.get? b=some o->Δ.get? b=some o:=fun b o e=>hsb₁.extBut b o (Qvz (Qqz e)) (QWq _ e)
 have hk:∀b o,s.heap.get? b=some o->s3.heap.get? b=some o:=fun b o e=>by rw[<-hs3h];exact QWq _ e
 have hf3:∀b∈fp,dC X γ (upd H D (.lst [])) b:=fun b hb=>⟨by
  rw[au (Qvz (hlt b hb))];exact(hf b hb).1,(hf b hb).2⟩
 have hlt3:∀b∈fp,b<s3.heap.objs.size:=fun b hb=>Qvq (hlt b hb) (by rw[hsz];exact Nat.le_succ _)
 have N3:Nx X.K env σ H env (upd H D (.lst [])):=Nx.laid S hDn
 generalize hH3:upd H D (.lst [])=H3 at I3 hf3 N3
 have hD3:H3 D=some (.lst []):=by rw[<-hH3];exact aB
 have noD:∀k,¬aO (List.replicate η.length .un++env) (List.replicate η.length none++σ) k D:=fun k z=>by
  obtain⟨j,_,o⟩:=jk z
  obtain⟨_,_,q,_⟩:=S.own o
  rw[hDn]at q;cases q
 have ok':(blk X scope cl (cC η X.N) fp s3 H3).Ok:=PX I3 B.sc co hf3 hlt3
 have hns':Δ.Ns s3.heap.objs.size fun _=>none:=by simpa using hns₁
 have fpk:∀{H1:Hp},(∀b∈fp,H1 b=none)->∀b∈fp,dC (blk X scope cl (cC η X.N) fp s3 H3) [] H1 b:=fun{H1}hn b hb=>
  ⟨hn b hb,(ok'.exf b hb).1,ok'.exfs b hb,.inl hb,fun x q e=>(ok'.exf b hb).2 x q e,fun p hp=>absurd (show p∈([]:QQz)from hp) (by simp)⟩
 have loop:∀s4:Shared,s4={s with heap:=Δ,toks:=s.toks+([]:List (Str×Value)).length}->
   codeAny (model X.prog X.w) X.A (.compLoop (.ListComp Ξ [⟨Ω,π,ifs,0⟩] scope pos) 0 (.ref it) (.ref D) (compEnvC scope cl s3.heap.objs.size X.env)) (RR (.ref D) s3.heap.objs.size) s4:=by
  rintro s4 rfl
  have I4:Inv (blk X scope cl (cC η X.N) fp s3 H3) [] (List.replicate η.length none++σ) H3 {s with heap:=Δ,toks:=s.toks+([]:List (Str×Value)).length}:=by
   have:=Ua (t:=s.toks+([]:List (Str×Value)).length) I3 B.sc co hf3 hlt3 hns' hk3
   rw[hs3]at this⊢
   exact this
  refine yP (fun n s'=>∃i acc vs τ1 ξ H1,n=xs.length-i/\Inv (blk X scope cl (cC η X.N) fp s3 H3) [] ξ H1 s'/\tn i s'.heap/\(∀b∈fp,H1 b=none)/\
   LI X c tg cond elt xs ys τ (List.replicate η.length .un++env) σ (List.replicate η.length none++σ) H3 D η.length i acc vs τ1 ξ H1) ?_ xs.length ?_
  ·rintro n s1 ⟨i,acc,vs,τ1,ξ,H1,rfl,I1,t1,f1,L⟩
   by_cases hi:i<xs.length
   ·--one more turn
    obtain⟨d,hd⟩:∃d,xs[i]? =some d:=⟨xs[i],by simp[hi]⟩
    have q0:=L.go
    rw[wQ hd,aQ]at q0
    cases hset:cR tg d τ1 with
    |none=>rw[hset]at q0;cases q0
    |some τ2=>
     rw[hset]at q0
     simp only at q0
     have p1:bV H H1:=N3.pers.trans L.pers
     refine cj (T.item (blk X scope cl (cC η X.N) fp s3 H3) rfl rfl rfl hc i [] s1 ξ H1 _ I1 (fpk f1) t1 (G.go H1 p1 i d hd)) fun r s2⟨u,hr,h2⟩=>?_
     subst hr
     refine cj h2 fun _ s3'⟨x,H2,I2,r2,y2,t2,f2⟩=>?_
     obtain⟨Dx,lay⟩:=G.yld H1 p1 i d hd x H2 y2
     have N2:=L.gK.lay lay
     have D2:H2 D=some (.lst vs):=N2.keep D _ L.cur (L.no noD)
     have I2':=I2.pinned (fpk f2) (T.obj _ _ t2)
     refine cj (B.tgt cl fp s3 H3 ok' _ s3' ξ H2 x u (fun φ H'=>H'=H2/\j4 X.K tg τ1 ξ τ2 φ H2) I2' r2 ⟨τ1,d,τ2,N2.gK,Dx,hset,fun φ st=>⟨rfl,st⟩⟩) fun _ s4'⟨φ,H2',I3',hH,st⟩=>?_
     subst hH
     have ho:φ.drop η.length=σ:=(st.out B.small).trans L.out
     have C2:Ch X.K τ1 ξ H1 τ2 φ H2':=N2.ch.trans st.ch
     have again:∀{s7:Shared}{H7:Hp}{acc':List Mini.D}{vs':List V}{τ7:Ev},Inv (blk X scope cl (cC η X.N) fp s3 H3) ([]++tH fp s3'.heap) φ H7 s7->
       LI X c tg cond elt xs ys τ (List.replicate η.length .un++env) σ (List.replicate η.length none++σ) H3 D η.length (i+1) acc' vs' τ7 φ H7->
       ∃k,k<xs.length-i/\∃i acc vs τ1 ξ H1,k=xs.length-i/\Inv (blk X scope cl (cC η X.N) fp s3 H3) [] ξ H1 s7/\tn i s7.heap/\(∀b∈fp,H1 b=none)/\
        LI X c tg cond elt xs ys τ (List.replicate η.length .un++env) σ (List.replicate η.length none++σ) H3 D η.length i acc vs τ1 ξ H1:=fun{s7 H7 acc' vs' τ7}I7 L7=>by
      refine⟨xs.length- (i+1),by omega,i+1,acc',vs',τ7,φ,H7,rfl,I7.cV,T.keep _ _ _ t2 fun b hb o e=>(I7.pin (b,o) (QVq _ (QVq _ (jG hb e)))).1,fun b hb=>?_,L7⟩
      obtain⟨o,e,_⟩:=T.obj _ _ t2 b hb
      exact(I7.pin (b,o) (QVq _ (QVq _ (jG hb e)))).2.1
     obtain⟨xc,dc,bc,τ3,e1,e2,e3,q1⟩:∃xc dc bc τ3,ev c cond τ2=.ok xc τ3/\xc.j8=some dc/\ju dc=some bc/\
       (if bc then(ev c elt τ3).ao fun d σ₃=>aQ tg (ev c cond) (ev c elt) (xs.drop (i+1)) (acc++[d]) σ₃ else aQ tg (ev c cond) (ev c elt) (xs.drop (i+1)) acc τ3)=.ok ys τ:=by
      cases r:ev c cond τ2 with
      |bad=>rw[r]at q0;cases q0
      |exc k τ3=>rw[r]at q0;cases q0
      |ok xc τ3=>
       rw[r]at q0
       cases xc with
       |ref k=>cases q0
       |val dc=>
        simp only[Out.cZ,Out.ao]at q0
        cases q:ju dc with
        |none=>rw[q]at q0;cases q0
        |some bc=>rw[q]at q0;exact⟨_,dc,bc,τ3,rfl,rfl,q,q0⟩
       |new zs=>
        simp only[Out.cZ,Out.ao]at q0
        cases q:ju zs.d with
        |none=>rw[q]at q0;cases q0
        |some bc=>rw[q]at q0;exact⟨_,zs.d,bc,τ3,rfl,rfl,q,q0⟩
     have after:∀(s5:Shared)(H5:Hp),Inv (blk X scope cl (cC η X.N) fp s3 H3) ([]++tH fp s3'.heap) φ H5 s5->Nx X.K τ2 φ H2' τ3 H5->
       (if bc=true then wpAny (model X.prog X.w) X.A (eval Ξ (compEnvC scope cl s3.heap.objs.size X.env)) (fun x s₄=>
        wpAny (model X.prog X.w) X.A (call (.builtin "list.append") [.ref D,x]) (fun _ s₅=>∃m,m<xs.length-i/\∃i acc vs τ1 ξ H1,m=xs.length-i/\Inv (blk X scope cl (cC η X.N) fp s3 H3) [] ξ H1 s₅/\tn i s₅.heap/\(∀b∈fp,H1 b=none)/\
        LI X c tg cond elt xs ys τ (List.replicate η.length .un++env) σ (List.replicate η.length none++σ) H3 D η.length i acc vs τ1 ξ H1) (fun _ _=>False) s₄) (fun _ _=>False) s5
       else∃m,m<xs.length-i/\∃i acc vs τ1 ξ H1,m=xs.length-i/\Inv (blk X scope cl (cC η X.N) fp s3 H3) [] ξ H1 s5/\tn i s5.heap/\(∀b∈fp,H1 b=none)/\
        LI X c tg cond elt xs ys τ (List.replicate η.length .un++env) σ (List.replicate η.length none++σ) H3 D η.length i acc vs τ1 ξ H1):=fun s5 H5 I5 N5=>by
      have C5:=C2.trans N5.ch
      cases bc with
      |false=>
       rw[if_neg Qjz]at q1⊢
       exact again I5 (L.skip noD C5 hi ho q1)
      |true=>
       rw[if_pos rfl]at q1⊢
       obtain⟨xe,de,τ4,e4,e5,q2⟩:∃xe de τ4,ev c elt τ3=.ok xe τ4/\xe.j8=some de/\aQ tg (ev c cond) (ev c elt) (xs.drop (i+1)) (acc++[de]) τ4=.ok ys τ:=by
        cases r:ev c elt τ3 with
        |bad=>rw[r]at q1;cases q1
        |exc k τ3=>rw[r]at q1;cases q1
        |ok xe τ4=>
         rw[r]at q1
         cases xe with
         |ref k=>cases q1
         |val de=>exact⟨_,de,τ4,rfl,rfl,q1⟩
         |new zs=>exact⟨_,zs.d,τ4,rfl,rfl,q1⟩
       refine cj ((B.elts cl fp s3 H3 ok').d _ s5 φ H5 (fun v H6=>Nx X.K τ3 φ H5 τ4 H6/\bj X.K H6 de v) I5 ⟨τ3,N5.gK,?_⟩) fun u s6⟨v,H6,I6,r6,N6,D6⟩=>?_
       ·rw[e4]
        cases xe with
        |ref k=>cases e5
        |val d'=>cases e5;exact fun v H' N Dv=>⟨N,Dv⟩
        |new zs=>cases e5;exact fun v H' N Dv=>⟨N,Dv⟩
       ·have C6:=C5.trans N6.ch
        have cur:=C6.keep D _ L.cur (L.no noD)
        have lenv:vs.length<sizeLine:=by
         have h1:=L.den.length
         have h2:=L.acl
         have h3:=G.len
         omega
        refine cj (pM (X:=blk X scope cl (cC η X.N) fp s3 H3) _ s6 φ H6 (.ref D) [v] (.ref D) [u] (fun _ H7=>H7=upd H6 D (.lst (vs++[v]))) I6 rfl (.cons r6 .nil) ⟨D,vs,v,rfl,rfl,cur,lenv,rfl⟩) fun _ s7⟨_,H7,I7,_,e7⟩=>?_
        subst e7
        exact again I7 (L.push noD C6 hi ho q2 D6)
     rcases B.tests with ⟨ei,ec⟩|⟨ce,ei,hC⟩
     ·subst ei ec
      simp only[v_0,v_1,v_2,v_3,v_4,v_5,v_6,v_7,v_8,ZG,HQ,QZ,aaC,Ks,aaB,aaA,Wg,QX,QW,aaz,qY,Wf,We,aay,Wd,nQ]at e1
      cases e1
      cases e2
      cases e3
      exact QKz (after s4' H2' I3' (Nx.refl st.gK))
     ·subst ei
      refine wpAny_tests_one (cj (hC cl fp s3 H3 ok' _ s4' φ H2' (fun k H'=>k=bc/\Nx X.K τ2 φ H2' τ3 H') I3' ⟨τ2,st.gK,by rw[e1];exact⟨dc,bc,e2,e3,fun H' N=>⟨rfl,N⟩⟩⟩) fun k s5⟨H5,I5,hk',N5⟩=>?_)
      subst hk'
      exact after s5 H5 I5 N5
   ·--the end
    have e:i=xs.length:=Nat.le_antisymm L.le (Nat.le_of_not_lt hi)
    have q0:=L.go
    rw[e,List.drop_length,aQ]at q0
    cases q0
    refine cj (T.done (blk X scope cl (cC η X.N) fp s3 H3) rfl rfl rfl hc i [] s1 ξ H1 _ I1 (fpk f1) t1 (G.stop H1 (N3.pers.trans L.pers) i (by omega))) fun r s2⟨hr,I2⟩=>?_
    subst hr
    obtain⟨m,hm,_⟩:=I2.loc
    have IX:Inv X γ σ H1 s2:=Inv.call' I3 I2.os I2.base I2.hok I2.bare fun b hb=>⟨(hf3 b hb).2.2.2.1,(hf3 b hb).2.1,(hf3 b hb).2.2.2.2.1,(hf3 b hb).2.2.2.2.2⟩
    refine hRR D s3.heap.objs.size s2 H1 vs m IX ⟨?_,fun k a z=>?_,N3.pers.trans L.pers,fun b ws z w=>?_,fun b z=>N3.dom b (L.dom b z),fun k ws z=>?_⟩ L.cur L.den hDn hm (I3.uy (QVz _) I2.free)
    ·have:=L.gK.drop (nl:=η.length)
     rw[L.out]at this
     exact this
    ·have z':aO (τ.drop η.length) (ξ.drop η.length) k a:=by rw[L.out];exact z
     obtain⟨j,ej,o⟩:=jk (L.sub _ a (tL.mp z'))
     have:k=j:=by omega
     subst this
     exact o
    ·refine L.keep b ws (N3.keep b ws z w) (fun q=>?_) fun k o=>?_
     ·subst q;rw[hDn]at z;cases z
     ·obtain⟨j,_,o'⟩:=jk o
      exact w j o'
    ·obtain⟨ws',q⟩:=L.bors (η.length+k) ws (by rw[QIz (by simp)];simpa using z)
     exact⟨ws',by rw[List.getElem?_drop];exact q⟩
  ·refine⟨0,[],[],_,_,H3,rfl,I4,T.keep _ _ _ t0 fun b _ o e=>hk3 b o (hk b o e),fun b hb=>(hf3 b hb).1,⟨QIq _,hgo,N3.gK.front _,by simp,QVz _,hD3,ak.eY,fun _ _ z=>z,bV.refl _,fun _ _ z _ _=>z,fun _ z=>z,fun _ ws z=>⟨ws,z⟩⟩⟩
 exact codeAny_compStart_list (loop _ rfl) (T.self _ 0 _ _ _ (T.keep _ _ _ t0 fun b _ o e=>hk3 b o (hk b o e)) (loop _ rfl))
section
def fZ:Cm->CmpOp
 |.eq=>.Eq
 |.ne=>.NotEq
 |.lt=>.Lt
 |.le=>.LtE
 |.gt=>.Gt
 |.isin=>.In
 |.notin=>.NotIn
 |.lE=>.Is
def jW(X:Cx)(op:CmpOp)(f:D->D->Option Bool):Prop:=
 ∃r,iV X (compareOp op) r/\∀(H:Hp)(x y:D)(k:Bool)(v u:V)(Q:VK),bj X.K H x v->eZ X.K H y u->f x y=some k->Q (.bl k) H->r v u H Q
theorem eZ.int{H:Hp}{v:V}(h:eZ K H (.int i) v):v=.int i:=by
 rcases h with h|⟨o,a,q,_⟩
 ·exact h
 ·cases o<;>cases q
def Lq{g:Int->Int->Bool}(ho:iV X (compareOp op) (QC fun i j=>.bl (g i j)))(hf:∀x y k,f x y=some k->∃i j,x=.int i/\y=.int j/\k=g i j):jW X op f:=
 ⟨_,ho,fun H x y k v u Q Dx Dy e q=>by
  obtain⟨i,j,rfl,rfl,rfl⟩:=hf x y k e
  exact⟨i,j,Dx,Dy.int,q⟩⟩
def abm(hu:X.A.units+60<cLine):jW X .Eq (aN .eq):=⟨_,Xu hu,fun H x y k v u Q Dx Dy e q=>by
 unfold aN at e;dsimp only at e
 split at e
 ·rename_i h;cases e;exact⟨x,y,.inl Dx,Dy,h,q⟩
 ·cases e⟩
def abh(hu:X.A.units+60<cLine):jW X .NotEq (aN .ne):=⟨_,Xn hu,fun H x y k v u Q Dx Dy e q=>by
 unfold aN at e;dsimp only at e
 split at e
 ·rename_i h;cases e;exact⟨x,y,.inl Dx,Dy,h,q⟩
 ·cases e⟩
def abj:jW X .LtE (aN .le):=Lq abH fun x y k e=>by
 cases x<;>cases y<;>(unfold aN at e;simp at e)
 exact⟨_,_,rfl,rfl,e.symm⟩
def eZ.Rm{H:Hp}{v:V}(h:eZ K H (.tup xs) v):Qp K H xs v:=by
 rcases h with h|⟨o,a,q,_⟩
 ·obtain⟨a,vs,rfl,hq,l⟩:=cY h
  exact⟨a,vs,rfl,.inr hq,l⟩
 ·cases o<;>cases q
def eZ.Ld{H:Hp}{v:V}(h:eZ K H (.lst xs) v):Qp K H xs v:=by
 rcases h with h|⟨o,a,q,rfl,u,ha,hq⟩
 ·obtain⟨a,vs,rfl,hq,l⟩:=dJ h
  exact⟨a,vs,rfl,.inl hq.sq,l⟩
 ·cases o<;>cases q
  obtain⟨vs,rfl,l⟩:=hq
  exact⟨a,vs,rfl,.inl (.inl (.inl ha)),l⟩
theorem eZ.str{H:Hp}{v:V}(h:eZ K H (.str x) v):v=.str x:=by
 rcases h with h|⟨o,a,q,_⟩
 ·exact h
 ·cases o<;>cases q
def Oc(x y:Str)(h:x.length=1):(!(Builtin.Str.occurrences y x 0 y.length 1).isEmpty)=aR (.str x) (signs y):=by
 obtain⟨cps⟩:=x
 obtain⟨l⟩:=cps
 have hl:=h
 match l,hl with
 |[k],_=>
  have:=PySem.StrLaws.found_one y k
  rw[this]
  unfold signs
  generalize y.cps.toList=cs
  induction cs with
  |nil=>rfl
  |cons z zs ih=>
   show decide _=(dH _ _||aR _ _)
   rw[<-ih]
   have e:dH (.str ⟨#[z]⟩) (.str ⟨#[k]⟩)=decide (k=z):=by
    simp only[dH]
    by_cases q:k=z
    ·subst q;simp
    ·have q':¬z=k:=fun e=>q e.symm
     simp[q,q']
   rw[e]
   by_cases q:k=z
   ·simp[q]
   ·simp[q]
def lM{kvs:List (Key×V)}(k:Key):(f9 kvs k).isSome=aR (dO k) (kvs.map fun p=>dO p.1):=by
 induction kvs with
 |nil=>rfl
 |cons p r ih=>
  obtain⟨k',v⟩:=p
  show _=(dH _ _||aR _ _)
  rw[<-ih]
  have e:dH (dO k') (dO k)=decide (k'=k):=by
   cases k'<;>cases k<;>simp[dO,dH,Bool.beq_eq_decide_eq]
  rw[e]
  by_cases q:k'=k
  ·subst q;simp[j9]
  ·simp[q,kj]
def ie(h:keyOk x=true):∃k:Key,x=dO k:=by
 cases x<;>simp[keyOk]at h
 ·exact⟨.inl _,rfl⟩
 ·exact⟨.inr _,rfl⟩
def mF{H:Hp}{v:V}(h:bj K H (dO k) v):v=kV k:=by
 cases k<;>exact h
def LQ(neg:Bool):R2:=fun x y H Q=>∃a k kvs,y=.ref a/\x=kV k/\Rd H a (.dK kvs)/\Q (.bl (if neg then !(f9 kvs k).isSome else(f9 kvs k).isSome)) H
def My(hu:X.A.units+1<cLine):iV X (compareOp .In) (LQ false):=by
 intro γ s σ H x y v u Q I rx ry h
 obtain⟨a,k,kvs,rfl,rfl,hd,q⟩:=h
 cases ry
 exact afX hu I ⟨kvs,k,hd,rfl,rfl⟩ rx fun s3 I3=>⟨.bl _,H,I3,rfl,q⟩
def Ae(hu:X.A.units+1<cLine):iV X (compareOp .NotIn) (LQ true):=by
 intro γ s σ H x y v u Q I rx ry h
 obtain⟨a,k,kvs,rfl,rfl,hd,q⟩:=h
 cases ry
 exact T3 hu I ⟨kvs,k,hd,rfl,rfl⟩ rx fun s3 I3=>⟨.bl _,H,I3,rfl,q⟩
def o5{K:QQq}{H:Hp}{ks ds:List D}{v:V}(h:eZ K H (.eE ks ds) v):∃a kvs,v=.ref a/\Rd H a (.dK kvs)/\ks=kvs.map (fun p=>dO p.1)/\ak K H ds (kvs.map (·.2)):=by
 rcases h with h|⟨o,a,q,rfl,u,ha,hq⟩
 ·unfold bj at h;obtain⟨a,o,kvs,e,r,k⟩:=h;exact⟨a,kvs,e,.inr ⟨o,r⟩,k⟩
 ·cases o<;>cases q
  obtain⟨kvs,rfl,k,l⟩:=hq
  exact⟨a,kvs,rfl,.inl ha,k,l⟩
def abk(hu:X.A.units+60<cLine):jW X .In (aN .isin):=
 ⟨_,(Xr hu).or ((My (by omega)).or Ja),fun H x y k v u Q Dx Dy e q=>by
  cases y with
  |tup xs=>
   unfold aN at e;dsimp only at e
   split at e
   ·rename_i h;cases e;exact .inl ⟨x,xs,Dx,Dy.Rm,h,q⟩
   ·cases e
  |lst xs=>
   unfold aN at e;dsimp only at e
   split at e
   ·rename_i h;cases e;exact .inl ⟨x,xs,Dx,Dy.Ld,h,q⟩
   ·cases e
  |eE ks vs=>
   unfold aN at e;dsimp only at e
   split at e
   ·rename_i h
    cases e
    obtain⟨k,rfl⟩:=ie h
    obtain⟨a,kvs,rfl,ha,rfl,l⟩:=o5 Dy
    exact .inr (.inl ⟨a,k,kvs,rfl,mF Dx,ha,by simpa[lM]using q⟩)
   ·cases e
  |str y=>
   cases x with
   |str x=>
    unfold aN at e;dsimp only at e
    split at e
    ·rename_i h;cases e;exact .inr (.inr ⟨x,y,Dx,Dy.str,by rw[Oc x y h];exact q⟩)
    ·cases e
   |_=>unfold aN at e;simp at e
  |_=>unfold aN at e;simp at e⟩
def Lr(hu:X.A.units+60<cLine):jW X .NotIn (aN .notin):=
 ⟨_,(I9 hu).or (Ae (by omega)),fun H x y k v u Q Dx Dy e q=>by
  cases y with
  |tup xs=>
   unfold aN at e;dsimp only at e
   split at e
   ·rename_i h;cases e;exact .inl ⟨x,xs,Dx,Dy.Rm,h,q⟩
   ·cases e
  |lst xs=>
   unfold aN at e;dsimp only at e
   split at e
   ·rename_i h;cases e;exact .inl ⟨x,xs,Dx,Dy.Ld,h,q⟩
   ·cases e
  |eE ks vs=>
   unfold aN at e;dsimp only at e
   split at e
   ·rename_i h
    cases e
    obtain⟨k,rfl⟩:=ie h
    obtain⟨a,kvs,rfl,ha,rfl,l⟩:=o5 Dy
    exact .inr ⟨a,k,kvs,rfl,mF Dx,ha,by simpa[lM]using q⟩
   ·cases e
  |_=>unfold aN at e;simp at e⟩
end
section
open PySem.SeqAt
open PySem.AutoSeq1 (wpAny_loadPart')
open PySem.MeetsSeq PySem.MeetsSeq2 PySem.MeetsSeq3
inductive BoolsAre:List Value->List Bool->Prop
 |nil:BoolsAre [] []
 |cons (b:Bool) {vs:List Value} {bs:List Bool}:BoolsAre vs bs->BoolsAre (.bool b::vs) (b::bs)
theorem BoolsAre.length{bs:List Bool}(h:BoolsAre vs bs):vs.length=bs.length:=by
 induction h with
 |nil=>rfl
 |cons b _ ih=>simp[ih]
def wB x y xs ys:mK (x::xs) (y::ys)=if x=y then mK xs ys else(!x&&y):=rfl
def G7:mK [] []=false:=rfl
def G8 y ys:mK [] (y::ys)=true:=rfl
def S5 x xs:mK (x::xs) []=false:=rfl
def vW(A:Around)(s:Shared)(a c:Bool)(prog:Program)(w:World)(E:QZq)(Q:QZq)(h:Q (.bool (!a&&c)) s):
  wpAny (model prog w) A (richCompare .Lt (.bool a) (.bool c)) Q E s:=
 (PyProof.Rows.lt_bool (by cases a<;>cases c<;>exact h))
def rR l b items items2 n n2 dd dd2 sl sl2 ns ms(hi:BoolsAre items.toList ns)(hj:BoolsAre items2.toList ms):
  Meets (Builtin.«tuple.__lt__» ⟨[.ref l,.ref b],[]⟩)
   (fun _ R s=>s.heap.get? l=some {cls:=.type "tuple",dict:=dd,data:=.seq items n,slots:=sl}/\s.heap.get? b=some {cls:=.type "tuple",dict:=dd2,data:=.seq items2 n2,slots:=sl2}/\
    R (.ok (.ret (.bool (mK ns ms)))) s):=
 .of_wp fun prog w A R s h=>by
  obtain⟨hp,g,d,tk,os⟩:=s;obtain⟨hl,hb,h⟩:=h
  have f2:=AutoSeq1.sub_tuple_tuple
  have z1:items.size=ns.length:=by rw[<-hi.length];simp
  have z2:items2.size=ms.length:=by rw[<-hj.length];simp
  wp_walk using wpAny_loadPart' hl,wpAny_loadPart' hb,wpAny_forIn_list _ (fun rest b s'=>b.1=none/\s'=⟨hp,g,d,tk,os⟩/\∃(vs ws:List Value)(ns' ms':List Bool),rest=vs.zip ws/\
   BoolsAre vs ns'/\BoolsAre ws ms'/\ns'.length+items2.size=ms'.length+items.size/\R (.ok (.ret (.bool (mK ns' ms')))) ⟨hp,g,d,tk,os⟩) _
  case turn=>
   rintro ⟨y,x⟩ rest b s' ⟨hb',rfl,vs,ws,ns',ms',hz,hvi,hwi,hlen,hR⟩
   cases hvi with
   |nil=>rw[List.zip_nil_left]at hz;cases hz
   |cons a hvi'=>
    cases hwi with
    |nil=>rw[List.zip_nil_right]at hz;cases hz
    |cons c hwi'=>
     rw[List.zip_cons_cons]at hz
     injection hz with hyx hrest
     injection hyx with hy hx
     subst hy hx
     rw[wB]at hR
     simp only[QBq]at hlen
     refine QKq ((SeqAt.EqAt.bool_bool (A:=A.in1) (s:=⟨hp,g,d,tk,os⟩) a c) prog w _ _ ?_)
     by_cases hac:a=c
     ·subst hac
      rw[if_pos rfl]at hR
      rw[beq_self_eq_true]
      wp_walk
      exact⟨rfl,rfl,_,_,_,_,hrest,hvi',hwi',by omega,hR⟩
     ·rw[if_neg hac]at hR
      wp_walk using (vW A.in1 ⟨hp,g,d,tk,os⟩ a c prog w)
      exact⟨_,rfl,by simpa using hR⟩
  case fin=>
   rintro ⟨b1,b2⟩ s' ⟨hb',rfl,vs,ws,ns',ms',hz,hvi,hwi,hlen,hR⟩
   simp only at hb'
   subst hb'
   have hv:mK ns' ms'=decide (items.size<items2.size):=by
    cases hvi with
    |nil=>
     cases hwi with
     |nil=>
      rw[G7]
      exact(QEz (by omega)).symm
     |cons c hw=>
      simp only[List.length_nil,QBq]at hlen
      rw[G8]
      exact(QFq (by omega)).symm
    |cons a hv=>
     cases hwi with
     |nil=>
      simp only[List.length_nil,QBq]at hlen
      rw[S5]
      exact(QEz (by omega)).symm
     |cons c hw=>
      rw[List.zip_cons_cons]at hz
      cases hz
   rw[hv]at hR
   wp_walk
   exact⟨_,rfl,by simpa[Builtin.Tuple.tupleCompareSizes]using hR⟩
  case h=>
   exact⟨rfl,rfl,items.toList,items2.toList,ns,ms,rfl,hi,hj,by omega,h⟩
end
theorem ig{K:QQq}{H:Hp}:∀{ds:List D}{vs:List V}{us:List Value}{bs:List Bool},bools ds=some bs->ak K H ds vs->Vals vs us->BoolsAre us bs
 |[],vs,us,bs,e,l,r=>by
  cases e
  rw[ak.bJ.mp l]at r
  cases r
  exact .nil
 |d::ds,vs,us,bs,e,l,r=>by
  obtain⟨v,w,rfl,h1,h2⟩:=ak.aX.mp l
  cases d with
  |bl b=>
   simp only[bools,QJz]at e
   obtain⟨bs',e1,rfl⟩:=e
   cases h1
   cases r with
   |cons r1 r2=>cases r1;exact .cons b (ig e1 h2 r2)
  |_=>cases e
section
variable{m m1 m2 m3:E}
def aeQ(K:QQq):R2:=fun x y H Q=>∃xs ys bs cs,bj K H (.tup xs) x/\bj K H (.tup ys) y/\bools xs=some bs/\bools ys=some cs/\Q (.bl (mK bs cs)) H
def Xq(hu:X.A.units<cLine):iV X (compareOp .Lt) (aeQ X.K):=by
 intro γ s σ H x y v u Q I rx ry h
 obtain⟨xs,ys,bs,cs,Dx,Dy,e1,e2,q⟩:=h
 obtain⟨a,vs,rfl,ha,la⟩:=cY Dx
 obtain⟨b,ws,rfl,hb,lb⟩:=cY Dy
 cases rx
 cases ry
 obtain⟨its,r1,p1,_⟩:=I.tuple ha
 obtain⟨its2,r2,p2,_⟩:=I.tuple hb
 obtain⟨⟨cls,dd,data,sl⟩,ho,hc,n,hd⟩:=id p1
 obtain⟨⟨cls2,dd2,data2,sl2⟩,ho2,hc2,n2,hd2⟩:=id p2
 subst hc hd hc2 hd2
 exact richCompare_meets_room (op:=.Lt) ⟨_,ho,rfl⟩ ⟨_,ho2,rfl⟩ PySem.F.slot_tuple_lt PySem.F.entry_tuple_lt (PySem.F.args_tuple_lt_2 _ _)
  (rR a b its.toArray its2.toArray n n2 dd dd2 sl sl2 bs cs (by simpa using ig e1 la r1) (by simpa using ig e2 lb r2))
  ⟨ho,ho2,show Value.bool _≠Value.notImplemented/\EP X γ σ Q _ s from⟨(fun x=>nomatch x),⟨.bl _,H,I,rfl,q⟩⟩⟩ hu
theorem eZ.tup{K:QQq}{H:Hp}{xs:List D}{v:V}(h:eZ K H (.tup xs) v):bj K H (.tup xs) v:=by
 rcases h with h|⟨o,a,q,_⟩
 ·exact h
 ·cases o<;>cases q
def abi(hu:X.A.units+60<cLine):jW X .Lt (aN .lt):=
 ⟨_,abG.or (Xq (by omega)),fun H x y k v u Q Dx Dy e q=>by
  cases x with
  |int i=>
   cases y with
   |int j=>cases e;exact .inl ⟨i,j,Dx,Dy.int,q⟩
   |_=>cases e
  |tup xs=>
   cases y with
   |tup ys=>
    unfold aN at e;dsimp only[ltD]at e
    cases e1:bools xs with
    |none=>rw[e1]at e;cases e
    |some bs=>
     cases e2:bools ys with
     |none=>rw[e1,e2]at e;cases e
     |some cs=>
      rw[e1,e2]at e
      cases e
      exact .inr ⟨xs,ys,bs,cs,Dx,Dy.tup,e1,e2,q⟩
   |_=>cases e
  |_=>cases y<;>cases e⟩
def abl:jW X .Gt (aN .gt):=Lq abI fun x y k e=>by
 cases x<;>cases y<;>(unfold aN at e;simp at e)
 exact⟨_,_,rfl,rfl,e.symm⟩
def yL{H:Hp}{v:V}(h:bj K H d v):decide (v=.non)=gh d:=by
 cases d<;>unfold bj at h<;>first
  |(obtain⟨a,_,rfl,_⟩:=h;rfl)
  |(obtain⟨a,_,_,rfl,_⟩:=h;rfl)
  |(subst h;rfl)
def WY:jW X .Is (aN .lE):=⟨_,Dr,fun H x y k v u Q Dx Dy e q=>by
 cases y<;>(unfold aN at e;dsimp only at e;cases e)
 rcases Dy with h|⟨o,a,z,_⟩
 ·exact⟨h,by rw[yL Dx];exact q⟩
 ·cases o<;>cases z⟩
def pH(hu:X.A.units+60<cLine)o:jW X (fZ o) (aN o):=by
 cases o with
 |eq=>exact abm hu
 |ne=>exact abh hu
 |lt=>exact abi hu
 |le=>exact abj
 |gt=>exact abl
 |isin=>exact abk hu
 |notin=>exact Lr hu
 |lE=>exact WY
def fX{env:Ev}{H:Hp}{d:D}(S:Sat K env σ H)(h:bA k env=some d):∃v,σ[k]? =some (some v)/\eZ K H d v:=by
 unfold bA at h
 cases e:env[k]? with
 |none=>rw[e]at h;cases h
 |some s=>
  rw[e]at h
  have q:=S.sl k s e
  cases s with
  |un=>cases h
  |val d'=>cases h;obtain⟨v,e1,e2⟩:=q;exact⟨v,cN e1,.inl e2⟩
  |own xs=>cases h;obtain⟨a,e1,e2⟩:=q;exact⟨.ref a,cN e1,.inr ⟨xs,a,rfl,rfl,e2⟩⟩
  |bor xs=>cases h;obtain⟨a,e1,e2⟩:=q;exact⟨.ref a,cN e1,.inr ⟨xs,a,rfl,rfl,e2⟩⟩
structure jX(X:Cx)(i:Nat)(x:Str):Prop where
 at_:X.N[i]? =some x
 vis:J5 X.env.scope x
 nd:(x==("__debug__":Str))=false
 nc:(x==("__classdict__":Str))=false
def jX.pe{x:Str}(h:jX X i x):PE X (.Name x pos) (bf i):=dj h.at_ h.vis h.nd h.nc
def jX.ge{x:Str}(h:jX X i x):GE X W c (.var i) (.Name x pos):=Ys h.at_ h.vis h.nd h.nc
theorem Ht(R:jW X (fZ o) (aN o))(hb:GE X W c m2 b)(hv:∀k,m2.az=some k->∃x p,b=.Name x p/\jX X k x):
  ∃r tb,iV X (compareOp (fZ o)) r/\PE X b tb/\∀env σ H Q,tM X.K W env (ev c (.cmp o m1 m2) env) σ H Q->UW r (aD X W c m1) tb σ H Q:=by
 obtain⟨r,ho,rule⟩:=R
 cases q:m2.az with
 |some k=>
  obtain⟨x,p,rfl,nm⟩:=hv k q
  refine⟨r,bf k,ho,nm.pe,fun env σ H Q h=>?_⟩
  simp only[v_7,q]at h
  refine⟨env,aP h fun d δ v H1 N1 D1 h1=>?_⟩
  obtain⟨z,ez,S,q3⟩:=cW h1
  cases e1:bA k δ with
  |none=>rw[e1]at ez;cases ez
  |some d2=>
   rw[e1]at ez
   simp only[Option.bind]at ez
   obtain⟨u,eu,D2⟩:=fX S e1
   cases e2:aN o d d2 with
   |none=>rw[e2]at ez;cases ez
   |some k2=>
    rw[e2]at ez
    cases ez
    exact⟨u,eu,rule H1 d d2 k2 v u Q D1 D2 e2 (q3 _ H1 (Nx.refl S) rfl)⟩
 |none=>
  refine⟨r,aD X W c m2,ho,hb.d,fun env σ H Q h=>?_⟩
  simp only[v_7,q]at h
  refine⟨env,aP h fun d δ v H1 N1 D1 h1=>⟨δ,aP h1 fun d2 ε u H2 N2 D2 h2=>?_⟩⟩
  obtain⟨z,ez,S,q3⟩:=cW h2
  cases e2:aN o d d2 with
  |none=>rw[e2]at ez;cases ez
  |some k2=>
   rw[e2]at ez
   cases ez
   exact rule H2 d d2 k2 v u Q (D1.mono N2.pers) (.inl D2) e2 (q3 _ H2 (Nx.refl S) rfl)
def YG(R:jW X (fZ o) (aN o))(ha:GE X W c m1 a)(hb:GE X W c m2 b)(hv:∀k,m2.az=some k->∃x p,b=.Name x p/\jX X k x)
  (hm:behindInMarks (fZ o) b=false):GE X W c (.cmp o m1 m2) (.Compare a [fZ o] [b] pos):=by
 intro env
 obtain⟨r,tb,ho,pb,imp⟩:=Ht R hb hv
 exact PE.imp (R3 ho ha.d pb hm) fun σ H Q h=>imp env σ H Q h
theorem zA{env:Ev}{σ:St}{Q:Bool->Hp->Prop}(h:tT K W env r σ H Q)(hb:∀x env',r=.ok x env'->∃b,x=.val (.bl b)):
  tM K W env r σ H (fun v H'=>∃k,v=.bl k/\Q k H'):=by
 obtain⟨S,h⟩:=h
 refine⟨S,?_⟩
 cases r with
 |bad=>exact h
 |exc c δ=>exact h
 |ok x δ=>
  obtain⟨b,rfl⟩:=hb x δ rfl
  obtain⟨d,k,e1,e2,q⟩:=h
  cases e1
  cases e2
  exact fun v H' N z=>⟨b,z,q H' N⟩
def lZ{o:Option Bool}(h:lift env (o.map fun q=>Rv.val (.bl q))=.ok x env'):∃b,x=.val (.bl b):=by
 cases o with
 |none=>cases h
 |some b=>cases h;exact⟨b,rfl⟩
def Bj{env env':Ev}(h:ev c (.cmp o m1 m2) env=.ok x env'):∃b,x=.val (.bl b):=by
 simp only[v_7]at h
 cases r:ev c m1 env with
 |bad=>rw[r]at h;cases h
 |exc k δ=>rw[r]at h;cases h
 |ok x1 δ=>
  rw[r]at h
  have go:∀d,(match m2.az with
    |some k=>lift δ ((bA k δ).bind fun d'=>(aN o d d').map fun q=>Rv.val (.bl q))
    |none=>(ev c m2 δ).ao fun y σ=>lift σ ((aN o d y).map fun q=>Rv.val (.bl q)))=.ok x env'->∃b,x=.val _:=fun d h=>by
   cases q:m2.az with
   |some k=>
    simp only[q]at h
    cases e:bA k δ with
    |none=>simp only[e,Option.bind]at h;cases h
    |some d'=>simp only[e,Option.bind]at h;exact lZ h
   |none=>
    simp only[q]at h
    cases r2:ev c m2 δ with
    |bad=>rw[r2]at h;cases h
    |exc k ε=>rw[r2]at h;cases h
    |ok x2 ε=>
     rw[r2]at h
     cases x2 with
     |val d2=>exact lZ h
     |new xs=>exact lZ h
     |ref i=>cases h
  cases x1 with
  |val d=>exact go d h
  |new xs=>exact go xs.d h
  |ref i=>cases h
def Yl(R:jW X (fZ o) (aN o))(ha:GE X W c m1 a)(hb:GE X W c m2 b)(hv:∀k,m2.az=some k->∃x p,b=.Name x p/\jX X k x)
  (hm:behindInMarks (fZ o) b=false):GT X W c (.cmp o m1 m2) (.Compare a [fZ o] [b] pos):=by
 obtain⟨r,tb,ho,pb,imp⟩:=Ht R hb hv
 exact PT.imp (xT ho ha.d pb hm) fun σ H Q⟨env,h⟩=>imp env σ H _ (zA h fun x env' e=>Bj e)
theorem wV(R1:jW X (fZ ρ) (aN ρ))(R2:jW X (fZ υ) (aN υ)):
  ∃r r',iV X (compareOp (fZ ρ)) r/\iV X (compareOp (fZ υ)) r'/\∀env σ H Q,tM X.K W env (ev c (.chain ρ υ m1 m2 m3) env) σ H Q->Cu r r' (aD X W c m1) (aD X W c m2) (aD X W c m3) σ H Q:=by
 obtain⟨r,ho,rule⟩:=R1
 obtain⟨r',ho',rule'⟩:=R2
 refine⟨r,r',ho,ho',fun env σ H Q h=>?_⟩
 refine⟨env,aP h fun d δ v H1 N1 D1 h1=>⟨δ,aP h1 fun d2 ε u H2 N2 D2 h2=>?_⟩⟩
 cases e2:aN ρ d d2 with
 |none=>rw[e2]at h2;exact h2.2.elim
 |some k=>
  rw[e2]at h2
  simp only[lift,Out.bind]at h2
  refine rule H2 d d2 k v u _ (D1.mono N2.pers) (.inl D2) e2 ⟨k,rfl,?_⟩
  cases k with
  |false=>
   exact fP h2 rfl
  |true=>
   refine⟨ε,aP h2 fun d3 env3 w H3 N3 D3 h3=>?_⟩
   obtain⟨z,ez,S,q3⟩:=cW h3
   cases e3:aN υ d2 d3 with
   |none=>rw[e3]at ez;cases ez
   |some k2=>
    rw[e3]at ez
    cases ez
    exact rule' H3 d2 d3 k2 u w Q (D2.mono N3.pers) (.inl D3) e3 (q3 _ H3 (Nx.refl S) rfl)
def vA{env env':Ev}(h:ev c (.chain ρ υ m1 m2 m3) env=.ok x env'):∃b,x=.val (.bl b):=by
 have val:∀{r:Out Rv}{f:D->Ev->Out Rv},r.ao f=.ok x env'->∃d σ,f d σ=.ok x env':=fun{r f}q=>by
  cases r with
  |bad=>cases q
  |exc k e1=>cases q
  |ok y e1=>
   cases y with
   |val d=>exact⟨d,e1,q⟩
   |new xs=>exact⟨_,e1,q⟩
   |ref i=>cases q
 obtain⟨d1,ξ,h⟩:=val h
 obtain⟨d2,φ,h⟩:=val h
 cases e:aN ρ d1 d2 with
 |none=>rw[e]at h;cases h
 |some k=>
  rw[e]at h
  simp only[lift,Out.bind]at h
  cases k with
  |false=>cases h;exact⟨false,rfl⟩
  |true=>
   obtain⟨d3,σ3,h⟩:=val h
   exact lZ h
def Oz{d:Expr}(R1:jW X (fZ ρ) (aN ρ))(R2:jW X (fZ υ) (aN υ))(ha:GE X W c m1 a)(hb:GE X W c m2 b)(hd:GE X W c m3 d)(hm:lastMarks [fZ ρ,fZ υ] [b,d]=false):
  GE X W c (.chain ρ υ m1 m2 m3) (.Compare a [fZ ρ,fZ υ] [b,d] pos):=by
 obtain⟨r,r',ho,ho',imp⟩:=wV R1 R2
 exact fun env=>PE.imp (Mx ho ho' ha.d hb.d hd.d hm) fun σ H Q h=>imp env σ H Q h
def Oh{d:Expr}(R1:jW X (fZ ρ) (aN ρ))(R2:jW X (fZ υ) (aN υ))(ha:GE X W c m1 a)(hb:GE X W c m2 b)(hd:GE X W c m3 d)(hm:lastMarks [fZ ρ,fZ υ] [b,d]=false):
  GT X W c (.chain ρ υ m1 m2 m3) (.Compare a [fZ ρ,fZ υ] [b,d] pos):=by
 obtain⟨r,r',ho,ho',imp⟩:=wV R1 R2
 exact PT.imp (Mf ho ho' ha.d hb.d hd.d hm) fun σ H Q⟨env,h⟩=>imp env σ H _ (zA h fun x env' e=>vA e)
def aaP(K:QQq)(ta:TE):TE:=fun σ H Q=>ta σ H fun x H1=>∃k,Fq K x H1 k/\Q (.bl (!k)) H1
def RV(ha:PE X a ta):PE X (.UnaryOp .Not a pos) (aaP X.K ta):=by
 intro γ s σ H Q I h
 exact PyProof.Rows.UnaryOp_ (cj (ha γ s σ H _ I h) fun v s1⟨x,H1,I1,r1,k,t,q1⟩=>PyProof.Rows.not_of (cj (Kz γ s1 σ H1 x v _ I1 r1 ⟨k,t,q1⟩) fun b s2⟨H2,I2,q2⟩=>⟨.bl (!b),H2,I2,rfl,q2⟩))
def Yx(ha:GE X W c m1 a):GE X W c (.not m1) (.UnaryOp .Not a pos):=fun env=>
 PE.imp (RV ha.d) fun σ H Q q=>⟨env,zH (zF (by simpa only[QZ]using q) fun k δ H1 N q1=>fP (d:=.bl (!k)) q1 rfl)⟩
def Yj(ha:GT X W c m1 a):GT X W c (.not m1) (.UnaryOp .Not a pos):=by
 refine PT.imp (Ma ha) fun σ H Q⟨env,q⟩=>⟨env,q.1,?_⟩
 have q2:=q.2
 simp only[QZ]at q2
 cases r:ev c m1 env with
 |bad=>rw[r]at q2;exact q2
 |exc k δ=>rw[r]at q2;exact q2
 |ok x δ=>
  rw[r]at q2
  have go:∀d,x.j8=some d->(match (match ju d with|some b=>Out.ok (Rv.val (.bl (!b))) δ|none=>.bad)with
    |.ok x env'=>∃d b,x.j8=some d/\ju d=some b/\∀H',Nx X.K env σ H env' H'->Q b H'
    |.exc c env'=>∀H',Nx X.K env σ H env' H'->W c env' σ H'
    |.bad=>False)->∃d b,x.j8=some d/\ju d=some b/\∀H',Nx X.K env σ H δ H'->Q (!b) H':=fun d ed z=>by
   cases t:ju d with
   |none=>rw[t]at z;exact z.elim
   |some b=>
    rw[t]at z
    obtain⟨d',b',e1,e2,z⟩:=z
    cases e1
    cases e2
    exact⟨d,b,ed,t,z⟩
  cases x with
  |val d=>exact go d rfl q2
  |new o=>exact go o.d rfl q2
  |ref i=>exact q2.elim
def TJ(ha:GE X W c m1 a):GE X W c (.and (.cons m1 .nil)) (.BoolOp .And [a] pos):=fun env=>by
 have:=Mr (op:=.And) (pos:=pos) (ha env)
 simpa only[ZG,iT]using this
def Yw(ha:GE X W c m1 a):GE X W c (.or (.cons m1 .nil)) (.BoolOp .Or [a] pos):=fun env=>by
 have:=Mr (op:=.Or) (pos:=pos) (ha env)
 simpa only[HQ,oZ]using this
end
def aM(X:Cx)(W:Wi)(c:Cf)(m:E):TE:=fun σ H Q=>∃env,tM X.K W env (ev c m env) σ H Q
def UT{W:Wi}{σ:St}{r:Out Rv}(h:tT K W env r σ H Q)(N:Nx K env σ H δ H1):tT K W δ r σ H1 Q:=by
 obtain⟨_,h⟩:=h
 refine⟨N.gK,?_⟩
 cases r with
 |bad=>exact h
 |exc c ε=>exact fun H' N'=>h H' (N.trans N')
 |ok x ε=>
  obtain⟨d,b,e1,e2,q⟩:=h
  exact⟨d,b,e1,e2,fun H' N'=>q H' (N.trans N')⟩
section
variable{es rest:List Expr}
def GE.am(h:GE X W c m e):PE X e (aM X W c m):=fun γ s σ H Q I⟨env,q⟩=>h env γ s σ H Q I q
def YH(ha:GE X W c m1 a)(hb:GE X W c (.and (.cons m2 m3)) (.BoolOp .And (b::rest) pos)):GE X W c (.and (.cons m1 (.cons m2 m3))) (.BoolOp .And (a::b::rest) pos):=by
 intro env
 refine PE.imp (Xi ha.d hb.am) fun σ H Q q=>?_
 refine⟨env,aP q fun d δ v H1 N1 D1 q1=>?_⟩
 cases d with
 |bl k=>
  refine⟨k,D1,?_⟩
  cases k with
  |true=>rw[if_pos rfl];exact⟨δ,by simpa only[ZG,iT]using q1⟩
  |false=>rw[if_neg Qjz];exact fP q1 rfl
 |_=>exact q1.2.elim
def aci(ha:GE X W c m1 a)(hb:GE X W c (.or (.cons m2 m3)) (.BoolOp .Or (b::rest) pos)):GE X W c (.or (.cons m1 (.cons m2 m3))) (.BoolOp .Or (a::b::rest) pos):=by
 intro env
 refine PE.imp (abB ha.d hb.am) fun σ H Q q=>?_
 refine⟨env,aP q fun d δ v H1 N1 D1 q1=>?_⟩
 cases d with
 |bl k=>
  refine⟨k,D1,?_⟩
  cases k with
  |true=>rw[if_pos rfl];exact fP q1 rfl
  |false=>rw[if_neg Qjz];exact⟨δ,by simpa only[HQ,oZ]using q1⟩
 |_=>exact q1.2.elim
def GW(X:Cx)(W:Wi)(c:Cf)(m:E)(e:Expr):Prop:=PW X e (aT X W c m)
def PW.imp(h:PW X e t)(i:∀σ H Q,t' σ H Q->t σ H Q):PW X e t':=fun wh γ s σ H Q I q=>h wh γ s σ H Q I (i σ H Q q)
def GW.t(h:GW X W c m e):GT X W c m e:=PW.pt h
theorem zB{env:Ev}{σ:St}{Q R:Bool->Hp->Prop}(h:tT K W env (r.ao f) σ H Q)
  (hf:∀d δ,(∀k,d≠ .bl k)->f d δ=.bad)
  (k:∀b δ H1,Nx K env σ H δ H1->tT K W δ (f (.bl b) δ) σ H1 Q->R b H1):tT K W env r σ H R:=by
 have step:∀d δ x,x.j8=some d->r=.ok x δ->∃b,ju d=some b/\∀H1,Nx K env σ H δ H1->R b H1:=fun d δ x ex er=>by
  subst er
  have h':tT K W env (f d δ) σ H Q:=by
   cases x with
   |val d'=>cases ex;exact h
   |new xs=>cases ex;exact h
   |ref i=>cases ex
  by_cases hb:∃b,d=.bl b
  ·obtain⟨b,rfl⟩:=hb
   exact⟨b,rfl,fun H1 N=>k b δ H1 N (UT h' N)⟩
  ·rw[hf d δ fun b e=>hb ⟨b,e⟩]at h'
   exact h'.2.elim
 refine⟨h.1,?_⟩
 cases r with
 |bad=>exact h.2
 |exc c δ=>exact h.2
 |ok x δ=>
  cases x with
  |val d=>obtain⟨b,e,q⟩:=step d δ _ rfl rfl;exact⟨d,b,rfl,e,q⟩
  |new xs=>obtain⟨b,e,q⟩:=step (xs.d) δ _ rfl rfl;exact⟨xs.d,b,rfl,e,q⟩
  |ref i=>exact h.2.elim
def Ti(ha:GT X W c m1 a):GW X W c (.and (.cons m1 .nil)) (.BoolOp .And [a] pos):=PW.imp (Gp ha) fun σ H Q⟨env,q⟩=>⟨env,by simpa only[ZG,iT]using q⟩
def Yi(ha:GT X W c m1 a):GW X W c (.or (.cons m1 .nil)) (.BoolOp .Or [a] pos):=PW.imp (W8 ha) fun σ H Q⟨env,q⟩=>⟨env,by simpa only[HQ,oZ]using q⟩
def Ym(ha:GT X W c m1 a)(hb:GW X W c (.and (.cons m2 m3)) (.BoolOp .And (b::rest) pos)):GW X W c (.and (.cons m1 (.cons m2 m3))) (.BoolOp .And (a::b::rest) pos):=by
 refine PW.imp (LR ha hb) fun σ H Q⟨env,q⟩=>⟨env,?_⟩
 refine zB q (fun d δ hd=>?_) fun k δ H1 N q1=>?_
 ·cases d with
  |bl k=>exact absurd rfl (hd k)
  |_=>rfl
 ·cases k with
  |true=>rw[if_pos rfl];exact⟨δ,by simpa only[ZG,iT]using q1⟩
  |false=>
   obtain⟨d,k',e1,e2,q3⟩:=q1.2
   cases e1
   cases e2
   exact q3 H1 (Nx.refl q1.1)
def acd(ha:GT X W c m1 a)(hb:GW X W c (.or (.cons m2 m3)) (.BoolOp .Or (b::rest) pos)):GW X W c (.or (.cons m1 (.cons m2 m3))) (.BoolOp .Or (a::b::rest) pos):=by
 refine PW.imp (aby ha hb) fun σ H Q⟨env,q⟩=>⟨env,?_⟩
 refine zB q (fun d δ hd=>?_) fun k δ H1 N q1=>?_
 ·cases d with
  |bl k=>exact absurd rfl (hd k)
  |_=>rfl
 ·cases k with
  |false=>rw[if_neg Qjz];exact⟨δ,by simpa only[HQ,oZ]using q1⟩
  |true=>
   obtain⟨d,k',e1,e2,q3⟩:=q1.2
   cases e1
   cases e2
   exact q3 H1 (Nx.refl q1.1)
def YB(ht:GT X W c m1 t)(ha:GE X W c m2 a)(hb:GE X W c m3 b):GE X W c (.ite m1 m2 m3) (.IfExp t a b pos):=by
 intro env
 refine PE.imp (tK ht ha.am hb.am) fun σ H Q q=>?_
 refine⟨env,zF q fun k δ H1 N q1=>?_⟩
 cases k with
 |true=>rw[if_pos rfl]at q1⊢;exact⟨δ,q1⟩
 |false=>rw[if_neg Qjz]at q1⊢;exact⟨δ,q1⟩
def Fj{i:Int}{K:QQq}{vs:List V}(h:at? xs i=some d)(l:ak K H xs vs):∃v,Zg vs i=some v/\bj K H d v:=by
 unfold at? at h
 cases e:ix? xs.length i with
 |none=>rw[e]at h;cases h
 |some j=>
  rw[e]at h
  obtain⟨v,q1,q2⟩:=l.get (h)
  refine⟨v,?_,q2⟩
  unfold Zg
  have:Tc vs.length i=some j:=by
   unfold ix? at e
   unfold Tc
   rw[<-l.length]
   by_cases h0:i<0
   ·simp only[h0,if_true]at e
    split at e
    ·rename_i hc
     cases e
     rw[if_neg (by omega),if_pos (by omega)]
    ·cases e
   ·simp only[h0,if_false]at e
    split at e
    ·rename_i hc
     cases e
     rw[if_pos (by omega),if_pos (by omega)]
    ·cases e
  rw[this]
  exact q1
theorem pO{K:QQq}{H:Hp}(k:Key):∀{kvs:List (Key×V)}{ds:List D}{d:D},cH (dO k) (kvs.map fun p=>dO p.1) ds=some d->ak K H ds (kvs.map (·.2))->∃v,f9 kvs k=some v/\bj K H d v
 |[],ds,d,h,_=>by cases h
 |(k',v)::r,ds,d,h,l=>by
  rw[Qyz]at h l
  cases ds with
  |nil=>obtain⟨⟩:=ak.bJ.mp l
  |cons d' ds=>
   obtain⟨w,ws,e,h1,h2⟩:=ak.aX.mp l
   cases e
   have e:dH (dO k') (dO k)=decide (k'=k):=by
    cases k'<;>cases k<;>simp[dO,dH,Bool.beq_eq_decide_eq]
   simp only[cH,e]at h
   by_cases q:k'=k
   ·simp only[q,decide_true,if_true]at h
    cases h
    exact⟨v,j9 q,h1⟩
   ·simp only[q,decide_false,Qxq,if_false]at h
    obtain⟨u,q1,q2⟩:=pO k h h2
    exact⟨u,by rw[kj q];exact q1,q2⟩
def abu:R2:=fun x y H Q=>∃a k kvs v,x=.ref a/\y=kV k/\Rd H a (.dK kvs)/\f9 kvs k=some v/\Q v H
def X8(hu:X.A.units+1<cLine):Qt X abu:=by
 intro value slice γ s σ H x y v u Q I rx ry h hs
 obtain⟨a,k,kvs,w,rfl,rfl,hd,hv,q⟩:=h
 cases rx
 have g:nO H a (kV k) (some w):=⟨kvs,k,hd,rfl,hv.symm⟩
 exact PyProof.Rows.tail_any (qN I g) PySem.F.slot_dict_getitem.lookup (wR hu I g ry fun w' s3 I3 rw'=>⟨w,H,I3,rw',q⟩) hs
def abv(K:QQq):R2:=fun x y H Q=>W6 K x y H Q\/W5 K x y H Q\/abu x y H Q
def Ny(hu:X.A.units+2<cLine):Qt X (abv X.K):=Hg.or (Nu.or (X8 (by omega)))
def wO{K:QQq}{H:Hp}{d y z:D}{v u:V}{Q:VK}(D1:eZ K H d v)(D2:bj K H y u)(e:getD d y=some z)(q:∀w,bj K H z w->Q w H):abv K v u H Q:=by
 cases d with
 |tup xs=>
  cases y with
  |int i=>
   obtain⟨a,vs,rfl,hq,l⟩:=cY D1.tup
   obtain⟨w,e1,e2⟩:=Fj e l
   exact .inr (.inl ⟨a,vs,i,w,rfl,D2,hq,e1,q w e2⟩)
  |_=>cases e
 |lst xs=>
  cases y with
  |int i=>
   obtain⟨a,vs,rfl,hq,l⟩:=D1.Ld
   rcases hq with hq|hq
   ·obtain⟨w,e1,e2⟩:=Fj e l
    exact .inl ⟨a,vs,i,w,rfl,D2,hq,e1,q w e2⟩
   ·obtain⟨w,e1,e2⟩:=Fj e l
    exact .inr (.inl ⟨a,vs,i,w,rfl,D2,hq,e1,q w e2⟩)
  |_=>cases e
 |eE ks ds=>
  have e':(if keyOk y=true then cH y ks ds else none)=some z:=by cases y<;>exact e
  split at e'
  ·rename_i hk
   obtain⟨k,rfl⟩:=ie hk
   obtain⟨a,kvs,rfl,ha,rfl,l⟩:=o5 D1
   obtain⟨w,e1,e2⟩:=pO k e' l
   exact .inr (.inr ⟨a,k,kvs,w,rfl,mF D2,ha,e1,q w e2⟩)
  ·cases e'
 |_=>cases y<;>cases e
def YD(hu:X.A.units+2<cLine)(ha:GE X W c m1 a)(hb:GE X W c m2 b)(hv:∀k,m1.az=some k->∃x p,a=.Name x p/\jX X k x)(hs:yX b):GE X W c (.idx m1 m2) (.Subscript a b pos):=by
 intro env
 cases q:m1.az with
 |some k=>
  obtain⟨x,p,rfl,nm⟩:=hv k q
  refine PE.imp (Vk (Ny hu) nm.pe hb.d hs) fun σ H Q h=>?_
  simp only[Ks,q]at h
  cases e0:bA k env with
  |none=>rw[e0]at h;exact h.2.elim
  |some d0=>
   rw[e0]at h
   obtain⟨u,eu,_⟩:=fX h.1 e0
   refine⟨u,eu,env,aP h fun d δ v H1 N1 D1 h1=>?_⟩
   obtain⟨z,ez,S,q3⟩:=cW h1
   cases e1:bA k δ with
   |none=>rw[e1]at ez;cases ez
   |some d2=>
    rw[e1]at ez
    simp only[Option.bind]at ez
    obtain⟨u',eu',D2⟩:=fX S e1
    rw[eu]at eu'
    cases eu'
    cases e2:getD d2 d with
    |none=>rw[e2]at ez;cases ez
    |some w=>
     rw[e2]at ez
     cases ez
     exact wO D2 D1 e2 fun w' hw=>q3 w' H1 (Nx.refl S) hw
 |none=>
  refine PE.imp (Vk (Ny hu) ha.d hb.d hs) fun σ H Q h=>?_
  simp only[Ks,q]at h
  refine⟨env,aP h fun d δ v H1 N1 D1 h1=>⟨δ,aP h1 fun d2 ε u H2 N2 D2 h2=>?_⟩⟩
  obtain⟨z,ez,S,q3⟩:=cW h2
  cases e2:getD d d2 with
  |none=>rw[e2]at ez;cases ez
  |some w=>
   rw[e2]at ez
   cases ez
   exact wO (.inl (D1.mono N2.pers)) D2 e2 fun w' hw=>q3 w' H2 (Nx.refl S) hw
end
structure Nz(K:QQq)(env:Ev)(σ:St)(H:Hp)(env':Ev)(ζ:St)(H':Hp):Prop where
 gK:Sat K env' ζ H'
 sub:∀(i:Nat)a,aO env' ζ i a->aO env σ i a\/H a=none
 pers:bV H H'
 keep:∀b u,H b=some u->(∀i,¬aO env σ i b)->H' b=some u
 dom:∀b,H' b=none->H b=none
 bors:∀(i:Nat)xs,env[i]? =some (.bor xs)->(∃ys,env'[i]? =some (.bor ys))/\ζ[i]? =σ[i]?
section
theorem Nx.z(N:Nx K env σ H δ H1):Nz K env σ H δ σ H1:=⟨N.gK,fun i a z=>.inl (N.sub i a z),N.pers,N.keep,N.dom,fun i xs e=>⟨N.bors i xs e,rfl⟩⟩
theorem Nz.refl(S:Sat K env σ H):Nz K env σ H env σ H:=(Nx.refl S).z
theorem Nz.trans(a:Nz K env σ H δ ξ H1)(b:Nz K δ ξ H1 ε φ H2):Nz K env σ H ε φ H2 where
 gK:=b.gK
 sub:=fun i c z=>by
  rcases b.sub i c z with q|q
  ·exact a.sub i c q
  ·exact .inr (a.dom c q)
 pers:=a.pers.trans b.pers
 keep:=fun c vs z n=>b.keep c vs (a.keep c vs z n) fun i w=>by
  rcases a.sub i c w with q|q
  ·exact n i q
  ·rw[q]at z;cases z
 dom:=fun c z=>a.dom c (b.dom c z)
 bors:=fun i xs e=>by
  obtain⟨⟨ys,e1⟩,s1⟩:=a.bors i xs e
  obtain⟨q,s2⟩:=b.bors i ys e1
  exact⟨q,s2.trans s1⟩
noncomputable def Qq(K:QQq)(env:Ev)(σ:St)(H H':Hp):Rv->V->Prop
 |.val d,v=>bj K H' d v
 |.new q,v=>∃a,v=.ref a/\j7 K H' q a/\(H a=none\/∃(i:Nat)(ys:Ob),env[i]? =some (.own ys)/\σ[i]? =some (some (.ref a)))
 |_,_=>False
def Qq.back{v:V}(N:Nz K env σ H δ ξ H1)(h:Qq K δ ξ H1 H2 r v):Qq K env σ H H2 r v:=by
 cases r with
 |val d=>exact h
 |new xs=>
  obtain⟨a,e,p,z⟩:=h
  refine⟨a,e,p,?_⟩
  rcases z with z|⟨i,ys,z1,z2⟩
  ·exact .inl (N.dom a z)
  ·rcases N.sub i a ⟨⟨_,ys,z1,rfl⟩,z2⟩with ⟨⟨s,xs',q1,q2⟩,q3⟩|q
   ·cases s with
    |own w=>exact .inr ⟨i,w,q1,q3⟩
    |bor w=>
     obtain⟨⟨w',q⟩,_⟩:=N.bors i w q1
     rw[z1]at q;cases q
    |un=>cases q2
    |val d=>cases q2
   ·exact .inl q
 |ref i=>exact h.elim
end
noncomputable def tS(K:QQq)(W:Wi)(env:Ev)(f:Fl):TS:=fun D σ H=>Sat K env σ H/\match f with
 |.next env'=>∀ζ H',Nz K env σ H env' ζ H'->D.nx ζ H'
 |.ret r env'=>∀v ζ H',Nz K env σ H env' ζ H'->Qq K env σ H H' r v->D.rt v H'
 |.brk env'=>∀ζ H',Nz K env σ H env' ζ H'->D.bk ζ H'
 |.cont env'=>∀ζ H',Nz K env σ H env' ζ H'->D.ct ζ H'
 |.exc c env'=>∀ζ H',Nz K env σ H env' ζ H'->W c env' ζ H'
 |.bad=>False
def GS(X:Cx)(W:Wi)(c:Cf)(m:S)(st:Stmt):Prop:=∀env,PS X st (tS X.K W env (ex c m env))
def QJ(X:Cx)(W:Wi)(c:Cf)(m:S)(st:List Stmt):Prop:=∀env,vC X st (tS X.K W env (ex c m env))
section
def PS.imp(h:PS X st t)(i:∀D σ H,t' D σ H->t D σ H):PS X st t':=fun γ s σ H D I q=>h γ s σ H D I (i D σ H q)
def vC.imp(h:vC X sts t)(i:∀D σ H,t' D σ H->t D σ H):vC X sts t':=fun γ s σ H D I q=>h γ s σ H D I (i D σ H q)
def rW{env δ:Ev}{H H1:Hp}{D:Ends}(h:tS K W env f D σ H)(N:Nz K env σ H δ ξ H1):tS K W δ f D ξ H1:=by
 obtain⟨_,h⟩:=h
 refine⟨N.gK,?_⟩
 cases f with
 |next ε=>exact fun ζ H' N'=>h ζ H' (N.trans N')
 |ret r ε=>exact fun v ζ H' N' k=>h v ζ H' (N.trans N') (k.back N)
 |brk ε=>exact fun ζ H' N'=>h ζ H' (N.trans N')
 |cont ε=>exact fun ζ H' N'=>h ζ H' (N.trans N')
 |exc k ε=>exact fun ζ H' N'=>h ζ H' (N.trans N')
 |bad=>exact h
def Tj:QJ X W c .nil []:=fun env=>vC.imp xU fun D σ H q=>by
 exact q.2 σ H (Nz.refl q.1)
def Oi(h:GS X W c m1 st)(t:QJ X W c m2 sts):QJ X W c (.cons m1 m2) (st::sts):=by
 intro env
 have B:vC X _ (kJ (fun D σ H=>∃env,tS X.K W env _ D σ H) (fun D σ H=>∃env,tS X.K W env _ D σ H)):=
  bZ (fun γ s σ H D I⟨env,q⟩=>h env γ s σ H D I q) (fun γ s σ H D I⟨env,q⟩=>t env γ s σ H D I q)
 refine vC.imp B fun D σ H q=>?_
 simp only[x_1]at q
 refine⟨env,q.1,?_⟩
 cases r:ex c m1 env with
 |next δ=>
  rw[r]at q
  exact fun ξ H1 N1=>⟨δ,rW q N1⟩
 |_=>rw[r]at q;exact q.2
theorem rY{env:Ev}{H:Hp}{D:Ends}{r:Out Rv}{R:VK}(h:tS K W env (r.pZ f) D σ H)
  (k:∀d δ v H1,Nx K env σ H δ H1->bj K H1 d v->tS K W δ (f d δ) D σ H1->R v H1):tD K W env r σ H R:=by
 have step:∀d δ,r.pZ f=f d δ->∀v H1,Nx K env σ H δ H1->bj K H1 d v->R v H1:=fun d δ e v H1 N Dv=>by
  rw[e]at h
  exact k d δ v H1 N Dv (rW h N.z)
 obtain⟨S,h⟩:=h
 refine⟨S,?_⟩
 cases r with
 |bad=>exact h
 |exc c δ=>exact fun H' N=>h σ H' N.z
 |ok x δ=>
  cases x with
  |val d=>exact fun v H1 N Dv=>step d δ rfl v H1 N Dv
  |new xs=>exact fun v H1 N Dv=>step xs.d δ rfl v H1 N Dv
  |ref i=>exact h
theorem K1{env:Ev}{H:Hp}{D:Ends}{f:Bool->Ev->Fl}(h:tS K W env (r.O2 f) D σ H)
  (k:∀b δ H1,Nx K env σ H δ H1->tS K W δ (f b δ) D σ H1->R b H1):tT K W env r σ H R:=by
 have step:∀d δ x,x.j8=some d->r=.ok x δ->∃b,ju d=some b/\∀H1,Nx K env σ H δ H1->R b H1:=fun d δ x ex er=>by
  subst er
  cases q:ju d with
  |none=>
   cases x with
   |val d'=>cases ex;simp only[Out.O2,Out.pZ,q]at h;exact h.2.elim
   |new xs=>cases ex;simp only[Out.O2,Out.pZ,q]at h;exact h.2.elim
   |ref i=>cases ex
  |some b=>
   refine⟨b,rfl,fun H1 N=>k b δ H1 N (rW ?_ N.z)⟩
   cases x with
   |val d'=>cases ex;simp only[Out.O2,Out.pZ,q]at h;exact h
   |new xs=>cases ex;simp only[Out.O2,Out.pZ,q]at h;exact h
   |ref i=>cases ex
 refine⟨h.1,?_⟩
 cases r with
 |bad=>exact h.2
 |exc c δ=>exact fun H' N=>h.2 σ H' N.z
 |ok x δ=>
  cases x with
  |val d=>obtain⟨b,e,q⟩:=step d δ _ rfl rfl;exact⟨d,b,rfl,e,q⟩
  |new xs=>obtain⟨b,e,q⟩:=step xs.d δ _ rfl rfl;exact⟨xs.d,b,rfl,e,q⟩
  |ref i=>exact h.2.elim
def ace{te:Expr}(ht:GT X W c t te)(h1:QJ X W c m1 s1)(h2:QJ X W c m2 s2):GS X W c (.ite t m1 m2) (.If te s1 s2 pos):=by
 intro env
 refine PS.imp (Mg ht (t:=fun D σ H=>∃env,tS X.K W env _ D σ H) (u:=fun D σ H=>∃env,tS X.K W env _ D σ H)
  (fun γ s σ H D I⟨env,q⟩=>h1 env γ s σ H D I q) (fun γ s σ H D I⟨env,q⟩=>h2 env γ s σ H D I q)) fun D σ H q=>?_
 refine⟨env,K1 q fun b δ H1 N q1=>?_⟩
 cases b with
 |true=>rw[if_pos rfl]at q1⊢;exact⟨δ,q1⟩
 |false=>rw[if_neg Qjz]at q1⊢;exact⟨δ,q1⟩
def Tr{m:E}(h:GE X W c m e)(hs:swapsWith e none pos.line X.env=pure false):GS X W c (.expr m) (.Expr e pos):=by
 intro env
 exact PS.imp (lU h.d hs) fun D σ H q=>⟨env,rY q fun d δ v H1 N Dv q1=>q1.2 σ H1 (Nz.refl q1.1)⟩
def Oo:GS X W0 c (.raise k) st:=fun env γ s σ H D I q=>by
 exact(q.2 σ H (Nz.refl q.1)).elim
end
section
variable{env δ ε:Ev}{σ ξ φ:St}
def lW{s:Sl}{a:Addr}(h:aO (env.set i s) (σ.set i (some v)) j a)(hj:i≠j):aO env σ j a:=by
 obtain⟨⟨t,xs,e1,e2⟩,e3⟩:=h
 rw[Qxz hj]at e1 e3
 exact⟨⟨t,xs,e1,e2⟩,e3⟩
def oF{s:Sl}{a:Addr}(hi:i<env.length)(hs:i<σ.length)(h:aO (env.set i s) (σ.set i (some v)) i a):isOwn s≠none/\v=.ref a:=by
 obtain⟨⟨t,xs,e1,e2⟩,e3⟩:=h
 rw[Qwq hi]at e1
 rw[Qwq hs]at e3
 cases e1
 cases e3
 exact⟨by rw[e2];simp,rfl⟩
def Sat.Dg{q:Ob}(S:Sat K env σ H)(hi:i<env.length)(ha:j7 K H q a)(no:∀k,¬aO env σ k a):Sat K (env.set i (.own q)) (σ.set i (some (.ref a))) H:=by
 have hs:i<σ.length:=by rw[<-S.len];exact hi
 refine⟨by simpa using S.len,fun j s e=>?_,fun j k b h1 h2=>?_⟩
 ·by_cases hj:i=j
  ·subst hj
   rw[Qwq hi]at e
   cases e
   exact⟨a,by rw[Qwq hs];rfl,ha⟩
  ·rw[Qxz hj]at e⊢
   exact S.sl j s e
 ·by_cases hj:i=j
  ·subst hj
   by_cases hk:i=k
   ·exact hk
   ·obtain⟨_,z⟩:=oF hi hs h1
    cases z
    exact absurd (lW h2 hk) (no k)
  ·by_cases hk:i=k
   ·subst hk
    obtain⟨_,z⟩:=oF hi hs h2
    cases z
    exact absurd (lW h1 hj) (no j)
   ·exact S.ne j k b (lW h1 hj) (lW h2 hk)
theorem Nz.put{x:Rv}{v:V}(S:Sat K env σ H)(N:Nx K env σ H δ H1)(hx:iJ K σ H H1 x v)(hs:x.CG=some s)(h:eO i s δ=some ε):Nz K env σ H ε (σ.set i (some v)) H1:=by
 obtain⟨rfl,hi,nb⟩:=sS h
 have hsl:i<σ.length:=by rw[<-N.gK.len];exact hi
 have bors:∀(j:Nat)xs,env[j]? =some _->(∃ys,(δ.set i s)[j]? =some _)/\(σ.set i (some v))[j]? =σ[j]? :=fun j xs e=>by
  obtain⟨ys,e1⟩:=N.bors j xs e
  have hj:i≠j:=fun z=>by subst z;exact nb ys e1
  exact⟨⟨ys,by rw[Qxz hj];exact e1⟩,by rw[Qxz hj]⟩
 cases x with
 |val d=>
  cases hs
  refine⟨N.gK.put hi hx,fun j a z=>.inl ?_,N.pers,N.keep,N.dom,bors⟩
  by_cases hj:i=j
  ·subst hj
   exact absurd rfl (oF hi hsl z).1
  ·exact N.sub j a (lW z hj)
 |new q=>
  cases hs
  obtain⟨a,rfl,oa,h0⟩:=hx
  refine⟨N.gK.Dg hi oa fun k z=>S.yd h0 k (N.sub k a z),fun j b z=>?_,N.pers,N.keep,N.dom,bors⟩
  by_cases hj:i=j
  ·subst hj
   obtain⟨_,z⟩:=oF hi hsl z
   cases z
   exact .inr h0
  ·exact .inl (N.sub j b (lW z hj))
 |ref j=>cases hs
end
section
theorem UV{env:Ev}{H:Hp}{D:Ends}{r:Out Rv}{R:VK}(h:tS K W env (r.fl f) D σ H)
  (k:∀x δ v H1,Nx K env σ H δ H1->iJ K σ H H1 x v->tS K W env (f x δ) D σ H->R v H1):tM K W env r σ H R:=by
 obtain⟨S,h⟩:=h
 refine⟨S,?_⟩
 cases r with
 |bad=>exact h
 |exc c δ=>exact fun H' N=>h σ H' N.z
 |ok x δ=>exact fun v H1 N z=>k x δ v H1 N z ⟨S,h⟩
def Gi{i:Nat}{D:Ends}{H:Hp}(q:tS K W env (ex c (.set i m) env) D σ H):tM K W env (ev c m env) σ H fun v H1=>D.nx (σ.set i (some v)) H1:=by
 refine UV q fun x δ v H1 N z q1=>?_
 cases e1:x.CG with
 |none=>rw[e1]at q1;exact q1.2.elim
 |some s=>
  rw[e1]at q1
  simp only[Option.bind]at q1
  cases e2:eO i s δ with
  |none=>rw[e2]at q1;exact q1.2.elim
  |some ε=>
   rw[e2]at q1
   exact q1.2 _ _ (Nz.put q1.1 N z e1 e2)
def Om{x:Str}(h:GE X W c m e)(hN:X.N.Nodup)(hi:X.N[i]? =some x)(hx:Loc X.env.scope x)(hf:X.fn x=true\/X.env.scope.names.lookup x=some .local)
  (hs:swapsWith e (some (.Name x pos')) pos.line X.env=pure false):GS X W c (.set i m) (.Assign [.Name x pos'] e pos):=fun env=>
 PS.imp (sZ hN hi hx h.am hs hf) fun D σ H q=>⟨env,Gi q⟩
def Lb{env:Ev}{D:Ends}{H:Hp}(q:tS K W env (ex c (.setT is m) env) D σ H):tD K W env (ev c m env) σ H fun v H1=>tG K (.tup is) v σ H1 D.nx:=by
 refine rY q fun d δ v H1 N Dv q1=>?_
 cases e2:cR _ d δ with
 |none=>rw[e2]at q1;exact q1.2.elim
 |some ε=>
  rw[e2]at q1
  exact⟨δ,d,ε,q1.1,Dv,e2,fun ζ st=>q1.2 ζ H1 ⟨st.gK,fun i a z=>.inl (st.sub z),bV.refl _,fun _ _ z _=>z,fun _ z=>z,fun i xs e=>⟨⟨xs,(st.same i (st.bors i xs e)).1.trans e⟩,(st.same i (st.bors i xs e)).2⟩⟩⟩
def Tp{tg:Expr}(h:GE X W c m e)(hg:GG X (.tup is) tg)(hs:swapsWithSole [tg] e pos.line X.env=pure false)(hw:swappedStores [tg] e X.env=pure none)
  (h1:(assignEach [tg] X.env).map (·.2)=[assign tg X.env]):GS X W c (.setT is m) (.Assign [tg] e pos):=fun env=>
 PS.imp (Mh h.d hg hs hw h1) fun D σ H q=>⟨env,Lb q⟩
end
theorem Eu(env:Env):∀(names:List (Str×NameKind))(cs:List (Str×Addr)),(∀x∈names,x.2=.free->∃c,env.cells.lookup x.1=some c)->(∀x c,cs.lookup x=some c->env.cells.lookup x=some c)->
  ∃cl,(do
   let s<-forIn names cs (fun(x:Str×NameKind)cs=>match x with
    |(name,kind)=>if (kind==NameKind.free)=true then do
      let a<-cellOf env name
      pure (ForInStep.yield ((name,a)::cs))
     else pure (ForInStep.yield cs))
   pure s:Sem (List (Str×Addr)))=(pure cl:Sem _)/\
   (∀x c,cl.lookup x=some c->env.cells.lookup x=some c)/\(∀x,(x,NameKind.free)∈names->∃c,cl.lookup x=some c)/\∀x c,cs.lookup x=some c->∃c,cl.lookup x=some c:=by
 intro names
 induction names with
 |nil=>intro cs h1 h2;exact⟨cs,rfl,h2,by simp,fun x c e=>⟨c,e⟩⟩
 |cons p r ih=>
  intro cs h1 h2
  obtain⟨n,k⟩:=p
  by_cases hk:k=.free
  ·subst hk
   obtain⟨c,hc⟩:=h1 _ QYz rfl
   have q2:∀x d,((n,c)::cs).lookup x=some d->env.cells.lookup x=some d:=fun x d e=>by
    rw[QHz]at e
    cases hx:x==n with
    |true=>rw[hx]at e;cases e;rw[eq_of_beq hx];exact hc
    |false=>rw[hx]at e;exact h2 x d e
   obtain⟨cl,e1,e2,e3,e4⟩:=ih _ (fun x hx=>h1 x (QYq _ hx)) q2
   have own:=e4 n c (by simp[QHz])
   refine⟨cl,?_,e2,fun x hx=>?_,fun x d e=>?_⟩
   ·rw[<-e1]
    have:cellOf env n=pure c:=by unfold cellOf;rw[hc]
    simp only[List.forIn_cons]
    rw[if_pos (show(NameKind.free==NameKind.free)=true from rfl),this]
    rfl
   ·rcases QCq.mp hx with z|z
    ·cases z;exact own
    ·exact e3 x z
   ·cases hx:x==n with
    |true=>rw[eq_of_beq hx];exact own
    |false=>exact e4 x d (by rw[QHz,hx];exact e)
  ·obtain⟨cl,e1,e2,e3,e4⟩:=ih cs (fun x hx=>h1 x (QYq _ hx)) h2
   refine⟨cl,?_,e2,fun x hx=>?_,e4⟩
   ·rw[<-e1]
    simp only[List.forIn_cons]
    rw[if_neg (fun z=>hk (eq_of_beq z))]
    rfl
   ·rcases QCq.mp hx with z|z
    ·cases z;exact absurd rfl hk
    ·exact e3 x z
def af1{env:Env}(h:∀x∈scope.names,x.2=.free->∃c,env.cells.lookup x.1=some c):∃cl,Qx scope env cl:=by
 obtain⟨cl,e1,e2,e3,_⟩:=Eu env scope.names [] h (by simp)
 refine⟨cl,?_,e2,fun x hx=>e3 x (PySem.mem_of_lookup hx)⟩
 have q:closureFor scope env=(forIn scope.names [] (fun(x:Str×NameKind)cs=>match x with
    |(name,kind)=>if (kind==NameKind.free)=true then do
      let a<-cellOf env name
      pure (ForInStep.yield ((name,a)::cs))
     else pure (ForInStep.yield cs)))>>=pure:=rfl
 rw[q,e1]
 rfl
section
variable{it cond elt:E}{pos spos py:Pos}
theorem Hs{env:Ev}{H:Hp}{Q:VK}
  (q:tM K W env (ev c (.comp nl tg it cond elt) env) σ H Q)
  (k:∀J H1 δ xs ys τ,Nx K env σ H δ H1->Gives K J xs H1->aQ tg (ev c cond) (ev c elt) xs [] (List.replicate nl Sl.un++δ)=.ok ys τ->
   (∀v H2,Nx K env σ H (τ.drop nl) H2->iJ K σ H H2 (.new (.lst ys)) v->Q v H2)->R J H1):tI K W env (ev c it env) σ H R:=by
 simp only[nQ]at q
 obtain⟨S,q⟩:=q
 refine⟨S,?_⟩
 cases r:ev c it env with
 |bad=>rw[r]at q;exact q
 |exc k δ=>rw[r]at q;exact q
 |ok x δ=>
  rw[r]at q
  have go:∀d,x.j8=some d->(match (match items d with
    |some xs=>match aQ tg (ev c cond) (ev c elt) xs [] (List.replicate nl Sl.un++δ)with
     |.ok ys τ=>Out.ok (Rv.new (.lst ys)) (τ.drop nl)
     |_=>.bad
    |none=>.bad)with
   |.ok x env'=>∀v H',Nx K env σ H env' H'->iJ K σ H H' x v->Q v H'
   |.exc c env'=>∀H',Nx K env σ H env' H'->W c env' σ H'
   |.bad=>False)->∃d xs,x.j8=some d/\items d=some xs/\∀J H',Nx K env σ H δ H'->Gives K J xs H'->R J H':=fun d ed z=>by
   cases e1:items d with
   |none=>rw[e1]at z;exact z.elim
   |some xs=>
    rw[e1]at z
    simp only at z
    cases e2:aQ tg _ _ xs [] _ with
    |bad=>rw[e2]at z;exact z.elim
    |exc k τ=>rw[e2]at z;exact z.elim
    |ok ys τ=>
     rw[e2]at z
     exact⟨d,xs,ed,e1,fun J H1 N G=>k J H1 δ xs ys τ N G e2 z⟩
  cases x with
  |val d=>exact go d rfl q
  |new o=>exact go o.d rfl q
  |ref i=>exact q.elim
def Inv.letGo{σ:St}{H:Hp}{C:Addr}(I:Inv X γ σ H s)(f:dC X γ H C)(hs:Heap.SameBut C s.heap h'):Inv X γ σ H {s with heap:=h'}:=by
 exact I.turned (fun b o hb e=>(hs.2 b hb).trans e) f.1 f.2.1 f.2.2.2.1 f.2.2.2.2.1 f.2.2.2.2.2
theorem J6.cl{σ:St}{H:Hp}(sc:J6 X.env.scope scope η X.N)(I:Inv X γ σ H s):∃cl,Qx scope X.env cl:=
 af1 fun x hx hf=>I.ok.has x.1 (sc.fre x hx hf)
def Tz(B:BV X c scope η tg cond elt Ω Ξ ifs)(hi:GI X W c it Ω π)(hc:X.calm=true)(hs:∀x,foldedSetIterable π X.env x=pure x):
  GE X W c (.comp η.length tg it cond elt) (.ListComp Ξ [⟨Ω,π,ifs,0⟩] scope pos):=by
 intro env γ s σ H Q I q
 obtain⟨cl,co⟩:=B.sc.cl I
 refine wpAny_comprehension_free rfl hs co.eq B.sc.kind B.sc.locs (cj (hi env γ s σ H _ I (Hs q (R:=fun J H1=>∃δ xs ys τ,Nx X.K env σ H δ H1/\Gives X.K J xs H1/\aQ tg _ _ xs [] _=.ok ys τ/\
  (∀v H2,Nx X.K env σ H _ H2->iJ X.K σ H H2 _ v->Q v H2)) fun J H1 δ xs ys τ N G e z=>⟨δ,xs,ys,τ,N,G,e,z⟩)) fun v s1 h1=>cj h1 fun itv s2 h2=>?_)
 obtain⟨ita,fp,tn,J,H1,rfl,I1,T,t0,hf,δ,xs,ys,τ,N,G,e,z⟩:=h2
 refine wU B hc co I1 N.gK T t0 hf G e fun D C s' H' vs m I' N' hD hl hn hC fC=>?_
 refine⟨m,hC,fun h' hs'=>⟨.ref D,H',Inv.letGo I' fC hs',rfl,z _ _ (N.trans N') ⟨D,rfl,⟨_,hD,vs,rfl,hl⟩,N.dom D hn⟩⟩⟩
def Ec{x:Str}(B:BV X c scope η tg cond elt Ω Ξ ifs)(hi:GI X W c it Ω π)(hc:X.calm=true)(hs:∀x,foldedSetIterable π X.env x=pure x)
  (hN:X.N.Nodup)(hx:X.N[i]? =some x)(hl:Loc X.env.scope x)(hf:X.fn x=true\/X.env.scope.names.lookup x=some .local)
  (hsw:swapsWith (.ListComp Ξ [⟨Ω,π,ifs,0⟩] scope pos) (some (.Name x py)) spos.line X.env=pure true):
  GS X W c (.set i (.comp η.length tg it cond elt)) (.Assign [.Name x py] (.ListComp Ξ [⟨Ω,π,ifs,0⟩] scope pos) spos):=by
 intro env γ s σ H D I q
 obtain⟨cl,co⟩:=B.sc.cl I
 rw[exec_Assign_Name_used _ _ _ _ hsw]
 refine QKq (wpAny_standAt (QKq ?_))
 refine QKq (QGq (wpAny_comprehension_free rfl hs co.eq B.sc.kind B.sc.locs
  (cj (hi env γ s σ H _ I (Hs (Gi q) (R:=fun J H1=>∃δ xs ys τ,Nx X.K env σ H δ H1/\Gives X.K J xs H1/\aQ tg _ _ xs [] _=.ok ys τ/\
  (∀v H2,Nx X.K env σ H _ H2->iJ X.K σ H H2 _ v->D.nx _ H2)) fun J H1 δ xs ys τ N G e z=>⟨δ,xs,ys,τ,N,G,e,z⟩)) fun v s1 h1=>cj h1 fun itv s2 h2=>?_))
  (fun _ s' hq=>QKz (QKz hq)) fun _ _ e=>e)
 obtain⟨ita,fp,tn,J,H1,rfl,I1,T,t0,hf',δ,xs,ys,τ,N,G,e,z⟩:=h2
 refine wU B hc co I1 N.gK T t0 hf' G e fun A C s' H' vs m I' N' hD hl' hn hC fC=>?_
 refine wpAny_assign_Name (vJ (v:=.ref A) I' hN hx hl rfl (fun s'' I''⟨a,ha,hor⟩=>?_) hf)
 have hCa:C≠a:=by
  rcases hor with rfl|hor
  ·exact fC.2.1
  ·exact fun z=>fC.2.2.2.2.1 x a hor z.symm
 refine⟨m,hC.sameBut ha hCa,fun h' hs'=>⟨_,H',Inv.letGo I'' fC hs',z _ _ (N.trans N') ⟨A,rfl,⟨_,hD,vs,rfl,hl'⟩,N.dom A hn⟩⟩⟩
end
section
theorem JM(hq:jU K H a vs)(l:ak K H xs vs)(hz:vs.length<=sizeLine):Gives K (Itt K a) xs H where
 go:=fun H1 p i d e=>by
  obtain⟨v,ev,_⟩:=l.get e
  exact⟨vs,v,p.WM hq,ev⟩
 yld:=fun H1 p i d e x H2 y=>by
  obtain⟨rfl,y⟩:=y
  obtain⟨v,ev,dv⟩:=l.get e
  have:=y vs (p.WM hq)
  rw[ev]at this
  cases this
  exact⟨dv.mono p,.inl rfl⟩
 stop:=fun H1 p i hi=>⟨vs,p.WM hq,by rw[<-l.length];exact hi⟩
 len:=by rw[l.length];exact hz
theorem JN(hq:Qu K H a vs)(l:ak K H xs vs)(hz:vs.length<=sizeLine):Gives K (Itl K a) xs H where
 go:=fun H1 p i d e=>by
  obtain⟨v,ev,_⟩:=l.get e
  exact⟨vs,v,(p.Vz hq).sq,ev⟩
 yld:=fun H1 p i d e x H2 y=>by
  obtain⟨rfl,y⟩:=y
  obtain⟨v,ev,dv⟩:=l.get e
  have:=y vs (p.Vz hq).sq
  rw[ev]at this
  cases this
  exact⟨dv.mono p,.inl rfl⟩
 stop:=fun H1 p i hi=>⟨vs,(p.Vz hq).sq,by rw[<-l.length];exact hi⟩
 len:=by rw[l.length];exact hz
def Its(x:Str):It:=⟨fun i _=>i<x.cps.size,fun i H v H'=>H'=H/\∃c,x.cps[i]? =some c/\v=.str ⟨#[c]⟩,fun i _=>x.cps.size<=i⟩
def signs_get{i:Nat}(h:(signs x)[i]? =some d):∃c,x.cps[i]? =some c/\d=.str ⟨#[c]⟩:=by
 unfold signs at h
 rw[QFz]at h
 cases e:x.cps.toList[i]? with
 |none=>rw[e]at h;cases h
 |some c=>rw[e]at h;cases h;exact⟨c,by simpa using e,rfl⟩
def pD x:(signs x).length=x.cps.size:=by simp[signs]
theorem wN{x:Str}(hz:x.cps.size<=sizeLine):Gives K (Its x) (signs x) H where
 go:=fun H1 p i d e=>by
  have:=(QCz.mp e).1
  rw[pD]at this
  exact this
 yld:=fun H1 p i d e v H2 y=>by
  obtain⟨rfl,c,e1,rfl⟩:=y
  obtain⟨c',e2,rfl⟩:=signs_get e
  rw[e1]at e2
  cases e2
  exact⟨rfl,.inl rfl⟩
 stop:=fun H1 p i hi=>by rw[pD]at hi;exact hi
 len:=by rw[pD];exact hz
end
section
theorem zq it x t ty(W:∀A':Around,A'.handled=none->Walks P w A' it [it] [it] x.cps.size (SignAt x) (fun i h=>h.IsStrIter it ty x t i))
  (hn:["enumerate","zip","dict_itemiterator","dict_reverseitemiterator","odict_iterator","itertools.zip_longest","itertools.pairwise"].contains ty=false)
  (hself:∀(A:Around)(i:Nat)(s:Shared)(Q:QZq)(E:QZq),s.heap.IsStrIter it ty x t i->Q (.ref it) s->wpAny (model P w) A (pyIter (.ref it)) Q E s):
  Turn P w K tg (Its x) [it] it (fun i h=>h.IsStrIter it ty x t i/\i<=x.cps.size) where
 mem:=by simp
 obj:=fun i h st b hb=>by
  have e:b=it:=by simpa using hb
  subst e
  obtain⟨⟨o,e,_,d⟩,_⟩:=st
  exact⟨o,e,fun v z=>by rw[d]at z;cases z⟩
 keep:=fun i h h' st k=>⟨let ⟨o,e,r⟩:=st.1;⟨o,k it (by simp) o e,r⟩,st.2⟩
 item:=by
  intro X hP hw hK hc i γ s σ H E I hf st hg
  obtain⟨f0,f1,f2,f3,f4,f5⟩:=hf it (by simp)
  refine(W X.A (I.ok.hd hc)).item i s _ _ hg st.1 fun v h' tk hv st' kk=>?_
  obtain⟨c,t,hx,rfl⟩:=hv
  obtain⟨o,e,cl,d⟩:=id st'
  exact⟨_,rfl,Hi e cl d hn ⟨.str ⟨#[c]⟩,H,(I.turned (fun b o hb e=>kk b o (by simpa using hb) e) f0 f1 f3 f4 f5),⟨t,rfl⟩,⟨rfl,c,hx,rfl⟩,⟨st',hg⟩,fun b hb=>(hf b hb).1⟩⟩
 done:=by
  intro X hP hw hK hc i γ s σ H E I hf st hg
  obtain⟨f0,f1,f2,f3,f4,f5⟩:=hf it (by simp)
  have e:=Nat.le_antisymm st.2 hg
  subst e
  exact(W X.A (I.ok.hd hc)).done s _ _ st.1 fun h' tk kk=>⟨rfl,I.turned (fun b o hb e=>kk b o (by simpa using hb) e) f0 f1 f3 f4 f5⟩
 self:=fun A i s Q E st h=>hself A i s Q E st.1 h
def KV.at_{kvs:List (Key×V)}{vs:List (Key×Value)}(r:KV kvs vs):∀{i:Nat}{k:Key}{x:V},kvs[i]? =some (k,x)->∃u,vs[i]? =some (k,u):=by
 intro i k x e
 induction r generalizing i with
 |nil=>simp at e
 | @cons p q ps qs h t ih=>
  cases i with
  |zero=>
   simp at e
   subst e
   exact⟨q.2,by simp;rw[Prod.ext_iff];exact⟨h.1.symm,rfl⟩⟩
  |succ i=>exact ih (by simpa using e)
end
section
end
section
end
section
theorem NK{γ:QQz}{σ:St}{H:Hp}{s:Shared}{R:It->Hp->Prop}{d:D}{xs:List D}{v:V}{u:Value}(I:Inv X γ σ H s)(rv:RelV v u)(hd:bj X.K H d v)(hi:items d=some xs)(q:∀J,Gives X.K J xs H->R J H):
  wpAny (model X.prog X.w) X.A (pyIter u) (PIE X γ σ tg R) X.xe s:=by
 have fp:∀(s':Shared),s.heap.objs.size<=s'.heap.objs.size->True:=fun _ _=>trivial
 cases d with
 |tup ds=>
  cases hi
  obtain⟨a,vs,rfl,hq,l⟩:=cY hd
  cases rv
  obtain⟨its,r,p,hz⟩:=I.tuple hq
  refine wpAny_pyIter_tuple (show s.heap.IsTuple a its.toArray from p) ?_
  refine⟨s.heap.objs.size,[s.heap.objs.size],_,_,H,rfl,I.kept (t':=s.toks) fun b o e=>QWq _ e,Ci a _,⟨_,Qzq _ rfl,rfl,rfl⟩,fun b hb=>?_,q _ (JM hq l hz)⟩
  have e:b=s.heap.objs.size:=by simpa using hb
  subst e
  exact I.uy (QVz _) (I.hok.fresh (QVz _))
 |lst ds=>
  cases hi
  obtain⟨a,vs,rfl,hq,l⟩:=dJ hd
  cases rv
  obtain⟨its,r,p,hz⟩:=I.list hq.sq
  refine wpAny_pyIter_list p.isList ?_
  refine⟨s.heap.objs.size,[s.heap.objs.size],_,_,H,rfl,I.kept (t':=s.toks) fun b o e=>QWq _ e,jg a _,⟨_,Qzq _ rfl,rfl,rfl⟩,fun b hb=>?_,q _ (JN hq l hz)⟩
  have e:b=s.heap.objs.size:=by simpa using hb
  subst e
  exact I.uy (QVz _) (I.hok.fresh (QVz _))
 |str x=>
  simp only[items]at hi
  split at hi
  ·rename_i hf
   cases hi
   cases hd
   obtain⟨t,rfl⟩:=rv
   have hz:x.cps.size<=sizeLine:=gC hf
   have fin:∀b∈[s.heap.objs.size],dC X γ H b:=fun b hb=>by
    have e:b=s.heap.objs.size:=by simpa using hb
    subst e
    exact I.uy (QVz _) (I.hok.fresh (QVz _))
   cases ha:x.cps.all (· <128)
   ·refine wpAny_pyIter_wide ha ?_
    exact⟨s.heap.objs.size,[s.heap.objs.size],_,_,H,rfl,I.kept (t':=s.toks) fun b o e=>QWq _ e,zq _ x t "str_iterator" (fun A' hA=>Walks.strWide hA _ x t) (by decide) (fun A i s Q E st h=>wpAny_pyIter_striter_wide st h),⟨⟨_,Qzq _ rfl,rfl,rfl⟩,QIq _⟩,fin,q _ (wN hz)⟩
   ·refine wpAny_pyIter_ascii ha ?_
    exact⟨s.heap.objs.size,[s.heap.objs.size],_,_,H,rfl,I.kept (t':=s.toks) fun b o e=>QWq _ e,zq _ x t "str_ascii_iterator" (fun A' hA=>Walks.strAscii hA _ x t) (by decide) (fun A i s Q E st h=>wpAny_pyIter_striter_ascii st h),⟨⟨_,Qzq _ rfl,rfl,rfl⟩,QIq _⟩,fin,q _ (wN hz)⟩
  ·cases hi
 |_=>cases hi
def ach(h:GE X W c m e):GI X W c m tg e:=by
 intro env γ s σ H R I q
 refine cj (h.d γ s σ H (fun v H'=>∃d xs,bj X.K H' d v/\items d=some xs/\∀J,Gives X.K J xs H'->R J H') I ⟨env,q.1,?_⟩) fun u s1⟨v,H1,I1,r1,d,xs,hd,hi,q1⟩=>NK I1 r1 hd hi q1
 have q2:=q.2
 cases r:ev c m env with
 |bad=>rw[r]at q2;exact q2
 |exc k δ=>rw[r]at q2;exact q2
 |ok x δ=>
  rw[r]at q2
  obtain⟨d,xs,ed,ei,q3⟩:=q2
  cases x with
  |val d'=>cases ed;exact fun v H' N Dv=>⟨d,xs,Dv,ei,fun J G=>q3 J H' N G⟩
  |new o=>cases ed;exact fun v H' N Dv=>⟨o.d,xs,Dv,ei,fun J G=>q3 J H' N G⟩
  |ref i=>cases ed
end
def tyN:Ty->String
 |.tup=>"tuple"
 |.lst=>"list"
 |.str=>"str"
 |.bool=>"bool"
 |.int=>"int"
section
def aeR(K:QQq):List V->Hp->VK->Prop:=fun xs H Q=>∃d v t,xs=[v,.ty (tyN t)]/\bj K H d v/\Q (.bl (pR t d)) H
def PQ:gH X (.builtin "isinstance") (aeR X.K):=by
 intro γ s σ H xs us Q I r h
 obtain⟨d,v,t,rfl,hd,q⟩:=h
 obtain⟨u,u',rfl,ru,rt⟩:=Vals.two r
 cases rt
 have fin:∀k,Q (.bl k) H->EP X γ σ Q (.bool k) {s with toks:=s.toks+1}:=fun k z=>⟨.bl k,H,I.tok _,rfl,z⟩
 have fin0:∀k,Q (.bl k) H->EP X γ σ Q (.bool k) s:=fun k z=>⟨.bl k,H,I,rfl,z⟩
 cases d with
 |non=>
  cases hd;cases ru
  cases t with
  |tup=>exact IsiPair.NoneType_tuple (fin _ q)
  |lst=>exact IsiPair.NoneType_list (fin _ q)
  |str=>exact IsiPair.NoneType_str (fin _ q)
  |bool=>exact IsiPair.NoneType_bool (fin _ q)
  |int=>exact IsiPair.NoneType_int (fin _ q)
 |bl k=>
  cases hd;cases ru
  cases t with
  |tup=>exact IsiPair.bool_tuple (fin _ q)
  |lst=>exact IsiPair.bool_list (fin _ q)
  |str=>exact IsiPair.bool_str (fin _ q)
  |bool=>exact IsiPair.bool_bool (fin0 _ q)
  |int=>exact IsiPair.bool_int (fin0 _ q)
 |int k=>
  cases hd;obtain⟨tk,rfl⟩:=ru
  cases t with
  |tup=>exact IsiPair.int_tuple (fin _ q)
  |lst=>exact IsiPair.int_list (fin _ q)
  |str=>exact IsiPair.int_str (fin _ q)
  |bool=>exact IsiPair.int_bool (fin _ q)
  |int=>exact IsiPair.int_int (fin0 _ q)
 |str k=>
  cases hd;obtain⟨tk,rfl⟩:=ru
  cases t with
  |tup=>exact IsiPair.str_tuple (fin _ q)
  |lst=>exact IsiPair.str_list (fin _ q)
  |str=>exact IsiPair.str_str (fin0 _ q)
  |bool=>exact IsiPair.str_bool (fin _ q)
  |int=>exact IsiPair.str_int (fin _ q)
 |tup ds=>
  obtain⟨a,vs,rfl,hq,_⟩:=cY hd
  cases ru
  obtain⟨its,_,⟨o,e,cl,_⟩,_⟩:=I.tuple hq
  cases t with
  |tup=>exact IsiPair.tuple_tuple e cl (fin0 _ q)
  |lst=>exact IsiPair.tuple_list e cl (fin _ q)
  |str=>exact IsiPair.tuple_str e cl (fin _ q)
  |bool=>exact IsiPair.tuple_bool e cl (fin _ q)
  |int=>exact IsiPair.tuple_int e cl (fin _ q)
 |lst ds=>
  obtain⟨a,vs,rfl,hq,_⟩:=dJ hd
  cases ru
  obtain⟨its,_,⟨o,n,e,cl,_⟩,_⟩:=I.list hq.sq
  cases t with
  |tup=>exact IsiPair.list_tuple e cl (fin _ q)
  |lst=>exact IsiPair.list_list e cl (fin0 _ q)
  |str=>exact IsiPair.list_str e cl (fin _ q)
  |bool=>exact IsiPair.list_bool e cl (fin _ q)
  |int=>exact IsiPair.list_int e cl (fin _ q)
 |eE ks ds=>
  unfold bj at hd
  obtain⟨a,o,kvs,rfl,ha,_⟩:=hd
  cases ru
  obtain⟨e,_,_,_,_,o',_,_,e',ex,_⟩:=I.hok a _ ha
  rw[e]at e'
  cases e'
  have cl:=ex.1
  cases t with
  |tup=>exact IsiPair.dict_tuple e cl (fin _ q)
  |lst=>exact IsiPair.dict_list e cl (fin _ q)
  |str=>exact IsiPair.dict_str e cl (fin _ q)
  |bool=>exact IsiPair.dict_bool e cl (fin _ q)
  |int=>exact IsiPair.dict_int e cl (fin _ q)
def YC{x:Str}(ha:GE X W c m a)(hx:x=Str.ofString (tyN t))(hg:Gl X x)(hm:X.mg x=none)(hi:Gl X "isinstance")(hmi:X.mg "isinstance"=none)
  (hs:starEach [a,.Name x p'] X.env=(false,eval a X.env)::starEach [.Name x p'] X.env):
  GE X W c (.isi m t) (.Call (.Name "isinstance" p) [a,.Name x p'] [] pos):=by
 intro env
 have hv:bootBuiltins x=some (.type (tyN t)):=by subst hx;cases t<;>kernel_rfl
 have N:PE X (.Name x p') (tC (.ty _)):=R4 hg hm hv rfl (by subst hx;cases t<;>decide+kernel) (by subst hx;cases t<;>decide+kernel)
 exact PE.imp (oE PQ hi hmi (by kernel_rfl) (aC ha.d (aC N bO rfl) hs) (by decide+kernel) (by decide+kernel) hs rfl) fun σ H Q q=>⟨env,aP q fun d δ v H1 N1 D1 q1=>⟨d,v,t,rfl,D1,fP q1 rfl⟩⟩
end
def qj(X:Cx)(r:List V->Hp->VK->Prop)(f:D->Option Rv):Prop:=
 ∀(env:Ev)(σ:St)(H:Hp)(x:D)(z:Rv)(v:V)(Q:VK),Sat X.K env σ H->eZ X.K H x v->f x=some z->(∀w H',Nx X.K env σ H env H'->iJ X.K σ H H' z w->Q w H')->r [v] H Q
section
def P0{r:List V->Hp->VK->Prop}(R:qj X r (b1 bb)){σ:St}{Q:VK}(hv:m.az=none)(q:tM X.K W env (ev c (.bi bb m) env) σ H Q):aD X W c m σ H fun v H1=>r [v] H1 Q:=by
 simp only[qY,hv]at q
 refine⟨env,aP q fun d δ v H1 N1 D1 q1=>?_⟩
 obtain⟨z,ez,S,q3⟩:=cW q1
 exact R δ σ H1 d z v Q S (.inl D1) ez q3
def Hx{r:List V->Hp->VK->Prop}(R:qj X r (b1 bb)){σ:St}{Q:VK}(hv:m.az=some k)(q:tM X.K W env (ev c (.bi bb m) env) σ H Q):bf k σ H fun v H1=>r [v] H1 Q:=by
 simp only[qY,hv]at q
 obtain⟨z,ez,S,q3⟩:=cW q
 cases e0:bA k env with
 |none=>rw[e0]at ez;cases ez
 |some d0=>
  rw[e0]at ez
  obtain⟨u,eu,Du⟩:=fX S e0
  exact⟨u,eu,R env σ H d0 z u Q S Du ez q3⟩
theorem uw{id:String}{x:Str}(C:gH X (.builtin id) r)(R:qj X r (b1 bb))(ha:GE X W c m a)(hv:∀k,m.az=some k->∃x p,a=.Name x p/\jX X k x)
  (hg:Gl X x)(hm:X.mg x=none)(hb:bootBuiltins x=some (.builtin id))(hn:x≠"__name__")(hd:(x==("__debug__":Str))=false)(hs:starEach [a] X.env=[(false,eval a X.env)]):
  GE X W c (.bi bb m) (.Call (.Name x p) [a] [] pos):=by
 intro env
 cases q:m.az with
 |none=>exact PE.imp (oE C hg hm hb (aC ha.d bO hs) hn hd hs rfl) fun σ H Q h=>P0 R q h
 |some k=>
  obtain⟨y,p',rfl,nm⟩:=hv k q
  exact PE.imp (oE C hg hm hb (aC nm.pe bO hs) hn hd hs rfl) fun σ H Q h=>Hx R q h
theorem Ei{id:String}{x:Str}(C:gH X (.type id) r)(R:qj X r (b1 bb))(ha:GE X W c m a)(hv:∀k,m.az=some k->∃x p,a=.Name x p/\jX X k x)
  (hg:Gl X x)(hm:X.mg x=none)(hb:bootBuiltins x=some (.type id))(hn:x≠"__name__")(hd:(x==("__debug__":Str))=false)(hs:starEach [a] X.env=[(false,eval a X.env)]):
  GE X W c (.bi bb m) (.Call (.Name x p) [a] [] pos):=by
 intro env
 cases q:m.az with
 |none=>exact PE.imp (lV C hg hm hb (aC ha.d bO hs) hn hd hs rfl) fun σ H Q h=>P0 R q h
 |some k=>
  obtain⟨y,p',rfl,nm⟩:=hv k q
  exact PE.imp (lV C hg hm hb (aC nm.pe bO hs) hn hd hs rfl) fun σ H Q h=>Hx R q h
def eZ.seq{H:Hp}{xs:List D}(h:eZ K H d v)(e:bM d=some xs):∃a vs,v=.ref a/\(jV K H a vs\/jU K H a vs)/\ak K H xs vs:=by
 cases d with
 |tup ys=>cases e;exact h.Rm
 |lst ys=>cases e;exact h.Ld
 |_=>cases e
theorem eZ.eE{H:Hp}{v:V}(h:eZ K H (.eE ks ds) v):∃a kvs,v=.ref a/\Rd H a (.dK kvs)/\ks=kvs.map (fun p=>dO p.1)/\ak K H ds (kvs.map (·.2)):=by
 rcases h with h|⟨o,a,q,rfl,u,ha,hq⟩
 ·unfold bj at h
  obtain⟨a,o,kvs,rfl,ha,k,l⟩:=h
  exact⟨a,kvs,rfl,.inr ⟨o,ha⟩,k,l⟩
 ·cases o<;>cases q
  obtain⟨kvs,rfl,k,l⟩:=hq
  exact⟨a,kvs,rfl,.inl ha,k,l⟩
def W4(K:QQq):List V->Hp->VK->Prop:=fun xs H Q=>∃x n,xs=[x]/\Ul K x H n/\Q (.int n) H
def JX:gH X (.builtin "len") (W4 X.K):=Bt
def Rx:qj X (W4 X.K) (b1 .len):=by
 intro env σ H x z v Q S Dx e q
 have go:∀n,yo x=some n->Ul X.K v H n->W4 X.K [v] H Q:=fun n en ln=>by
  simp only[b1,en]at e
  cases e
  exact⟨v,n,rfl,ln,q _ H (Nx.refl S) rfl⟩
 cases x with
 |tup xs=>
  obtain⟨a,vs,rfl,hq,l⟩:=Dx.Rm
  refine go xs.length rfl ?_
  rcases hq with hq|hq
  ·exact .inl ⟨vs,hq,l.length⟩
  ·exact .inr ⟨vs,hq,l.length⟩
 |lst xs=>
  obtain⟨a,vs,rfl,hq,l⟩:=Dx.Ld
  refine go xs.length rfl ?_
  rcases hq with hq|hq
  ·exact .inl ⟨vs,hq,l.length⟩
  ·exact .inr ⟨vs,hq,l.length⟩
 |str y=>
  have:=Dx.str
  subst this
  by_cases hf:fits y.length=true
  ·exact go y.length (by simp[yo,hf]) ⟨gC hf,rfl⟩
  ·simp[b1,yo,hf]at e
 |_=>cases e
def Ry:qj X (fun xs H Q=>(∃i,xs=[.int i]/\Q (.int i) H)\/∃k,xs=[.bl k]/\Q (.int (if k then 1 else 0)) H) (b1 .int):=by
 intro env σ H x z v Q S Dx e q
 cases x with
 |int i=>
  cases e
  have:=Dx.int
  subst this
  exact .inl ⟨i,rfl,q _ H (Nx.refl S) rfl⟩
 |bl k=>
  cases e
  rcases Dx with h|⟨o,a,q',_⟩
  ·cases h
   exact .inr ⟨k,rfl,q _ H (Nx.refl S) (by cases k<;>rfl)⟩
  ·cases o<;>cases q'
 |_=>cases e
def Il:qj X (fun xs H Q=>∃p ys,xs=[.ref p]/\((jV X.K H p ys/\∀l,H l=none->Q (.ref l) (upd H l (.tup ys)))\/(jU X.K H p ys/\Q (.ref p) H))) (b1 .tuple):=by
 intro env σ H x z v Q S Dx e q
 simp only[b1]at e
 cases es:bM x with
 |none=>rw[es]at e;cases e
 |some xs=>
  rw[es]at e
  cases e
  obtain⟨a,vs,rfl,hq,l⟩:=Dx.seq es
  refine⟨a,vs,rfl,?_⟩
  rcases hq with hq|hq
  ·refine .inl ⟨hq,fun p hp=>?_⟩
   have N:=Nx.laid (o:=.tup vs) S hp
   exact q _ _ N (fD (.inl (.inl aB)) (l.mono N.pers))
  ·exact .inr ⟨hq,q _ H (Nx.refl S) (fD hq l)⟩
def Lp:qj X (fun xs H Q=>∃p ys,xs=[.ref p]/\(jV X.K H p ys\/jU X.K H p ys)/\∀l,H l=none->Q (.ref l) (upd H l (.lst ys))) (b1 .list):=by
 intro env σ H x z v Q S Dx e q
 simp only[b1]at e
 have go:∀{xs:List D},bM x=some xs->QG .list xs=some z->∃p ys,[v]=[V.ref p]/\(jV X.K H p ys\/jU X.K H p ys)/\∀l,H l=none->Q (.ref l) (upd H l (.lst ys)):=fun es e=>by
  cases e
  obtain⟨a,vs,rfl,hq,l⟩:=Dx.seq es
  exact⟨a,vs,rfl,hq,fun p hp=>q _ _ (Nx.laid S hp) (oH S l hp)⟩
 cases x with
 |tup xs=>exact go rfl e
 |lst xs=>exact go rfl e
 |_=>cases e
def BoolsAre.get{bs:List Bool}(h:BoolsAre vs bs):∀{i:Nat}{v:Value},vs[i]? =some v->∃b,bs[i]? =some b/\v=.bool b:=by
 induction h with
 |nil=>intro i v e;simp at e
 |cons b t ih=>
  intro i v e
  cases i with
  |zero=>simp at e;subst e;exact⟨b,rfl,rfl⟩
  |succ i=>exact ih (by simpa using e)
def range_all(bs:List Bool):((List.range bs.length).all fun i=>bs.getD i false)=bs.all id:=by
 rw[Bool.eq_iff_iff]
 simp only[List.all_eq_true,List.mem_range,id]
 constructor
 ·intro h b hb
  obtain⟨i,hi,e⟩:=List.mem_iff_getElem.mp hb
  have:=h i hi
  rw[List.getD_eq_getElem?_getD,QXq hi]at this
  simpa[e]using this
 ·intro h i hi
  rw[List.getD_eq_getElem?_getD,QXq hi]
  exact h _ (List.getElem_mem hi)
def range_any(bs:List Bool):((List.range bs.length).any fun i=>bs.getD i false)=bs.any id:=by
 rw[Bool.eq_iff_iff]
 simp only[List.any_eq_true,List.mem_range,id]
 constructor
 ·rintro ⟨i,hi,h⟩
  rw[List.getD_eq_getElem?_getD,QXq hi]at h
  exact⟨bs[i],List.getElem_mem hi,by simpa using h⟩
 ·rintro ⟨b,hb,h⟩
  obtain⟨i,hi,e⟩:=List.mem_iff_getElem.mp hb
  exact⟨i,hi,by rw[List.getD_eq_getElem?_getD,QXq hi];simpa[e]using h⟩
def ZP(K:QQq)(f:List Bool->Bool):List V->Hp->VK->Prop:=fun xs H Q=>∃p vs ds bs,xs=[.ref p]/\(jV K H p vs\/jU K H p vs)/\ak K H ds vs/\bools ds=some bs/\Q (.bl (f bs)) H
def qt{w:World}{its:List Value}(hb:BoolsAre its bs):TruthOf P w A (fun i v=>its.toArray[i]? =some v) fun i=>bs.getD i false:=by
 intro i v s Q E hv h
 obtain⟨b,e,rfl⟩:=hb.get (by simpa using hv)
 have h:Q (bs.getD i false) s:=h
 rw[List.getD_eq_getElem?_getD,e]at h
 exact wpAny_truthy_bool h
def uH{id:String}{g:Nat->(Nat->Bool)->Bool}(hc:X.calm=true)(hg:∀bs:List Bool,g bs.length (fun i=>bs.getD i false)=f bs)
  (hcall:∀{E:QZq}{s:Shared}{x:Value}{Q:QZq},
   wpAny (model X.prog X.w) X.A.in1 (pyIter x) (fun it ω=>∃I fp wr n P St tr,it=.ref I/\Walks X.prog X.w X.A.in1 I fp wr n P St/\St 0 ω.heap/\TruthOf X.prog X.w X.A.in1 P tr/\
    ∀h' tk,(∀b o,b∉wr->ω.heap.get? b=some o->h'.get? b=some o)->Q (.bool (g n tr)) {ω with heap:=h',toks:=tk}) E s->wpAny (model X.prog X.w) X.A (call (.builtin id) [x]) Q E s):
  gH X (.builtin id) (ZP X.K f):=by
 intro γ s σ H xs us Q I r h
 obtain⟨a,vs,ds,bs,rfl,hq,l,hb,q⟩:=h
 obtain⟨u,rfl,ru⟩:=Vals.one r
 cases ru
 have hh:X.A.in1.handled=none:=I.ok.hd hc
 refine hcall ?_
 have fin:∀its o,Vals vs its->∀h' tk,(∀b o',b∉[s.heap.objs.size]->(s.heap.push o).get? b=some o'->h'.get? b=some o')->EP X γ σ Q (.bool (g its.toArray.size fun i=>bs.getD i false)) {s with heap:=h',toks:=tk}:=fun its o rv h' tk k=>by
  have hl:its.toArray.size=bs.length:=by
   have:=(ig hb l rv).length
   simpa using this
  rw[hl,hg]
  refine⟨.bl (f bs),H,I.kept fun b o' e=>k b o' ?_ (QWq _ e),rfl,q⟩
  simp only[QDz]
  exact Qvz (Qqz e)
 rcases hq with hq|hq
 ·obtain⟨its,rv,p,hz⟩:=I.list hq
  have hlt:a≠s.heap.objs.size:=by
   obtain⟨o,n,e,_⟩:=p
   exact Qvz (Qqz e)
  refine wpAny_pyIter_list p.isList ⟨s.heap.objs.size,[s.heap.objs.size,a],[s.heap.objs.size],its.toArray.size,_,_,_,rfl,Walks.list hh _ a hlt its.toArray,⟨⟨_,Qzq _ rfl,rfl,rfl⟩,p.isList.at fun o e=>QWq _ e⟩,qt (ig hb l rv),fin its _ rv⟩
 ·obtain⟨its,rv,p,hz⟩:=I.tuple hq
  have hlt:a≠s.heap.objs.size:=by
   obtain⟨o,e,_⟩:=p
   exact Qvz (Qqz e)
  have p':s.heap.IsTuple a its.toArray:=p
  refine wpAny_pyIter_tuple p' ⟨s.heap.objs.size,[s.heap.objs.size,a],[s.heap.objs.size],its.toArray.size,_,_,_,rfl,Walks.tuple hh _ a hlt its.toArray,⟨⟨_,Qzq _ rfl,rfl,rfl⟩,p'.at fun o e=>QWq _ e⟩,qt (ig hb l rv),fin its _ rv⟩
def J1(hc:X.calm=true):gH X (.builtin "all") (ZP X.K (·.all id)):=uH hc range_all call_all_walk
def J0(hc:X.calm=true):gH X (.builtin "any") (ZP X.K (·.any id)):=uH hc range_any call_any_walk
def vQ{f:List Bool->Bool}(hb:∀xs,QG bb xs=(bools xs).map fun bs=>.val (.bl (f bs)))(h1:∀x,b1 bb x=(bM x).bind (QG bb)):qj X (ZP X.K f) (b1 bb):=by
 intro env σ H x z v Q S Dx e q
 rw[h1]at e
 cases es:bM x with
 |none=>rw[es]at e;cases e
 |some xs=>
  rw[es]at e
  simp only[Option.bind,hb]at e
  cases eb:bools xs with
  |none=>rw[eb]at e;cases e
  |some bs=>
   rw[eb]at e
   cases e
   obtain⟨a,vs,rfl,hq,l⟩:=Dx.seq es
   exact⟨a,vs,xs,bs,rfl,hq,l,eb,q _ H (Nx.refl S) rfl⟩
def RB:qj X (ZP X.K (·.all id)) (b1 .all):=vQ (fun _=>rfl) fun _=>rfl
def Rz:qj X (ZP X.K (·.any id)) (b1 .any):=vQ (fun _=>rfl) fun _=>rfl
end
end Mini
end
section
namespace HT
open PySem PySem.Spec PyProof.Rows
section
def mO{t sl:Addr}{vl vu:Value}{lo hi:Option Int}(ht:IsTup s.heap t items)(hs:s.heap.IsSliceOf sl vl vu .none)(pl:IsPart vl lo)(pu:IsPart vu hi)
  (hw:gM items.size 0 lo=0/\gM items.size items.size hi=items.size)(h:Q (.ref t) s):wpAny (model prog w) A (getItem (.ref t) (.ref sl)) Q E s:=by
 obtain⟨os,hos,hcs,hds⟩:=id hs
 unfold getItem
 try with_reducible refine Qqq ?_
 first|refine QKq _|skip
 refine QKq (wpAny_sequenceKey ht.typeIs (by decide) ?_)
 refine QKq (wpAny_callSpecial?_slot ht.typeIs PyProof.Rows.slot_tuple_getitem
  (Qzz PyProof.Rows.slot_tuple_getitem ht.typeIs entry_tuple_getitem ?_ (args_tuple_getitem _ _)))
 show wpAny _ _ (Builtin.Tuple.tupleItemsOf _>>=_) _ _ s
 refine QKq (tupleItemsOf_ ht ?_)
 refine QKq (wpAny_typeOf ⟨os,hos,hcs⟩ ?_)
 refine QKq (ji hs pl pu ?_)
 have hno:((((gM items.size 0 lo):Int)==0&&(1:Int)==1&&(gM items.size items.size hi-gM items.size 0 lo)==items.size)=true):=by
  rw[hw.1,hw.2];simp
 show wpAny _ _ (if (((gM items.size 0 lo):Int)==0&&1==1&&_==items.size)=true then _ else _) _ _ s
 rw[if_pos hno]
 exact QKq (QKq (wpAny_typeOf ht.typeIs (QKz (QKq (wpAny_rule (QKz ⟨_,rfl,QKz h⟩))))))
end
end HT
namespace Mini
open PySem L2
section
def Vb(K:QQq):V->Option Int->Option Int->Hp->VK->Prop:=fun x lo hi H Q=>∃a xs,x=.ref a/\jU K H a xs/\
 (HT.gM xs.length 0 lo=0/\HT.gM xs.length xs.length hi=xs.length)/\Q (.ref a) H
def Rf:Ui X (Vb X.K):=by
 intro γ s σ H x v vl vu lo hi sl Q I rx hs pl pu h
 obtain⟨a,xs,rfl,hx,hw,q⟩:=h
 cases rx
 obtain⟨its,r,ht,hz⟩:=I.tuple hx
 have hlen:its.toArray.size=xs.length:=by rw[Qyq];exact r.length.symm
 exact⟨"tuple",_,PyProof.Rows.slot_tuple_getitem.lookup,ht.typeIs,HT.mO ht hs pl pu (by rw[hlen];exact hw) ⟨.ref a,H,I,rfl,q⟩⟩
def abq(K:QQq):V->Option Int->Option Int->Hp->VK->Prop:=fun x lo hi H Q=>abo K x lo hi H Q\/Vb K x lo hi H Q\/abp K x lo hi H Q
def WQ:Ui X (abq X.K):=WP.or (Rf.or Rg)
def rM n i d:clip n i=HT.gM n d (some i):=by
 unfold clip HT.gM
 dsimp only
 by_cases h:i<0
 ·rw[if_pos h,if_pos h]
  split
  ·omega
  ·split<;>omega
 ·rw[if_neg h,if_neg h,if_neg h]
  split<;>omega
def YZ{α:Type}(xs:List α)a b:(xs.take b).drop a=(xs.drop a).take (b-a):=by
 rw[List.drop_take]
def yN{H:Hp}{vs:List V}(l:ak K H ds vs)lo hi:ak K H (cut ds lo hi) (yO vs lo hi):=by
 have hl:=l.length
 unfold cut yO
 rw[YZ]
 cases lo with
 |none=>
  cases hi with
  |none=>rw[HT.nW,HT.nW,<-hl];exact(l.drop _).take _
  |some j=>rw[HT.nW,<-hl,<-rM];exact(l.drop _).take _
 |some i=>
  cases hi with
  |none=>rw[HT.nW,<-hl,<-rM];exact(l.drop _).take _
  |some j=>rw[<-hl,<-rM,<-rM];exact(l.drop _).take _
def JT{lo hi:Option Int}(h:HT.gM vs.length 0 lo=0/\HT.gM vs.length vs.length hi=vs.length):yO vs lo hi=vs:=by
 unfold yO
 rw[h.1,h.2]
 simp
def Cy{env:Ev}{H:Hp}{z:Rv}{lo hi:Option Int}(S:Sat K env σ H)(D1:bj K H d v)(e:jB d lo hi=some z)(q:∀w H',Nx K env σ H env H'->iJ K σ H H' z w->Q w H'):abq K v lo hi H Q:=by
 cases d with
 |tup xs=>
  cases e
  obtain⟨a,vs,rfl,hq,l⟩:=cY D1
  by_cases hw:HT.gM vs.length 0 lo=0/\HT.gM vs.length vs.length hi=vs.length
  ·refine .inr (.inl ⟨a,vs,rfl,hq,hw,q _ H (Nx.refl S) ?_⟩)
   have:=yN l lo hi
   rw[JT hw]at this
   exact fD hq this
  ·refine .inl ⟨a,vs,rfl,hq,hw,fun p hp=>?_⟩
   have N:=Nx.laid (o:=.tup (yO vs lo hi)) S hp
   exact q _ _ N (fD (.inl (.inl aB)) ((yN l lo hi).mono N.pers))
 |lst xs=>
  cases e
  obtain⟨a,vs,rfl,hq,l⟩:=dJ D1
  exact .inr (.inr ⟨a,vs,rfl,hq.sq,fun p hp=>q _ _ (Nx.laid S hp) (oH S (yN l lo hi) hp)⟩)
 |_=>cases e
def GO(X:Cx)(W:Wi)(c:Cf)(m:E)(eo:Option Expr):Prop:=(m=.noneE/\eo=Option.none)\/∃e,eo=Option.some e/\m.lE=false/\GE X W c m e
def tPt(X:Cx)(W:Wi)(c:Cf)(m:E):TO:=fun σ H Q=>∃env,tD X.K W env (ev c m env) σ H fun v H1=>∀d,bj X.K H1 d v->∃o,eX m.lE d=some o/\Q o H1
def GO.po(h:GO X W c m eo):PO X eo (tPt X W c m):=by
 rcases h with ⟨rfl,rfl⟩|⟨e,rfl,hn,h⟩
 ·intro γ s σ H Q I q
  obtain⟨env,q⟩:=q
  obtain⟨o,e,z⟩:=q.2 .non H (Nx.refl q.1) rfl .non rfl
  cases e
  exact RN γ s σ H Q I z
 ·intro γ s σ H Q I q
  obtain⟨env,q⟩:=q
  refine RM h.d γ s σ H Q I ⟨env,q.1,?_⟩
  have q2:=q.2
  have go:∀d v H',bj X.K H' d v->(∀d,bj X.K H' d v->∃o,eX m.lE d=some o/\Q o H')->∃i,v=.int i/\Q (some i) H':=fun d v H' Dv z=>by
   obtain⟨o,e,z⟩:=z d Dv
   rw[hn]at e
   cases d with
   |int i=>cases e;exact⟨i,Dv,z⟩
   |_=>cases e
  cases r:ev c m env with
  |bad=>rw[r]at q2;exact q2
  |exc k δ=>rw[r]at q2;exact q2
  |ok x δ=>
   rw[r]at q2
   cases x with
   |val d=>exact fun v H' N Dv=>go d v H' Dv (q2 v H' N Dv)
   |new o=>exact fun v H' N Dv=>go o.d v H' Dv (q2 v H' N Dv)
   |ref i=>exact q2
def Ab{K:QQq}{H:Hp}{lE:Bool}{d d':D}{v:V}{o:Option Int}(h:bj K H d v)(e:eX lE d=some o)(h':bj K H d' v):eX lE d'=some o:=by
 cases lE with
 |true=>exact e
 |false=>
  cases d with
  |int i=>
   have hv:v=.int i:=h
   subst hv
   cases d' with
   |int j=>cases (show V.int i=V.int j from h');exact e
   |non=>cases (show V.int i=V.non from h')
   |bl b=>cases (show V.int i=V.bl b from h')
   |str x=>cases (show V.int i=V.str x from h')
   |tup ds=>obtain⟨a,vs,z,_⟩:=cY h';cases z
   |lst ds=>obtain⟨a,vs,z,_⟩:=dJ h';cases z
   |eE ks ds=>unfold bj at h';obtain⟨a,o,kvs,z,_⟩:=h';cases z
  |_=>cases e
def Yu(ha:GE X W c m1 a)(hl:GO X W c m2 lo)(hh:GO X W c m3 hi):GE X W c (.slc m1 m2 m3) (.Subscript a (.Slice lo hi none p2) pos):=by
 intro env
 refine PE.imp (Mq WQ ha.d hl.po hh.po) fun σ H Q q=>?_
 refine⟨env,aP q fun d δ v H1 N1 D1 q1=>⟨δ,aP q1 fun dl ε vl H2 N2 D2 q2 dl' D2'=>?_⟩⟩
 cases el:eX m2.lE dl with
 |none=>rw[el]at q2;exact q2.2.elim
 |some l=>
  rw[el]at q2
  refine⟨l,Ab D2 el D2',ε,aP q2 fun dh env3 vh H3 N3 D3 q3 dh' D3'=>?_⟩
  obtain⟨z,ez,S,q4⟩:=cW q3
  cases eh:eX m3.lE dh with
  |none=>rw[eh]at ez;cases ez
  |some h=>
   rw[eh]at ez
   exact⟨h,Ab D3 eh D3',Cy S (D1.mono (N2.trans N3).pers) ez q4⟩
def acR(X:Cx)(x:Str)(d:D):Prop:=∃v u,X.mg x=some u/\RelV v u/\∀H,bj X.K H d v
def Tu{x:Str}(hk:c.gl k=some d)(h:acR X x d)(hg:Gl X x)(hd:(x==("__debug__":Str))=false):GE X W c (.glob k) (.Name x pos):=by
 obtain⟨v,u,hm,r,hD⟩:=h
 intro env
 refine PE.imp (Gv hg hm r hd) fun σ H Q q=>?_
 simp only[v_2,hk]at q
 exact fP q (hD H)
end
def oA{a:Addr}(h:H a=some u)(hu:Qy u):bV H (upd H a u'):=by
 refine⟨fun b xs q=>?_,fun b o' w q=>?_⟩
 ·rw[au (fun z=>by subst z;rw[h]at q;cases q;exact hu.tup xs rfl)];exact q
 ·rw[au (fun z=>by subst z;rw[h]at q;cases q;exact hu.frz o' w rfl)];exact q
def rQ{f:Ob->Option Ob}(h:fM k f env=some env'):∃o o',f o=some o'/\((env[k]? =some (.own o)/\env'=env.set k (.own o'))\/(env[k]? =some (.bor o)/\env'=env.set k (.bor o'))):=by
 unfold fM at h
 cases e:env[k]? with
 |none=>rw[e]at h;cases h
 |some s=>
  rw[e]at h
  cases s with
  |un=>cases h
  |val d=>cases h
  |own o=>
   cases e2:f o with
   |none=>simp only[e2]at h;cases h
   |some o'=>simp only[e2]at h;cases h;exact⟨o,o',e2,.inl ⟨rfl,rfl⟩⟩
  |bor o=>
   cases e2:f o with
   |none=>simp only[e2]at h;cases h
   |some o'=>simp only[e2]at h;cases h;exact⟨o,o',e2,.inr ⟨rfl,rfl⟩⟩
def Nx.turn{env:Ev}{H:Hp}{sl sl':Sl}{a:Addr}(S:Sat K env σ H)(hs:(sl=.own o/\sl'=.own o')\/(sl=.bor o/\sl'=.bor o'))(e:env[k]? =some sl)(es:σ[k]? =some (some (.ref a)))
  (ha:H a=some u)(hu:Qy u)(hd:J7 K H o' u'):Nx K env σ H (env.set k sl') (upd H a u'):=by
 have p:=oA (u':=u') ha hu
 have ow:isOwn sl=some o/\isOwn sl'=some o':=by rcases hs with ⟨rfl,rfl⟩|⟨rfl,rfl⟩<;>exact⟨rfl,rfl⟩
 have oa:aO env σ k a:=⟨⟨_,o,e,ow.1⟩,es⟩
 have hi:=(QCz.mp e).1
 have sub:∀j b,aO (env.set k sl') σ j b->aO env σ j b:=fun j b z=>by
  obtain⟨⟨s,ys,e1,e2⟩,e3⟩:=z
  by_cases hj:k=j
  ·subst hj;exact⟨⟨sl,o,e,ow.1⟩,e3⟩
  ·rw[Qxz hj]at e1;exact⟨⟨s,ys,e1,e2⟩,e3⟩
 refine⟨⟨by simpa using S.len,fun j s ej=>?_,fun j l b z w=>S.ne j l b (sub j b z) (sub l b w)⟩,sub,p,fun b w q n=>?_,fun b q=>?_,fun j ys ej=>?_⟩
 ·by_cases hj:k=j
  ·subst hj
   rw[Qwq hi]at ej
   cases ej
   have at_:j7 K _ o' a:=⟨u',aB,hd.mono p⟩
   rcases hs with ⟨_,rfl⟩|⟨_,rfl⟩
   ·exact⟨a,by rw[es];rfl,at_⟩
   ·exact⟨a,by rw[es];rfl,at_⟩
  ·rw[Qxz hj]at ej
   refine(S.sl j s ej).keep p fun b w ho ev hb=>?_
   have nb:b≠a:=fun z=>by
    subst z
    exact hj (S.ne k j b oa (xY ej ho ev))
   rw[au nb];exact hb
 ·rw[au (fun z=>by subst z;exact n k oa)];exact q
 ·by_cases hb:b=a
  ·subst hb;rw[aB]at q;cases q
  ·rw[au hb]at q;exact q
 ·by_cases hj:k=j
  ·subst hj
   rw[e]at ej
   cases ej
   rcases hs with ⟨z,_⟩|⟨_,rfl⟩
   ·cases z
   ·exact⟨o',by rw[Qwq hi]⟩
  ·exact⟨ys,by rw[Qxz hj];exact ej⟩
def FQ{env env':Ev}{H:Hp}{f:Ob->Option Ob}(S:Sat K env σ H)(h:fM k f env=some env'):
  ∃o o' a u,f o=some o'/\σ[k]? =some (some (.ref a))/\H a=some u/\J7 K H o u/\bA k env=some o.d/\∀u',J7 K H o' u'->Nx K env σ H env' (upd H a u'):=by
 obtain⟨o,o',ef,hh⟩:=rQ h
 rcases hh with ⟨e,rfl⟩|⟨e,rfl⟩
 ·obtain⟨a,e1,u,e2,e3⟩:=S.sl k _ e
  exact⟨o,o',a,u,ef,cN e1,e2,e3,by unfold bA;rw[e],fun u' hd=>Nx.turn S (.inl ⟨rfl,rfl⟩) e (cN e1) e2 e3.qD hd⟩
 ·obtain⟨a,e1,u,e2,e3⟩:=S.sl k _ e
  exact⟨o,o',a,u,ef,cN e1,e2,e3,by unfold bA;rw[e],fun u' hd=>Nx.turn S (.inr ⟨rfl,rfl⟩) e (cN e1) e2 e3.qD hd⟩
def MF{f:List D->Option (List D)}{o o':Ob}(h:Dt f o=some o'):∃xs ys,o=.lst xs/\f xs=some ys/\o'=.lst ys:=by
 cases o with
 |lst xs=>
  simp only[Dt]at h
  cases e:f xs with
  |none=>rw[e]at h;cases h
  |some ys=>rw[e]at h;cases h;exact⟨xs,ys,rfl,e,rfl⟩
 |dct ks vs=>cases h
def zu{env env':Ev}{H:Hp}{f:List D->Option (List D)}(S:Sat K env σ H)(h:fM k (Dt f) env=some env'):
  ∃xs ys a vs,f xs=some ys/\σ[k]? =some (some (.ref a))/\H a=some (.lst vs)/\ak K H xs vs/\bA k env=some (.lst xs)/\∀ws,ak K H ys ws->Nx K env σ H env' (upd H a (.lst ws)):=by
 obtain⟨o,o',a,u,ef,es,ha,hd,lk,N⟩:=FQ S h
 obtain⟨xs,ys,rfl,e,rfl⟩:=MF ef
 obtain⟨vs,rfl,l⟩:=hd
 exact⟨xs,ys,a,vs,e,es,ha,l,lk,fun ws hw=>N _ ⟨ws,rfl,hw⟩⟩
theorem eZ.lst{K:QQq}{H:Hp}{xs:List D}{v:V}(h:eZ K H (.lst xs) v):∃a vs,v=.ref a/\jV K H a vs/\ak K H xs vs:=by
 rcases h with h|⟨o,a,q,rfl,u,ha,hq⟩
 ·obtain⟨a,vs,rfl,hq,l⟩:=dJ h
  exact⟨a,vs,rfl,hq.sq,l⟩
 ·cases o<;>cases q
  obtain⟨vs,rfl,l⟩:=hq
  exact⟨a,vs,rfl,.inl (.inl ha),l⟩
structure BP(X:Cx)(o:Expr)(name:Str)(apos:Pos)(e:Expr)(cpos:Pos):Prop where
 base:attributeBase o name X.env (eval o X.env)=eval o X.env
 line:(apos.endLine==cpos.line)=true
 star:starEach [e] X.env=[(false,eval e X.env)]
section
def BP.few(h:BP X o name apos e cpos):((backTo cpos (starEach [e] X.env)).all (fun x=> !x.1)&&(backToKw cpos (keywordEach [] X.env)).all (fun x=>x.1.isSome)
   &&decide ([e].length+([]:List Keyword).length+(if ([]:List Keyword).isEmpty then 0 else 1)<30))=true:=by
 rw[h.star];rfl
def Gu{id:String}{to:TE}(M:BP X o name apos e cpos)(slot:Slot "list" name id)(hty:typeOf (.builtin id)=pure (.type "method_descriptor"))(hm:MtR X id r)(ho:PE X o to)(he:PE X e te):
  PE X (.Call (.Attribute o name apos) [e] [] cpos) (tBM X.K "list" r to (aJ te di)):=
 abC PySem.F.plainAttrs_list slot hty hm ho (aC he bO M.star) M.base M.few M.line M.star rfl
def countV{K:QQq}{H:Hp}{p:D}{x:V}(Dp:bj K H p x)(fp:flat p=true):∀{ds:List D}{vs:List V}{us:List Value},ak K H ds vs->Vals vs us->ds.all flat=true->vs.all jo=true/\us.countP (Kd x)=iB p ds:=by
 intro ds
 induction ds with
 |nil=>intro vs us l r _;rw[ak.bJ.mp l]at r⊢;cases r;exact⟨rfl,rfl⟩
 |cons d ds ih=>
  intro vs us l r f
  obtain⟨v,vs',rfl,hd,l'⟩:=ak.aX.mp l
  rw[List.all_cons,QUq]at f
  cases r with
  |cons r1 r2=>
   obtain⟨i1,i2⟩:=ih l' r2 f.2
   obtain⟨j1,j2⟩:=um Dp fp (ak.bF hd ak.eY) (by simp[f.1])
   simp only[List.all_cons,List.all_nil,Bool.and_true]at j1
   have j3:Kc v x=dH d p:=by simpa[inV,aR]using j2
   refine⟨by rw[List.all_cons,j1,i1];rfl,?_⟩
   rw[List.countP_cons,i2,yI r1 j1,j3,iB]
   split<;>omega
def RK(K:QQq):V->List V->Hp->VK->Prop:=fun x ys H Q=>∃a vs ds d y,x=.ref a/\ys=[y]/\(jV K H a vs\/jU K H a vs)/\ak K H ds vs/\bj K H d y/\flat d=true/\ds.all flat=true/\Q (.int (iB d ds)) H
def Ej{H:Hp}{v:V}(h:bj K H d v)(f:flat d=true):jo v=true:=by
 cases d with
 |non=>cases h;rfl
 |bl b=>cases h;rfl
 |int i=>cases h;rfl
 |str x=>cases h;rfl
 |_=>cases f
def Jg:MtR X "list.count" (fun x ys H Q=>(∃a vs,x=.ref a/\jV X.K H a vs)/\RK X.K x ys H Q):=by
 intro γ s σ H x ys v us Q I rx ry h
 obtain⟨⟨a,vs,rfl,hq⟩,a',vs',ds,d,y,e1,rfl,hq',l,hd,f1,f2,q⟩:=h
 cases e1
 cases rx
 obtain⟨u,rfl,ru⟩:=Vals.one ry
 have hv:vs'=vs:=by
  rcases hq' with z|z
  ·exact I.An z hq
  ·obtain⟨_,_,⟨o,e,c,_⟩,_⟩:=I.tuple z
   obtain⟨_,_,⟨o',_,e',c',_⟩,_⟩:=I.list hq
   rw[e]at e';cases e';rw[c]at c';injection c' with z;exact absurd z (by decide)
 subst hv
 obtain⟨its,r,pl,hz⟩:=I.list hq
 obtain⟨⟨cls,dd,data,sl⟩,n,ho,hc,hdd,hdt⟩:=id pl
 subst hc hdt
 obtain⟨g1,g2⟩:=countV hd f1 l r f2
 refine call_meets PySem.F.slot_list_count ⟨_,ho,rfl⟩ PySem.F.entry_list_count (PySem.F.args_list_count_2 _ _) (SeqAt.list_countAt a its.toArray n dd sl u _) ⟨ho,fun w hw=>gF ru (Ej hd f1) r g1 w (by simpa using hw),?_⟩
 refine⟨.int _,H,I.tok _,⟨s.toks,?_⟩,q⟩
 rw[show its.toArray.toList=its from rfl,g2]
def Jf:MtR X "tuple.count" (fun x ys H Q=>(∃a vs,x=.ref a/\jU X.K H a vs)/\RK X.K x ys H Q):=by
 intro γ s σ H x ys v us Q I rx ry h
 obtain⟨⟨a,vs,rfl,hq⟩,a',vs',ds,d,y,e1,rfl,hq',l,hd,f1,f2,q⟩:=h
 cases e1
 cases rx
 obtain⟨u,rfl,ru⟩:=Vals.one ry
 have hv:vs'=vs:=by
  rcases hq' with z|z
  ·obtain⟨_,_,⟨o,e,c,_⟩,_⟩:=I.tuple hq
   obtain⟨_,_,⟨o',_,e',c',_⟩,_⟩:=I.list z
   rw[e]at e';cases e';rw[c]at c';injection c' with z;exact absurd z (by decide)
  ·exact I.vH z hq
 subst hv
 obtain⟨its,r,pl,hz⟩:=I.tuple hq
 obtain⟨⟨cls,dd,data,sl⟩,ho,hc,n,hdt⟩:=id pl
 subst hc hdt
 obtain⟨g1,g2⟩:=countV hd f1 l r f2
 refine call_meets PySem.F.slot_tuple_count ⟨_,ho,rfl⟩ PySem.F.entry_tuple_count (PySem.F.args_tuple_count_2 _ _) (SeqAt.tuple_countAt a its.toArray n dd sl u _) ⟨ho,fun w hw=>gF ru (Ej hd f1) r g1 w (by simpa using hw),?_⟩
 refine⟨.int _,H,I.tok _,⟨s.toks,?_⟩,q⟩
 rw[show its.toArray.toList=its from rfl,g2]
noncomputable def ad4(K:QQq)(to te:TE):TE:=fun σ H Q=>to σ H fun x H1=>∃a vs,x=.ref a/\((jV K H1 a vs/\te σ H1 fun y H2=>(∃a vs,x=.ref a/\jV K H2 a vs)/\RK K x [y] H2 Q)\/(jU K H1 a vs/\te σ H1 fun y H2=>(∃a vs,x=.ref a/\jU K H2 a vs)/\RK K x [y] H2 Q))
def Xg(M:BP X o "count" apos e cpos)(ho:PE X o to)(he:PE X e te):PE X (.Call (.Attribute o "count" apos) [e] [] cpos) (ad4 X.K to te):=by
 intro γ s σ H Q I h
 refine wpAny_Call_method_late M.base M.few M.line rfl (cj (ho γ s σ H _ I h) fun v s1⟨x,H1,I1,r1,a,vs,ex,q1⟩=>?_)
 subst ex
 cases r1
 have arg:∀{id:String}{r:V->List V->Hp->VK->Prop},MtR X id r->(te σ H1 fun y H2=>r _ [y] H2 Q)->wpAny _ X.A (callWith cpos _ [.ref a] (backTo cpos (starEach [e] X.env)) _) _ X.xe s1:=fun{id r}hm z=>by
  have hA:=aC he bO M.star cpos γ s1 σ H1 (fun vs H2=>r (.ref a) vs H2 Q) I1 z
  rw[M.star]at hA⊢
  exact Calls.callWith_builtin rfl (Calls.evalArgs_plain (cj hA fun us s2⟨vs,H2,I2,r2,q2⟩=>hm γ s2 σ H2 (.ref a) vs _ us Q I2 rfl r2 q2))
 rcases q1 with ⟨hq,z⟩|⟨hq,z⟩
 ·obtain⟨its,r,pl,hz⟩:=I1.list hq
  refine⟨"list","list.count",PySem.F.plainAttrs_list,PySem.F.slot_list_count,PySem.F.type_list_count,pl.isList.typeIs,fun b eb=>?_,arg Jg z⟩
  cases eb
  obtain⟨o,n,e,c,hd,_⟩:=pl
  exact⟨o,e,hd⟩
 ·obtain⟨its,r,⟨o,eo,ec,hd,n,dt⟩,hz⟩:=I1.Ck hq
  refine⟨"tuple","tuple.count",PySem.F.plainAttrs_tuple,PySem.F.slot_tuple_count,PySem.F.type_tuple_count,⟨o,eo,ec⟩,fun b eb=>?_,arg Jf z⟩
  cases eb
  exact⟨o,eo,hd⟩
def Ox(M:BP X o "count" apos e cpos)(ho:GE X W c m1 o)(he:GE X W c m2 e):GE X W c (.count m1 m2) (.Call (.Attribute o "count" apos) [e] [] cpos):=by
 intro env
 refine PE.imp (Xg M ho.d he.d) fun σ H Q q=>?_
 refine⟨env,aP q fun d δ v H1 N1 D1 q1=>?_⟩
 cases d with
 |tup xs=>
  obtain⟨a,vs,rfl,hq,l⟩:=cY D1
  refine⟨a,vs,rfl,.inr ⟨hq,δ,aP q1 fun d2 ε y H2 N2 D2 q2=>?_⟩⟩
  obtain⟨z,ez,S,q3⟩:=cW q2
  simp only[Bq]at ez
  split at ez
  ·rename_i hf
   cases ez
   rw[QUq]at hf
   exact⟨⟨a,vs,rfl,N2.pers.WM hq⟩,a,vs,xs,d2,y,rfl,rfl,.inr (N2.pers.WM hq),l.mono N2.pers,D2,hf.1,hf.2,q3 _ H2 (Nx.refl S) rfl⟩
  ·cases ez
 |lst xs=>
  obtain⟨a,vs,rfl,hq,l⟩:=dJ D1
  refine⟨a,vs,rfl,.inl ⟨hq.sq,δ,aP q1 fun d2 ε y H2 N2 D2 q2=>?_⟩⟩
  obtain⟨z,ez,S,q3⟩:=cW q2
  simp only[Bq]at ez
  split at ez
  ·rename_i hf
   cases ez
   rw[QUq]at hf
   exact⟨⟨a,vs,rfl,(N2.pers.Vz hq).sq⟩,a,vs,xs,d2,y,rfl,rfl,.inl (N2.pers.Vz hq).sq,l.mono N2.pers,D2,hf.1,hf.2,q3 _ H2 (Nx.refl S) rfl⟩
  ·cases ez
 |_=>exact q1.2.elim
def Nv{i:Int}(h:ix? n i=some j)(hn:n<=sizeLine): -(2 ^63)<=i/\i<2 ^63/\seqIndex? i n=some j/\j<n:=by
 have hl:=sizeLine_eq
 unfold ix? at h
 by_cases h0:i<0
 ·simp only[h0,if_true]at h
  by_cases hj:0<=i+n/\i+n<n
  ·rw[if_pos hj]at h
   have e:=QEq h
   exact⟨by omega,by omega,by rw[seqIndex_neg (by omega) (by omega),e],by omega⟩
  ·rw[if_neg hj]at h;cases h
 ·simp only[h0,if_false]at h
  by_cases hj:0<=i/\i<n
  ·rw[if_pos hj]at h
   have e:=QEq h
   exact⟨by omega,by omega,by rw[seqIndex_of (by omega) (by omega),e],by omega⟩
  ·rw[if_neg hj]at h;cases h
def uf(h:gQ d=true):∃xs,d=some (.lst xs):=by
 cases d with
 |none=>cases h
 |some d=>cases d with
  |lst xs=>exact⟨xs,rfl⟩
  |_=>cases h
def X3 k k':dH (dO k') (dO k)=decide (k'=k):=by
 cases k'<;>cases k<;>simp[dO,dH,Bool.beq_eq_decide_eq]
def Ou{x:Str}(M:BP X (.Name x p) "pop" apos e cpos)(nm:jX X k x)(he:GE X W c m e):GE X W c (.popAt k m) (.Call (.Attribute (.Name x p) "pop" apos) [e] [] cpos):=by
 intro env γ s σ H Q I q
 refine PE.imp (Gu M PySem.F.slot_list_pop PySem.F.type_list_pop M8 nm.pe he.d) (t':=fun ζ H' Q'=>ζ=σ/\H'=H/\Q'=Q) (fun ζ H' Q'⟨e1,e2,e3⟩=>?_) γ s σ H Q I ⟨rfl,rfl,rfl⟩
 subst e1 e2 e3
 simp only[Wd]at q
 cases hl:gQ _ with
 |false=>rw[hl]at q;exact q.2.elim
 |true=>
  rw[hl]at q
  obtain⟨xs0,e0⟩:=uf hl
  obtain⟨u,eu,Du⟩:=fX q.1 e0
  obtain⟨a0,vs0,rfl,hq0,l0⟩:=Du.lst
  refine⟨.ref a0,eu,.inl ⟨rfl,vs0,hq0⟩,env,aP q fun d δ y H1 N1 D1 q1=>?_⟩
  unfold tE at q1
  cases d with
  |int i=>
   cases e1:bA k δ with
   |none=>rw[e1]at q1;exact q1.2.elim
   |some d1=>
    rw[e1]at q1
    cases d1 with
    |lst xs=>
     simp only at q1
     cases hz:fits xs.length with
     |false=>rw[hz]at q1;exact q1.2.elim
     |true=>
     rw[hz]at q1
     cases e2:ix? xs.length i with
     |none=>rw[e2]at q1;exact q1.2.elim
     |some j=>
      rw[e2]at q1
      simp only at q1
      cases e3:xs[j]? with
      |none=>rw[e3]at q1;exact q1.2.elim
      |some dd=>
       cases e4:fM k _ δ with
       |none=>rw[e3,e4]at q1;exact q1.2.elim
       |some ε=>
        rw[e3,e4]at q1
        obtain⟨zs,ys,a,vs,ef,es,ha,l,lk,N⟩:=zu q1.1 e4
        rw[e1]at lk
        cases lk
        cases ef
        rw[eu]at es
        cases es
        subst D1
        obtain⟨w,ew,dw⟩:=l.get e3
        obtain⟨b1,b2,b3,b4⟩:=Nv e2 (gC hz)
        exact⟨a0,vs,i,j,w,rfl,rfl,ha,b1,b2,by rw[<-l.length];exact b3,ew,q1.2 w _ (N _ (l.eraseIdx j)) (dw.mono (N _ (l.eraseIdx j)).pers)⟩
    |_=>exact q1.2.elim
  |_=>exact q1.2.elim
def JL{x:Str}(M:BP X (.Name x p) "append" apos e cpos)(nm:jX X k x)(he:GE X W c m e):GS X W c (.append k m) (.Expr (.Call (.Attribute (.Name x p) "append" apos) [e] [] cpos) pos):=by
 intro env
 refine PS.imp (lU (Gu M PySem.F.slot_list_append PySem.F.type_list_append pM nm.pe he.d) rfl) fun D σ H q=>?_
 simp only[x_9]at q
 cases hl:gQ _ with
 |false=>rw[hl]at q;exact q.2.elim
 |true=>
  rw[hl]at q
  obtain⟨xs0,e0⟩:=uf hl
  obtain⟨u,eu,Du⟩:=fX q.1 e0
  obtain⟨a0,vs0,rfl,hq0,l0⟩:=Du.lst
  refine⟨.ref a0,eu,.inl ⟨rfl,vs0,hq0⟩,env,rY q fun d δ y H1 N1 D1 q1=>?_⟩
  cases e4:fM k _ δ with
  |none=>rw[e4]at q1;exact q1.2.elim
  |some ε=>
   rw[e4]at q1
   obtain⟨zs,ys,a,vs,ef,es,ha,l,lk,N⟩:=zu q1.1 e4
   rw[eu]at es
   cases es
   split at ef
   ·rename_i hf
    cases ef
    have:=gC hf
    refine⟨a0,vs,y,rfl,rfl,ha,by rw[<-l.length];omega,q1.2 _ _ (N _ (l.append (ak.bF D1 ak.eY))).z⟩
   ·cases ef
def Vd:V->V->V->Hp->(Hp->Prop)->Prop:=fun o i v H Q=>∃a H',o=.ref a/\Qw H a i v H'/\Q H'
def Rj(hu:X.A.units+1<cLine):Uk X Vd:=by
 intro γ s σ H o i v ov iv u Q I ro ri rv h
 obtain⟨a,H',rfl,g,q⟩:=h
 cases ro
 exact JS hu I g ri rv fun s4 I4=>⟨H',I4,q⟩
def abr(K:QQq):V->V->V->Hp->(Hp->Prop)->Prop:=fun o i v H Q=>Vc o i v H Q\/Vd o i v H Q
def Rk(hu:X.A.units+2<cLine):Uk X (abr X.K):=by
 intro γ s σ H o i v ov iv u Q I ro ri rv h
 rcases h with h|h
 ·exact set_list γ s σ H o i v ov iv u Q I ro ri rv h
 ·exact Rj (by omega) γ s σ H o i v ov iv u Q I ro ri rv h
def X7{i:Int}(h:ix? n i=some j):Tc n i=some j:=by
 unfold ix? at h
 unfold Tc
 by_cases h0:i<0
 ·simp only[h0,if_true]at h
  rw[if_neg (by omega)]
  by_cases hj:0<=i+n/\i+n<n
  ·rw[if_pos hj]at h;rw[if_pos (by omega)];exact h
  ·rw[if_neg hj]at h;cases h
 ·simp only[h0,if_false]at h
  rw[if_pos (by omega)]
  by_cases hj:0<=i/\i<n
  ·rw[if_pos hj]at h;rw[if_pos hj.2];exact h
  ·rw[if_neg hj]at h;cases h
theorem zT{H:Hp}{d:D}(hv:bj K H d v):∀{kvs:List (Key×V)}{ds:List D},ak K H ds (kvs.map (·.2))->
  ak K H (nZ (dO k) d (kvs.map fun p=>dO p.1) ds) ((kvs.map fun kv=>if kv.1=k then(kv.1,v)else kv).map (·.2))
 |[],ds,l=>by
  have:ds=[]:=by have:=l.length;cases ds<;>simp_all
  exact ak.eY
 |(k',u)::r,ds,l=>by
  cases ds with
  |nil=>have:=l.length;simp at this
  |cons x ds=>
   obtain⟨w,ws,e,h1,h2⟩:=ak.aX.mp l
   cases e
   have ih:=zT (k:=k) hv h2
   simp only[Qyz,nZ,X3]
   by_cases q:k'=k
   ·simp only[q,decide_true,if_true]
    exact ak.bF hv ih
   ·simp only[q,decide_false,Qxq,if_false]
    exact ak.bF h1 ih
theorem vV{v:V}:∀(kvs:List (Key×V)),(kvs.map fun kv=>if kv.1=k then(kv.1,v)else kv).map (fun p=>dO p.1)=kvs.map fun p=>dO p.1
 |[]=>rfl
 |(k',u)::r=>by
  simp only[Qyz,vV r]
  split<;>rfl
def Gq{H:Hp}{d:D}(hv:bj K H d v){ds:List D}(l:ak K H ds (kvs.map (·.2))):
  (putD (dO k) d (kvs.map fun p=>dO p.1) ds).1=(putK kvs k v).map (fun p=>dO p.1)/\ak K H (putD (dO k) d (kvs.map fun p=>dO p.1) ds).2 ((putK kvs k v).map (·.2)):=by
 unfold putD putK
 rw[<-lM,<-zp]
 split
 ·rename_i h
  exact⟨(vV kvs).symm,zT hv l⟩
 ·refine⟨by simp,?_⟩
  rw[List.map_append]
  exact l.append (ak.bF hv ak.eY)
theorem Ol{k:Nat}{x:Str}{ix:E}{ixe:Expr}{tp:Pos}(nm:jX X k x)(he:GE X W c m e)(hi:GE X W c ix ixe)
  (ha:∀v,assign (.Subscript (.Name x p) ixe tp) X.env v=(do
   let ov<-holding [v] (eval (.Name x p) X.env)
   let iv<-holding [v,ov] (eval ixe X.env)
   standAt tp
   holding [v,ov,iv] (setItem ov iv v)
   release [v,ov,iv] []))
  (hs:swapsWithSole [.Subscript (.Name x p) ixe tp] e pos.line X.env=pure false)(hw:swappedStores [.Subscript (.Name x p) ixe tp] e X.env=pure none)(hu:X.A.units+2<cLine)
  (h1:(assignEach [.Subscript (.Name x p) ixe tp] X.env).map (·.2)=[assign (.Subscript (.Name x p) ixe tp) X.env]):
  GS X W c (.setIx k ix m) (.Assign [.Subscript (.Name x p) ixe tp] e pos):=by
 intro env
 refine PS.imp (Mh he.d (Xf nm.pe hi.d (Rk hu) ha) hs hw h1) fun D σ H q=>?_
 simp only[x_7]at q
 refine⟨env,rY q fun d δ v H1 N1 D1 q1=>?_⟩
 cases e0:bA k δ with
 |none=>rw[e0]at q1;exact q1.2.elim
 |some d0=>
  rw[e0]at q1
  simp only[Option.isNone_some,Qxq,if_false]at q1
  obtain⟨u,eu,Du⟩:=fX q1.1 e0
  refine⟨u,eu,δ,rY q1 fun d2 ε y H2 N2 D2 q2=>?_⟩
  cases e4:fM k (pI d2 d) ε with
  |none=>rw[e4]at q2;exact q2.2.elim
  |some env3=>
   rw[e4]at q2
   obtain⟨o,o',a,w,ef,es,hA,hd,lk,N⟩:=FQ q2.1 e4
   rw[eu]at es
   cases es
   cases o with
   |lst xs=>
    obtain⟨vs,rfl,l⟩:=hd
    cases d2 with
    |int i=>
     simp only[pI]at ef
     cases e5:ix? xs.length i with
     |none=>rw[e5]at ef;cases ef
     |some j=>
      rw[e5]at ef
      cases ef
      have D2':y=.int i:=D2
      subst D2'
      exact .inl ⟨a,vs,i,j,rfl,rfl,hA,by rw[<-l.length];exact X7 e5,q2.2 _ _ (N _ ⟨_,rfl,l.set (D1.mono N2.pers) j⟩).z⟩
    |_=>cases ef
   |dct ks ds=>
    obtain⟨kvs,rfl,rfl,l⟩:=hd
    simp only[pI]at ef
    split at ef
    ·rename_i hk
     rw[QUq]at hk
     cases ef
     obtain⟨kk,rfl⟩:=ie hk.1
     have ek:=mF D2
     subst ek
     obtain⟨g1,g2⟩:=Gq (k:=kk) (D1.mono N2.pers) l
     have hf:=gC hk.2
     rw[QAq]at hf
     exact .inr ⟨a,_,rfl,Qw.k hA (by omega),q2.2 _ _ (N _ ⟨_,rfl,g1,g2⟩).z⟩
    ·cases ef
end
section
def Yn(he:GE X W c m e)(hv:∀k,m.az=some k->∃x p,e=.Name x p/\jX X k x):GS X W c (.ret m) (.Return (some e) pos):=by
 intro env
 have plain:∀D σ H,tS X.K W env ((ev c m env).fl vd) D σ H->Q7 (aM X W c m) D σ H:=fun D σ H q=>by
  refine⟨env,UV q fun x δ v H1 N z q1=>?_⟩
  cases x with
  |val d=>exact q1.2 v σ H1 N.z z
  |new o=>
   obtain⟨a,e1,e2,e3⟩:=z
   exact q1.2 v σ H1 N.z ⟨a,e1,e2,.inl e3⟩
  |ref i=>exact q1.2.elim
 cases q0:m.az with
 |none=>exact PS.imp (jc he.am) fun D σ H q=>plain D σ H (by simpa only[Cd,q0]using q)
 |some k=>
  cases e0:env[k]? with
  |none=>exact PS.imp (jc he.am) fun D σ H q=>plain D σ H (by simpa only[Cd,q0,e0]using q)
  |some sl=>
   cases sl with
   |un=>exact PS.imp (jc he.am) fun D σ H q=>plain D σ H (by simpa only[Cd,q0,e0]using q)
   |val d=>exact PS.imp (jc he.am) fun D σ H q=>plain D σ H (by simpa only[Cd,q0,e0]using q)
   |bor o=>exact PS.imp (jc he.am) fun D σ H q=>plain D σ H (by simpa only[Cd,q0,e0]using q)
   |own o=>
    obtain⟨x,p,rfl,nm⟩:=hv k q0
    refine PS.imp (jc nm.pe) fun D σ H q=>?_
    simp only[Cd,q0,e0]at q
    obtain⟨a,e1,e2⟩:=q.1.sl k _ e0
    have es:=cN e1
    have hi:=(QCz.mp e0).1
    have sub:∀j b,aO (env.set k .un) σ j b->aO env σ j b:=fun j b z=>by
     obtain⟨⟨s,ys,z1,z2⟩,z3⟩:=z
     by_cases hj:k=j
     ·subst hj;rw[Qwq hi]at z1;cases z1;cases z2
     ·rw[Qxz hj]at z1;exact⟨⟨s,ys,z1,z2⟩,z3⟩
    refine⟨.ref a,es,q.2 _ σ H ⟨⟨by simpa using q.1.len,fun j s ej=>?_,fun j l b z w=>q.1.ne j l b (sub j b z) (sub l b w)⟩,fun j b z=>.inl (sub j b z),bV.refl H,fun _ _ z _=>z,fun _ z=>z,fun j ys ej=>?_⟩ ⟨a,rfl,e2,.inr ⟨k,o,e0,es⟩⟩⟩
    ·by_cases hj:k=j
     ·subst hj;rw[Qwq hi]at ej;cases ej;trivial
     ·rw[Qxz hj]at ej;exact q.1.sl j s ej
    ·exact⟨⟨ys,by rw[Qxz (fun z=>by subst z;rw[e0]at ej;cases ej)];exact ej⟩,rfl⟩
def Tq:GS X W c ABm (.Return none pos):=fun env=>PS.imp RL fun D σ H q=>by
 simp only[Cd,E.az,v_0,v_1,v_2,v_3,v_4,v_5,v_6,v_7,v_8,ZG,HQ,QZ,aaC,Ks,aaB,aaA,Wg,QX,QW,aaz,qY,Wf,We,aay,Wd,nQ,Out.fl,vd]at q
 exact q.2 .non σ H (Nz.refl q.1) rfl
theorem nA lo:∀(n i:Nat)(d:D),(bN lo n)[i]? =some d->d=.int (lo+i)/\i<n
 |0,i=>fun d h=>by simp[bN]at h
 |n+1,0=>fun d h=>by simp[bN]at h;exact⟨by rw[<-h];simp,by omega⟩
 |n+1,i+1=>fun d h=>by
  obtain⟨e,l⟩:=nA _ n i d h
  refine⟨by rw[e];congr 1;push_cast;omega,by omega⟩
theorem nu lo:∀n,(bN lo n).length=n
 |0=>rfl
 |n+1=>by rw[bN,QBq,nu]
theorem Bb{H:Hp}{n:Nat}(hz:n<=sizeLine):Gives K (Itr lo n) (bN lo n) H where
 go:=fun H1 p i d e=>(nA lo n i d e).2
 yld:=fun H1 p i d e x H2 y=>by
  obtain⟨rfl,rfl⟩:=y
  rw[(nA lo n i d e).1]
  exact⟨rfl,.inl rfl⟩
 stop:=fun H1 p i hi=>by rw[nu]at hi;exact hi
 len:=by rw[nu];exact hz
def Nh(h:zb i=true): -(2 ^62)<=i/\i<2 ^62:=by
 simp only[zb,QUz]at h
 omega
def JP{tg:Expr}(ha:GE X W c m a)(hg:Gl X "range")(hm:X.mg "range"=none)(hs:starEach [a] X.env=[(false,eval a X.env)]):GI X W c (.range1 m) tg (.Call (.Name "range" p) [a] [] pos):=by
 intro env γ s σ H R I q
 refine IW hg hm (aC ha.d bO hs) hs γ s σ H R I ⟨env,q.1,?_⟩
 have q2:=q.2
 simp only[Wf]at q2
 have go:∀d δ v H',Nx X.K env σ H δ H'->bj X.K H' d v->(match (lift δ (match d with|.int n=>if fits n.toNat&&zb n then some (Rv.val (.lst (bN 0 n.toNat)))else none|_=>none))with
   |.ok x env'=>∃d xs,x.j8=some d/\items d=some xs/\∀J H',Nx X.K env σ H env' H'->Gives X.K J xs H'->R J H'
   |.exc c env'=>∀H',Nx X.K env σ H env' H'->W c env' σ H'
   |.bad=>False)->∃j:Int,[v]=[.int j]/\ -(2 ^62)<=j/\j<2 ^62/\R (Itr 0 j.toNat) H':=fun d δ v H' N Dv z=>by
  cases d with
  |int n=>
   simp only at z
   by_cases hf:(fits n.toNat&&zb n)=true
   ·rw[if_pos hf]at z
    rw[QUq]at hf
    obtain⟨d',xs,e1,e2,z⟩:=z
    cases e1
    cases e2
    have hv:v=.int n:=Dv
    subst hv
    exact⟨n,rfl,(Nh hf.2).1,(Nh hf.2).2,z _ H' N (Bb (gC hf.1))⟩
   ·rw[if_neg hf]at z;exact z.elim
  |_=>exact z.elim
 cases r:ev c m env with
 |bad=>rw[r]at q2;exact q2
 |exc k δ=>rw[r]at q2;exact q2
 |ok x δ=>
  rw[r]at q2
  cases x with
  |val d=>exact fun v H' N Dv=>go d δ v H' N Dv q2
  |new o=>exact fun v H' N Dv=>go o.d δ v H' N Dv q2
  |ref i=>exact q2
theorem j4.z{tg:Tg}{σ ζ:St}(st:j4 K tg env σ env' ζ H):Nz K env σ H env' ζ H:=
 ⟨st.gK,fun i a z=>.inl (st.sub z),bV.refl _,fun _ _ z _=>z,fun _ z=>z,fun i xs e=>⟨⟨xs,(st.same i (st.bors i xs e)).1.trans e⟩,(st.same i (st.bors i xs e)).2⟩⟩
theorem FZ{env:Ev}{H:Hp}{f:Fl}{D:Ends}(q:tS K W env (f.turn g) D σ H)
  (k:∀ε φ H2,Nz K env σ H ε φ H2->tS K W ε (g ε) D φ H2->N φ H2):tS K W env f {D with nx:=N,ct:=N,bk:=D.nx} σ H:=by
 refine⟨q.1,?_⟩
 cases f with
 |next ε=>exact fun φ H2 N2=>k ε φ H2 N2 (rW q N2)
 |cont ε=>exact fun φ H2 N2=>k ε φ H2 N2 (rW q N2)
 |brk ε=>exact q.2
 |ret r ε=>exact q.2
 |exc j ε=>exact q.2
 |bad=>exact q.2
theorem Yo{tg:Tg}{it:E}{b:S}(hp:PassesOwn (model X.prog X.w) X.A X.env X.xe)(hc:X.calm=true)(hi:GI X W c it Ω π)(hg:GG X tg Ω)(hb:QJ X W c b body)
  (hs:∀x,foldedSetIterable π X.env x=pure x):GS X W c (.for_ tg it b) (.For Ω π body [] pos):=by
 intro env γ s σ H D I q
 refine(Xc (pos:=pos) hp hc (wi:=fun ζ H' R=>ζ=σ/\H'=H/\tI X.K W env (ev c it env) σ H R) (fun γ s ζ H' R I'⟨e1,e2,z⟩=>by subst e1 e2;exact hi env γ s _ _ R I' z) hg (tb:=fun D σ H=>∃env,tS X.K W env _ D σ H) (fun γ s σ H D I⟨env,z⟩=>hb env γ s σ H D I z) hs) γ s σ H D I ⟨rfl,rfl,?_⟩
 simp only[adR]at q
 have tur:∀δ xs J H1,Nx X.K env σ H δ H1->Gives X.K J xs H1->tS X.K W δ _ D σ H1->∃W':Nat->Nat->St->Hp->Prop,(∃m,W' 0 m σ H1)/\∀i m σ H,W' i m σ H->
   (J.stop i H/\D.nx σ H)\/(J.go i H/\∃N:St->Hp->Prop,(∀ζ H',N ζ H'->∃m',m'<m/\W' (i+1) m' ζ H')/\∀x H',J.yld i H x H'->tG X.K tg x σ H' fun φ H2=>∃env,tS X.K W env (ex c b env) {D with nx:=N,ct:=N,bk:=D.nx} φ H2):=fun δ xs J H1 N1 G z=>by
  refine⟨fun i m ζ H'=>i<=xs.length/\m=xs.length-i/\bV H1 H'/\∃env',tS X.K W env' (cX tg (ex c b) (xs.drop i) env') D ζ H',⟨xs.length,QIq _,by simp,bV.refl _,δ,z⟩,?_⟩
  rintro i m ζ H' ⟨hi,rfl,pe,env',z⟩
  by_cases hl:i<xs.length
  ·obtain⟨d,hd⟩:∃d,xs[i]? =some d:=⟨xs[i],by simp[hl]⟩
   rw[wQ hd,cX]at z
   cases e:cR tg d env' with
   |none=>rw[e]at z;exact z.2.elim
   |some ε=>
    rw[e]at z
    refine .inr ⟨G.go H' pe i d hd,fun φ H2=>bV H1 H2/\∃env3,tS X.K W env3 _ D φ H2,fun φ H2⟨p2,w⟩=>⟨xs.length- (i+1),by omega,hl,rfl,p2,w⟩,fun x H2 y=>?_⟩
    obtain⟨Dx,lay⟩:=G.yld H' pe i d hd x H2 y
    have N2:=z.1.lay lay
    refine⟨env',d,ε,N2.gK,Dx,e,fun φ st=>⟨ε,FZ (rW z (N2.z.trans st.z)) fun env3 σ3 H3 N3 w=>⟨(pe.trans N2.pers).trans N3.pers,env3,w⟩⟩⟩
  ·have e:i=xs.length:=by omega
   subst e
   rw[List.drop_length,cX]at z
   exact .inl ⟨G.stop H' pe _ (QVz _),z.2 ζ H' (Nz.refl z.1)⟩
 refine⟨q.1,?_⟩
 have go:∀(x:Rv)δ d,x.j8=some d->(match (match items d with|some xs=>cX tg (ex c b) xs δ|none=>Fl.bad)with
   |.next env'=>∀ζ H',Nz X.K env σ H env' ζ H'->D.nx ζ H'
   |.ret r env'=>∀v ζ H',Nz X.K env σ H env' ζ H'->Qq X.K env σ H H' r v->D.rt v H'
   |.brk env'=>∀ζ H',Nz X.K env σ H env' ζ H'->D.bk ζ H'
   |.cont env'=>∀ζ H',Nz X.K env σ H env' ζ H'->D.ct ζ H'
   |.exc c env'=>∀ζ H',Nz X.K env σ H env' ζ H'->W c env' ζ H'
   |.bad=>False)->∃d xs,x.j8=some d/\items d=some xs/\∀J H',Nx X.K env σ H δ H'->Gives X.K J xs H'->∃W':Nat->Nat->St->Hp->Prop,(∃m,W' 0 m σ H')/\∀i m σ H,W' i m σ H->
   (J.stop i H/\D.nx σ H)\/(J.go i H/\∃N:St->Hp->Prop,(∀ζ H',N ζ H'->∃m',m'<m/\W' (i+1) m' ζ H')/\∀x H',J.yld i H x H'->tG X.K tg x σ H' fun φ H2=>∃env,tS X.K W env (ex c b env) {D with nx:=N,ct:=N,bk:=D.nx} φ H2):=fun x δ d ed z=>by
  cases e1:items d with
  |none=>rw[e1]at z;exact z.elim
  |some xs=>
   rw[e1]at z
   exact⟨d,xs,ed,e1,fun J H1 N G=>tur δ xs J H1 N G (rW ⟨q.1,z⟩ N.z)⟩
 have q2:=q.2
 cases r:ev c it env with
 |bad=>rw[r]at q2;exact q2
 |exc k δ=>rw[r]at q2;exact fun H' N=>q2 σ H' N.z
 |ok x δ=>
  rw[r]at q2
  cases x with
  |val d=>exact go _ δ d rfl q2
  |new o=>exact go _ δ o.d rfl q2
  |ref i=>exact q2.elim
def Oj{t:E}{b:S}(hp:PassesOwn (model X.prog X.w) X.A X.env X.xe)(ht:GT X W c t te)(hb:QJ X W c b body):GS X W c (.while_ t b) (.While te body [] pos):=by
 intro env
 refine PS.imp (z9 hp ht (tb:=fun D σ H=>∃env,tS X.K W env _ D σ H) (fun γ s σ H D I⟨env,z⟩=>hb env γ s σ H D I z)) fun D σ H q=>?_
 refine⟨fun n ζ H'=>∃env',tS X.K W env' (gA _ _ n env') D ζ H',⟨c.turns,env,q⟩,?_⟩
 rintro n ξ H1 ⟨δ,q1⟩
 cases n with
 |zero=>exact q1.2.elim
 |succ n=>
  refine⟨δ,K1 q1 fun k ε H2 N2 q2=>?_⟩
  cases k with
  |true=>
   refine⟨fun ζ H'=>∃env',tS X.K W env' _ D ζ H',fun ζ H' w=>⟨n,Nat.lt_succ_self n,w⟩,ε,FZ q2 fun env3 σ3 H3 N3 w=>⟨env3,w⟩⟩
  |false=>
   exact q2.2 ξ H2 (Nz.refl q2.1)
end
structure Cz(K:QQq)(ps:List Sl)(vs:List V)(H:Hp)(qs:List Sl)(H':Hp):Prop where
 bor:∀(i:Nat)o,ps[i]? =some (.bor o)->∃o' a,qs[i]? =some (.bor o')/\vs[i]? =some (.ref a)/\j7 K H' o' a
 pers:bV H H'
 keep:∀b u,H b=some u->(∀i,¬aO ps (vs.map some) i b)->H' b=some u
 dom:∀b,H' b=none->H b=none
def acL(K:QQq)(H H':Hp):Rv->V->Prop
 |.val d,v=>bj K H' d v
 |.new q,v=>∃a,v=.ref a/\j7 K H' q a/\H a=none
 |_,_=>False
def noOwn(ps:List Sl):Prop:=∀(i:Nat)o,ps[i]? ≠some (.own o)
noncomputable def cL(K:QQq)(n:Nat)(f:List Sl->Res):Sp:=fun vs H Q _=>∃ps,vs.length=n/\Sat K ps (vs.map some) H/\noOwn ps/\match f ps with
 |.ok r qs=>∀v H',Cz K ps vs H qs H'->acL K H H' r v->Q v H'
 |.exc _ qs=>∀H',Cz K ps vs H qs H'->False
 |.bad=>False
def xX{ps:List Sl}{vs:List V}{b:Addr}(hl:ps.length=vs.length):aO (ps++List.replicate k .un) (vs.map some++List.replicate k none) i b↔aO ps (vs.map some) i b:=by
 constructor
 ·rintro ⟨⟨s,o,e1,e2⟩,e3⟩
  by_cases hi:i<ps.length
  ·rw[Qwz hi]at e1
   rw[Qwz (by simpa[<-hl]using hi)]at e3
   exact⟨⟨s,o,e1,e2⟩,e3⟩
  ·rw[QIz (by omega),List.getElem?_replicate]at e1
   split at e1
   ·cases e1;cases e2
   ·cases e1
 ·rintro ⟨⟨s,o,e1,e2⟩,e3⟩
  have hi:=(QCz.mp e1).1
  exact⟨⟨s,o,by rw[Qwz hi];exact e1,e2⟩,by rw[Qwz (by simpa[<-hl]using hi)];exact e3⟩
def Sat.pad{ps:List Sl}{vs:List V}(S:Sat K ps (vs.map some) H)k:Sat K (ps++List.replicate k .un) (vs.map some++List.replicate k none) H:=by
 have hl:ps.length=vs.length:=by simpa using S.len
 refine⟨by simp[hl],fun i s e=>?_,fun i j a h1 h2=>S.ne i j a ((xX hl).mp h1) ((xX hl).mp h2)⟩
 by_cases hi:i<ps.length
 ·rw[Qwz hi]at e
  rw[Qwz (by simpa[<-hl]using hi)]
  exact S.sl i s e
 ·rw[QIz (by omega),List.getElem?_replicate]at e
  split at e
  ·cases e;trivial
  ·cases e
def Nz.cz{ps:List Sl}{H H':Hp}{k n:Nat}{ζ:St}(S:Sat K ps (vs.map some) H)(hn:vs.length=n)(N:Nz K (ps++List.replicate k .un) (vs.map some++List.replicate k none) H env' ζ H'):Cz K ps vs H (env'.take n) H':=by
 have hl:ps.length=vs.length:=by simpa using S.len
 refine⟨fun i o e=>?_,N.pers,fun b u hb no=>N.keep b u hb fun i z=>no i ((xX hl).mp z),N.dom⟩
 have hi:=(QCz.mp e).1
 obtain⟨⟨o',e1⟩,e2⟩:=N.bors i o (by rw[Qwz hi];exact e)
 obtain⟨a,z1,z2⟩:=N.gK.sl i _ e1
 rw[e2,Qwz (by simpa[<-hl]using hi),QFz]at z1
 refine⟨o',a,by rw[List.getElem?_take_of_lt (by omega)];exact e1,?_,z2⟩
 cases q:vs[i]? with
 |none=>rw[q]at z1;cases z1
 |some v=>rw[q]at z1;simp at z1;rw[z1]
section
theorem TQ{st:Stmt}{fd:FuncData}{k:Nat}{g:Fn}(F:Hz K x qual st f fd)(S:eN N ps (aq st))(hp:g.pars=ps.length)(hn:g.names=N.length)
  (hb:∀(cdv:Value)(A:Around)(outer:List Env)(s:Shared)(H:Hp)(E:XK),dR k (A.deeper (PyProof.Rows.envOfC qual (aq st) s.heap.objs.size f cdv))->QJ (gG gw P w K mg base N qual (aq st) f cdv A outer s H E).rE W0 c g.body (cF st)):
  cD P w K mg base gw (k+1) f fd ps (cL K ps.length (ir c g)):=by
 refine F.ok S (fun vs H Q E h=>?_) (fun cdv A outer s H vs Q E hr h=>?_)
 ·obtain⟨_,h,_⟩:=h
  exact h
 ·obtain⟨sl,hl,S0,no,q⟩:=h
  refine⟨_,hb cdv A outer s H E hr (sl++List.replicate (g.names-g.pars) .un),?_⟩
  have hlen:sl.length=vs.length:=by simpa using S0.len
  have hst:L2.start N vs=vs.map some++List.replicate (g.names-g.pars) none:=by
   unfold L2.start
   rw[hn,hp,hl]
  have e0:ir c g sl=match ex c g.body (sl++List.replicate (g.names-g.pars) .un)with
    |.next σ=>.ok (.val .non) (σ.take g.pars)
    |.ret r σ=>.ok r (σ.take g.pars)
    |.exc k σ=>.exc k (σ.take g.pars)
    |_=>.bad:=by
   unfold ir
   rw[if_pos (by rw[hp,<-hl,hlen])]<;>cases ex c g.body _<;>rfl
  rw[e0]at q
  rw[hst]
  refine⟨S0.pad _,?_⟩
  have hg:vs.length=g.pars:=by rw[hl,hp]
  cases r:ex c g.body _ with
  |next env'=>rw[r]at q;exact fun ζ H' N=>q .non H' (N.cz S0 hg) rfl
  |ret rv env'=>
   rw[r]at q
   refine fun v ζ H' N z=>q v H' (N.cz S0 hg) ?_
   cases rv with
   |val d=>exact z
   |new o=>
    obtain⟨a,e1,e2,e3⟩:=z
    refine⟨a,e1,e2,?_⟩
    rcases e3 with e3|⟨i,ys,e3,_⟩
    ·exact e3
    ·by_cases hi:i<sl.length
     ·rw[Qwz hi]at e3
      exact absurd e3 (no i ys)
     ·rw[QIz (by omega),List.getElem?_replicate]at e3
      split at e3<;>cases e3
   |ref i=>exact z.elim
  |brk env'=>rw[r]at q;exact q.elim
  |cont env'=>rw[r]at q;exact q.elim
  |exc j env'=>rw[r]at q;exact fun ζ H' N=>q H' (N.cz S0 hg)
  |bad=>rw[r]at q;exact q.elim
end
inductive En(K:QQq)(env:Ev)(σ:St)(H0 H:Hp):List Rv->List Sl->List V->Prop
 |nil:En K env σ H0 H [] [] []
 |val {d:D} {v:V} {rs:List Rv} {ps:List Sl} {vs:List V}:bj K H d v->En K env σ H0 H rs ps vs->En K env σ H0 H (.val d::rs) (.val d::ps) (v::vs)
 |ref {o:Ob} {j:Nat} {a:Addr} {s:Sl} {rs:List Rv} {ps:List Sl} {vs:List V}:env[j]? =some s->isOwn s=some o->σ[j]? =some (some (.ref a))->j7 K H o a->Rv.ref j∉rs->En K env σ H0 H rs ps vs->En K env σ H0 H (.ref j::rs) (.bor o::ps) (.ref a::vs)
section
theorem o4(S:Sat K env σ H):∀{rs:List Rv}{ps:List Sl}{vs:List V},enter rs env=some ps->j5 K σ H0 H rs vs->En K env σ H0 H rs ps vs
 |[],ps,vs,h,r=>by
  cases h
  have:=r
  subst this
  exact .nil
 |x::rs,ps,vs,h,r=>by
  obtain⟨v,vr,rfl,h1,h2⟩:=r
  cases x with
  |val d=>
   simp only[enter]at h
   cases e:enter rs env with
   |none=>rw[e]at h;cases h
   |some ps'=>rw[e]at h;cases h;exact .val h1 (o4 S e h2)
  |new o=>cases h
  |ref j=>
   simp only[enter]at h
   split at h
   ·cases h
   ·rename_i hn
    have nr:Rv.ref j∉rs:=fun hq=>hn (List.any_eq_true.mpr ⟨_,hq,by simp[mj]⟩)
    cases e1:env[j]? with
    |none=>rw[e1]at h;cases h
    |some s=>
     rw[e1]at h
     have h1':=h1
     cases s with
     |un=>cases h
     |val d=>cases h
     |own o=>
      cases e:enter rs env with
      |none=>simp only[e]at h;cases h
      |some ps'=>
       simp only[e]at h
       cases h
       obtain⟨a,z1,z2⟩:=S.sl j _ e1
       rw[h1']at z1
       cases z1
       exact .ref e1 rfl h1' z2 nr (o4 S e h2)
     |bor o=>
      cases e:enter rs env with
      |none=>simp only[e]at h;cases h
      |some ps'=>
       simp only[e]at h
       cases h
       obtain⟨a,z1,z2⟩:=S.sl j _ e1
       rw[h1']at z1
       cases z1
       exact .ref e1 rfl h1' z2 nr (o4 S e h2)
def En.len{ps:List Sl}(h:En K env σ H0 H rs ps vs):ps.length=vs.length/\rs.length=vs.length:=by
 induction h with
 |nil=>exact⟨rfl,rfl⟩
 |val _ _ ih=>simp[ih.1,ih.2]
 |ref _ _ _ _ _ _ ih=>simp[ih.1,ih.2]
theorem En.noOwn{ps:List Sl}(h:En K env σ H0 H rs ps vs):noOwn ps:=by
 induction h with
 |nil=>intro i o e;simp at e
 |val _ _ ih=>intro i o e;cases i with
  |zero=>simp at e
  |succ i=>exact ih i o (by simpa using e)
 |ref _ _ _ _ _ _ ih=>intro i o e;cases i with
  |zero=>simp at e
  |succ i=>exact ih i o (by simpa using e)
def En.lent{ps:List Sl}(h:En K env σ H0 H rs ps vs):∀{i:Nat}{a:Addr},aO ps (vs.map some) i a->∃j,rs[i]? =some (.ref j)/\aO env σ j a:=by
 induction h with
 |nil=>rintro i a ⟨⟨s,o,e,_⟩,_⟩;simp at e
 |val _ _ ih=>
  rintro i a ⟨⟨s,o,e1,e2⟩,e3⟩
  cases i with
  |zero=>simp at e1;subst e1;cases e2
  |succ i=>simpa using ih ⟨⟨s,o,by simpa using e1,e2⟩,by simpa using e3⟩
 | @ref o j b s rs ps vs e1 e2 e3 oa nr _ ih=>
  rintro i a ⟨⟨s',o',z1,z2⟩,z3⟩
  cases i with
  |zero=>
   simp at z3
   subst z3
   exact⟨j,rfl,⟨⟨s,o,e1,e2⟩,e3⟩⟩
  |succ i=>simpa using ih ⟨⟨s',o',by simpa using z1,z2⟩,by simpa using z3⟩
def En.gK(S0:Sat K env0 σ H0)(S:Sat K env σ H)(sub:∀(i:Nat)a,aO env σ i a->aO env0 σ i a){ps:List Sl}(h:En K env σ H0 H rs ps vs):Sat K ps (vs.map some) H:=by
 refine⟨by simpa using h.len.1,?_,?_⟩
 ·clear S0 sub
  induction h with
  |nil=>intro i s e;simp at e
  |val hd _ ih=>
   intro i s e
   cases i with
   |zero=>simp at e;subst e;exact⟨_,rfl,hd⟩
   |succ i=>simpa using ih i s (by simpa using e)
  |ref _ _ _ oa _ _ ih=>
   intro i s e
   cases i with
   |zero=>simp at e;subst e;exact⟨_,rfl,oa⟩
   |succ i=>simpa using ih i s (by simpa using e)
 ·--no two slots have one address
  induction h with
  |nil=>rintro i j a ⟨⟨s,o,e,_⟩,_⟩;simp at e
  |val hd t ih=>
   rintro i j a ⟨⟨s,o,e1,e2⟩,e3⟩ ⟨⟨s',o',e1',e2'⟩,e3'⟩
   cases i with
   |zero=>simp at e1;subst e1;cases e2
   |succ i=>cases j with
    |zero=>simp at e1';subst e1';cases e2'
    |succ j=>rw[ih i j a ⟨⟨s,o,by simpa using e1,e2⟩,by simpa using e3⟩ ⟨⟨s',o',by simpa using e1',e2'⟩,by simpa using e3'⟩]
  | @ref o k b s0 rs ps vs z1 z2 z3 oa nr t ih=>
   have ok:aO env σ k b:=⟨⟨s0,o,z1,z2⟩,z3⟩
   have clash:∀i,¬aO ps _ i b:=fun i z=>by
    obtain⟨q,e,ow⟩:=t.lent z
    have:=S.ne k q b ok ow
    subst this
    exact nr (QBz e)
   rintro i j a ⟨⟨s,o,e1,e2⟩,e3⟩ ⟨⟨s',o',e1',e2'⟩,e3'⟩
   cases i with
   |zero=>
    simp at e3
    subst e3
    cases j with
    |zero=>rfl
    |succ j=>exact absurd ⟨⟨s',o',by simpa using e1',e2'⟩,by simpa using e3'⟩ (clash j)
   |succ i=>cases j with
    |zero=>
     simp at e3'
     subst e3'
     exact absurd ⟨⟨s,o,by simpa using e1,e2⟩,by simpa using e3⟩ (clash i)
    |succ j=>rw[ih i j a ⟨⟨s,o,by simpa using e1,e2⟩,by simpa using e3⟩ ⟨⟨s',o',by simpa using e1',e2'⟩,by simpa using e3'⟩]
end
def Sl.GZ(o':Ob):Sl->Option Sl
 |.own _=>some (.own o')
 |.bor _=>some (.bor o')
 |_=>none
def Kw{o':Ob}(h:fM j (fun _=>some o') env=some env'):∃s s',env[j]? =some s/\s.GZ o'=some s'/\env'=env.set j s':=by
 obtain⟨o,q,e,hh⟩:=rQ h
 cases e
 rcases hh with ⟨e,rfl⟩|⟨e,rfl⟩
 ·exact⟨_,_,e,rfl,rfl⟩
 ·exact⟨_,_,e,rfl,rfl⟩
theorem pX:∀{rs:List Rv}{qs:List Sl}{env ε:Ev},giveBack rs qs env=some ε->ε.length=env.length/\∀j:Nat,
  ((∀i:Nat,rs[i]? ≠some (Rv.ref j))/\ε[j]? =env[j]?)\/∃(i:Nat)(o':Ob)(s s':Sl),rs[i]? =some (.ref j)/\qs[i]? =some (.bor o')/\env[j]? =some s/\s.GZ o'=some s'/\ε[j]? =some s'
 |[],[],env,ε,h=>by
  cases h
  exact⟨rfl,fun j=>.inl ⟨fun i=>by simp,rfl⟩⟩
 |[],_::_,env,ε,h=>by cases h
 |x::rs,[],env,ε,h=>by cases x<;>cases h
 |x::rs,q::qs,env,ε,h=>by
  have skip:giveBack rs qs env=some ε->(∀j,x≠ .ref j)->ε.length=env.length/\∀j:Nat,
    ((∀i:Nat,(x::rs)[i]? ≠some _)/\ε[j]? =env[j]?)\/∃(i:Nat)(o':Ob)(s s':Sl),(x::rs)[i]? =some _/\(q::qs)[i]? =some (.bor o')/\env[j]? =some s/\s.GZ o'=some s'/\ε[j]? =some s':=fun h nx=>by
   obtain⟨l,g⟩:=pX h
   refine⟨l,fun j=>?_⟩
   rcases g j with ⟨g1,g2⟩|⟨i,o',s,s',g1,g2,g3⟩
   ·refine .inl ⟨fun i e=>?_,g2⟩
    cases i with
    |zero=>simp at e;exact nx j e
    |succ i=>exact g1 i (by simpa using e)
   ·exact .inr ⟨i+1,o',s,s',by simpa using g1,by simpa using g2,g3⟩
  cases x with
  |val d=>exact skip h fun j z=>by cases z
  |new o=>exact skip h fun j z=>by cases z
  |ref k=>
   cases q with
   |bor o=>
    change Option.bind _ _=some ε at h
    cases e:fM k _ env with
    |none=>rw[e]at h;cases h
    |some δ=>
     rw[e]at h
     obtain⟨s0,s1,z1,z2,rfl⟩:=Kw e
     have hk:=(QCz.mp z1).1
     obtain⟨l,g⟩:=pX h
     refine⟨by simpa using l,fun j=>?_⟩
     rcases g j with ⟨g1,g2⟩|⟨i,o',s,s',g1,g2,g3,g4,g5⟩
     ·by_cases hj:k=j
      ·subst hj
       rw[Qwq hk]at g2
       exact .inr ⟨0,o,s0,s1,rfl,rfl,z1,z2,g2⟩
      ·rw[Qxz hj]at g2
       refine .inl ⟨fun i e=>?_,g2⟩
       cases i with
       |zero=>simp at e;exact hj e
       |succ i=>exact g1 i (by simpa using e)
     ·by_cases hj:k=j
      ·subst hj
       rw[Qwq hk]at g3
       cases g3
       refine .inr ⟨i+1,o',s0,s',by simpa using g1,by simpa using g2,z1,?_,g5⟩
       cases s0 with
       |own q=>cases z2;exact g4
       |bor q=>cases z2;exact g4
       |un=>cases z2
       |val d=>cases z2
      ·rw[Qxz hj]at g3
       exact .inr ⟨i+1,o',s,s',by simpa using g1,by simpa using g2,g3,g4,g5⟩
   |un=>cases h
   |val d=>cases h
   |own o=>cases h
def Nk{o':Ob}(h:s.GZ o'=some s'):(∃o,isOwn s=some o)/\isOwn s'=some o':=by
 cases s with
 |own q=>cases h;exact⟨⟨q,rfl⟩,rfl⟩
 |bor q=>cases h;exact⟨⟨q,rfl⟩,rfl⟩
 |un=>cases h
 |val d=>cases h
section
def En.WX(h:En K env σ H0 H rs ps vs):∀{i j:Nat},rs[i]? =some (.ref j)->∃o a,ps[i]? =some (.bor o)/\vs[i]? =some (.ref a)/\σ[j]? =some (some (.ref a)):=by
 induction h with
 |nil=>intro i j e;simp at e
 |val _ _ ih=>intro i j e;cases i with
  |zero=>simp at e
  |succ i=>simpa using ih (by simpa using e)
 | @ref o k a s rs ps vs e1 e2 e3 oa nr t ih=>
  intro i j e
  cases i with
  |zero=>simp at e;subst e;exact⟨o,a,rfl,rfl,e3⟩
  |succ i=>simpa using ih (by simpa using e)
def T9(S0:Sat K env0 σ H0)(N:Nx K env0 σ H0 env H)(E:En K env σ H0 H rs ps vs)(C:Cz K ps vs H qs H2)(g:giveBack rs qs env=some ε):Nx K env0 σ H0 ε H2:=by
 have S:=N.gK
 have sub:=N.sub
 obtain⟨gl,gs⟩:=pX g
 have own2:∀j b,aO ε σ j b->aO env σ j b:=fun j b z=>by
  obtain⟨⟨s,o,e1,e2⟩,e3⟩:=z
  rcases gs j with ⟨_,g2⟩|⟨i,o',s0,s1,_,_,g3,g4,g5⟩
  ·rw[g2]at e1;exact⟨⟨s,o,e1,e2⟩,e3⟩
  ·obtain⟨⟨q,hq⟩,_⟩:=Nk g4
   exact⟨⟨s0,q,g3,hq⟩,e3⟩
 have notLent:∀j b,aO env σ j b->(∀i:Nat,rs[i]? ≠some _)->∀i,¬aO ps _ i b:=fun j b ow nr i z=>by
  obtain⟨k,e,ow'⟩:=E.lent z
  have:=S.ne j k b ow ow'
  subst this
  exact nr i e
 refine⟨⟨by rw[gl];exact S.len,fun j s e=>?_,fun j k b z w=>S.ne j k b (own2 j b z) (own2 k b w)⟩,fun j b z=>sub j b (own2 j b z),N.pers.trans C.pers,fun b u hb no=>C.keep b u (N.keep b u hb no) fun i z=>?_,fun b z=>N.dom b (C.dom b z),fun j xs e=>?_⟩
 ·rcases gs j with ⟨g1,g2⟩|⟨i,o',s0,s1,g1,g2,g3,g4,g5⟩
  ·rw[g2]at e
   exact(S.sl j s e).keep C.pers fun b u ho ev hb=>C.keep b u hb (notLent j b (xY e ho ev) g1)
  ·rw[g5]at e
   cases e
   obtain⟨o,a,p1,p2,p3⟩:=E.WX g1
   obtain⟨o'',a',c1,c2,c3⟩:=C.bor i o p1
   rw[g2]at c1
   cases c1
   rw[p2]at c2
   cases c2
   cases s0 with
   |own q=>cases g4;exact⟨a,by rw[p3];rfl,c3⟩
   |bor q=>cases g4;exact⟨a,by rw[p3];rfl,c3⟩
   |un=>cases g4
   |val d=>cases g4
 ·obtain⟨k,e,ow⟩:=E.lent z
  exact no k (sub k b ow)
 ·obtain⟨xs,e⟩:=N.bors j xs e
  rcases gs j with ⟨g1,g2⟩|⟨i,o',s0,s1,g1,g2,g3,g4,g5⟩
  ·exact⟨xs,by rw[g2];exact e⟩
  ·rw[e]at g3
   cases g3
   cases g4
   exact⟨o',g5⟩
end
section
theorem TF(F:cD X.prog X.w X.K X.mg X.base gw k f fd ps (cL X.K ps.length (c.fn g)))(hr:dR k X.A)(hg:Gl X x)(hm:X.mg x=some (.ref f))(hk:PySem.W.keepIn X.K (.ref f)=true)(hb:Binds X.K fd ps [])
  (hd:(x==("__debug__":Str))=false)(ha:GA X W c m (e::es))(he:starEach (e::es) X.env=(false,eval e X.env)::starEach es X.env)(hpl:(backTo pos (starEach es X.env)).any (·.1)=false)(hn:∀sl,c.fn g sl=.bad\/sl.length=ps.length):
  GE X W c (.call g m) (.Call (.Name x p) (e::es) [] pos):=by
 intro env γ s σ H Q I q
 refine gU F hr hg hm hk hb .nil iK (t:=fun ζ H' R=>ζ=σ/\H'=H/\tMs X.K W env (evs c m env) σ H R) (fun p γ s ζ H' R I'⟨e1,e2,z⟩=>by subst e1 e2;exact ha env p γ s _ _ R I' z) hd he hpl γ s σ H Q I ⟨rfl,rfl,?_⟩
 simp only[Wg]at q
 obtain⟨S,q⟩:=q
 refine⟨S,?_⟩
 cases r:evs c m env with
 |bad=>rw[r]at q;exact q
 |exc j δ=>rw[r]at q;exact q
 |ok rs δ=>
  rw[r]at q
  simp only[Out.bind,uJ]at q
  intro vs H1 N rv
  rw[List.append_nil]
  cases e1:enter rs δ with
  |none=>rw[e1]at q;exact q.elim
  |some sl=>
   rw[e1]at q
   simp only at q
   have E:=o4 N.gK e1 rv
   refine⟨sl,?_,E.gK S N.gK N.sub,E.noOwn,?_⟩
   ·rcases hn sl with z|z
    ·rw[z]at q;exact q.elim
    ·rw[<-E.len.1,z]
   ·cases e2:c.fn g sl with
    |bad=>rw[e2]at q;exact q.elim
    |ok rv qs=>
     rw[e2]at q
     simp only at q
     intro v H2 C z
     cases e3:giveBack rs qs δ with
     |none=>rw[e3]at q;exact q.elim
     |some ε=>
      rw[e3]at q
      refine q v H2 (T9 S N E C e3) ?_
      cases rv with
      |val d=>exact z
      |new o=>obtain⟨a,z1,z2,z3⟩:=z;exact⟨a,z1,z2,N.dom a z3⟩
      |ref i=>exact z.elim
    |exc j qs=>rw[e2]at q;exact q.elim
end
def Ik c g sl:ir c g sl=.bad\/sl.length=g.pars:=by
 unfold ir
 split
 ·exact .inr (by assumption)
 ·exact .inl rfl
end Mini
end
section
namespace Mini
open PySem L2 PyProof.Rows
structure BL(z TI TO i1 i2:Addr)(b1 b2:Bool)(l1 l2:Addr)(k:Nat)(h:Heap):Prop where
 zr:∃f0 f1,jT h z TI TO f0 f1/\F0 f0
 ti:IsPair h TI (.ref i1) (.ref i2)
 to:∃a b,IsPair h TO a b
 it1:uW b1 h i1 l1 k
 it2:uW b2 h i2 l2 k
section
variable{E:QZq}
def wX{b1 b2:Bool}{xs ys:Array Value}(hl1:zc b1 s.heap l1 xs)(hl2:zc b2 s.heap l2 ys)
  (h:∀h',BL (s.heap.objs.size+4) (s.heap.objs.size+2) (s.heap.objs.size+3) s.heap.objs.size (s.heap.objs.size+1) b1 b2 l1 l2 0 h'->h'.objs.size=s.heap.objs.size+5->
   (∀c o,s.heap.get? c=some o->h'.get? c=some o)->Q (.ref (s.heap.objs.size+4)) {s with heap:=h'}):
  wpAny (model prog w) A (call (.type "zip") [.ref l1,.ref l2]) Q E s:=by
 refine callType_new PySem.F.called_zip (by decide) (PySem.F.typeCall_zip_2 _ _) (PySem.F.newCall_zip_2 _ _) (fun obj=>PySem.F.args_object_init_3 obj _ _) PySem.F.entry_zip_new
  (Kl b1 b2 l1 l2 xs ys) ⟨hl1,hl2,?_⟩
 have z1:(zH1 b1 s.heap l1).objs.size=s.heap.objs.size+1:=Heap.size_push ..
 have z2:(zH2 b1 b2 s.heap l1 l2).objs.size=s.heap.objs.size+2:=by rw[Heap.size_push,z1]
 have z3:(zH3 b1 b2 s.heap l1 l2).objs.size=s.heap.objs.size+3:=by rw[Heap.size_push,z2]
 have z4:(zH4 b1 b2 s.heap l1 l2).objs.size=s.heap.objs.size+4:=by rw[Heap.size_push,z3]
 have g5:(Zq b1 b2 s.heap l1 l2).get? (zH4 b1 b2 s.heap l1 l2).objs.size=some _:=Qzq _ rfl
 have g4:(Zq b1 b2 s.heap l1 l2).get? (zH3 b1 b2 s.heap l1 l2).objs.size=some _:=QWq _ (Qzq _ rfl)
 have g3:(Zq b1 b2 s.heap l1 l2).get? (zH2 b1 b2 s.heap l1 l2).objs.size=some _:=QWq _ (QWq _ (Qzq _ rfl))
 have g2:(Zq b1 b2 s.heap l1 l2).get? (zH1 b1 s.heap l1).objs.size=some _:=QWq _ (QWq _ (QWq _ (Qzq _ rfl)))
 rw[z2,z3,z4]at g5
 rw[z1,z2]at g3
 rw[z3]at g4
 rw[z1]at g2
 rw[z4]
 have i1:uW b1 (Zq b1 b2 s.heap l1 l2) s.heap.objs.size l1 0:=by cases b1<;>exact⟨_,(QWq _ (QWq _ (QWq _ (QWq _ (Qzq _ rfl))))),rfl,rfl⟩
 exact⟨⟨_,g5,rfl⟩,h _ ⟨⟨_,_,g5,.inl rfl⟩,g3,⟨_,_,g4⟩,i1,(by cases b2<;>exact⟨_,g2,rfl,rfl⟩)⟩ (by rw[Heap.size_push,z4]) fun c o x=>
  QWq _ (QWq _ (QWq _ (QWq _ (QWq _ x))))⟩
end
def vD(h1:l1<n)(h2:l2<n):ZipApart (n+4) (n+2) (n+3) n (n+1) l1 l2:=zipApart_new h1 h2
def Inv.gR{X:Cx}{σ:L2.St}{H:Hp}{h':Heap}{ch:List Addr}(I:Inv X γ σ H s)(k:∀b o,b∉ch->s.heap.get? b=some o->h'.get? b=some o)(hf:∀b∈ch,dC X γ H b):
  Inv X γ σ H {s with heap:=h',toks:=t'}:=by
 have nit:∀b u,H b=some u->b∉ch:=fun b u e z=>by rw[(hf b z).1]at e;cases e
 refine I.step (fun b hb=>⟨(hf b hb).2.2.2.1,(hf b hb).2.1,(hf b hb).2.2.2.2.1,(hf b hb).2.2.2.2.2⟩) (fun b o _ _ hc e _=>k b o hc e) (fun b o _ _ hc e _=>⟨o.slots,k b o hc e⟩) (fun _ _ _ _ n=>n)
  (fun b o hc e=>⟨o,k b o hc e⟩) (fun _ _ e=>e) (fun _ _ _ e=>e) (fun b ps e=>⟨#[],by rw[e];simp⟩) (fun m hm=>?_) (fun b u e=>?_) I.bare
 ·obtain⟨o,es,ep,ho,r⟩:=hm
  exact⟨o,es,ep,k _ o (fun z=>(hf _ z).2.1 rfl) ho,r⟩
 ·refine(I.hok b u e).stay (fun c v hc q=>k c v ?_ q) (fun _ q=>q) fun _ _ q=>q
  rcases hc with z|z
  ·rw[z];exact nit b u e
  ·exact nit c _ z
def Inv.HR{X:Cx}{σ:L2.St}{H:Hp}{h':Heap}{ch:List Addr}{a:Addr}(I:Inv X γ σ H s)(k:∀b o,b∉ch->s.heap.get? b=some o->h'.get? b=some o)(hf:∀b∈ch,dC X γ H b)
  (ha:s.heap.objs.size<=a)(new:dq X.prog X.w (upd H a u) h' a u):Inv X γ σ (upd H a u) {s with heap:=h',toks:=t'}:=by
 have nit:∀b u,H b=some u->b∉ch:=fun b u e z=>by rw[(hf b z).1]at e;cases e
 have ne:∀b w,H b=some w->b≠a:=fun b w e z=>by subst z;rw[I.hok.fresh ha]at e;cases e
 refine I.step (fun b hb=>⟨(hf b hb).2.2.2.1,(hf b hb).2.1,(hf b hb).2.2.2.2.1,(hf b hb).2.2.2.2.2⟩) (fun b o _ _ hc e _=>k b o hc e) (fun b o _ _ hc e _=>⟨o.slots,k b o hc e⟩)
  (fun b o _ e n=>by rw[au (Qvz (Qvq (Qqz e) ha))];exact n)
  (fun b o hc e=>⟨o,k b o hc e⟩) (fun b xs e=>by rw[au (ne b _ e)];exact e) (fun b o w e=>by rw[au (ne b _ e)];exact e) (fun b ps e=>⟨#[],by rw[au (ne b _ e),e];simp⟩) (fun m hm=>?_) (fun b w e=>?_) I.bare
 ·obtain⟨o,es,ep,ho,r⟩:=hm
  exact⟨o,es,ep,k _ o (fun z=>(hf _ z).2.1 rfl) ho,r⟩
 ·by_cases hb:b=a
  ·subst hb
   rw[aB]at e
   cases e
   exact new
  ·rw[au hb]at e
   refine(I.hok b w e).stay (fun c v hc q=>k c v ?_ q) (fun c q=>by rw[au (ne c _ q)];exact q) fun c xs q=>by rw[au (ne c _ q)];exact q
   rcases hc with z|z
   ·rw[z];exact nit b w e
   ·exact nit c _ z
def Qo(K:QQq)(b:Bool)(H:Hp)(l:Addr)(vs:List V):Prop:=match b with|true=>Qu K H l vs|false=>jU K H l vs
def bV.xK{K:QQq}{b:Bool}{l:Addr}(p:bV H H')(h:Qo K b H l vs):Qo K b H' l vs:=by
 cases b with
 |true=>exact p.Vz h
 |false=>exact p.WM h
def Inv.xK{X:Cx}{σ:L2.St}{H:Hp}{b:Bool}{l:Addr}(I:Inv X γ σ H s)(h:Qo X.K b H l vs):∃its:List Value,Vals vs its/\zc b s.heap l its.toArray/\vs.length<=sizeLine/\l<s.heap.objs.size:=by
 cases b with
 |true=>
  obtain⟨its,r,p,z⟩:=I.list (Qu.sq h)
  obtain⟨o,e,_⟩:=p.isList
  exact⟨its,r,p.isList,z,Qqz e⟩
 |false=>
  obtain⟨its,r,p,z⟩:=I.tuple h
  obtain⟨o,e,_⟩:=id p
  exact⟨its,r,p,z,Qqz e⟩
noncomputable def Itz(K:QQq)(b1 b2:Bool)(l1 l2:Addr)(vs ws:List V):It:=
 ⟨fun i H=>Qo K b1 H l1 vs/\Qo K b2 H l2 ws/\∃v u,vs[i]? =some v/\ws[i]? =some u,
  fun i H x H'=>∃p v u,H p=none/\x=.ref p/\vs[i]? =some v/\ws[i]? =some u/\H'=upd H p (.tup [v,u]),
  fun i H=>Qo K b1 H l1 vs/\Qo K b2 H l2 ws/\(vs.length<=i\/ws.length<=i)⟩
theorem kE{w:World}{K:QQq}{z TI TO i1 i2 l1 l2:Addr}{b1 b2:Bool}(D:ZipApart z TI TO i1 i2 l1 l2):
  Turn P w K tg (Itz K b1 b2 l1 l2 vs ws) [z,TI,TO,i1,i2] z (fun i h=>BL z TI TO i1 i2 b1 b2 l1 l2 i h) where
 mem:=by simp
 obj:=fun i h st b hb=>by
  obtain⟨f0,f1,zr,_⟩:=st.zr
  obtain⟨x,y,to⟩:=st.to
  simp only[QCq,QAz,or_false]at hb
  rcases hb with rfl|rfl|rfl|rfl|rfl
  ·exact⟨_,zr,fun v z=>by cases z⟩
  ·exact⟨_,st.ti,fun v z=>by cases z⟩
  ·exact⟨_,to,fun v z=>by cases z⟩
  ·exact st.it1.obj
  ·exact st.it2.obj
 keep:=fun i h h' st k=>by
  obtain⟨f0,f1,zr,hf⟩:=st.zr
  obtain⟨x,y,to⟩:=st.to
  exact⟨⟨f0,f1,k z (by simp) _ zr,hf⟩,k TI (by simp) _ st.ti,⟨x,y,k TO (by simp) _ to⟩,st.it1.at fun o e=>k i1 (by simp) o e,st.it2.at fun o e=>k i2 (by simp) o e⟩
 item:=by
  intro X hP hw hK hc i γ s σ H E I hf st hg
  subst hP hw hK
  obtain⟨hq1,hq2,v,u,ev,eu⟩:=hg
  obtain⟨its,r1,p1,_,_⟩:=Inv.xK I hq1
  obtain⟨its2,r2,p2,_,_⟩:=Inv.xK I hq2
  obtain⟨x,ex,rx⟩:=r1.get ev
  obtain⟨y,ey,ry⟩:=r2.get eu
  obtain⟨f0,f1,zr,h0⟩:=st.zr
  obtain⟨a,b,to⟩:=st.to
  refine q9 D zr h0 st.ti to st.it1 st.it2 p1 p2 (by simpa using ex) (by simpa using ey) fun h' T=>?_
  obtain⟨g0,g1,zr',h0'⟩:=T.zr
  refine⟨_,rfl,Jp zr' h0' fun h'' q0 zr'' hq0 sb=>?_⟩
  have f1':∀b∈[z,TO,i1,i2],dC X γ H b:=fun b hb=>hf b (by
   simp only[QCq,QAz,or_false]at hb⊢
   rcases hb with h|h|h|h<;>simp[h])
  have kk:∀b o,b∉[z,TO,i1,i2]->s.heap.get? b=some o->h''.get? b=some o:=fun b o hb e=>by
   simp only[QCq,QAz,or_false,not_or]at hb
   exact sb.extBut _ _ hb.1 (T.keep b o hb.1 hb.2.1 hb.2.2.1 hb.2.2.2 e)
  have new'':=sb.extBut _ _ (by
   obtain⟨q,e,_⟩:∃q,s.heap.get? z=some q/\True:=⟨_,zr,trivial⟩
   exact Nat.ne_of_gt (Qqz e)) T.new
  have I1:Inv X γ σ (upd H s.heap.objs.size (.tup [v,u])) {s with heap:=h''}:=by
   refine Inv.HR I kk f1' (QVz _) ⟨by show 2<=sizeLine;rw[sizeLine_eq];decide,[x,y],.cons rx (.cons ry .nil),_,new'',rfl,rfl,_,rfl⟩
  refine⟨.ref s.heap.objs.size,upd H s.heap.objs.size _,I1,rfl,⟨_,v,u,I.hok.fresh (QVz _),rfl,ev,eu,rfl⟩,?_,fun b hb=>?_⟩
  ·have up:∀c o,c≠z->h'.get? c=some o->h''.get? c=some o:=fun c o hcz e=>sb.extBut _ _ hcz e
   obtain⟨a',b',to'⟩:=T.to
   exact⟨⟨q0,g1,zr'',hq0⟩,up _ _ D.TIz T.ti,⟨a',b',up _ _ D.TOz to'⟩,T.it1.at fun o e=>up _ o D.i1z e,T.it2.at fun o e=>up _ o D.i2z e⟩
  ·have lt:b<s.heap.objs.size:=by
    simp only[QCq,QAz,or_false]at hb
    rcases hb with rfl|rfl|rfl|rfl|rfl
    ·exact Qqz zr
    ·exact Qqz st.ti
    ·exact Qqz to
    ·exact st.it1.lt
    ·exact st.it2.lt
   rw[au (Qvz lt)]
   exact(hf b hb).1
 done:=by
  intro X hP hw hK hc i γ s σ H E I hf st hg
  subst hP hw hK
  obtain⟨hq1,hq2,hend⟩:=hg
  obtain⟨its,r1,p1,_,_⟩:=Inv.xK I hq1
  obtain⟨its2,r2,p2,_,_⟩:=Inv.xK I hq2
  have l1:=r1.length
  have l2:=r2.length
  obtain⟨f0,f1,zr,h0⟩:=st.zr
  obtain⟨a,b,to⟩:=st.to
  refine sY (I.ok.hd hc) D zr h0 st.ti to st.it1 st.it2 p1 p2 ?_ fun h' kk=>⟨rfl,?_⟩
  ·rcases hend with h|h
   ·exact .inl (by simp;omega)
   ·exact .inr (by simp;omega)
  ·refine Inv.gR (ch:=[z,TO,i1,i2]) I (fun b o hb e=>?_) fun b hb=>hf b (by
    simp only[QCq,QAz,or_false]at hb⊢
    rcases hb with h|h|h|h<;>simp[h])
   simp only[QCq,QAz,or_false,not_or]at hb
   exact kk b o hb.1 hb.2.1 hb.2.2.1 hb.2.2.2 e
 self:=fun A i s Q E st h=>by
  obtain⟨f0,f1,zr,h0⟩:=st.zr
  exact jD zr h
end Mini
end
section
namespace Mini
open PySem L2
theorem rP:∀{xs ys:List D}{i:Nat}{d:D},(aV xs ys)[i]? =some d->∃x y,xs[i]? =some x/\ys[i]? =some y/\d=.tup [x,y]
 |[],_,i,d,h=>by simp[aV]at h
 |_::_,[],i,d,h=>by simp[aV]at h
 |x::xs,y::ys,0,d,h=>by simp[aV]at h;exact⟨x,y,rfl,rfl,h.symm⟩
 |x::xs,y::ys,i+1,d,h=>by
  rw[aV,List.getElem?_cons_succ]at h
  simpa using rP h
theorem rO:∀(xs ys:List D),(aV xs ys).length=min xs.length ys.length
 |[],ys=>by simp[aV]
 |_::_,[]=>by simp[aV]
 |x::xs,y::ys=>by rw[aV,QBq,rO xs ys,QBq,QBq];omega
theorem wM{H:Hp}{b1 b2:Bool}{vs ws:List V}(h1:Qo K b1 H l1 vs)(h2:Qo K b2 H l2 ws)(d1:ak K H xs vs)(d2:ak K H ys ws)(hz:vs.length<=sizeLine):
  Gives K (Itz K b1 b2 l1 l2 vs ws) (aV xs ys) H where
 go:=fun H1 p i d e=>by
  obtain⟨x,y,ex,ey,_⟩:=rP e
  obtain⟨v,ev,_⟩:=d1.get ex
  obtain⟨u,eu,_⟩:=d2.get ey
  exact⟨p.xK h1,p.xK h2,v,u,ev,eu⟩
 yld:=fun H1 p i d e x H2 y=>by
  obtain⟨a,v,u,hn,rfl,ev,eu,rfl⟩:=y
  obtain⟨dx,dy,ex,ey,rfl⟩:=rP e
  obtain⟨v',ev',dv⟩:=d1.get ex
  obtain⟨u',eu',du⟩:=d2.get ey
  rw[ev]at ev'
  rw[eu]at eu'
  cases ev'
  cases eu'
  have pp:bV H1 (upd H1 a (.tup [v,u])):=by
   refine⟨fun b xs q=>?_,fun b o w q=>?_⟩
   ·rw[au (fun z=>by subst z;rw[hn]at q;cases q)];exact q
   ·rw[au (fun z=>by subst z;rw[hn]at q;cases q)];exact q
  exact⟨fD (.inl (.inl aB)) (ak.bF ((dv.mono p).mono pp) (ak.bF ((du.mono p).mono pp) ak.eY)),.inr ⟨a,_,hn,rfl⟩⟩
 stop:=fun H1 p i hi=>by
  rw[rO]at hi
  have:=d1.length
  have:=d2.length
  exact⟨p.xK h1,p.xK h2,by omega⟩
 len:=by rw[rO];have:=d1.length;omega
def bj.xK{H:Hp}{xs:List D}(h:bj K H d v)(e:bM d=some xs):∃b l vs,v=.ref l/\Qo K b H l vs/\ak K H xs vs:=by
 cases d with
 |tup ys=>cases e;obtain⟨a,vs,rfl,hq,l⟩:=cY h;exact⟨false,a,vs,rfl,hq,l⟩
 |lst ys=>cases e;obtain⟨a,vs,rfl,hq,l⟩:=dJ h;exact⟨true,a,vs,rfl,hq,l⟩
 |_=>cases e
section
def aaS{H1:Hp}(h:tI K W env r σ H R)(N:Nx K env σ H δ H1):tI K W δ r σ H1 R:=by
 obtain⟨_,h⟩:=h
 refine⟨N.gK,?_⟩
 cases r with
 |bad=>exact h
 |exc c ε=>exact fun H' N'=>h H' (N.trans N')
 |ok x ε=>
  obtain⟨d,xs,e1,e2,z⟩:=h
  exact⟨d,xs,e1,e2,fun J H' N' G=>z J H' (N.trans N') G⟩
theorem zG{f:D->Ev->Out Rv}(h:tI K W env (r.ao f) σ H R)
  (k:∀d δ v H1,Nx K env σ H δ H1->bj K H1 d v->tI K W δ (f d δ) σ H1 R->R' v H1):tD K W env r σ H R':=by
 have step:∀d δ,r.ao f=f d δ->∀v H1,Nx K env σ H δ H1->bj K H1 d v->R' v H1:=fun d δ e v H1 N D=>by
  rw[e]at h
  exact k d δ v H1 N D (aaS h N)
 obtain⟨S,h⟩:=h
 refine⟨S,?_⟩
 cases r with
 |bad=>exact h
 |exc c δ=>exact h
 |ok x δ=>
  cases x with
  |val d=>exact fun v H1 N D=>step d δ rfl v H1 N D
  |new xs=>exact fun v H1 N D=>step xs.d δ rfl v H1 N D
  |ref i=>exact h
end
section
theorem Yr(ha:GE X W c m1 a)(hb:GE X W c m2 b)(hg:Gl X "zip")(hm:X.mg "zip"=none)(hs:starEach [a,b] X.env=[(false,eval a X.env),(false,eval b X.env)])(hs2:starEach [b] X.env=[(false,eval b X.env)]):
  GI X W c (.zip m1 m2) tg (.Call (.Name "zip" p) [a,b] [] pos):=by
 intro env γ s σ H R I q
 let RR:List V->Hp->Prop:=fun vs H'=>∃ε d1 d2 xs ys v1 v2,vs=[v1,v2]/\bj X.K H' d1 v1/\bj X.K H' d2 v2/\bM d1=some xs/\bM d2=some ys/\Sat X.K ε σ H'/\∀J H2,Nx X.K ε σ H' ε H2->Gives X.K J (aV xs ys) H2->R J H2
 have go:aD X W c m1 σ H fun v1 H1=>aD X W c m2 σ H1 fun v2 H2=>RR [v1,v2] H2:=by
  refine⟨env,zG q fun d1 δ v1 H1 N1 D1 q1=>⟨δ,zG q1 fun d2 ε v2 H2 N2 D2 q2=>?_⟩⟩
  cases e1:bM d1 with
  |none=>rw[e1]at q2;exact q2.2.elim
  |some xs=>
   cases e2:bM d2 with
   |none=>rw[e1,e2]at q2;exact q2.2.elim
   |some ys=>
    rw[e1,e2]at q2
    obtain⟨S,d,zs,z1,z2,z3⟩:=q2
    cases z1
    cases z2
    exact⟨ε,d1,d2,xs,ys,v1,v2,rfl,D1.mono N2.pers,D2,e1,e2,S,z3⟩
 refine wpAny_Call_Name_kw (jJ I hg hm PyProof.Rows.boot_zip ?_ (by decide) (by decide))
 refine PyProof.Rows.callWith_type1 (cj (aC ha.d (aC hb.d bO hs2) (by rw[hs,hs2]) pos γ s σ H RR I go) fun us s1⟨vs,H1,I1,r1,q1⟩=>?_) (by rw[hs,hs2]) (by rw[hs2];rfl)
 obtain⟨ε,d1,d2,xs,ys,v1,v2,rfl,D1,D2,e1,e2,S2,q3⟩:=q1
 obtain⟨b1,l1,vs,rfl,h1,dl1⟩:=D1.xK e1
 obtain⟨b2,l2,ws,rfl,h2,dl2⟩:=D2.xK e2
 obtain⟨u1,u2,rfl,ru1,ru2⟩:=Vals.two r1
 cases ru1
 cases ru2
 obtain⟨its,rr1,p1,z1,lt1⟩:=Inv.xK I1 h1
 obtain⟨its2,rr2,p2,z2,lt2⟩:=Inv.xK I1 h2
 refine wX p1 p2 fun h' st sz kk=>?_
 obtain⟨f0,f1,zr,h0⟩:=st.zr
 refine jD zr ?_
 refine⟨s1.heap.objs.size+4,[s1.heap.objs.size+4,s1.heap.objs.size+2,s1.heap.objs.size+3,s1.heap.objs.size,s1.heap.objs.size+1],_,_,H1,rfl,I1.kept kk,kE (vD lt1 lt2),st,fun b hb=>?_,q3 _ H1 (Nx.refl S2) (wM h1 h2 dl1 dl2 z1)⟩
 have hb':s1.heap.objs.size<=b:=by
  simp only[QCq,QAz,or_false]at hb
  rcases hb with rfl|rfl|rfl|rfl|rfl<;>omega
 exact I1.uy hb' (I1.hok.fresh hb')
end
def Nx.chg{env:Ev}{H0 H:Hp}{u u':HO}(N:Nx K env σ H0 env H)(S:Sat K env σ H0)(h0:H0 d=none)(h:H d=some u)(hu:Qy u):Nx K env σ H0 env (upd H d u'):=by
 have p:=oA (u':=u') h hu
 refine⟨N.gK.keep p fun i b w ow hb=>?_,N.sub,N.pers.trans p,fun b w q n=>?_,fun b q=>?_,N.bors⟩
 ·rw[au (fun z=>by subst z;exact S.yd h0 i (N.sub i b ow))];exact hb
 ·rw[au (fun z=>by subst z;rw[h0]at q;cases q)];exact N.keep b w q n
 ·refine N.dom b ?_
  by_cases hb:b=d
  ·subst hb;rw[aB]at q;cases q
  ·rw[au hb]at q;exact q
def PB:Qy (.dK kvs):=by
 constructor
 all_goals (intros;intro z;cases z)
def Hv:Qy (.lst vs):=by
 constructor
 all_goals (intros;intro z;cases z)
def Cx.under(X:Cx)(A:Around):Cx:={X with A:=A}
theorem Inv.under{A:Around}{σ:St}{H:Hp}(I:Inv X γ σ H s)(h1:A.handled=X.A.handled)(h2:A.frames=X.A.frames):Inv (Cx.under X A) γ σ H s:=
 ⟨⟨I.ok.mod,I.ok.kind,I.ok.glob,I.ok.blt,I.ok.above,I.ok.inj,I.ok.has,I.ok.cab,fun hc=>h1.trans (I.ok.hd hc),h2.trans I.ok.frames,I.ok.stk,I.ok.exf,I.ok.bs,I.ok.bsz,I.ok.noex,I.ok.exfs,I.ok.mQ,I.ok.frf⟩,
  I.os,I.bare,I.base,I.loc,I.cell,I.free,I.freeC,I.pin,I.hok,I.len⟩
def Inv.back{A:Around}{σ:St}{H:Hp}(I:Inv (Cx.under X A) γ σ H s)(h1:X.A.handled=A.handled)(h2:X.A.frames=A.frames):Inv X γ σ H s:=
 Inv.under (X:=Cx.under X A) I h1 h2
def mq{M:Model}{β:Type}{p:Pos}{m:Sem β}{Q:β->Shared->Prop}{E:QZq}
  (h:wpAny M A (letOwnedTupleGo (.Name x p) it u) (fun _ s=>wpAny M A m Q E s) E s):wpAny M A m Q E s:=by
 have:=QKq h
 exact this
def jZ:entryFor table "dict.update.loop"=some Builtin.«dict.update.loop»:=entryFor_of_tree (by kernel_rfl)
def fJ:plainId "dict.update.loop"=true:=by decide+kernel
def Bp{d:D}(h:dictOf ks vs (d::r)=some p):∃k v,d=.tup [k,v]/\keyOk k=true/\dictOf (putD k v ks vs).1 (putD k v ks vs).2 r=some p:=by
 unfold dictOf at h
 split at h
 ·rename_i e;cases e
 ·rename_i k v r' e
  cases e
  split at h
  ·rename_i hk
   exact⟨k,v,rfl,hk,h⟩
  ·cases h
 ·cases h
def Hn{xs:List D}(h:i<xs.length):∃d,xs[i]? =some d/\xs.drop i=d::xs.drop (i+1):=⟨xs[i],QXq h,List.drop_eq_getElem_cons h⟩
section
theorem JQ(hA:X.A=A.in1)(hc:X.calm=true)(T:Turn X.prog X.w X.K (.Name x p) J fp it tn)(G:Gives X.K J xs H1)(S:Sat X.K env τ H0)(h0:H0 d=none)
  (fin:∀s H,Inv X γ σ H s->Nx X.K env τ H0 env H->j7 X.K H (.dct ks' vs') d->R (.ok (.ret .none)) s):
  ∀(n i:Nat)(s:Shared)(H:Hp)(kvs:List (Key×V))(vs:List D),xs.length-i=n->Inv X γ σ H s->(∀b∈fp,dC X γ H b)->tn i s.heap->bV H1 H->Nx X.K env τ H0 env H->H d=some (.dK kvs)->
   ak X.K H vs (kvs.map (·.2))->dictOf (kvs.map fun q=>dO q.1) vs (xs.drop i)=some (ks',vs')->kvs.length<=i->i<=xs.length->
   codeAny (model X.prog X.w) A (.builtin "dict.update.loop" ⟨[.ref d,.ref it,rawInt ((i:Nat):Int),.none],[]⟩) R s:=by
 intro n
 induction n with
 |zero=>
  intro i s H kvs vs hn I hf st P N hd dl ho hk hi
  refine codeAny_builtin jZ ?_
  rw[Around.under_plainId fJ _,<-hA]
  refine QKq (QGq (T.done X rfl rfl rfl hc i γ s σ H _ I hf st (G.stop H P i (by omega))) (fun r s1 h=>?_) fun _ _ h=>h)
  obtain⟨rfl,I1⟩:=h
  rw[List.drop_eq_nil_of_le (by omega)]at ho
  cases ho
  exact QKq (QKz (QKz (fin s1 H I1 N ⟨_,hd,kvs,rfl,rfl,dl⟩)))
 |succ n ih=>
  intro i s H kvs vs hn I hf st P N hd dl ho hk hi
  have hlt:i<xs.length:=by omega
  obtain⟨dd,ed,edr⟩:=Hn hlt
  rw[edr]at ho
  obtain⟨k,v,rfl,hkk,ho'⟩:=Bp ho
  refine codeAny_builtin jZ ?_
  rw[Around.under_plainId fJ _,<-hA]
  refine QKq (QGq (T.item X rfl rfl rfl hc i γ s σ H _ I hf st (G.go H P i _ ed)) (fun r s1 h=>?_) fun _ _ h=>h)
  obtain⟨u,rfl,h⟩:=h
  refine mq (QGq h (fun _ s2 h2=>?_) fun _ _ h=>h)
  obtain⟨y,H',I',ry,yl,st',nf⟩:=h2
  obtain⟨Dy,hH⟩:=G.yld H P i _ ed y H' yl
  obtain⟨a,ws,rfl,hq,l⟩:=cY Dy
  cases ry
  obtain⟨vk,r1,rfl,Dk,l⟩:=ak.aX.mp l
  obtain⟨vv,r2,rfl,Dv,l⟩:=ak.aX.mp l
  have:=ak.bJ.mp l
  subst this
  obtain⟨kk,rfl⟩:=ie hkk
  have ek:=mF Dk
  subst ek
  obtain⟨its,rr,pt,_⟩:=I'.tuple hq
  obtain⟨uk,uv,rfl,rk,rv⟩:=Vals.two rr
  obtain⟨o,eo,ec,nn,edt⟩:=pt
  have N':Nx X.K env τ H0 env H'/\bV H H'/\H' d=some (.dK kvs):=by
   rcases hH with rfl|⟨q,ws,hq0,rfl⟩
   ·exact⟨N,bV.refl _,hd⟩
   ·have NL:=Nx.laid (o:=.tup ws) N.gK hq0
    exact⟨N.trans NL,NL.pers,by rw[au (fun z=>by subst z;rw[hq0]at hd;cases hd)];exact hd⟩
  obtain⟨N',PP,hd'⟩:=N'
  refine QKq (Qqq ?_)
  refine QKq (wpAny_tryCatch ?_)
  have hty:s2.TypeIs (.ref a) "tuple":=⟨o,eo,ec⟩
  refine QKq (wpAny_typeOf hty ?_)
  refine QKq (wpAny_seqItems eo edt (QKz ?_))
  refine Qqq ?_
  obtain⟨z,hds,vvs,rel,dd⟩:=Pj I'.hok hd'
  have hz:vvs.length<=sizeLine:=by rw[<-rel.length];exact z
  have hG:=G.len
  have hl:(putK kvs kk vv).length<=i+1:=by have:=qI kvs kk vv;omega
  refine wpAny_dictSet_pairs (ue rk) dd fun h' dd' hs=>?_
  have he:∃q,h'.get? d=some q:=let ⟨q,_,_,hq,_⟩:=dd';⟨q,hq⟩
  have I2:Inv X γ σ (upd H' d (.dK (putK kvs kk vv))) {s2 with heap:=h',toks:=s2.toks+1}:=yM I' (by rw[hd'];exact True.intro) hs he (El (by omega) hds (rel.put kk rv) dd')
  have N2:=Nx.chg (u':=.dK (putK kvs kk vv)) N' S h0 hd' PB
  have p2:=oA (u':=.dK (putK kvs kk vv)) hd' PB
  obtain⟨g1,g2⟩:=Gq Dv (dl.mono PP)
  refine QKz ⟨plainId_quiet fJ _,?_⟩
  refine ih (i+1) _ _ (putK kvs kk vv) _ (by omega) I2 (fun b hb=>?_) (T.keep _ _ _ st' fun b hb o e=>?_) ((P.trans PP).trans p2) N2 aB (g2.mono p2) ?_ hl (by omega)
  ·have nb:b≠d:=fun e=>by subst e;rw[nf b hb]at hd';cases hd'
   exact⟨by rw[au nb];exact nf b hb,(hf b hb).2⟩
  ·have nb:b≠d:=fun e=>by subst e;rw[nf b hb]at hd';cases hd'
   exact(hs.2 b nb).trans e
  ·rw[<-g1];exact ho'
end
section
variable{E:QZq}
def uI(hc:X.calm=true)(I:Inv X γ σ H s)(S:Sat X.K env τ H)(ho:s.heap.get? o=some ob)(hcl:ob.cls=.type T)(hT:(T !="dict")=true)(hd:dictOf [] [] xs=some pr)
  (hkey:∀(s1:Shared)(E:QZq)(Q:Option Value->Shared->Prop),s1.heap.get? o=some ob->(∀h' tk,(∀b u,s1.heap.get? b=some u->h'.get? b=some u)->Q none {s1 with heap:=h',toks:=tk})->
   wpAny (model X.prog X.w) X.A.in1.in1 (getAttr? (.ref o) "keys") Q E s1)
  (hit:∀(s1:Shared)(u:HO)(E:QZq)(Q:QZq),Inv (Cx.under X X.A.in1.in1) γ σ (upd H s.heap.objs.size u) s1->Nx X.K env τ H env (upd H s.heap.objs.size u)->(∀b u,s.heap.get? b=some u->s1.heap.get? b=some u)->
   (∀s2 it fp tn J,Inv (Cx.under X X.A.in1.in1) γ σ (upd H s.heap.objs.size u) s2->Turn X.prog X.w X.K (.Name x p) J fp it tn->tn 0 s2.heap->(∀b∈fp,dC X γ (upd H s.heap.objs.size u) b)->Gives X.K J xs (upd H s.heap.objs.size u)->Q (.ref it) s2)->
   wpAny (model X.prog X.w) X.A.in1.in1 (pyIter (.ref o)) Q E s1)
  (h:∀a s' H',Inv X γ σ H' s'->Nx X.K env τ H env H'->j7 X.K H' (.dct pr.1 pr.2) a->H a=none->Q (.ref a) s'):
  wpAny (model X.prog X.w) X.A (call (.type "dict") [.ref o]) Q E s:=by
 refine callType_codes (Q₁:=fun obj θ=>obj=.ref s.heap.objs.size/\θ={s with heap:=s.heap.push {cls:=.type "dict",data:=.dict #[]}}) PySem.F.kt_called_dict (PySem.F.kt_typeCall_dict_1 _) PySem.F.entry_dict_init (kt_code_dict_new _ ⟨rfl,rfl⟩) ?_
 rintro obj θ ⟨rfl,rfl⟩
 have hnew:(s.heap.push {cls:=.type "dict",data:=.dict #[]}).DictOf (fV X.prog X.w) s.heap.objs.size []:=Heap.DictOf.new s.heap
 have k1:∀b u,s.heap.get? b=some u->(s.heap.push {cls:=.type "dict",data:=.dict #[]}).get? b=some u:=fun _ _ q=>QWq _ q
 have hfr:=I.hok.fresh (QVz _)
 have N1:=Nx.laid (o:=.dK []) S hfr
 refine⟨hnew.typeIs,PySem.F.args_dict_init_2 _ _,?_⟩
 refine QKq ?_
 refine QKq (wpAny_notOrdered_dict hnew.typeIs ?_)
 refine QKz ?_
 show wpAny _ _ _ _ _ _
 refine QKq (wpAny_typeOf ⟨ob,k1 o ob ho,hcl⟩ ?_)
 have ht:((Value.type T) !=(Value.type "dict"))=true:=by
  have:T≠"dict":=by simpa using hT
  simpa using this
 rw[if_pos ht]
 refine QKq (hkey _ _ _ (k1 o ob ho) fun h2 tk k2=>?_)
 refine QKq (wpAny_rule ?_)
 refine QKq (hit _ _ _ _ (Inv.under ((I.laid (t':=s.toks) k1 (QVz _) (Bm s.heap I.big)).kept (t':=tk) k2) rfl rfl) N1 (fun b u q=>k2 b u (k1 b u q)) fun s3 it fp tn J I3 Tn st hf G=>?_)
 exact QKq (QKz (QKz ⟨plainId_quiet fJ _,JQ (X:=Cx.under X X.A.in1.in1) rfl hc Tn G S hfr (fun s4 H4 I4 N4 O4=>⟨rfl,h _ s4 H4 (Inv.back I4 rfl rfl) N4 O4 hfr⟩) xs.length 0 s3 _ [] [] rfl I3 hf st (bV.refl _) N1 aB ak.eY hd (QVz _) (QIq _)⟩))
end
def Ca:typeLookup (.type "zip") "__len__"=pure none:=by rw[typeLookup_type,builtinLookup_eq_fast];kernel_rfl
def zf:typeLookup (.type "zip") "__length_hint__"=pure none:=by rw[typeLookup_type,builtinLookup_eq_fast];kernel_rfl
section
def Inv.abz{s:Shared}{y:V}{u:Value}{E:QZq}(I:Inv X γ σ H s)(hd:H d=some (.lst vs))(ry:RelV y u)(hz:vs.length<sizeLine)
  (h:∀h',(∀b o,b≠d->s.heap.get? b=some o->h'.get? b=some o)->Inv X γ σ (upd H d (.lst (vs++[y]))) {s with heap:=h'}->Q () {s with heap:=h'}):
  wpAny (model X.prog X.w) A (updateSeq d (·.push u)) Q E s:=by
 obtain⟨z,its,n,r,e⟩:=(I.hok d _ hd)
 have hl:=r.length
 refine wpAny_updateSeq e rfl ?_ (by show its.toArray.size<=_;rw[Qyq];omega) (by show(its.toArray.push u).size<=_;rw[Array.size_push,Qyq];omega)
 have es:=Heap.get?_update_self (Obj.mapSeq (·.push u)) e rfl
 have oth:∀b o,b≠d->s.heap.get? b=some o->(s.heap.update d (Obj.mapSeq (·.push u))).get? b=some o:=fun b o hb q=>(Heap.get?_update_other _ _ (Ne.symm hb)).trans q
 refine h _ oth (I.write (by rw[hd];exact True.intro) (.inl rfl) (fun b q hb z=>oth b q hb z) ⟨_,es⟩ ?_)
 have ea:(its++[u]).toArray=its.toArray.push u:=by simp
 exact⟨by simp;omega,its++[u],_,Vals.append r (.cons ry .nil),by rw[ea];exact es⟩
theorem Jo(hA:X.A=A.in1)(hc:X.calm=true)(T:Turn X.prog X.w X.K (.Name x p) J fp it tn)(G:Gives X.K J xs H1)(S:Sat X.K env τ H0)(h0:H0 d=none)
  (fin:∀s H,Inv X γ σ H s->Nx X.K env τ H0 env H->j7 X.K H (.lst xs) d->R (.ok (.ret .none)) s):
  ∀(n i:Nat)(s:Shared)(H:Hp)(vs:List V),xs.length-i=n->Inv X γ σ H s->(∀b∈fp,dC X γ H b)->tn i s.heap->bV H1 H->Nx X.K env τ H0 env H->H d=some (.lst vs)->
   ak X.K H (xs.take i) vs->i<=xs.length->
   codeAny (model X.prog X.w) A (.builtin "list.extend.loop" ⟨[.ref d,.ref it,.none],[]⟩) R s:=by
 intro n
 induction n with
 |zero=>
  intro i s H vs hn I hf st P N hd dl hi
  refine codeAny_builtin PySem.F.entry_extend_loop ?_
  rw[Around.under_plainId PySem.F.plain_extend_loop _,<-hA]
  refine QKq (QGq (T.done X rfl rfl rfl hc i γ s σ H _ I hf st (G.stop H P i (by omega))) (fun r s1 h=>?_) fun _ _ h=>h)
  obtain⟨rfl,I1⟩:=h
  rw[List.take_of_length_le (by omega)]at dl
  exact QKz (fin s1 H I1 N ⟨_,hd,vs,rfl,dl⟩)
 |succ n ih=>
  intro i s H vs hn I hf st P N hd dl hi
  have hlt:i<xs.length:=by omega
  obtain⟨dd,ed,edr⟩:=Hn hlt
  refine codeAny_builtin PySem.F.entry_extend_loop ?_
  rw[Around.under_plainId PySem.F.plain_extend_loop _,<-hA]
  refine QKq (QGq (T.item X rfl rfl rfl hc i γ s σ H _ I hf st (G.go H P i _ ed)) (fun r s1 h=>?_) fun _ _ h=>h)
  obtain⟨u,rfl,h⟩:=h
  refine mq (QGq h (fun _ s2 h2=>?_) fun _ _ h=>h)
  obtain⟨y,H',I',ry,yl,st',nf⟩:=h2
  obtain⟨Dy,hH⟩:=G.yld H P i _ ed y H' yl
  have N':Nx X.K env τ H0 env H'/\bV H H'/\H' d=some (.lst vs):=by
   rcases hH with rfl|⟨q,ws,hq0,rfl⟩
   ·exact⟨N,bV.refl _,hd⟩
   ·have NL:=Nx.laid (o:=.tup ws) N.gK hq0
    exact⟨N.trans NL,NL.pers,by rw[au (fun z=>by subst z;rw[hq0]at hd;cases hd)];exact hd⟩
  obtain⟨N',PP,hd'⟩:=N'
  have hG:=G.len
  have lv:=dl.length
  rw[List.length_take]at lv
  refine QKq (Inv.abz I' hd' ry (by omega) fun h' oth I2=>?_)
  have p2:=oA (u':=.lst (vs++[y])) hd' Hv
  refine QKz ⟨plainId_quiet PySem.F.plain_extend_loop _,?_⟩
  refine ih _ _ _ _ (by omega) I2 (fun b hb=>?_) (T.keep _ _ _ st' fun b hb o e=>?_) ((P.trans PP).trans p2) (Nx.chg (u':=.lst (vs++[y])) N' S h0 hd' Hv) aB ?_ (by omega)
  ·exact⟨by rw[au (fun e=>by subst e;rw[nf b hb]at hd';cases hd')];exact nf b hb,(hf b hb).2⟩
  ·exact oth b o (fun e=>by subst e;rw[nf b hb]at hd';cases hd') e
  ·have:xs.take (i+1)=xs.take i++[dd]:=by rw[List.take_add_one,ed];rfl
   rw[this]
   exact((dl.mono PP).append (ak.bF Dy ak.eY)).mono p2
end
section
variable{E:QZq}
def Fb(hc:X.calm=true)(I:Inv X γ σ H s)(S:Sat X.K env τ H)(ho:s.heap.get? o=some ob)(hcl:ob.cls=.type "zip")
  (hself:∀(s1:Shared)(E:QZq)(Q:QZq),(∀b u,s.heap.get? b=some u->s1.heap.get? b=some u)->Q (.ref o) s1->wpAny (model X.prog X.w) X.A.in1.in1 (pyIter (.ref o)) Q E s1)
  (hit:∀(s1:Shared)(u:HO),Nx X.K env τ H env (upd H s.heap.objs.size u)->(∀b u,s.heap.get? b=some u->s1.heap.get? b=some u)->
   ∃fp tn J,Turn X.prog X.w X.K (.Name x p) J fp o tn/\tn 0 s1.heap/\(∀b∈fp,dC X γ (upd H s.heap.objs.size u) b)/\Gives X.K J xs (upd H s.heap.objs.size u))
  (h:∀a s' H',Inv X γ σ H' s'->Nx X.K env τ H env H'->j7 X.K H' (.lst xs) a->H a=none->Q (.ref a) s'):
  wpAny (model X.prog X.w) X.A (call (.type "list") [.ref o]) Q E s:=by
 refine callType_codes (Q₁:=fun obj θ=>obj=.ref s.heap.objs.size/\θ={s with heap:=s.heap.push {cls:=.type "list",data:=.seq #[]}}) PySem.F.called_list (PySem.F.typeCall_list_1 _) PySem.F.entry_list_init
  (code_list_new _ ⟨rfl,rfl⟩) fun obj θ Δ=>?_
 obtain⟨rfl,rfl⟩:=Δ
 have hS:(s.heap.push {cls:=.type "list",data:=.seq #[]}).get? s.heap.objs.size=some {cls:=.type "list",data:=.seq #[]}:=Qzq _ rfl
 have hfr:=I.hok.fresh (QVz _)
 have hne:s.heap.objs.size≠o:=fun e=>absurd (Qqz ho) (by rw[e];exact Nat.lt_irrefl _)
 have oth:∀f(h':Heap)b u,b≠s.heap.objs.size->h'.get? b=some u->(h'.update s.heap.objs.size (Obj.mapSeq f)).get? b=some u:=
  fun f h' b u hb e=>(Heap.get?_update_other _ _ (Ne.symm hb)).trans e
 have old:∀b u,s.heap.get? b=some u->b≠s.heap.objs.size:=fun b u e=>Qvz (Qqz e)
 refine⟨⟨_,hS,rfl⟩,PySem.F.args_list_init_2 _ _,?_⟩
 refine QKq ?_
 refine QKq (wpAny_seqItems hS rfl (QKz ?_))
 refine QKq (wpAny_updateSeq hS rfl ?_)
 have hS₂:=Heap.get?_update_self (Obj.mapSeq (fun _=>(#[]))) hS rfl
 have k2:∀b u,s.heap.get? b=some u->((s.heap.push {cls:=.type "list",data:=.seq #[]}).update s.heap.objs.size (Obj.mapSeq (fun _=>(#[])))).get? b=some u:=fun b u e=>oth _ _ b u (old b u e) ((fun _ _ q=>QWq _ q) b u e)
 refine QKq (wpAny_letGo ?_)
 have hty:(⟨(s.heap.push {cls:=.type "list",data:=.seq #[]}).update s.heap.objs.size (Obj.mapSeq (fun _=>(#[]))),s.gens,s.drawn,s.toks,s.os⟩:Shared).TypeIs (.ref o) "zip":=⟨ob,k2 o ob ho,hcl⟩
 refine QKq (wpAny_typeOf hty ?_)
 have h1:Builtin.List.listSameRef (.ref s.heap.objs.size) (.ref o)=false:=by simp[Builtin.List.listSameRef,hne]
 have h2:(Value.type "zip"==Value.type "list")=false:=by decide
 have h3:(Value.type "zip"==Value.type "tuple")=false:=by decide
 simp only[h1,h2,h3,Bool.or_false,Qxq,if_false]
 refine QKq (hself _ _ _ k2 ?_)
 refine QKq (Qqq ?_)
 refine QKq (wpAny_specialOf hty Ca ?_)
 refine QKq (wpAny_specialOf hty zf ?_)
 refine QKz ?_
 refine QKq (wpAny_rule ?_)
 refine QKq ?_
 refine QKq (wpAny_updateSeq hS₂ rfl ?_)
 have hS₃:=Heap.get?_update_self (Obj.mapSeq (·.push Value.none)) hS₂ rfl
 refine wpAny_updateSeq hS₃ rfl ?_
 have k4:∀b u,s.heap.get? b=some u->((((s.heap.push {cls:=.type "list",data:=.seq #[]}).update s.heap.objs.size (Obj.mapSeq (fun _=>(#[])))).update s.heap.objs.size (Obj.mapSeq (·.push Value.none))).update s.heap.objs.size (Obj.mapSeq (·.pop))).get? b=some u:=
  fun b u e=>oth _ _ b u (old b u e) (oth _ _ b u (old b u e) (k2 b u e))
 have N1:=Nx.laid (o:=.lst []) S hfr
 obtain⟨fp,tn,J,Tn,st,hf,G⟩:=hit {s with heap:=_} _ N1 k4
 refine QKz ⟨plainId_quiet PySem.F.plain_extend_loop _,?_⟩
 exact Jo (X:=Cx.under X X.A.in1.in1) rfl hc Tn G S hfr (fun s4 H4 I4 N4 O4=>⟨rfl,h _ s4 H4 (Inv.back I4 rfl rfl) N4 O4 hfr⟩) xs.length 0 _ _ [] rfl (Inv.under (I.laid (o:=.lst []) (t':=s.toks) k4 (QVz _) ⟨QIq _,[],_,.nil,Heap.get?_update_self (Obj.mapSeq (·.pop)) hS₃ rfl⟩) rfl rfl) hf st (bV.refl _) N1 aB ak.eY (QIq _)
end
end Mini
end
section
namespace Mini
open PySem L2 PyProof.Rows
section
variable{X:Cx}{γ:QQz}{σ:L2.St}{H:Hp}{s:Shared}{b:Addr}{o:Obj}
def Inv.lr(I:L2.Inv X γ σ H s)(f:dC X γ H b)(e:s.heap.get? b=some o)(hn:∀v,o.data≠ .cell v):L2.Inv X (γ++[(b,o)]) σ H s:=
 I.xV fun p hp=>by
  rcases QXz.mp hp with hp|hp
  ·exact I.pin p (QVq _ hp)
  ·rw[QDz.mp hp]
   exact⟨e,f.1,f.2.1,f.2.2.1,hn⟩
def dC.lr(f:dC X γ H c)(h:b≠c):dC X (γ++[(b,o)]) H c:=
 ⟨f.1,f.2.1,f.2.2.1,f.2.2.2.1,f.2.2.2.2.1,fun p hp=>by
  rcases QXz.mp hp with hp|hp
  ·exact f.2.2.2.2.2 p (QWz _ hp)
  ·rcases QXz.mp hp with hp|hp
   ·exact f.2.2.2.2.2 p (QVq _ hp)
   ·rw[QDz.mp hp];exact h⟩
def Inv.last(I:L2.Inv X (γ++[(b,o)]) σ H s):s.heap.get? b=some o:=(I.pin (b,o) (QVq _ (QVq _ (.head _)))).1
end
section
variable{X:Cx}{A:Around}{γ:QQz}{σ:L2.St}{H:Hp}{l it S q:Addr}{xs:List V}{R:Result->Shared->Prop}{kf:Nat->Int}
theorem Nf(hA:X.A=A.in1)(hc:X.calm=true)(hl:H l=some (.lst xs))(hSI:S≠it)
  (turn:∀(i:Nat)(v:V)(u:Value)(ο:QQz)(s:Shared),xs[i]? =some v->L2.Inv X ο σ H s->RelV v u->wpAny (model X.prog X.w) X.A (call (.ref q) [u]) (EP X ο σ (fun r H'=>r=.int (kf i)/\H'=H)) (fun _ _=>False) s)
  (fin:∀(i:Nat)(v:V)(u:Value)(s:Shared),xs[i]? =some v->(∀j,j<xs.length->kf i<=kf j/\(j<i->kf i<kf j))->L2.Inv X γ σ H s->RelV v u->R (.ok (.ret u)) s):
  ∀(r j i:Nat)(s:Shared)(vb:V)(ub:Value)(tb:Tok)(c:Nat),xs.length- (j+1)=r->j+1<=xs.length->L2.Inv X γ σ H s->dC X γ H it->dC X γ H S->s.heap.IsListIter it l (j+1)->
   s.heap.get? S=some (seqObj "list" #[ub,.int (kf i) tb] c)->xs[i]? =some vb->RelV vb ub->i<=j->(∀j',j'<=j->kf i<=kf j'/\(j'<i->kf i<kf j'))->
   codeAny (model X.prog X.w) A (.builtin "min.loop" ⟨[.ref it,.ref q,.ref S],[]⟩) R s:=by
 have hname:(toString "min"++toString ".loop":String)="min.loop":=by decide
 have T:=jg (P:=X.prog) (w:=X.w) (K:=X.K) (tg:=.Name "x" ⟨0,0,0,0⟩) l it
 intro r
 induction r with
 |zero=>
  intro j i s vb ub tb c hr hj I fI fS st eS hvb rb hij best
  refine codeAny_builtin PySem.F.entry_min_loop ?_
  rw[Around.under_plainId PySem.F.plain_min_loop _,<-hA]
  show wpAny _ X.A (seqItems? (.ref S)>>=_) _ _ _
  refine QKq (wpAny_seqItems eS rfl ?_)
  show wpAny _ X.A (tryCatch (pyNext (.ref it)) _>>=_) _ _ _
  have I1:=Inv.lr I fS eS (fun v z=>by cases z)
  refine QKq (wpAny_tryCatch (QGq (T.done X rfl rfl rfl hc (j+1) _ s σ H _ I1 (fun b hb=>by rw[QDz.mp hb];exact dC.lr fI hSI) st ⟨xs,.inl (.inl hl),by omega⟩) (fun r s1 h=>?_) fun _ _ h=>h))
  obtain⟨rfl,I2⟩:=h
  have e2:=Inv.last I2
  show wpAny _ X.A (updateSeq S (fun _=> #[])>>=_) _ _ _
  refine QKq ?_
  refine wpAny_updateSeq e2 rfl (QKq (wpAny_letGo (QKz ?_)))
  have s3:=Heap.SameBut.update s1.heap S (Obj.mapSeq fun _=>(#[]:Array Value))
  exact fin i vb ub _ hvb (fun j' hj'=>best j' (by omega)) (Inv.gR (ch:=[S]) I2.cV (fun b o hb e=>(s3.2 b (by simpa using hb)).trans e) (fun b hb=>by rw[QDz.mp hb];exact fS)) rb
 |succ r ih=>
  intro j i s vb ub tb c hr hj I fI fS st eS hvb rb hij best
  have hlt:j+1<xs.length:=by omega
  refine codeAny_builtin PySem.F.entry_min_loop ?_
  rw[Around.under_plainId PySem.F.plain_min_loop _,<-hA]
  show wpAny _ X.A (seqItems? (.ref S)>>=_) _ _ _
  refine QKq (wpAny_seqItems eS rfl ?_)
  have I1:=Inv.lr I fS eS (fun v z=>by cases z)
  obtain⟨v,hv⟩:∃v,xs[j+1]? =some v:=⟨xs[j+1],QXq hlt⟩
  refine QKq (wpAny_tryCatch (QGq (T.item X rfl rfl rfl hc (j+1) _ s σ H (fun _ _=>False) I1 (fun b hb=>by rw[QDz.mp hb];exact dC.lr fI hSI) st ⟨xs,v,.inl (.inl hl),hv⟩) (fun r s1 h=>?_) fun _ _ h=>h.elim))
  obtain⟨u,rfl,h⟩:=h
  refine mq (QGq h (fun _ s2 h2=>?_) fun _ _ h=>h.elim)
  obtain⟨y,H',I2,ry,⟨rfl,yl⟩,st2,nf⟩:=h2
  have ev:=QEq ((yl xs (.inl (.inl hl))).symm.trans hv)
  subst ev
  obtain⟨oI,eI,cI,dI⟩:=id st2
  have I3:=Inv.lr I2 (dC.lr (o:=seqObj "list" #[ub,.int (kf i) tb] c) fI hSI) eI (fun v z=>by rw[dI]at z;cases z)
  refine QKq (wpAny_tryCatch (Qqq (QGq (turn (j+1) y u _ s2 hv I3 ry) (fun x s3 he=>?_) fun _ _ hF=>hF.elim)))
  obtain⟨z,H3,I4,rz,rfl,rfl⟩:=he
  obtain⟨t2,rfl⟩:=(show∃t,x=Value.int (kf (j+1)) t from rz)
  have eI4:=Inv.last I4
  have eS4:=Inv.last I4.cV
  have I5:=I4.cV.cV
  have st4:s3.heap.IsListIter it l (j+1+1):=⟨oI,eI4,cI,dI⟩
  refine QKq (wpAny_tryCatch (Qqq (QKq (CmpOf.ints_lt (prog:=X.prog) (w:=X.w) (A:=X.A) (P:=fun i v=>∃t,v=.int (kf i) t) kf (fun i v h=>h) (j+1) i _ _ _ _ _ ⟨t2,rfl⟩ ⟨tb,rfl⟩ ?_))))
  refine QKq (Qqq (wpAny_truthy_bool ?_))
  refine QKq (wpAny_letGo (QKz ?_))
  by_cases hb:kf (j+1)<kf i
  ·have s5:=Heap.SameBut.update s3.heap S (Obj.mapSeq fun _=> #[u,.int (kf (j+1)) t2])
   obtain⟨c2,hc2⟩:∃c2,(s3.heap.update S (Obj.mapSeq fun _=> #[u,.int (kf (j+1)) t2])).get? S=some (seqObj "list" #[u,.int (kf (j+1)) t2] c2):=⟨_,get?_update_seq eS4 fun _=> #[u,.int (kf (j+1)) t2]⟩
   simp only[hb,decide_true,if_true]
   refine QKq ?_
   refine wpAny_updateSeq eS4 rfl (QKq (wpAny_letGo ?_))
   rw[hname]
   refine QKz ⟨plainId_quiet PySem.F.plain_min_loop _,?_⟩
   refine ih (j+1) (j+1) _ y u t2 c2 (by omega) hlt (Inv.gR (ch:=[S]) I5 (fun b o hb e=>(s5.2 b (by simpa using hb)).trans e) (fun b hb=>by rw[QDz.mp hb];exact fS)) fI fS ⟨oI,(s5.2 it (Ne.symm hSI)).trans eI4,cI,dI⟩ hc2 hv ry (QVz _) fun j' hj'=>?_
   by_cases e:j'=j+1
   ·subst e
    exact⟨by omega,fun _=>by omega⟩
   ·have b1:=best j' (by omega)
    have b2:=b1.1
    exact⟨by omega,fun _=>by omega⟩
  ·simp only[hb,decide_false,Qxq,if_false]
   refine QKq (wpAny_letGo ?_)
   rw[hname]
   refine QKz ⟨plainId_quiet PySem.F.plain_min_loop _,?_⟩
   refine ih (j+1) i _ vb ub tb c (by omega) hlt (I5.tok _) fI fS st4 eS4 hvb rb (by omega) fun j' hj'=>?_
   by_cases e:j'=j+1
   ·subst e
    exact⟨by omega,fun _=>by omega⟩
   ·exact best j' (by omega)
end
section
variable{X:Cx}{A:Around}{γ:QQz}{σ:L2.St}{H:Hp}{l it S:Addr}{xs:List V}{R:Result->Shared->Prop}{bt:Nat->Nat->Bool}
theorem Jh(hA:X.A=A.in1)(hc:X.calm=true)(hl:jV X.K H l xs)(hSI:S≠it)
  (cmp:∀(i j:Nat)(vi vj:V)(ui uj:Value)(ο:QQz)(s:Shared)(Q:QZq)(E:QZq),xs[i]? =some vi->xs[j]? =some vj->L2.Inv X ο σ H s->RelV vi ui->RelV vj uj->Q (.bool (bt i j)) s->wpAny (model X.prog X.w) X.A (richCompare .Lt ui uj) Q E s)
  (fin:∀(v:V)(u:Value)(s:Shared),xs[gj bt (xs.length-1)]? =some v->L2.Inv X γ σ H s->RelV v u->R (.ok (.ret u)) s):
  ∀(r j:Nat)(s:Shared)(vb:V)(ub:Value)(c:Nat),xs.length- (j+1)=r->j+1<=xs.length->L2.Inv X γ σ H s->dC X γ H it->dC X γ H S->s.heap.IsListIter it l (j+1)->
   s.heap.get? S=some (seqObj "list" #[ub,ub] c)->xs[gj bt j]? =some vb->RelV vb ub->
   codeAny (model X.prog X.w) A (.builtin "min.loop" ⟨[.ref it,.none,.ref S],[]⟩) R s:=by
 have hname:(toString "min"++toString ".loop":String)="min.loop":=by decide
 have T:=jg (P:=X.prog) (w:=X.w) (K:=X.K) (tg:=.Name "x" ⟨0,0,0,0⟩) l it
 intro r
 induction r with
 |zero=>
  intro j s vb ub c hr hj I fI fS st eS hvb rb
  refine codeAny_builtin PySem.F.entry_min_loop ?_
  rw[Around.under_plainId PySem.F.plain_min_loop _,<-hA]
  refine QKq (wpAny_seqItems eS rfl ?_)
  have I1:=Inv.lr I fS eS (fun v z=>by cases z)
  refine QKq (wpAny_tryCatch (QGq (T.done X rfl rfl rfl hc (j+1) _ s σ H _ I1 (fun b hb=>by rw[QDz.mp hb];exact dC.lr fI hSI) st ⟨xs,hl,by omega⟩) (fun r s1 h=>?_) fun _ _ h=>h))
  obtain⟨rfl,I2⟩:=h
  have e2:=Inv.last I2
  refine QKq ?_
  refine wpAny_updateSeq e2 rfl (QKq (wpAny_letGo (QKz ?_)))
  have s3:=Heap.SameBut.update s1.heap S (Obj.mapSeq fun _=>(#[]:Array Value))
  have ej:xs.length-1=j:=by omega
  exact fin vb ub _ (by rw[ej];exact hvb) (Inv.gR (ch:=[S]) I2.cV (fun b o hb e=>(s3.2 b (by simpa using hb)).trans e) (fun b hb=>by rw[QDz.mp hb];exact fS)) rb
 |succ r ih=>
  intro j s vb ub c hr hj I fI fS st eS hvb rb
  have hlt:j+1<xs.length:=by omega
  refine codeAny_builtin PySem.F.entry_min_loop ?_
  rw[Around.under_plainId PySem.F.plain_min_loop _,<-hA]
  show wpAny _ X.A (seqItems? (.ref S)>>=_) _ _ _
  refine QKq (wpAny_seqItems eS rfl ?_)
  have I1:=Inv.lr I fS eS (fun v z=>by cases z)
  obtain⟨v,hv⟩:∃v,xs[j+1]? =some v:=⟨xs[j+1],QXq hlt⟩
  refine QKq (wpAny_tryCatch (QGq (T.item X rfl rfl rfl hc (j+1) _ s σ H (fun _ _=>False) I1 (fun b hb=>by rw[QDz.mp hb];exact dC.lr fI hSI) st ⟨xs,v,hl,hv⟩) (fun r s1 h=>?_) fun _ _ h=>h.elim))
  obtain⟨u,rfl,h⟩:=h
  refine mq (QGq h (fun _ s2 h2=>?_) fun _ _ h=>h.elim)
  obtain⟨y,H',I2,ry,⟨rfl,yl⟩,st2,nf⟩:=h2
  have ev:=QEq ((yl xs (hl)).symm.trans hv)
  subst ev
  obtain⟨oI,eI,cI,dI⟩:=id st2
  have eS4:=Inv.last I2
  have I5:=I2.cV
  show wpAny _ X.A (tryCatch (holding [u,u] (richCompare .Lt u ub>>=_)) _>>=_) _ _ _
  refine QKq (wpAny_tryCatch (Qqq (QKq (cmp (j+1) (gj bt j) y vb u ub _ _ _ _ hv hvb I5 ry rb ?_))))
  refine QKq (Qqq (wpAny_truthy_bool ?_))
  refine QKq (wpAny_letGo (QKz ?_))
  cases hb:bt (j+1) (gj bt j)with
  |true=>
   have eb:gj bt (j+1)=j+1:=by rw[gj,hb,if_pos rfl]
   have s5:=Heap.SameBut.update s2.heap S (Obj.mapSeq fun _=> #[u,u])
   obtain⟨c2,hc2⟩:∃c2,(s2.heap.update S (Obj.mapSeq fun _=> #[u,u])).get? S=some (seqObj "list" #[u,u] c2):=⟨_,get?_update_seq eS4 fun _=> #[u,u]⟩
   rw[if_pos rfl]
   refine QKq ?_
   refine wpAny_updateSeq eS4 rfl (QKq (wpAny_letGo ?_))
   rw[hname]
   refine QKz ⟨plainId_quiet PySem.F.plain_min_loop _,?_⟩
   exact ih (j+1) _ y u c2 (by omega) hlt (Inv.gR (ch:=[S]) I5 (fun b o hb e=>(s5.2 b (by simpa using hb)).trans e) (fun b hb=>by rw[QDz.mp hb];exact fS)) fI fS ⟨oI,(s5.2 it (Ne.symm hSI)).trans eI,cI,dI⟩ hc2 (by rw[eb];exact hv) ry
  |false=>
   have eb:gj bt (j+1)=gj bt j:=by rw[gj,hb,if_neg (by decide)]
   rw[if_neg (by decide)]
   refine QKq (wpAny_letGo ?_)
   rw[hname]
   refine QKz ⟨plainId_quiet PySem.F.plain_min_loop _,?_⟩
   exact ih (j+1) _ vb ub c (by omega) hlt (I5.tok _) fI fS st2 eS4 (by rw[eb];exact hvb) rb
end
section
variable{X:Cx}{γ:QQz}{σ:L2.St}{H:Hp}{s:Shared}{l:Addr}{xs:List V}{bt:Nat->Nat->Bool}{Q:QZq}{E:QZq}
def JV(hc:X.calm=true)(I:L2.Inv X γ σ H s)(hl:jV X.K H l xs)(hne:0<xs.length)
  (cmp:∀(i j:Nat)(vi vj:V)(ui uj:Value)(ο:QQz)(s:Shared)(Q:QZq)(E:QZq),xs[i]? =some vi->xs[j]? =some vj->L2.Inv (Cx.under X X.A.in1) ο σ H s->RelV vi ui->RelV vj uj->Q (.bool (bt i j)) s->wpAny (model X.prog X.w) X.A.in1 (richCompare .Lt ui uj) Q E s)
  (fin:∀(v:V)(u:Value)(s:Shared),xs[gj bt (xs.length-1)]? =some v->L2.Inv X γ σ H s->RelV v u->Q u s):
  wpAny (model X.prog X.w) X.A (call (.builtin "min") [.ref l]) Q E s:=by
 have hname:(toString "min"++toString ".loop":String)="min.loop":=by decide
 obtain⟨its,rv,p,hz⟩:=I.list (xs:=xs) (hl)
 refine call_function_tree PySem.F.kind_min PySem.F.plain_min PySem.F.entry_min (PySem.F.args_min1 _) ?_
 refine QKq (wpAny_of_eq (show Builtin.Builtins.bindParams "min" ["key","default"] 0 ⟨[],[]⟩=pure [none,none]from rfl) ?_)
 refine QKq (QKz ?_)
 refine QKq (wpAny_pyIter_list p.isList ?_)
 refine QKq (wpAny_newList ?_ (QIq _))
 rw[hname]
 generalize hh1:s.heap.push {cls:=.type "list_iterator",data:=.fields #[.ref l,.int 0 0]}=h1
 have z1:h1.objs.size=s.heap.objs.size+1:=by rw[<-hh1];exact Heap.size_push _ _
 have g1:h1.get? s.heap.objs.size=some {cls:=.type "list_iterator",data:=.fields #[.ref l,.int 0 0]}:=by rw[<-hh1];exact Qzq _ rfl
 have hSI:h1.objs.size≠s.heap.objs.size:=by rw[z1];exact Nat.succ_ne_self _
 have fI:=I.uy (QVz _) (I.hok.fresh (QVz _))
 have fS:dC X γ H h1.objs.size:=I.uy (by omega) (I.hok.fresh (by omega))
 have I0:L2.Inv (Cx.under X X.A.in1) γ σ H {s with heap:=h1.push (seqObj "list" #[] 0)}:=
  Inv.under (Inv.gR (ch:=[]) (t':=s.toks) I (fun b o _ e=>QWq _ (by rw[<-hh1];exact QWq _ e)) (fun b hb=>nomatch hb)) rfl rfl
 have eS:(h1.push (seqObj "list" #[] 0)).get? h1.objs.size=some (seqObj "list" #[] 0):=Qzq _ rfl
 have eI:(h1.push (seqObj "list" #[] 0)).get? s.heap.objs.size=some {cls:=.type "list_iterator",data:=.fields #[.ref l,.int 0 0]}:=QWq _ g1
 refine QKz ⟨plainId_quiet PySem.F.plain_min_loop _,?_⟩
 have T:=jg (P:=X.prog) (w:=X.w) (K:=X.K) (tg:=.Name "x" ⟨0,0,0,0⟩) l s.heap.objs.size
 refine codeAny_builtin PySem.F.entry_min_loop ?_
 refine QKq (wpAny_seqItems eS rfl ?_)
 have fI':=fI
 have fS':=fS
 have I1:=Inv.lr I0 fS' eS (fun v z=>by cases z)
 obtain⟨v,hv⟩:∃v,xs[0]? =some v:=⟨xs[0],QXq hne⟩
 refine QKq (wpAny_tryCatch (QGq (T.item (Cx.under X X.A.in1) rfl rfl rfl hc 0 _ _ σ H (fun _ _=>False) I1 (fun b hb=>by rw[QDz.mp hb];exact dC.lr fI' hSI) ⟨_,eI,rfl,rfl⟩ ⟨xs,v,hl,hv⟩) (fun r s1 h=>?_) fun _ _ h=>h.elim))
 obtain⟨u,rfl,h⟩:=h
 refine mq (QGq h (fun _ s2 h2=>?_) fun _ _ h=>h.elim)
 obtain⟨y,H',I2,ry,⟨rfl,yl⟩,st2,nf⟩:=h2
 have ev:=QEq ((yl xs (hl)).symm.trans hv)
 subst ev
 obtain⟨oI,eI2,cI,dI⟩:=id st2
 have eS4:=Inv.last I2
 have I5:=I2.cV
 have s5:=Heap.SameBut.update s2.heap h1.objs.size (Obj.mapSeq fun _=> #[u,u])
 obtain⟨c2,hc2⟩:∃c2,(s2.heap.update h1.objs.size (Obj.mapSeq fun _=> #[u,u])).get? h1.objs.size=some (seqObj "list" #[u,u] c2):=⟨_,get?_update_seq eS4 fun _=> #[u,u]⟩
 show wpAny _ X.A.in1 (updateSeq h1.objs.size (fun _=> #[u,u])>>=_) _ _ _
 refine QKq ?_
 refine wpAny_updateSeq eS4 rfl ?_
 rw[hname]
 refine QKz ⟨plainId_quiet PySem.F.plain_min_loop _,?_⟩
 exact Jh (X:=Cx.under X X.A.in1) (A:=X.A) (bt:=bt) rfl hc hl hSI cmp (fun v u s' e J r=>fin v u s' e (Inv.back J rfl rfl) r) _ 0 _ y u c2 rfl hne
  (Inv.gR (ch:=[h1.objs.size]) I5 (fun b o hb e=>(s5.2 b (by simpa using hb)).trans e) (fun b hb=>by rw[QDz.mp hb];exact fS')) fI' fS' ⟨oI,(s5.2 _ (Ne.symm hSI)).trans eI2,cI,dI⟩ hc2 hv ry
end
section
variable{X:Cx}
theorem pairs_at{K:QQq}{H:Hp}:∀{ds:List D}{vs:List V}{ps:List (Int×Int)},ak K H ds vs->pK ds=some ps->ps.length=vs.length/\∀(i:Nat)v,vs[i]? =some v->∃a,v=.ref a/\jU K H a ([(ps.getD i (0,0)).1,(ps.getD i (0,0)).2].map V.int)
 |[],vs,ps,l,e=>by
  rw[ak.bJ.mp l]
  cases e
  exact⟨rfl,fun i v z=>by simp at z⟩
 |d::ds,vs,ps,l,e=>by
  obtain⟨v,r,rfl,dv,l2⟩:=ak.aX.mp l
  unfold pK at e
  split at e
  ·rename_i z;cases z
  ·rename_i a b r' z
   cases z
   obtain⟨qs,eq,rfl⟩:=QJz.mp e
   obtain⟨hl,hi⟩:=pairs_at l2 eq
   refine⟨by simp[hl],fun i w hw=>?_⟩
   cases i with
   |zero=>
    cases hw
    obtain⟨p,ws,rfl,hs,dl⟩:=cY dv
    obtain⟨w1,r1,rfl,d1,dl⟩:=ak.aX.mp dl
    obtain⟨w2,r2,rfl,d2,dl⟩:=ak.aX.mp dl
    rw[ak.bJ.mp dl]at hs
    have e1:=d1
    have e2:=d2
    subst e1 e2
    exact⟨p,rfl,hs⟩
   |succ i=>
    obtain⟨p,q1,q2⟩:=hi i w (by simpa using hw)
    exact⟨p,q1,by simpa using q2⟩
  ·cases e
def SQ a b c d:HT.lexLt [a,b] [c,d]=SX (a,b) (c,d):=by
 unfold SX
 by_cases h:a<c
 ·have:¬a=c:=by omega
  simp[HT.lexLt,h,this]
 ·by_cases e:a=c
  ·subst e
   by_cases h2:b<d
   ·have:¬b=d:=by omega
    simp[HT.lexLt,h2,this]
   ·simp[HT.lexLt,h2]
  ·simp[HT.lexLt,h,e]
noncomputable def Vf(K:QQq):List V->Hp->VK->Prop:=fun xs H Q=>∃p ys ps,xs=[.ref p]/\jV K H p ys/\0<ys.length/\(∀(i:Nat)v,ys[i]? =some v->∃a,v=.ref a/\jU K H a ([((ps:List (Int×Int)).getD i (0,0)).1,(ps.getD i (0,0)).2].map V.int))/\∀v,ys[gj (Y8 ps) (ys.length-1)]? =some v->Q v H
def JW(hc:X.calm=true)(hu:X.A.units+60<cLine):gH X (.builtin "min") (Vf X.K):=by
 rintro γ s σ H xs us Q I r ⟨p,ys,ps,rfl,hs,ne,hp,q⟩
 obtain⟨u,rfl,rx⟩:=vals1 r
 cases rx
 refine JV hc I hs ne (fun i j vi vj ui uj ο s' Q' E' hi hj J ri rj q'=>?_) fun v u s' e J rv=>⟨v,H,J,rv,q v e⟩
 obtain⟨a,rfl,sa⟩:=hp i vi hi
 obtain⟨b,rfl,sb⟩:=hp j vj hj
 cases ri
 cases rj
 obtain⟨its,r1,p1,_⟩:=J.tuple sa
 obtain⟨its2,r2,p2,_⟩:=J.tuple sb
 have i1:=intsAre_of r1
 have i2:=intsAre_of r2
 refine HT.DP p1 p2 i1 i2 (by show X.A.units+1<cLine;omega) ?_
 rw[SQ]
 exact q'
def Rw:qj X (Vf X.K) (b1 .min):=by
 intro env σ H x z v Q S Dx e q
 obtain⟨xs,ex,e⟩:=QJq.mp (e)
 obtain⟨d,ed,rfl⟩:=QJz.mp (e)
 cases x with
 |lst ys=>
  cases ex
  obtain⟨ps,ep,ed⟩:=QJq.mp ed
  split at ed
  ·cases ed
  ·rename_i hne
   have sq:∃a vs,v=.ref a/\jV X.K H a vs/\ak X.K H xs vs:=by
    rcases Dx with h|⟨o,a,q,rfl,u,ha,hq⟩
    ·obtain⟨a,vs,rfl,hq,l⟩:=dJ h
     exact⟨a,vs,rfl,hq.sq,l⟩
    ·cases o<;>cases q
     obtain⟨vs,rfl,l⟩:=hq
     exact⟨a,vs,rfl,.inl (.inl ha),l⟩
   obtain⟨a,vs,rfl,hq',l⟩:=sq
   obtain⟨hl,hi⟩:=pairs_at l ep
   have ll:=l.length
   refine⟨a,vs,ps,rfl,hq',?_,hi,fun w hw=>?_⟩
   ·rw[<-ll];cases xs with
    |nil=>simp at hne
    |cons y ys=>simp
   ·rw[<-ll]at hw
    obtain⟨w',e1,e2⟩:=l.get ed
    rw[hw]at e1
    cases e1
    exact q w H (Nx.refl S) e2
 |_=>cases ex
end
end Mini
end
section
namespace Mini
open PySem L2
def Gives.mono{J:It}{H H':Hp}(g:Gives K J xs H)(p:bV H H'):Gives K J xs H':=
 ⟨fun H1 q=>g.go H1 (p.trans q),fun H1 q=>g.yld H1 (p.trans q),fun H1 q=>g.stop H1 (p.trans q),g.len⟩
def Inv.FJ{E:QZq}{σ:St}{H:Hp}(I:Inv X γ σ H s):Inv {X with xe:=E} γ σ H s:=
 ⟨⟨I.ok.mod,I.ok.kind,I.ok.glob,I.ok.blt,I.ok.above,I.ok.inj,I.ok.has,I.ok.cab,I.ok.hd,I.ok.frames,I.ok.stk,I.ok.exf,I.ok.bs,I.ok.bsz,I.ok.noex,I.ok.exfs,I.ok.mQ,I.ok.frf⟩,
  I.os,I.bare,I.base,I.loc,I.cell,I.free,I.freeC,I.pin,I.hok,I.len⟩
def Inv.unE{E:QZq}{σ:St}{H:Hp}(I:Inv {X with xe:=E} γ σ H s):Inv X γ σ H s:=Inv.FJ (X:={X with xe:=E}) I
theorem Inv.seqObj{X:Cx}{σ:St}{H:Hp}{b:Bool}{l:Addr}(I:Inv X γ σ H s)(h:Qo X.K b H l vs):
  ∃(its:Array Value)(k:Nat)(sl:Array (Option Value)),s.heap.get? l=some {cls:=.type (if b then "list" else "tuple"),dict:=none,data:=.seq its k,slots:=sl}:=by
 cases b with
 |true=>
  obtain⟨its,r,⟨o,n,e,c,d,dt⟩,z⟩:=I.list (Qu.sq h)
  obtain⟨oc,od,odt,os⟩:=o
  subst c d dt
  exact⟨_,_,_,e⟩
 |false=>
  obtain⟨its,r,⟨o,e,c,d,n,dt⟩,z⟩:=I.Ck h
  obtain⟨oc,od,odt,os⟩:=o
  subst c d dt
  exact⟨_,_,_,e⟩
def yw{xs:List D}(h:bM d=some xs):items d=some xs:=by
 cases d<;>simp[bM]at h<;>simp[items,h]
noncomputable def Vg(K:QQq):List V->Hp->VK->Prop:=fun us H Q=>∃env τ v d xs pr,us=[v]/\Sat K env τ H/\bj K H d v/\bM d=some xs/\dictOf [] [] xs=some pr/\
 ∀a H',Nx K env τ H env H'->j7 K H' (.dct pr.1 pr.2) a->H a=none->Q (.ref a) H'
section
def Fd(hc:X.calm=true):gH X (.type "dict") (Vg X.K):=by
 intro γ s σ H us ws Q I r h
 obtain⟨env,τ,v,d,xs,pr,rfl,S,Dv,es,hd,q⟩:=h
 obtain⟨u,rfl,ru⟩:=vals1 r
 obtain⟨bb,l,vs,rfl,hq,dl⟩:=Dv.xK es
 cases ru
 obtain⟨its,k,sl,eo⟩:=Inv.seqObj I hq
 refine uI (x:=("_")) (p:=default) hc I S eo rfl (by cases bb<;>decide) hd (fun s1 E Q e1 k1=>?_) (fun s1 u E Q I1 N1 k1 hQ=>?_) fun a s' H' I' N' O' h'=>⟨.ref a,H',I',rfl,q a H' N' O' h'⟩
 ·cases bb with
  |true=>exact uc e1 (I.ok.hd hc) k1
  |false=>exact rn e1 (I.ok.hd hc) k1
 ·refine QGq (NK (tg:=.Name ("_") default) (R:=fun J H'=>Gives X.K J xs H'/\H'=upd H s.heap.objs.size u) (Inv.FJ I1) (show RelV (.ref l) _ from rfl) (Dv.mono N1.pers) (yw es) fun J g=>⟨g,rfl⟩) (fun v2 s2 h2=>?_) fun _ _ h=>h
  obtain⟨it,fp,tn,J,H',rfl,I2,T,st,hf,g,rfl⟩:=h2
  exact hQ s2 it fp tn J (Inv.unE I2) T st hf g
def Pn{σ:St}{Q:VK}(hv:m.az=none)(q:tM X.K W env (ev c (.bi .dict m) env) σ H Q):aD X W c m σ H fun v H1=>Vg X.K [v] H1 Q:=by
 simp only[qY,hv]at q
 refine⟨env,aP q fun d δ v H1 N1 D1 q1=>?_⟩
 obtain⟨z,ez,S,q3⟩:=cW q1
 simp only[b1]at ez
 cases es:bM d with
 |none=>rw[es]at ez;cases ez
 |some xs=>
  rw[es]at ez
  simp only[QHq,QG]at ez
  cases ed:dictOf [] [] xs with
  |none=>rw[ed]at ez;cases ez
  |some pr=>
   rw[ed]at ez
   cases ez
   exact⟨δ,σ,v,d,xs,pr,rfl,S,D1,es,ed,fun a H' N O h0=>q3 _ H' N ⟨a,rfl,O,h0⟩⟩
def Tw(hc:X.calm=true)(ha:GE X W c m a)(hv:m.az=none)(hg:Gl X "dict")(hm:X.mg "dict"=none)(hs:starEach [a] X.env=[(false,eval a X.env)]):
  GE X W c (.bi .dict m) (.Call (.Name "dict" p) [a] [] pos):=fun env=>
 PE.imp (lV (Fd hc) hg hm PyProof.Rows.boot_dict (aC ha.d bO hs) (by decide) (by decide) hs rfl) fun σ H Q h=>Pn hv h
structure agg(X:Cx)(W:Wi)(γ:QQz)(σ:St)(Q:VK)(f:D->Ev->Out Rv)(v:Value)(s:Shared):Prop where
 go:∃z TI TO i1 i2 b1 b2 l1 l2 vs ws xs ys env H,v=.ref z/\Inv X γ σ H s/\BL z TI TO i1 i2 b1 b2 l1 l2 0 s.heap/\ZipApart z TI TO i1 i2 l1 l2/\(∀b∈[z,TI,TO,i1,i2],dC X γ H b)/\
  Gives X.K (Itz X.K b1 b2 l1 l2 vs ws) (aV xs ys) H/\tM X.K W env (f (.lst (aV xs ys)) env) σ H Q
theorem zg{env:Ev}{s:Shared}{σ:St}{Q:VK}(ha:GE X W c m1 a)(hb:GE X W c m2 b)(hg:Gl X "zip")(hm:X.mg "zip"=none)
  (hs:starEach [a,b] X.env=[(false,eval a X.env),(false,eval b X.env)])(hs2:starEach [b] X.env=[(false,eval b X.env)])(I:Inv X γ σ H s)(q:tM X.K W env ((ev c (.zip m1 m2) env).ao f) σ H Q):
  wpAny (model X.prog X.w) X.A (eval (.Call (.Name "zip" p) [a,b] [] pos) X.env) (agg X W γ σ Q f) X.xe s:=by
 simp only[We]at q
 let RR:List V->Hp->Prop:=fun vs H'=>∃ε d1 d2 xs ys v1 v2,vs=[v1,v2]/\bj X.K H' d1 v1/\bj X.K H' d2 v2/\bM d1=some xs/\bM d2=some ys/\tM X.K W ε (f (.lst (aV xs ys)) ε) σ H' Q
 have asc:∀(o:Out Rv)g,(o.ao g).ao f=o.ao fun d e=>(g d e).ao f:=fun o g=>by
  cases o with
  |ok x e=>cases x<;>rfl
  |exc c e=>rfl
  |bad=>rfl
 rw[asc]at q
 have go:aD X W c m1 σ H fun v1 H1=>aD X W c m2 σ H1 fun v2 H2=>RR [v1,v2] H2:=by
  refine⟨env,aP q fun d1 δ v1 H1 N1 D1 q1=>⟨δ,?_⟩⟩
  rw[asc]at q1
  refine aP q1 fun d2 ε v2 H2 N2 D2 q2=>?_
  cases e1:bM d1 with
  |none=>rw[e1]at q2;exact q2.2.elim
  |some xs=>
   cases e2:bM d2 with
   |none=>rw[e1,e2]at q2;exact q2.2.elim
   |some ys=>
    rw[e1,e2]at q2
    exact⟨ε,d1,d2,xs,ys,v1,v2,rfl,D1.mono N2.pers,D2,e1,e2,q2⟩
 refine wpAny_Call_Name_kw (jJ I hg hm PyProof.Rows.boot_zip ?_ (by decide) (by decide))
 refine PyProof.Rows.callWith_type1 (cj (aC ha.d (aC hb.d bO hs2) (by rw[hs,hs2]) pos γ s σ H RR I go) fun us s1⟨vs,H1,I1,r1,q1⟩=>?_) (by rw[hs,hs2]) (by rw[hs2];rfl)
 obtain⟨ε,d1,d2,xs,ys,v1,v2,rfl,D1,D2,e1,e2,q3⟩:=q1
 obtain⟨b1,l1,vs,rfl,h1,dl1⟩:=D1.xK e1
 obtain⟨b2,l2,ws,rfl,h2,dl2⟩:=D2.xK e2
 obtain⟨u1,u2,rfl,ru1,ru2⟩:=Vals.two r1
 cases ru1
 cases ru2
 obtain⟨its,rr1,p1,z1,lt1⟩:=Inv.xK I1 h1
 obtain⟨its2,rr2,p2,z2,lt2⟩:=Inv.xK I1 h2
 refine wX p1 p2 fun h' st sz kk=>?_
 refine⟨s1.heap.objs.size+4,s1.heap.objs.size+2,s1.heap.objs.size+3,s1.heap.objs.size,s1.heap.objs.size+1,b1,b2,l1,l2,vs,ws,xs,ys,ε,H1,rfl,I1.kept kk,st,vD lt1 lt2,fun b hb=>?_,wM h1 h2 dl1 dl2 z1,q3⟩
 have hb':s1.heap.objs.size<=b:=by
  simp only[QCq,QAz,or_false]at hb
  rcases hb with rfl|rfl|rfl|rfl|rfl<;>omega
 exact I1.uy hb' (I1.hok.fresh hb')
theorem BL.lt{z TI TO i1 i2:Addr}{b1 b2:Bool}{k:Nat}(st:BL z TI TO i1 i2 b1 b2 l1 l2 k h):∀b∈[z,TI,TO,i1,i2],b<h.objs.size:=by
 intro b hb
 obtain⟨f0,f1,zr,_⟩:=st.zr
 obtain⟨x,y,to⟩:=st.to
 simp only[QCq,QAz,or_false]at hb
 rcases hb with rfl|rfl|rfl|rfl|rfl
 ·exact Qqz zr
 ·exact Qqz st.ti
 ·exact Qqz to
 ·exact st.it1.lt
 ·exact st.it2.lt
theorem Eh(hc:X.calm=true)(ha:GE X W c m1 a)(hb:GE X W c m2 b)(hg:Gl X "zip")(hm:X.mg "zip"=none)
  (hs:starEach [a,b] X.env=[(false,eval a X.env),(false,eval b X.env)])(hs2:starEach [b] X.env=[(false,eval b X.env)])(hg':Gl X "dict")(hm':X.mg "dict"=none)
  (hs':starEach [.Call (.Name "zip" q1) [a,b] [] q2] X.env=[(false,eval (.Call (.Name "zip" q1) [a,b] [] q2) X.env)]):
  GE X W c (.bi .dict (.zip m1 m2)) (.Call (.Name "dict" p) [.Call (.Name "zip" q1) [a,b] [] q2] [] pos):=by
 intro env γ s σ H Q I q
 simp only[qY,E.az]at q
 refine wpAny_Call_Name_kw (jJ I hg' hm' PyProof.Rows.boot_dict ?_ (by decide) (by decide))
 refine PyProof.Rows.callWith_type1 ?_ hs' rfl
 refine Calls.spliced_cons (cj (zg ha hb hg hm hs hs2 I (by simpa only[qY]using q)) fun u s1 h1=>Calls.spliced_nil ?_)
 obtain⟨z,TI,TO,i1,i2,b1,b2,l1,l2,vs,ws,xs,ys,δ,H1,rfl,I1,st,ap,hf,G,q1⟩:=h1.go
 obtain⟨r,er,S,q3⟩:=cW q1
 simp only[Mini.b1,bM,QHq,QG]at er
 cases ed:dictOf [] [] _ with
 |none=>rw[ed]at er;cases er
 |some pr=>
  rw[ed]at er
  cases er
  obtain⟨f0,f1,zr,h0⟩:=st.zr
  refine uI (x:=("_")) (p:=default) hc I1 S zr rfl (by decide) ed (fun s2 E Q e1 k1=>vz e1 (I1.ok.hd hc) k1) (fun s2 u E Q I2 N2 k2 hQ=>?_)
   fun a s' H' I' N' O' h'=>⟨.ref a,H',I',rfl,q3 _ H' N' ⟨a,rfl,O',h'⟩⟩
  refine jD (k2 _ _ zr) (hQ s2 z [z,TI,TO,i1,i2] _ _ I2 (kE ap) ((kE (P:=X.prog) (w:=X.w) (K:=X.K) (tg:=.Name ("_") default) (vs:=vs) (ws:=ws) ap).keep 0 _ _ st fun b _ o e=>k2 b o e) (fun b hb=>⟨?_,(hf b hb).2⟩) (G.mono N2.pers))
  rw[au (Qvz (st.lt b hb))]
  exact(hf b hb).1
def Eg(hc:X.calm=true)(ha:GE X W c m1 a)(hb:GE X W c m2 b)(hg:Gl X "zip")(hm:X.mg "zip"=none)
  (hs:starEach [a,b] X.env=[(false,eval a X.env),(false,eval b X.env)])(hs2:starEach [b] X.env=[(false,eval b X.env)])(hg':Gl X "list")(hm':X.mg "list"=none)
  (hs':starEach [.Call (.Name "zip" q1) [a,b] [] q2] X.env=[(false,eval (.Call (.Name "zip" q1) [a,b] [] q2) X.env)]):
  GE X W c (.bi .list (.zip m1 m2)) (.Call (.Name "list" p) [.Call (.Name "zip" q1) [a,b] [] q2] [] pos):=by
 intro env γ s σ H Q I q
 simp only[qY,E.az]at q
 refine wpAny_Call_Name_kw (jJ I hg' hm' PyProof.Rows.boot_list ?_ (by decide) (by decide))
 refine PyProof.Rows.callWith_type1 ?_ hs' rfl
 refine Calls.spliced_cons (cj (zg ha hb hg hm hs hs2 I (by simpa only[qY]using q)) fun u s1 h1=>Calls.spliced_nil ?_)
 obtain⟨z,TI,TO,i1,i2,b1,b2,l1,l2,vs,ws,xs,ys,δ,H1,rfl,I1,st,ap,hf,G,q1⟩:=h1.go
 obtain⟨r,er,S,q3⟩:=cW q1
 cases er
 obtain⟨f0,f1,zr,h0⟩:=st.zr
 refine Fb (x:=("_")) (p:=default) hc I1 S zr rfl (fun s2 E Q k2 hQ=>jD (k2 _ _ zr) hQ) (fun s2 u N2 k2=>?_)
  fun a s' H' I' N' O' h'=>⟨.ref a,H',I',rfl,q3 _ H' N' ⟨a,rfl,O',h'⟩⟩
 refine⟨[z,TI,TO,i1,i2],_,_,kE ap,(kE (P:=X.prog) (w:=X.w) (K:=X.K) (tg:=.Name ("_") default) (vs:=vs) (ws:=ws) ap).keep 0 _ _ st fun b _ o e=>k2 b o e,fun b hb=>⟨?_,(hf b hb).2⟩,G.mono N2.pers⟩
 rw[au (Qvz (st.lt b hb))]
 exact(hf b hb).1
end
section
variable{E:QZq}
def yV{Q:QZq}(h:Q (.bool (!a&&b)) s):wpAny (model prog w) A (call (.builtin "int.__lt__") [.bool a,.bool b]) Q E s:=by
 refine Qzz PySem.F.slot_bool_lt (PyProof.Rows.typeIs_bool' s a) PySem.F.entry_int_lt ?_ (PySem.F.args_int_lt_2 _ _)
 have e:(decide ((if a=true then 1 else 0)< (if b=true then(1:Int)else 0)))=(!a&&b):=by cases a<;>cases b<;>rfl
 show wpAny _ _ (ret (.bool (decide ((if a=true then 1 else 0)< (if b=true then 1 else 0))))) _ _ s
 rw[e]
 exact QKz ⟨_,rfl,h⟩
def Af{Q:Bool->Shared->Prop}(h:Q (!a&&b) s):wpAny (model prog w) A (PyProof.Rows.oneLt' true (.bool a) (.bool b)) Q E s:=by
 rw[PyProof.Rows.oneLt'_eq]
 refine QKq (wpAny_cRoomFor_byValue rfl ?_)
 refine QKq (wpAny_callSpecialIfBound?_slot (PyProof.Rows.typeIs_bool' s a) PySem.F.slot_bool_lt (yV ?_))
 exact wpAny_truthy_bool h
def Ds{Q:Bool->Shared->Prop}(h:Q (!a&&b) s):wpAny (model prog w) A (PyProof.Rows.oneLt' c (.bool a) (.bool b)) Q E s:=by
 cases c with
 |true=>exact Af h
 |false=>exact PySem.W.kat_one _ _ (vW A s a b prog w _ _ h)
theorem wI{b fin:Bool}{Q:Bool->Shared->Prop}{nx ny:Nat}:∀{vs ws:List Value}{ns ms:List Bool}(i:Nat),BoolsAre vs ns->BoolsAre ws ms->ns.length+ny=ms.length+nx->fin=decide (nx<ny)->Q (mK ns ms) s->
  PySem.W.KatLex prog w A b fin Q (vs.zip ws) i s
 |_,_,_,_,i,.nil,hw=>fun hl hf h=>by
  refine PySem.W.kat_nil ?_
  cases hw with
  |nil=>rw[G7]at h;rw[hf];simp at hl;rw[QEz (by omega)];exact h
  |cons c hw=>rw[G8]at h;rw[hf];simp at hl;rw[QFq (by omega)];exact h
 |_,_,_,_,i,.cons a hv,.nil=>fun hl hf h=>by
  refine PySem.W.kat_nil ?_
  rw[hf]
  simp at hl
  rw[QEz (by omega)]
  exact h
 |_,_,_,_,i,.cons a hv,.cons c hw=>fun hl hf h=>by
  rw[wB]at h
  simp only[QBq]at hl
  refine PySem.W.kat_cons (SeqAt.EqAt.bool_bool a c prog w _ _ ?_)
  by_cases hac:a=c
  ·subst hac
   rw[if_pos rfl]at h
   rw[beq_self_eq_true]
   exact PySem.W.kat_yes (wI _ hv hw (by omega) hf h)
  ·rw[if_neg hac]at h
   rw[beq_eq_false_iff_ne.mpr hac]
   exact PySem.W.kat_no (Ds h)
def Aq{x y:Addr}{ns ms:List Bool}(hx:∃o n,s.heap.get? x=some o/\o.data=.seq xs n)(hy:∃o n,s.heap.get? y=some o/\o.data=.seq ys n)(bx:BoolsAre xs.toList ns)(by':BoolsAre ys.toList ms)
  (h:Q (mK ns ms) s):wpAny (model prog w) A (PyProof.Rows.keyLt' (PyProof.Rows.tuples' b) (.ref x) (.ref y)) Q E s:=by
 obtain⟨ox,nx,ex,dx⟩:=hx
 obtain⟨oy,ny,ey,dy⟩:=hy
 have l1:=bx.length
 have l2:=by'.length
 simp at l1 l2
 exact PySem.W.kat_lt ex dx ey dy (wI 0 bx by' (by omega) rfl h)
end
end Mini
end
section
namespace Mini
open PySem L2 PyProof.Rows
section
variable{E:QZq}
def yj{vs out:List Value}{P:PySem.Fin->Shared->Prop}(ho:s.heap.get? a=some (seqObj "list" vs.toArray n))(h64:vs.length<64)(hl:out.length=vs.length)
  (h1:vs.length<2->out=vs)
  (h2:2<=vs.length->∀h':Heap,(∀b o,b≠a->s.heap.get? b=some o->h'.get? b=some o)->wpAny (model prog w) A (keyKind' vs.toArray) (fun κ s'=>s'={s with heap:=h'}/\
   (PySem.W.kas_sort vs.length).kasWp (PySem.W.kas_ask prog w A κ vs) (fun p s''=>s''={s with heap:=h'}/\(p.toList.map fun i=>vs.getD i Value.none)=out) s') (fun _ _=>False) {s with heap:=h'})
  (h:P (.done (.ret .none)) {s with heap:=sortedHeap s.heap a vs out.toArray}):
  wpAny (model prog w) A (Builtin.«list.sort» ⟨[.ref a],[]⟩) P E s:=by
 rw[list_sort_plain]
 have ha:=Qqz ho
 have hz:vs.length<=sizeLine:=by rw[sizeLine_eq];omega
 refine QKq (listItems_at ho rfl ?_)
 refine QKq (listUpdate_at ho rfl ?_ (by rw[Qyq];exact hz) (QIq _))
 obtain⟨e1,ho1⟩:∃e1,(s.heap.update a _).get? a=some (seqObj "list" #[] e1):=⟨_,get?_update_seq ho (fun _=> #[])⟩
 refine QKq (seqEpoch_at ho1 rfl ?_)
 refine QKq (wpAny_newTuple ?_ (by show vs.length<=_;exact hz))
 refine QKq (wpAny_newList ?_ (QIq _))
 refine Qqq ?_
 have ho6:(((s.heap.update a (Obj.mapSeq fun _=> #[])).push (seqObj "tuple" vs.toArray 0)).push (seqObj "list" #[] 0)).get? a=some (seqObj "list" #[] e1):=by
  rw[Heap.get?_push_ne _ _ _ (by rw[size_push',Heap.size_update];exact Qvz (Nat.lt_succ_of_lt ha)),Heap.get?_push_ne _ _ _ (by rw[Heap.size_update];exact Qvz ha)]
  exact ho1
 have kp:∀b o,b≠a->s.heap.get? b=some o->(((s.heap.update a (Obj.mapSeq fun _=> #[])).push (seqObj "tuple" vs.toArray 0)).push (seqObj "list" #[] 0)).get? b=some o:=fun b o hb e=>
  QWq _ (QWq _ ((Heap.get?_update_other _ _ (Ne.symm hb)).trans e))
 by_cases hn:vs.toArray.size<2
 ·rw[if_pos hn,if_pos hn]
  refine QKq (QKz ?_)
  refine QKq (QKz ?_)
  have em:(arrOf (SortSt.mk' general' (vs.toArray.zip vs.toArray) #[] 7 none)).map (·.2)=out.toArray:=by
   rw[h1 (by simpa using hn)]
   apply Array.toList_inj.mp
   simp[List.map_snd_zip]
  refine QKq (seqEpoch_at ho6 rfl ?_)
  rw[em]
  refine QKq (listUpdate_at ho6 rfl ?_ (QIq _) (by show out.toArray.size<=_;rw[Qyq];omega))
  simp only[bne_self_eq_false,Qxq,if_false]
  exact QKz h
 ·rw[if_neg hn,if_neg hn]
  have hn2:2<=vs.length:=by simpa using hn
  refine QKq (QGq (h2 hn2 _ kp) (fun κ s0 hk=>?_) fun _ _ x=>x.elim)
  obtain⟨rfl,hk⟩:=hk
  refine QKq (QGq (PySem.W.kat_run (Q:=fun st' s'=>∃p:Array Nat,arrOf st'=p.map _/\failedOf st'=none/\s'={s with heap:=((s.heap.update a _).push _).push _}/\(p.toList.map fun i=>vs.getD i Value.none)=out)
   rfl hn2 h64 (fun p' st' s' a1 a2 a3 a4=>⟨p',a2,a3,a4.1,a4.2⟩) hk) ?_ fun _ _ e=>e)
  rintro ⟨⟨⟩,st'⟩ s' ⟨p,har,hf,rfl,hp⟩
  have em:(arrOf st').map (·.2)=out.toArray:=by rw[PySem.W.kat_snds rfl har,hp]
  refine QKq (seqEpoch_at ho6 rfl ?_)
  rw[em]
  refine QKq (listUpdate_at ho6 rfl ?_ (QIq _) (by show out.toArray.size<=_;rw[Qyq];omega))
  rw[hf]
  simp only[bne_self_eq_false,Qxq,if_false]
  exact QKz h
def vL{vs out:List Value}(hls:s.heap.IsList l vs.toArray)(h64:vs.length<64)(hl:out.length=vs.length)(h1:vs.length<2->out=vs)
  (h2:2<=vs.length->∀h':Heap,(∀b o,s.heap.get? b=some o->h'.get? b=some o)->wpAny (model prog w) A.in1.in1 (keyKind' vs.toArray) (fun κ s'=>s'={s with heap:=h'}/\
   (PySem.W.kas_sort vs.length).kasWp (PySem.W.kas_ask prog w A.in1.in1 κ vs) (fun p s''=>s''={s with heap:=h'}/\(p.toList.map fun i=>vs.getD i Value.none)=out) s') (fun _ _=>False) {s with heap:=h'})
  (h:Q (.ref (s.heap.objs.size+1)) {s with heap:=sortedAll s.heap vs out.toArray}):
  wpAny (model prog w) A (call (.builtin "sorted") [.ref l]) Q E s:=by
 refine Calls.call_function_entry kind_sorted plain_sorted entry_sorted (args_sorted1 _) ?_
 have hz:vs.length<=sizeLine:=by rw[sizeLine_eq];omega
 refine QKq (QKz ?_)
 refine QKq (collect_list hls ?_ hz)
 refine QKq (wpAny_newList ?_ hz)
 have hsz:((s.heap.push (seqObj "list" #[] 0)).update s.heap.objs.size (Obj.mapSeq (· ++vs.toArray))).objs.size=s.heap.objs.size+1:=by
  rw[Heap.size_update,size_push']
 have hoL:(((s.heap.push (seqObj "list" #[] 0)).update s.heap.objs.size (Obj.mapSeq (· ++vs.toArray))).push (seqObj "list" vs.toArray 0)).get? (s.heap.objs.size+1)=some (seqObj "list" vs.toArray 0):=by
  rw[<-hsz];exact Qzq _ rfl
 have keep:∀b o,s.heap.get? b=some o->(((s.heap.push _).update s.heap.objs.size _).push (seqObj "list" vs.toArray 0)).get? b=some o:=fun b o q=>by
  have hlt:=Qqz q
  rw[Heap.get?_push_ne _ _ _ (by rw[hsz];exact Qvz (Nat.lt_succ_of_lt hlt)),Heap.get?_update_ne _ _ _ _ (Qvz hlt),Heap.get?_push_ne _ _ _ (Qvz hlt)]
  exact q
 rw[hsz]
 refine QKq (Qqq (Qzz slot_list_sort ⟨_,hoL,rfl⟩ entry_list_sort (yj hoL h64 hl h1 (fun hn h' kp=>?_) ⟨_,rfl,?_⟩) (args_list_sort _)))
 ·exact h2 hn h' fun b o e=>kp b o (Qvz (Nat.lt_succ_of_lt (Qqz e))) (keep b o e)
 ·exact QKz ⟨_,rfl,h⟩
theorem ud{α:Type}{cmp:Nat->Nat->(Bool->Shared->Prop)->Shared->Prop}{f:Nat->Nat->Option Bool}{Q:α->Shared->Prop}{a:α}(hc:∀i j b(C:Bool->Shared->Prop),f i j=some b->C b s->cmp i j C s):
  ∀(t:PySem.W.KasT α),Ln f t=some a->Q a s->t.kasWp cmp Q s
 |.ret x,e,q=>by cases e;exact q
 |.ask i j k,e,q=>by
  simp only[Ln]at e
  cases z:f i j with
  |none=>rw[z]at e;cases e
  |some b=>rw[z]at e;exact hc i j b _ z (ud hc (k b) e q)
end
end Mini
end
section
namespace Mini
open PySem L2
inductive gJ(h:Heap):List Value->List (List Bool)->Prop
 |nil:gJ h [] []
 |cons {a:Addr} {o:Obj} {arr:Array Value} {n:Nat} {b:Bool} {bs:List Bool} {vs:List Value} {rs:List (List Bool)}:h.get? a=some o->o.cls=.type "tuple"->o.data=.seq arr n->BoolsAre arr.toList (b::bs)->gJ h vs rs->gJ h (.ref a::vs) ((b::bs)::rs)
theorem gJ.mono(k:∀b o,h.get? b=some o->h'.get? b=some o):∀{vs:List Value}{rs:List (List Bool)},gJ h vs rs->gJ h' vs rs
 |_,_,.nil=>.nil
 |_,_,.cons e c d b r=>.cons (k _ _ e) c d b (gJ.mono k r)
theorem gJ.tups:∀{vs:List Value}{rs:List (List Bool)},gJ h vs rs->∃fs,PySem.W.KatTups h vs fs/\fs.length=vs.length/\∀v∈fs,∃b,v=.bool b
 |_,_,.nil=>⟨[],PySem.W.KatTups.nil,rfl,fun v z=>nomatch z⟩
 |_,_,.cons (b:=b) e c d bb r=>by
  obtain⟨fs,t,l,f⟩:=r.tups
  have h0:∃x,(‹Array Value›)[0]? =some x/\x=.bool b:=by
   rename_i arr _ _ _ _
   cases q:arr.toList with
   |nil=>rw[q]at bb;cases bb
   |cons x xs=>
    rw[q]at bb
    cases bb
    refine⟨.bool b,?_,rfl⟩
    have:arr=(Value.bool b::xs).toArray:=by rw[<-q]
    rw[this]
    rfl
  obtain⟨x,hx,rfl⟩:=h0
  refine⟨.bool b::fs,PySem.W.KatTups.cons e c d hx t,by simp[l],fun v z=>?_⟩
  rcases QCq.mp z with rfl|z
  ·exact⟨b,rfl⟩
  ·exact f v z
theorem gJ.at{h:Heap}:∀{vs:List Value}{rs:List (List Bool)},gJ h vs rs->∀{i:Nat}{r:List Bool},rs[i]? =some r->∃a o arr n,vs.getD i Value.none=.ref a/\h.get? a=some o/\o.data=.seq arr n/\BoolsAre arr.toList r
 |_,_,.cons e c d b t,0,r,q=>by cases q;exact⟨_,_,_,_,rfl,e,d,b⟩
 |_,_,.cons e c d b t,i+1,r,q=>by
  obtain⟨a,o,arr,n,z⟩:=t.at (by simpa using q)
  exact⟨a,o,arr,n,by simpa using z⟩
theorem uK{K:QQq}{H:Hp}:∀{ys:List D}{bs:List Bool}{vs:List V}{us:List Value},bools ys=some bs->ak K H ys vs->Vals vs us->BoolsAre us bs
 |[],bs,vs,us,e,d,v=>by
  cases e
  rw[ak.bJ.mp d]at v
  cases v
  exact .nil
 |y::ys,bs,vs,us,e,d,v=>by
  obtain⟨w,ws,rfl,h1,h2⟩:=ak.aX.mp d
  cases v with
  |cons r t=>
   cases y with
   |bl b=>
    simp only[bools]at e
    cases q:bools ys with
    |none=>rw[q]at e;cases e
    |some bs'=>
     rw[q]at e
     cases e
     cases h1
     cases r
     exact .cons b (uK q h2 t)
   |_=>simp[bools]at e
theorem Gn{X:Cx}{γ:QQz}{σ:St}{H:Hp}{s:Shared}(I:Inv X γ σ H s):∀{xs:List D}{rs:List (List Bool)}{vs:List V}{us:List Value},jY xs=some rs->ak X.K H xs vs->Vals vs us->gJ s.heap us rs
 |[],rs,vs,us,e,d,v=>by
  cases e
  rw[ak.bJ.mp d]at v
  cases v
  exact .nil
 |y::ys,rs,vs,us,e,d,v=>by
  obtain⟨w,ws,rfl,h1,h2⟩:=ak.aX.mp d
  cases v with
  |cons r t=>
   cases y with
   |tup zs=>
    simp only[jY]at e
    cases q:bools zs with
    |none=>rw[q]at e;cases e
    |some bs=>
     cases bs with
     |nil=>rw[q]at e;cases e
     |cons b bs=>
      rw[q]at e
      cases q2:jY ys with
      |none=>rw[q2]at e;cases e
      |some rs'=>
       rw[q2]at e
       cases e
       obtain⟨a,us',rfl,hq,l⟩:=cY h1
       cases r
       obtain⟨its,rr,⟨o,eo,c,n,dt⟩,_⟩:=I.tuple hq
       exact .cons eo c dt (by simpa using uK q l rr) (Gn I q2 h2 t)
   |_=>simp[jY]at e
theorem qK{H:Hp}{vs:List V}(d:ak K H xs vs)(v:Vals vs us):∀{is:List Nat}{ys:List D},ur xs is=some ys->∃ws,ak K H ys ws/\Vals ws (is.map fun i=>us.getD i Value.none)
 |[],ys,e=>by cases e;exact⟨[],ak.eY,.nil⟩
 |i::is,ys,e=>by
  simp only[ur]at e
  cases q:xs[i]? with
  |none=>rw[q]at e;cases e
  |some x=>
   rw[q]at e
   cases q2:ur xs is with
   |none=>rw[q2]at e;cases e
   |some ys'=>
    rw[q2]at e
    cases e
    obtain⟨ws,h1,h2⟩:=qK d v q2
    obtain⟨w,ew,dw⟩:=d.get q
    obtain⟨u,eu,ru⟩:=v.get ew
    refine⟨w::ws,ak.bF dw h1,?_⟩
    rw[Qyz]
    have:us.getD i Value.none=u:=by simp[List.getD,eu]
    rw[this]
    exact .cons ru h2
def eZ.aeY{H:Hp}{v:V}(h:eZ K H (.lst xs) v):∃a vs,v=.ref a/\jV K H a vs/\ak K H xs vs:=by
 rcases h with h|⟨o,a,q,rfl,u,ha,hq⟩
 ·obtain⟨a,vs,rfl,hq,l⟩:=dJ h
  exact⟨a,vs,rfl,hq.sq,l⟩
 ·cases o<;>cases q
  obtain⟨vs,rfl,l⟩:=hq
  exact⟨a,vs,rfl,.inl (.inl ha),l⟩
def Va(K:QQq):List V->Hp->VK->Prop:=fun us H Q=>∃l vs xs ys,us=[.ref l]/\jV K H l vs/\ak K H xs vs/\qz xs=some ys/\∀ws,ak K H ys ws->∀a,H a=none->Q (.ref a) (upd H a (.lst ws))
section
def yS:gH X (.builtin "sorted") (Va X.K):=by
 intro γ s σ H us ws Q I r h
 obtain⟨l,vs,xs,ys,rfl,hq,dl,es,q⟩:=h
 obtain⟨u,rfl,ru⟩:=vals1 r
 cases ru
 obtain⟨its,rr,pl,hz⟩:=I.list hq
 have lx:=dl.length
 have lv:=rr.length
 have fin:∀zs out,ak X.K H ys zs->Vals zs out->out.length<=sizeLine->EP X γ σ Q _ {s with heap:=PyProof.Rows.sortedAll s.heap its out.toArray}:=fun zs out d v lz=>by
  obtain⟨e,ea⟩:=PyProof.Rows.sortedAll_at s.heap its out.toArray
  exact⟨.ref _,_,I.laid (fun b o x=>PyProof.Rows.sortedAll_old x) (Nat.le_succ _) (show dq X.prog X.w _ _ _ (.lst zs)from⟨by rw[v.length];exact lz,out,e,v,ea⟩),rfl,q zs d _ (I.hok.fresh (Nat.le_succ _))⟩
 unfold qz at es
 by_cases h1:xs.length<2
 ·rw[if_pos h1]at es
  cases es
  exact vL pl.isList (by omega) rfl (fun _=>rfl) (fun z=>absurd z (by omega)) (fin vs its dl rr (by omega))
 ·rw[if_neg h1]at es
  by_cases h64:xs.length<64
  ·rw[if_pos h64]at es
   unfold acA at es
   cases e1:jY xs with
   |none=>
    rw[e1]at es
    cases es
   |some rs=>
    rw[e1]at es
    simp only[QHq]at es
    cases e2:Ln _ _ with
    |none=>rw[e2]at es;cases es
    |some p=>
     rw[e2]at es
     simp only[QHq]at es
     by_cases e3:p.size=xs.length
     ·rw[if_pos e3]at es
      obtain⟨zs,d,v⟩:=qK dl rr es
      have lo:(p.toList.map fun i=>its.getD i Value.none).length=its.length:=by rw[QAq,Array.length_toList];omega
      refine vL pl.isList (by omega) lo (fun z=>absurd z (by omega)) (fun _ h' kp=>?_) (fin zs _ d v (by omega))
      have RA':=(Gn I e1 dl rr).mono kp
      obtain⟨fs,t,lf,fb⟩:=RA'.tups
      refine PySem.W.kat_kind (T:=.type "bool") t (by omega) (fun v hv=>?_) (by decide) ⟨rfl,?_⟩
      ·obtain⟨b,rfl⟩:=fb v hv
       exact PySem.W.Looks.of_pure rfl
      ·have el:its.length=xs.length:=by omega
       rw[el]
       refine ud (fun i j b C e c=>?_) _ e2 ⟨rfl,rfl⟩
       unfold acB at e
       cases ei:rs[i]? with
       |none=>rw[ei]at e;cases e
       |some ri=>
        cases ej:rs[j]? with
        |none=>rw[ei,ej]at e;cases e
        |some rj=>
         rw[ei,ej]at e
         cases e
         obtain⟨ai,oi,arri,ni,x1,x2,x3,x4⟩:=RA'.at ei
         obtain⟨aj,oj,arrj,nj,y1,y2,y3,y4⟩:=RA'.at ej
         show wpAny _ _ _ _ _ _
         rw[x1,y1]
         exact Aq ⟨oi,ni,x2,x3⟩ ⟨oj,nj,y2,y3⟩ x4 y4 c
     ·rw[if_neg e3]at es;cases es
  ·rw[if_neg h64]at es;cases es
def CN:qj X (Va X.K) (b1 .sorted):=by
 intro env σ H x z v Q S Dx e q
 simp only[b1]at e
 cases x with
 |lst xs=>
  simp only[lC,QHq,QG]at e
  cases es:qz xs with
  |none=>rw[es]at e;cases e
  |some ys=>
   rw[es]at e
   cases e
   obtain⟨a,vs,rfl,hq,l⟩:=Dx.aeY
   exact⟨a,vs,xs,ys,rfl,hq,l,es,fun ws d p hp=>q _ _ (Nx.laid S hp) (oH S d hp)⟩
 |_=>simp[lC]at e
end
section
def Yv{x:Str}(nm:jX X k x):GE X W c (.ref k) (.Name x pos):=by
 intro env
 refine PE.imp nm.pe fun σ H Q q=>?_
 simp only[QX]at q
 have go:∀o,(env[k]? =some (.own o)\/env[k]? =some (.bor o))->tM X.K W env (.ok (.ref k) env) σ H Q->bf k σ H Q:=fun o e q=>by
  have:∃a,(σ[k]?).join=some (.ref a):=by
   rcases e with e|e
   ·obtain⟨a,z,_⟩:=q.1.sl k _ e;exact⟨a,z⟩
   ·obtain⟨a,z,_⟩:=q.1.sl k _ e;exact⟨a,z⟩
  obtain⟨a,z⟩:=this
  exact⟨.ref a,cN z,q.2 _ H (Nx.refl q.1) (cN z)⟩
 cases e:env[k]? with
 |none=>rw[e]at q;exact q.2.elim
 |some s=>
  rw[e]at q
  cases s with
  |un=>exact q.2.elim
  |val d=>exact q.2.elim
  |own o=>exact go o (.inl e) q
  |bor o=>exact go o (.inr e) q
theorem KZ{env:Ev}{H:Hp}{f:Bool->Ev->Out Rv}(h:tT K W env (r.cZ ju f) σ H Q)
  (k:∀b δ H1,Nx K env σ H δ H1->tT K W δ (f b δ) σ H1 Q->R b H1):tT K W env r σ H R:=by
 have step:∀d δ x,x.j8=some d->r=.ok x δ->∃b,ju d=some b/\∀H1,Nx K env σ H δ H1->R b H1:=fun d δ x ex er=>by
  subst er
  cases q:ju d with
  |none=>
   cases x with
   |val d'=>cases ex;simp only[Out.cZ,Out.ao,q]at h;exact h.2.elim
   |new xs=>cases ex;simp only[Out.cZ,Out.ao,q]at h;exact h.2.elim
   |ref i=>cases ex
  |some b=>
   refine⟨b,rfl,fun H1 N=>k b δ H1 N (UT ?_ N)⟩
   cases x with
   |val d'=>cases ex;simp only[Out.cZ,Out.ao,q]at h;exact h
   |new xs=>cases ex;simp only[Out.cZ,Out.ao,q]at h;exact h
   |ref i=>cases ex
 refine⟨h.1,?_⟩
 cases r with
 |bad=>exact h.2
 |exc c δ=>exact h.2
 |ok x δ=>
  cases x with
  |val d=>obtain⟨b,e,q⟩:=step d δ _ rfl rfl;exact⟨d,b,rfl,e,q⟩
  |new xs=>obtain⟨b,e,q⟩:=step xs.d δ _ rfl rfl;exact⟨xs.d,b,rfl,e,q⟩
  |ref i=>exact h.2.elim
def Yk(ht:GT X W c m1 t)(ha:GT X W c m2 a)(hb:GT X W c m3 b):GT X W c (.ite m1 m2 m3) (.IfExp t a b pos):=by
 intro γ s σ H Q I ⟨env,q⟩
 have e:∀w,isTrue (.IfExp t a b pos) X.env w=(isTrue t X.env _>>=fun q=>if q=true then isTrue a X.env _ else isTrue b X.env _):=fun w=>by first|rfl|rw[PySem.isTrue]|simp only[PySem.isTrue]
 refine QKq (cj (ht γ s σ H (fun k H1=>∃δ,tT X.K W δ _ σ H1 Q) I ⟨env,KZ q fun k δ H1 N q1=>⟨δ,q1⟩⟩) fun k s1⟨H1,I1,δ,q1⟩=>?_)
 cases k with
 |true=>rw[if_pos rfl]at q1⊢;exact ha γ s1 σ H1 Q I1 ⟨δ,q1⟩
 |false=>rw[if_neg Qjz]at q1⊢;exact hb γ s1 σ H1 Q I1 ⟨δ,q1⟩
end
section
variable{X:Cx}{W:Wi}{c:Cf}{m m1 m2 m3:E}{o a b e:Expr}{pos p p2 apos cpos:Pos}{name:Str}
def YK{K:QQq}{H:Hp}{p:D}{x:V}(Dp:bj K H p x)(fp:flat p=true):∀{ds:List D}{vs:List V}{us:List Value},ak K H ds vs->Vals vs us->ds.all flat=true->vs.all jo=true/\us.map (Kd x)=ds.map fun d=>dH d p:=by
 intro ds
 induction ds with
 |nil=>intro vs us l r _;rw[ak.bJ.mp l]at r⊢;cases r;exact⟨rfl,rfl⟩
 |cons d ds ih=>
  intro vs us l r f
  obtain⟨v,vs',rfl,hd,l'⟩:=ak.aX.mp l
  rw[List.all_cons,QUq]at f
  cases r with
  |cons r1 r2=>
   obtain⟨i1,i2⟩:=ih l' r2 f.2
   obtain⟨j1,j2⟩:=um Dp fp (ak.bF hd ak.eY) (by simp[f.1])
   simp only[List.all_cons,List.all_nil,Bool.and_true]at j1
   have j3:Kc v x=dH d p:=by simpa[inV,aR]using j2
   refine⟨by rw[List.all_cons,j1,i1];rfl,?_⟩
   rw[Qyz,Qyz,i2,yI r1 j1,j3]
theorem uh{p:D}:∀{ds:List D},aR p ds=true->(ds.map fun d=>dH d p)[bB p ds]? =some true/\∀m,m<bB p ds->(ds.map fun d=>dH d p)[m]? =some false
 |[]=>fun h=>by cases h
 |d::ds=>fun h=>by
  cases q:dH d p with
  |true=>simp[bB,q]
  |false=>
   simp only[aR,q,Bool.false_or]at h
   obtain⟨i1,i2⟩:=uh h
   have e:bB p (d::ds)=bB p ds+1:=by simp[bB,q]
   rw[e]
   refine⟨by simpa using i1,fun m hm=>?_⟩
   cases m with
   |zero=>simp[q]
   |succ m=>simpa using i2 m (by omega)
def aeS(K:QQq):V->List V->Hp->VK->Prop:=fun x ys H Q=>∃a vs ds d y,x=.ref a/\ys=[y]/\jV K H a vs/\ak K H ds vs/\bj K H d y/\flat d=true/\ds.all flat=true/\aR d ds=true/\Q (.int (bB d ds)) H
def M9:MtR X "list.index" (aeS X.K):=by
 intro γ s σ H x ys v us Q I rx ry h
 obtain⟨a,vs,ds,d,y,rfl,rfl,hq,l,hd,f1,f2,f3,q⟩:=h
 cases rx
 obtain⟨u,rfl,ru⟩:=Vals.one ry
 obtain⟨its,r,pl,hz⟩:=I.list hq
 obtain⟨⟨cls,dd,data,sl⟩,n,ho,hc,hdd,hdt⟩:=id pl
 simp only at hc hdt
 subst hc hdt
 obtain⟨g1,g2⟩:=YK hd f1 l r f2
 obtain⟨i1,i2⟩:=uh f3
 rw[<-g2,QFz,QJz]at i1
 obtain⟨w,w1,w2⟩:=i1
 obtain⟨hj,ew⟩:=QCz.mp w1
 have hr:=r.length
 have hsl:sizeLine=16777216:=sizeLine_eq
 refine call_meets PySem.F.slot_list_index ⟨_,ho,rfl⟩ PySem.F.entry_list_index (PySem.F.args_list_index_2 _ _) (SeqAt.list_indexAt a its.toArray n dd sl u (Kd y) (bB d ds) (by simpa using hj) (by omega) ?_ fun k hk hlt=>?_) ⟨ho,fun w hw=>gF ru (Ej hd f1) r g1 w (by simpa using hw),?_⟩
 ·show Kd y its[bB d ds]=true
  rw[ew];exact w2
 ·have z:=i2 k hlt
  rw[<-g2,QFz,QJz]at z
  obtain⟨w',z1,z2⟩:=z
  obtain⟨hk',ek⟩:=QCz.mp z1
  show Kd y its[k]=false
  rw[ek];exact z2
 ·exact⟨.int (bB d ds),H,I.tok _,⟨s.toks,rfl⟩,q⟩
def Ov(M:BP X o "index" apos e cpos)(ho:GE X W c m1 o)(he:GE X W c m2 e):GE X W c (.index m1 m2) (.Call (.Attribute o "index" apos) [e] [] cpos):=by
 intro env
 refine PE.imp (Gu M PySem.F.slot_list_index PySem.F.type_list_index M9 ho.d he.d) fun σ H Q q=>?_
 simp only[adT]at q
 refine⟨env,aP q fun d δ v H1 N1 D1 q1=>?_⟩
 cases d with
 |lst xs=>
  simp only[lC,Option.isNone_some,Qxq,if_false]at q1
  obtain⟨a,vs,rfl,hq,l⟩:=dJ D1
  refine⟨.inl ⟨rfl,vs,hq.sq⟩,δ,aP q1 fun d2 ε y H2 N2 D2 q2=>?_⟩
  obtain⟨z,ez,S,q3⟩:=cW q2
  simp only[Od]at ez
  split at ez
  ·rename_i hf
   cases ez
   simp only[QUq]at hf
   exact⟨a,vs,xs,d2,y,rfl,rfl,(N2.pers.Vz hq).sq,l.mono N2.pers,D2,hf.1.1,hf.1.2,hf.2,q3 _ H2 (Nx.refl S) rfl⟩
  ·cases ez
 |_=>exact q1.2.elim
end
section
def Oq{H:Hp}{v y w:V}{Q:VK}(D1:eZ K H d v)(D2:bj K H k y)(D3:bj K H x w)(e:oX d k x=some z)(q:∀u,bj K H z u->Q u H):∃a,v=.ref a/\∃o,nO H a y o/\Q (o.getD w) H:=by
 cases d with
 |eE ks ds=>
  simp only[oX]at e
  split at e
  ·rename_i hk
   cases e
   obtain⟨kk,rfl⟩:=ie hk
   have ek:=mF D2
   subst ek
   obtain⟨a,kvs,rfl,ha,rfl,l⟩:=o5 D1
   refine⟨a,rfl,f9 kvs kk,⟨kvs,kk,ha,rfl,rfl⟩,q _ ?_⟩
   cases e1:cH _ _ ds with
   |some d=>
    obtain⟨w,e2,e3⟩:=pO kk e1 l
    rw[e2]
    exact e3
   |none=>
    have n:=lM (kvs:=kvs) kk
    have e4:∀{ks vs:List D},vs.length=ks.length->cH (dO kk) ks vs=none->aR (dO kk) ks=false:=by
     intro ks
     induction ks with
     |nil=>intro vs _ _;rfl
     |cons k' ks ih=>
      intro vs hl h
      cases vs with
      |nil=>simp at hl
      |cons v vs=>
       simp only[cH]at h
       split at h
       ·cases h
       ·rename_i ne
        simp[aR,ne,ih (by simpa using hl) h]
    rw[e4 (by have:=l.length;simpa using this) e1]at n
    have e5:f9 kvs kk=none:=by
     cases e6:f9 kvs kk with
     |none=>rfl
     |some w=>rw[e6]at n;cases n
    rw[e5]
    exact D3
  ·cases e
 |_=>cases e
def NQ{H:Hp}{v:V}(D1:eZ K H d v)(e:oU (some d)=true):∃a,v=.ref a/\IsD H a:=by
 cases d with
 |eE ks ds=>
  obtain⟨a,kvs,rfl,ha,_⟩:=o5 D1
  exact⟨a,rfl,kvs,ha⟩
 |_=>cases e
def Tv(hu:X.A.units+1<cLine)(M:M2 X o "get" apos e f cpos)(hv:∀k,m1.az=some k->∃x p,o=.Name x p/\jX X k x)(hd:GE X W c m1 o)(hk:GE X W c m2 e)(hx:GE X W c m3 f):GE X W c (.get2 m1 m2 m3) (.Call (.Attribute o "get" apos) [e,f] [] cpos):=by
 intro env
 cases qv:m1.az with
 |some i=>
  obtain⟨x,p,rfl,nm⟩:=hv i qv
  refine PE.imp (Mw hu nm.pe hk.d hx.d M) fun σ H Q q=>?_
  simp only[Wc,qv]at q
  cases e0:oU _ with
  |false=>rw[e0]at q;exact q.2.elim
  |true=>
   rw[e0]at q
   cases e1:bA i env with
   |none=>rw[e1]at e0;cases e0
   |some d0=>
    rw[e1]at e0
    obtain⟨u,eu,D0⟩:=fX q.1 e1
    obtain⟨a,rfl,ia⟩:=NQ D0 e0
    refine⟨.ref a,eu,a,rfl,ia,env,aP q fun k ε y H2 N2 D2 q2=>⟨ε,aP q2 fun x env3 z H3 N3 D3 q3=>?_⟩⟩
    obtain⟨r,er,S,q4⟩:=cW q3
    cases e2:bA i env3 with
    |none=>rw[e2]at er;cases er
    |some d3=>
     rw[e2]at er
     simp only[Option.bind]at er
     obtain⟨u',eu',D4⟩:=fX S e2
     rw[eu]at eu'
     cases eu'
     cases e3:oX d3 k x with
     |none=>rw[e3]at er;cases er
     |some w=>
      rw[e3]at er
      cases er
      obtain⟨a',ea,o,g,q5⟩:=Oq D4 (D2.mono N3.pers) D3 e3 fun u hu=>q4 u H3 (Nx.refl S) hu
      cases ea
      exact⟨o,g,q5⟩
 |none=>
  intro γ s σ H Q I q
  simp only[Wc,qv]at q
  exact q.2.elim
def aA(X:Cx)(W:Wi)(c:Cf)(m:E):TE:=fun σ H Q=>∃env,tA X.K W env (ev c m env) σ H Q
inductive Kv(X:Cx)(W:Wi)(c:Cf):E->List (Option Expr)->List Expr->List (TE×TE)->Prop
 |nil:Kv X W c .nil [] [] []
 |cons {k v r:E} {ke ve:Expr} {ks:List (Option Expr)} {vs:List Expr} {HS:List (TE×TE)}:GE X W c k ke->GE X W c v ve->Kv X W c r ks vs HS->Kv X W c (.cons k (.cons v r)) (some ke::ks) (ve::vs) ((aA X W c k,aA X W c v)::HS)
def Ow:GE X W c .emp (.Dict [] [] pos):=by
 intro env
 refine PE.imp Mv fun σ H Q q p hp=>?_
 obtain⟨S,q⟩:=q
 exact q _ _ (Nx.laid S hp) ⟨p,rfl,⟨_,aB,[],rfl,rfl,ak.eY⟩,hp⟩
end
end Mini
end
section
namespace Mini
open PySem
structure Ct where
 N:List Str
 sc:Scope
 fns:List (Str×List Bool)
 gB:List Str
 exs:List Str:=[]
 rz:List Str:=[]
def pQ:List Str->Str->Option Nat
 |[],_=>none
 |y::r,x=>if x=y then some 0 else(pQ r x).map (· +1)
def Px:Const->Option D
 |.none=>some .non
 |.bool b=>some (.bl b)
 |.int i=>some (.int i)
 |.str x=>some (.str x)
 |_=>none
def Wb(sc:Scope)(x:Str):Bool:=match sc.names.lookup x with
 |some .local=>true
 |some .cell=>true
 |some .free=>true
 |_=>false
def BZ(sc:Scope)(x:Str):Bool:=sc.names.lookup x==some .globalImplicit
def Je(x:Str):Bool:= !(x==("__debug__":Str))&& !(x==("__classdict__":Str))
def kI(C:Ct)(x:Str):Option E:=
 if Je x then
  match pQ C.N x with
  |some k=>if Wb C.sc x then some (.var k)else none
  |none=>if BZ C.sc x then(pQ C.gB x).map .glob else none
 else none
def opB:Operator->Option Zm
 |.Add=>some .add
 |.Sub=>some .sub
 |.Mult=>some .mul
 |.Mod=>some .mod
 |_=>none
def cmB:CmpOp->Option Cm
 |.Eq=>some .eq
 |.NotEq=>some .ne
 |.Lt=>some .lt
 |.LtE=>some .le
 |.Gt=>some .gt
 |.In=>some .isin
 |.NotIn=>some .notin
 |.Is=>some .lE
 |_=>none
def tyB(x:Str):Option Ty:=
 if x="tuple" then some .tup else if x="list" then some .lst else if x="str" then some .str else if x="bool" then some .bool else if x="int" then some .int else none
noncomputable def Z9(x:Str):Option Bi:=
 if x="len" then some .len else if x="int" then some .int else if x="tuple" then some .tuple else if x="list" then some .list else if x="all" then some .all else if x="any" then some .any
 else if x="sorted" then some .sorted else if x="dict" then some .dict else if x="min" then some .min else none
def plain:Expr->Bool
 |.BoolOp .. |.BinOp .. |.UnaryOp .. |.IfExp .. |.ListComp .. |.Compare .. |.Call .. |.Constant .. |.Subscript .. |.Name .. |.List .. |.Tuple .. |.Dict .. =>true
 |_=>false
def E.N7:E->Bool
 |.nil=>true
 |_=>false
def fnAt(C:Ct)(x:Str):Option (Nat×List Bool):=(pQ (C.fns.map (·.1)) x).bind fun g=>(C.fns[g]?).map fun p=>(g,p.2)
def sU(scope outer:Scope):Scope:=
 {scope with names:=scope.names.map fun(n,k)=>if (k== .free&&outer.kind== .function&&outer.names.lookup n==some .cell)then(n,.cell)else(n,k)}
def sO(η N:List Str):List Str:=η++N.map fun x=>if η.contains x then(".":Str)++x else x
def vp:Expr->Option Str
 |.Name x _=>some x
 |_=>none
def Wo:Expr->Option (List Str×Tg)
 |.Name x _=>some ([x],.name 0)
 |.Tuple es _ _=>(es.mapM vp).map fun xs=>(xs,.tup (List.range xs.length))
 |_=>none
noncomputable def WT(outer inner:Scope)(η N:List Str):Bool:=
 decide (inner.kind=.function)&&decide ((sO η N).Nodup)
 &&(inner.names.all fun p=>(p.2 != .local)||((η.contains p.1||p.1==(".0":Str))&&inner.names.lookup p.1==some .local))
 &&(η.all fun x=>inner.names.lookup x==some .local)
 &&(inner.names.all fun p=>p.2 != .cell)
 &&(inner.names.all fun p=>(p.2 != .free)||outer.names.lookup p.1==some .cell||outer.names.lookup p.1==some .free)
 &&(N.all fun x=> !η.contains x||(inner.names.lookup ((".":Str)++x)).isNone)
 && !N.contains (".0":Str)
def isCall:Expr->Bool
 |.Call .. =>true
 |_=>false
def MJ(ap cp:Pos):Bool:=ap.endLine==cp.line
mutual
noncomputable def fj:Nat->Ct->Expr->Option E
 |0,_,_=>none
 |n+1,C,e=>match e with
  |.Constant k _ _=>(Px k).map .con
  |.Name x _=>kI C x
  |.Tuple es _ _=>(xF n C es).map .tup
  |.List es _=>(xF n C es).map .lis
  |.BinOp a o b _=>(opB o).bind fun o=>(fj n C a).bind fun a=>(fj n C b).map fun b=>.op o a b
  |.UnaryOp o a _=>match o with
   |.USub=>(fj n C a).map .neg
   |.Not=>(fj n C a).map .not
   |_=>none
  |.BoolOp o es _=>(xF n C es).bind fun m=>if m.N7 then none else match o with
   |.And=>some (.and m)
   |.Or=>some (.or m)
  |.Compare a ops cs _=>match ops,cs with
   |[o],[b]=>(cmB o).bind fun o=>(fj n C a).bind fun a=>(fj n C b).map fun b=>.cmp o a b
   |[o,o2],[b,d]=>(cmB o).bind fun o=>(cmB o2).bind fun o2=>(fj n C a).bind fun a=>(fj n C b).bind fun b=>(fj n C d).map fun d=>.chain o o2 a b d
   |_,_=>none
  |.IfExp t a b _=>(fj n C t).bind fun t=>(fj n C a).bind fun a=>(fj n C b).map fun b=>.ite t a b
  |.Subscript a i _=>match i with
   |.Slice lo hi st _=>match st with
    |none=>(fj n C a).bind fun a=>(ZK n C lo).bind fun lo=>(ZK n C hi).map fun hi=>.slc a lo hi
    |some _=>none
   |i=>(fj n C a).bind fun a=>(fj n C i).map fun i=>.idx a i
  |.Call f args kw cp=>match kw with
   |[]=>match f with
    |.Name x _=>if Je x&&BZ C.sc x then(match fnAt C x with
      |some (g,fl)=>(HW n C fl args).bind fun m=>if m.N7 then none else some (.call g m)
      |none=>trB n C x args)else none
    |.Attribute o name ap=>if MJ ap cp then(match args with
      |[e]=>if name="count" then(fj n C o).bind fun m1=>(if plain o&& !isCall o then some ()else none).bind fun _=>(fj n C e).map fun m2=>.count m1 m2
       else if name="pop" then(match o with
        |.Name x _=>(kI C x).bind fun m=>match m with
         |.var k=>(fj n C e).map fun m2=>.popAt k m2
         |_=>none
        |_=>none)
       else if name="index" then(fj n C o).bind fun m1=>(if plain o&& !isCall o then some ()else none).bind fun _=>(fj n C e).map fun m2=>.index m1 m2
       else none
      |[e,f]=>if name="get" then(fj n C o).bind fun m1=>(if plain o&& !isCall o then some ()else none).bind fun _=>(fj n C e).bind fun m2=>(fj n C f).map fun m3=>.get2 m1 m2 m3 else none
      |_=>none)else none
    |_=>none
   |_=>none
  |.Dict ks vs _=>if ks.isEmpty&&vs.isEmpty then some .emp else none
  |.ListComp elt gens sc _=>match gens with
   |[g]=>trC n C elt g sc
   |_=>none
  |_=>none
noncomputable def KC:Nat->Ct->List (Option Expr)->List Expr->Option E
 |0,_,_,_=>none
 |n+1,C,ks,vs=>match ks,vs with
  |[],[]=>some .nil
  |some k::ks,v::vs=>(fj n C k).bind fun k=>(fj n C v).bind fun v=>(KC n C ks vs).map fun r=>.cons k (.cons v r)
  |_,_=>none
noncomputable def trC:Nat->Ct->Expr->Comprehension->Scope->Option E
 |0,_,_,_,_=>none
 |n+1,C,elt,g,sc=>if g.is_async=0 then(Wo g.target).bind fun(η,tg)=>
   if WT C.sc sc η C.N then
    let C2:Ct:={C with N:=sO η C.N,sc:=sU sc C.sc}
    (ZL n C g.iter).bind fun it=>(match g.ifs with
     |[]=>some (E.con (.bl true))
     |[c]=>fj n C2 c
     |_=>none).bind fun cond=>(fj n C2 elt).map fun m=>.comp η.length tg it cond m
   else none else none
noncomputable def ZL:Nat->Ct->Expr->Option E
 |0,_,_=>none
 |n+1,C,e=>match e with
  |.Call f args kw cp=>match f,args,kw with
   |.Name x _,[a],[]=>if x="range"&&BZ C.sc x&&(fnAt C x).isNone then(fj n C a).map .range1 else fj n C e
   |.Name x _,[a,b],[]=>if x="zip"&&BZ C.sc x&&(fnAt C x).isNone then(fj n C a).bind fun a=>(fj n C b).map fun b=>.zip a b else fj n C e
   |_,_,_=>fj n C e
  |_=>fj n C e
noncomputable def trB:Nat->Ct->Str->List Expr->Option E
 |0,_,_,_=>none
 |n+1,C,x,args=>match args with
  |[a,t]=>if x="isinstance" then(match t with
    |.Name y _=>if BZ C.sc y then(tyB y).bind fun t=>(fj n C a).map fun a=>.isi a t else none
    |_=>none)else none
  |[a]=>match a with
   |.Call f zs kw _=>(match f,zs,kw with
    |.Name z _,[p,q],[]=>if z="zip"&&BZ C.sc z&&(fnAt C z).isNone then
      (if x="dict" then(fj n C p).bind fun p=>(fj n C q).map fun q=>.bi .dict (.zip p q)
       else if x="list" then(fj n C p).bind fun p=>(fj n C q).map fun q=>.bi .list (.zip p q)else none)
     else(Z9 x).bind fun b=>(fj n C a).bind fun m=>if b=.dict&&m.az.isSome then some (.bi b (.rd m))else some (.bi b m)
    |_,_,_=>(Z9 x).bind fun b=>(fj n C a).bind fun m=>if b=.dict&&m.az.isSome then some (.bi b (.rd m))else some (.bi b m))
   |a=>(Z9 x).bind fun b=>(fj n C a).bind fun m=>if b=.dict&&m.az.isSome then some (.bi b (.rd m))else some (.bi b m)
  |_=>none
noncomputable def HW:Nat->Ct->List Bool->List Expr->Option E
 |0,_,_,_=>none
 |n+1,C,fl,es=>match fl,es with
  |[],[]=>some .nil
  |false::fl,e::es=>(fj n C e).bind fun m=>(HW n C fl es).map fun ms=>.cons m ms
  |true::fl,e::es=>(match e with
    |.Name x _=>(kI C x).bind fun m=>match m with
     |.var k=>some (E.ref k)
     |_=>none
    |_=>none).bind fun m=>(HW n C fl es).map fun ms=>.cons m ms
  |_,_=>none
noncomputable def ZK:Nat->Ct->Option Expr->Option E
 |0,_,_=>none
 |n+1,C,o=>match o with
  |none=>some .noneE
  |some e=>fj n C e
noncomputable def xF:Nat->Ct->List Expr->Option E
 |0,_,_=>none
 |n+1,C,es=>match es with
  |[]=>some .nil
  |e::es=>(fj n C e).bind fun m=>(xF n C es).map fun ms=>.cons m ms
end
def Lx(C:Ct)(e f:Option Expr):Nat:=match e,f with
 |some (.Call (.Name x _) [.Constant (.str _) _ _] [] _),none=>if BZ C.sc x&&Je x then(match pQ C.exs x with|some k=>k+1|none=>0)else 0
 |_,_=>0
def Jm(sc:Scope)(x:Str):Bool:=sc.names.lookup x==some .local||sc.names.lookup x==some .cell
def slotsOf(C:Ct):List Expr->Option (List Nat)
 |[]=>some []
 |.Name x _::es=>if Jm C.sc x then(pQ C.N x).bind fun i=>(slotsOf C es).map (i:: ·)else none
 |_=>none
def KJ(C:Ct):Expr->Option Tg
 |.Name x _=>if Jm C.sc x then(pQ C.N x).map .name else none
 |.Tuple es _ _=>(slotsOf C es).map .tup
 |_=>none
def isTup:Expr->Bool
 |.Tuple .. =>true
 |_=>false
def pU:Expr->Bool
 |.ListComp .. =>true
 |_=>false
def isSlice:Expr->Bool
 |.Slice .. =>true
 |_=>false
def rzB(C:Ct):Expr->Bool
 |.Name x _=>C.rz.contains x
 |_=>false
noncomputable def trX(n:Nat)(C:Ct)(f:Expr)(args:List Expr)(kw:List Keyword):Option S:=
 match f,kw with
 |.Name x _,[]=>if Je x&&BZ C.sc x then(match fnAt C x with
   |some (g,fl)=>(HW n C fl args).bind fun m=>if m.N7 then none else some (.callx g m)
   |none=>none)else none
 |_,_=>none
mutual
noncomputable def UL:Nat->Ct->Stmt->Option S
 |0,_,_=>none
 |n+1,C,st=>match st with
  |.Return v _=>match v with
   |none=>some ABm
   |some e=>(fj n C e).map .ret
  |.Assign ts e _=>match ts with
   |[t]=>match t with
    |.Name x _=>if Jm C.sc x then(pQ C.N x).bind fun i=>(fj n C e).map fun m=>.set i m else none
    |.Tuple es _ _=>if isTup e||pU e then none else(slotsOf C es).bind fun is=>(fj n C e).map fun m=>.setT is m
    |.Subscript o ix _=>match o with
     |.Name x _=>if pU e||isSlice ix then none else(kI C x).bind fun v=>match v with
      |.var k=>(fj n C ix).bind fun i=>(fj n C e).map fun m=>.setIx k i m
      |_=>none
     |_=>none
    |_=>none
   |_=>none
  |.Expr e _=>match e with
   |.Call f args kw cp=>match f,args,kw with
    |.Attribute o name ap,[a],[]=>match o with
     |.Name x _=>if MJ ap cp&&name="append" then(kI C x).bind fun v=>(match v with
       |.var k=>(fj n C a).map fun m=>.append k m
       |_=>none)
      else(fj n C e).map .expr
     |_=>none
    |f,args,kw=>if rzB C f then trX n C f args kw else(fj n C e).map .expr
   |_=>none
  |.If t a b _=>(fj n C t).bind fun t=>(rT n C a).bind fun a=>(rT n C b).map fun b=>.ite t a b
  |.For tg it b el _=>match el with
   |[]=>(KJ C tg).bind fun tg'=>(ZL n C it).bind fun it=>(rT n C b).map fun b=>.for_ tg' it b
   |_=>none
  |.While t b el _=>match el with
   |[]=>(fj n C t).bind fun t=>(rT n C b).map fun b=>.while_ t b
   |_=>none
  |.Raise e f _=>some (.raise (Lx C e f))
  |_=>none
noncomputable def rT:Nat->Ct->List Stmt->Option S
 |0,_,_=>none
 |n+1,C,ss=>match ss with
  |[]=>some .nil
  |s::ss=>(UL n C s).bind fun m=>(rT n C ss).map fun ms=>.cons m ms
end
end Mini
end
section
namespace Mini
open PySem L2
def rN:List Str:=["isinstance","tuple","list","str","bool","int","dict","len","all","any","sorted","zip","range","enumerate","min"]
def Zo(X:Cx)(c:Cf)(g:Nat)(x:Str):Prop:=∃k f fd ps,cD X.prog X.w X.K X.mg X.base gw k f fd ps (cL X.K ps.length (c.fn g))/\dR k X.A/\X.mg x=some (.ref f)/\PySem.W.keepIn X.K (.ref f)=true/\Binds X.K fd ps []/\∀sl,c.fn g sl=.bad\/sl.length=ps.length
structure jt(C:Ct)(X:Cx)(c:Cf):Prop where
 N:X.N=C.N
 sc:X.env.scope=C.sc
 nd:C.N.Nodup
 calm:X.calm=true
 hu:X.A.units+60<cLine
 bi:∀x∈rN,X.mg x=none
 gl:∀k x,C.gB[k]? =some x->∃d,c.gl k=some d/\acR X x d
 fn:∀g x fl,C.fns[g]? =some (x,fl)->Zo X c g x
structure Sd(X:Cx)(c:Cf)(m:E)(e:Expr):Prop where
 ge:GE X W0 c m e
 gt:GT X W0 c m e
 pl:plain e=true
 va:∀k,m.az=some k->∃x p,e=.Name x p/\jX X k x
 nn:m.lE=false
theorem jK:∀{N:List Str}{x:Str}{k:Nat},pQ N x=some k->N[k]? =some x
 |[],_,_,h=>by cases h
 |y::r,x,k,h=>by
  unfold pQ at h
  split at h
  ·rename_i e;cases h;subst e;rfl
  ·cases q:pQ r x with
   |none=>rw[q]at h;cases h
   |some j=>rw[q]at h;cases h;simpa using jK q
def Wa{x:Str}(h:Wb sc x=true):J5 sc x:=by
 unfold Wb at h
 unfold J5
 cases q:sc.names.lookup x with
 |none=>rw[q]at h;cases h
 |some k=>rw[q]at h;cases k<;>simp at h<;>simp
def Gz(h:Je x=true):(x==("__debug__":Str))=false/\(x==("__classdict__":Str))=false:=by
 unfold Je at h
 rw[QUq]at h
 exact⟨by simpa using h.1,by simpa using h.2⟩
section
def oV(O:jt C X c)(h:BZ C.sc x=true):Gl X x:=by
 unfold BZ at h
 show X.env.scope.names.lookup x=_
 rw[O.sc]
 simpa using h
def bH(h:plain e=true)es env:starEach (e::es) env=(false,eval e env)::starEach es env:=by
 cases e<;>first|rfl|exact absurd (h) Qjz
def tR(h:plain e=true)o:behindInMarks o e=false:=by
 cases e<;>first|rfl|exact absurd (h) Qjz
def yE(h:plain e=true)env x:foldedSetIterable e env x=pure x:=by
 cases e<;>first|rfl|exact absurd (h) Qjz
def Dh(h:plain e=true):yX e:=by
 intro o i
 cases e<;>first|rfl|exact absurd (h) Qjz
def tame:Expr->Bool
 |.UnaryOp .Not .. |.BoolOp .. |.IfExp .. |.Compare .. =>false
 |_=>true
def Og(h:GE X W0 c m e)(hp:plain e=true)(ht:tame e=true):GT X W0 c m e:=by
 refine h.t fun whole=>?_
 cases e with
 |UnaryOp o a q=>cases o<;>first|rfl|exact absurd (ht) Qjz
 |_=>first|rfl|exact absurd (hp) Qjz|exact absurd (ht) Qjz
def Gj(O:jt C X c)(h:kI C x=some m):Sd X c m (.Name x p):=by
 unfold kI at h
 split at h
 ·rename_i nb
  obtain⟨n1,n2⟩:=Gz nb
  cases q:pQ C.N x with
  |some k=>
   rw[q]at h
   simp only at h
   split at h
   ·rename_i hv
    cases h
    have nm:jX X k x:=⟨by rw[O.N];exact jK q,by rw[O.sc];exact Wa hv,n1,n2⟩
    exact⟨nm.ge,Og nm.ge rfl rfl,rfl,fun k' e=>by cases e;exact⟨x,p,rfl,nm⟩,rfl⟩
   ·cases h
  |none=>
   rw[q]at h
   simp only at h
   split at h
   ·rename_i hg
    cases q2:pQ C.gB x with
    |none=>rw[q2]at h;cases h
    |some k=>
     rw[q2]at h
     cases h
     obtain⟨d,hk,ok⟩:=O.gl k x (jK q2)
     have ge:GE X W0 c _ (.Name x p):=Tu hk ok (oV O hg) n1
     exact⟨ge,Og ge rfl rfl,rfl,fun k' e=>(by cases e),rfl⟩
   ·cases h
 ·cases h
def GC(O:jt C X c)(h:kI C x=some (.var k)):jX X k x:=by
 obtain⟨y,q,e,nm⟩:=(Gj (p:=default) O h).va k rfl
 cases e
 exact nm
inductive Al(X:Cx)(c:Cf):E->List Expr->Prop
 |nil:Al X c .nil []
 |cons {m ms:E} {e:Expr} {es:List Expr}:Sd X c m e->Al X c ms es->Al X c (.cons m ms) (e::es)
theorem Al.ga:∀{ms:E}{es:List Expr},Al X c ms es->GA X W0 c ms es
 |_,_,.nil=>OD
 |_,_,.cons h t=>Hj h.ge t.ga (bH h.pl _ _)
theorem Al.and{es:List Expr}:∀{m ms:E}{e:Expr},Al X c (.cons m ms) (e::es)->GE X W0 c (.and (.cons m ms)) (.BoolOp .And (e::es) pos)/\GW X W0 c (.and (.cons m ms)) (.BoolOp .And (e::es) pos):=by
 induction es with
 |nil=>intro m ms e h;cases h with|cons h t=>cases t;exact⟨TJ h.ge,Ti h.gt⟩
 |cons e2 es ih=>intro m ms e h;cases h with|cons h t=>cases t with|cons h2 t=>exact⟨YH h.ge (ih (.cons h2 t)).1,Ym h.gt (ih (.cons h2 t)).2⟩
theorem Al.or{es:List Expr}:∀{m ms:E}{e:Expr},Al X c (.cons m ms) (e::es)->GE X W0 c (.or (.cons m ms)) (.BoolOp .Or (e::es) pos)/\GW X W0 c (.or (.cons m ms)) (.BoolOp .Or (e::es) pos):=by
 induction es with
 |nil=>intro m ms e h;cases h with|cons h t=>cases t;exact⟨Yw h.ge,Yi h.gt⟩
 |cons e2 es ih=>intro m ms e h;cases h with|cons h t=>cases t with|cons h2 t=>exact⟨aci h.ge (ih (.cons h2 t)).1,acd h.gt (ih (.cons h2 t)).2⟩
def Xw{q:Zm}(h:opB o=some q):o=abK q:=by
 cases o<;>first|(cases (h);rfl)|cases (h)
def Et{q:Cm}(h:cmB o=some q):o=fZ q:=by
 cases o<;>first|(cases (h);rfl)|cases (h)
def Pu{d:D}(h:Px k=some d):Jc d k=true:=by
 cases k<;>simp[Px]at h<;>subst h<;>simp[Jc]
def Wl(h:tyB x=some t):x=Str.ofString (tyN t)/\x∈rN:=by
 unfold tyB at h
 split at h
 ·rename_i e;cases h;subst e;exact⟨rfl,by decide⟩
 split at h
 ·rename_i e;cases h;subst e;exact⟨rfl,by decide⟩
 split at h
 ·rename_i e;cases h;subst e;exact⟨rfl,by decide⟩
 split at h
 ·rename_i e;cases h;subst e;exact⟨rfl,by decide⟩
 split at h
 ·rename_i e;cases h;subst e;exact⟨rfl,by decide⟩
 cases h
def Vy(O:jt C X c){bb:Bi}(h:Z9 x=some bb)(hg:BZ C.sc x=true)(ha:Sd X c m a)(hd:bb=.dict->m.az=none):GE X W0 c (.bi bb m) (.Call (.Name x p) [a] [] pos):=by
 have hs:=bH ha.pl [] X.env
 have hG:=oV O hg
 unfold Z9 at h
 split at h
 ·rename_i e;cases h;subst e;exact uw JX Rx ha.ge ha.va hG (O.bi _ (by decide)) PySem.boot_len (by decide) (by decide) hs
 split at h
 ·rename_i e;cases h;subst e;exact Ei JZ Ry ha.ge ha.va hG (O.bi _ (by decide)) PyProof.Rows.boot_int (by decide) (by decide) hs
 split at h
 ·rename_i e;cases h;subst e;exact Ei vB Il ha.ge ha.va hG (O.bi _ (by decide)) PyProof.Rows.boot_tuple (by decide) (by decide) hs
 split at h
 ·rename_i e;cases h;subst e;exact Ei yU Lp ha.ge ha.va hG (O.bi _ (by decide)) PyProof.Rows.boot_list (by decide) (by decide) hs
 split at h
 ·rename_i e;cases h;subst e;exact uw (J1 O.calm) RB ha.ge ha.va hG (O.bi _ (by decide)) PyProof.Rows.boot_all (by decide) (by decide) hs
 split at h
 ·rename_i e;cases h;subst e;exact uw (J0 O.calm) Rz ha.ge ha.va hG (O.bi _ (by decide)) PyProof.Rows.boot_any (by decide) (by decide) hs
 split at h
 ·rename_i e;cases h;subst e;exact uw yS CN ha.ge ha.va hG (O.bi _ (by decide)) PyProof.Rows.boot_sorted (by decide) (by decide) hs
 split at h
 ·rename_i e;cases h;subst e;exact Tw O.calm ha.ge (hd rfl) hG (O.bi _ (by decide)) hs
 split at h
 ·rename_i e;cases h;subst e;exact uw (JW O.calm O.hu) Rw ha.ge ha.va hG (O.bi _ (by decide)) rfl (by decide) (by decide) hs
 cases h
end
def CQ{env:Env}(h:env.scope=outer):relabel sc env=sU sc outer:=by
 subst h
 rfl
def Lg{η N:List Str}(h:WT outer inner η N=true):(sO η N).Nodup:=by
 unfold WT at h
 simp only[QUq,QUz]at h
 exact h.1.1.1.1.1.1.2
def Lf{η N:List Str}(h:WT outer inner η N=true):J6 outer inner η N:=by
 unfold WT at h
 simp only[QUq,QUz,List.all_eq_true,Bool.or_eq_true,bne_iff_ne,beq_iff_eq,Bool.not_eq_true',ne_eq]at h
 obtain⟨⟨⟨⟨⟨⟨⟨h1,h2⟩,h3⟩,h4⟩,h5⟩,h6⟩,h7⟩,h8⟩:=h
 refine⟨h1,h2,fun x hx=>?_,fun p hp hl=>?_,h4,h5,fun p hp hf=>?_,fun x hx ht=>?_,fun hx=>?_⟩
 ·rcases h3 _ (PySem.mem_of_lookup hx)with z|z
  ·exact absurd rfl z
  ·rcases z.1 with z|z
   ·exact .inl (by simpa using z)
   ·exact .inr z
 ·rcases h3 p hp with z|z
  ·exact absurd hl z
  ·exact z.2
 ·rcases h6 p hp with (z|z)|z
  ·exact absurd hf z
  ·exact .inl z
  ·exact .inr z
 ·rcases h7 x hx with z|z
  ·rw[ht]at z;cases z
  ·simpa using z
 ·have:N.contains (".0")=true:=by simpa using hx
  rw[this]at h8;cases h8
section
variable{sc:Scope}
theorem jt.blk(O:jt C X c)(hs:WT C.sc sc η C.N=true){fp:List Addr}{H₀:Hp}:jt {C with N:=sO η C.N,sc:=sU sc C.sc} (Mini.blk X sc cl (cC η X.N) fp s₀ H₀) c:=
 ⟨by show cC η X.N=sO η C.N;rw[O.N];rfl,CQ O.sc,Lg hs,O.calm,O.hu,O.bi,O.gl,O.fn⟩
theorem tO{sc:Scope}{N:List Str}:∀{es:List Expr}{xs:List Str}(k:Nat),es.mapM vp=some xs->(∀j x,xs[j]? =some x->N[k+j]? =some x)->(∀x∈xs,sc.names.lookup x=some .local)->iM sc N (List.range' k xs.length) es=true
 |[],xs,k,h,_,_=>by
  simp at h;subst h;rfl
 |e::es,xs,k,h,hN,hl=>by
  rw[List.mapM_cons]at h
  cases q:vp e with
  |none=>rw[q]at h;cases h
  |some x=>
   rw[q]at h
   cases q2:es.mapM vp with
   |none=>rw[q2]at h;cases h
   |some ys=>
    rw[q2]at h
    cases h
    cases e<;>simp[vp]at q
    subst q
    rw[QBq,List.range'_succ]
    unfold iM
    rw[tO _ q2 (fun j y e=>by have:=hN (j+1) y (by simpa using e);rw[<-this];congr 1;omega) (fun y hy=>hl y (QYq _ hy))]
    have:=hN 0 _ rfl
    simp at this
    simp[this,hl _ QYz]
theorem tQ:∀{es:List Expr}{xs:List Str},es.mapM vp=some xs->(assignEach es env).length=xs.length/\(assignEach es env).findIdx? (·.1)=none
 |[],xs,h=>by simp at h;subst h;exact⟨rfl,rfl⟩
 |e::es,xs,h=>by
  rw[List.mapM_cons]at h
  cases q:vp e with
  |none=>rw[q]at h;cases h
  |some x=>
   rw[q]at h
   cases q2:es.mapM vp with
   |none=>rw[q2]at h;cases h
   |some ys=>
    rw[q2]at h
    cases h
    obtain⟨i1,i2⟩:=tQ (env:=env) q2
    cases e<;>simp[vp]at q
    constructor
    ·show(_::assignEach es env).length=_
     simp[i1]
    ·show(List.findIdx? (·.1) ((false,_)::assignEach es env))=none
     rw[List.findIdx?_cons]
     simp[i2]
def aaM(O:jt C X c){Ω:Expr}(ht:Wo Ω=some (η,tg))(hs:WT C.sc sc η C.N=true):(∀i∈slots tg,i<η.length)/\∀(cl:List (Str×Addr))(fp:List Addr)(s₀:Shared)(H₀:Hp),GG (Mini.blk X sc cl (cC η X.N) fp s₀ H₀) tg Ω:=by
 have lc:∀x∈η,∀cl fp s₀ H₀,(Mini.blk X sc cl (cC η X.N) fp s₀ H₀).env.scope.names.lookup x=some .local:=fun x hx cl fp s₀ H₀=>lookup_relabel_local ((Lf hs).tg x hx)
 have nd:∀cl fp s₀ H₀,(Mini.blk X sc cl (cC η X.N) fp s₀ H₀).N.Nodup:=fun cl fp s₀ H₀=>by
  rw[O.N]
  exact Lg hs
 cases Ω<;>simp only[Wo]at ht<;>try (cases ht;done)
 ·rename_i x q
  cases ht
  refine⟨fun i hi=>?_,fun cl fp s₀ H₀=>yD (nd cl fp s₀ H₀) rfl (.inl (lc x (by simp) cl fp s₀ H₀)) (.inr (lc x (by simp) cl fp s₀ H₀))⟩
  simp[slots]at hi
  subst hi
  simp
 ·rename_i es k q
  cases qm:es.mapM vp with
  |none=>rw[qm]at ht;cases ht
  |some xs=>
   rw[qm]at ht
   cases ht
   refine⟨fun i hi=>by simpa[slots]using hi,fun cl fp s₀ H₀=>?_⟩
   obtain⟨l1,l2⟩:=tQ qm
   refine Ed (nd cl fp s₀ H₀) O.calm (MP ?_) (by simp[l1]) l2
   have:=tO (N:=(Mini.blk X sc cl (cC η X.N) fp s₀ H₀).N) 0 qm (fun j x e=>?_) (fun x hx=>lc x hx cl fp s₀ H₀)
   ·rwa[List.range_eq_range']
   ·show(cC η X.N)[0+j]? =some x
    unfold cC
    rw[Nat.zero_add,Qwz (QCz.mp e).1]
    exact e
end
inductive Ar(X:Cx)(c:Cf):E->List Expr->Prop
 |nil:Ar X c .nil []
 |cons {m ms:E} {e:Expr} {es:List Expr}:GE X W0 c m e->plain e=true->Ar X c ms es->Ar X c (.cons m ms) (e::es)
theorem Ar.ga{c:Cf}:∀{ms:E}{es:List Expr},Ar X c ms es->GA X W0 c ms es
 |_,_,.nil=>OD
 |_,_,.cons h p t=>Hj h t.ga (bH p _ _)
theorem Ar.plain{c:Cf}:∀{ms:E}{es:List Expr},Ar X c ms es->(backTo pos (starEach es X.env)).any (·.1)=false
 |_,_,.nil=>rfl
 |_,_,.cons h p t=>by
  rw[bH p]
  have:=t.plain (pos:=pos)
  simpa[backTo]using this
def Fw(X:Cx)(c:Cf)(m:E)(elt:Expr)(g:Comprehension)(sc:Scope):Prop:=
 ∃η tg it cond m',m=.comp η.length tg it cond m'/\BV X c sc η tg cond m' g.target elt g.ifs/\GI X W0 c it g.target g.iter/\plain g.iter=true/\g.is_async=0
structure Ih(c:Cf)(n:Nat):Prop where
 e:∀C X e m,jt C X c->fj n C e=some m->Sd X c m e
 es:∀C X es m,jt C X c->xF n C es=some m->Al X c m es
 a:∀C X fl es m,jt C X c->HW n C fl es=some m->Ar X c m es
 o:∀C X o m,jt C X c->ZK n C o=some m->GO X W0 c m o
 b:∀C X x args m p pos,jt C X c->BZ C.sc x=true->trB n C x args=some m->GE X W0 c m (.Call (.Name x p) args [] pos)/\m.az=none/\m.lE=false
 i:∀C X tg e m,jt C X c->ZL n C e=some m->GI X W0 c m tg e/\plain e=true
 k:∀C X elt g sc m,jt C X c->trC n C elt g sc=some m->Fw X c m elt g sc
 d:∀C X ks vs m,jt C X c->KC n C ks vs=some m->∃HS,Kv X W0 c m ks vs HS/\ks.all (·.isSome)=true
def ih0 c:Ih c 0:=by
 constructor
 all_goals (intros;rename_i h;first|(rw[fj]at h;cases h)|(rw[xF]at h;cases h)|(rw[HW]at h;cases h)|(rw[ZK]at h;cases h)|(rw[trB]at h;cases h)|(rw[ZL]at h;cases h)|(rw[trC]at h;cases h)|(rw[KC]at h;cases h))
section
def Rc(I:Ih c n)(O:jt C X c)(h:xF (n+1) C es=some m):Al X c m es:=by
 cases es with
 |nil=>rw[xF]at h;cases h;exact .nil
 |cons e es=>
  rw[xF]at h
  simp only[QJq,QJz]at h
  obtain⟨m1,h1,m2,h2,rfl⟩:=h
  exact .cons (I.e C X e m1 O h1) (I.es C X es m2 O h2)
def WF(I:Ih c n)(O:jt C X c){vs:List Expr}(h:KC (n+1) C ks vs=some m):∃HS,Kv X W0 c m ks vs HS/\ks.all (·.isSome)=true:=by
 unfold KC at h
 split at h
 ·cases h;exact⟨[],.nil,rfl⟩
 ·simp only[QJq,QJz]at h
  obtain⟨k1,h1,v1,h2,r,h3,rfl⟩:=h
  obtain⟨HS,K,a⟩:=I.d C X _ _ r O h3
  exact⟨_,.cons (I.e C X _ k1 O h1).ge (I.e C X _ v1 O h2).ge K,by simpa using a⟩
 ·cases h
def Wx(I:Ih c n)(O:jt C X c)(h:ZK (n+1) C o=some m):GO X W0 c m o:=by
 cases o with
 |none=>rw[ZK]at h;cases h;exact .inl ⟨rfl,rfl⟩
 |some e=>
  have s:=I.e C X e m O h
  exact .inr ⟨e,rfl,s.nn,s.ge⟩
def WL(I:Ih c n)(O:jt C X c){es:List Expr}(h:HW (n+1) C fl es=some m):Ar X c m es:=by
 cases fl with
 |nil=>
  cases es with
  |nil=>rw[HW]at h;cases h;exact .nil
  |cons e es=>rw[HW]at h<;>first|cases h|(intros;simp_all)
 |cons f fl=>
  cases es with
  |nil=>rw[HW]at h<;>first|cases h|(intros;simp_all)
  |cons e es=>
   cases f with
   |false=>
    rw[HW]at h
    simp only[QJq,QJz]at h
    obtain⟨m1,h1,m2,h2,rfl⟩:=h
    have s:=I.e C X e m1 O h1
    exact .cons s.ge s.pl (I.a C X fl es m2 O h2)
   |true=>
    by_cases hN:∃x p,e=.Name x p
    ·obtain⟨x,p,rfl⟩:=hN
     rw[HW]at h
     simp only[QJq,QJz]at h
     obtain⟨m1,⟨m3,h3,h4⟩,m2,h2,rfl⟩:=h
     split at h4
     ·cases h4
      exact .cons (Yv (GC O h3)) rfl (I.a C X fl es m2 O h2)
     ·cases h4
    ·rw[HW]at h
     ·simp only[QJq,QJz]at h
      obtain⟨m1,h3,_⟩:=h
      cases h3
     ·exact fun x p z=>hN ⟨x,p,z⟩
def W2{x:Str}(O:jt C X c)(h:(decide (x="range")&&BZ C.sc x&&(fnAt C x).isNone)=true):x="range"/\Gl X "range":=by
 simp only[QUq,QUz]at h
 obtain⟨⟨rfl,h2⟩,_⟩:=h
 exact⟨rfl,oV O h2⟩
def aar{x:Str}(O:jt C X c)(h:(decide (x="zip")&&BZ C.sc x&&(fnAt C x).isNone)=true):x="zip"/\Gl X "zip":=by
 simp only[QUq,QUz]at h
 obtain⟨⟨rfl,h2⟩,_⟩:=h
 exact⟨rfl,oV O h2⟩
def Wz(I:Ih c n)(O:jt C X c)(h:ZL (n+1) C e=some m):GI X W0 c m tg e/\plain e=true:=by
 have dflt:fj n C e=some m->GI X W0 c m tg e/\plain e=true:=fun h=>let s:=I.e C X e m O h;⟨ach s.ge,s.pl⟩
 unfold ZL at h
 split at h
 ·split at h
  ·split at h
   ·rename_i hr
    obtain⟨rfl,hg⟩:=W2 O hr
    simp only[QJz]at h
    obtain⟨m1,h1,rfl⟩:=h
    have s:=I.e C X _ m1 O h1
    exact⟨JP s.ge hg (O.bi _ (by decide)) (bH s.pl _ _),rfl⟩
   ·exact dflt h
  ·split at h
   ·rename_i hr
    obtain⟨rfl,hg⟩:=aar O hr
    simp only[QJq,QJz]at h
    obtain⟨m1,h1,m2,h2,rfl⟩:=h
    have s1:=I.e C X _ m1 O h1
    have s2:=I.e C X _ m2 O h2
    exact⟨Yr s1.ge s2.ge hg (O.bi _ (by decide)) (by rw[bH s1.pl,bH s2.pl];rfl) (bH s2.pl _ _),rfl⟩
   ·exact dflt h
  ·exact dflt h
 ·exact dflt h
def Wy(I:Ih c n)(O:jt C X c){g:Comprehension}(h:trC (n+1) C elt g sc=some m):Fw X c m elt g sc:=by
 rw[trC]at h
 split at h
 ·rename_i ha
  simp only[QJq]at h
  obtain⟨⟨η,tg⟩,ht,h⟩:=h
  split at h
  ·rename_i hs
   simp only[QJq,QJz]at h
   obtain⟨it,h1,cond,h2,m',h3,rfl⟩:=h
   obtain⟨sm,gg⟩:=aaM O ht hs
   obtain⟨gi,gp⟩:=I.i C X g.target g.iter it O h1
   refine⟨η,tg,it,cond,m',rfl,⟨by rw[O.sc,O.N];exact Lf hs,sm,fun cl fp s₀ H₀ _=>gg cl fp s₀ H₀,?_,fun cl fp s₀ H₀ _=>(I.e _ _ elt m' (O.blk hs) h3).ge⟩,gi,gp,ha⟩
   split at h2
   ·rename_i hi
    cases h2
    exact .inl ⟨hi,rfl⟩
   ·rename_i ce hi
    exact .inr ⟨ce,hi,fun cl fp s₀ H₀ _=>(I.e _ _ ce cond (O.blk hs) h2).gt⟩
   ·cases h2
  ·cases h
 ·cases h
end
section
theorem Mz(I:Ih c n)(O:jt C X c){a:Expr}(hg:BZ C.sc x=true)(h:((Z9 x).bind fun b=>(fj n C a).bind fun m=>if (decide (b=.dict)&&m.az.isSome)=true then some (E.bi b (.rd m))else some (E.bi b m))=some m):
  GE X W0 c m (.Call (.Name x p) [a] [] pos)/\m.az=none/\m.lE=false:=by
 simp only[QJq]at h
 obtain⟨bb,h1,m1,h2,h3⟩:=h
 split at h3
 ·cases h3
  have s:=I.e C X a m1 O h2
  exact⟨Vy O h1 hg ⟨(fun env=>PE.imp (s.ge env) fun σ H Q q=>by simpa only[QW]using q),fun γ sh σ H Q I⟨env,q⟩=>s.gt γ sh σ H Q I ⟨env,by simpa only[QW]using q⟩,s.pl,fun k z=>(by cases z),rfl⟩ fun _=>rfl,rfl,rfl⟩
 ·rename_i hn
  cases h3
  refine⟨Vy O h1 hg (I.e C X a m1 O h2) (fun z=>?_),rfl,rfl⟩
  subst z
  cases q:m1.az with
  |none=>rfl
  |some k=>rw[q]at hn;exact absurd rfl hn
def WK(I:Ih c n)(O:jt C X c){args:List Expr}(hg:BZ C.sc x=true)(h:trB (n+1) C x args=some m):GE X W0 c m (.Call (.Name x p) args [] pos)/\m.az=none/\m.lE=false:=by
 unfold trB at h
 split at h
 ·--isinstance
  split at h
  ·rename_i hx
   subst hx
   split at h
   ·split at h
    ·rename_i hy
     simp only[QJq,QJz]at h
     obtain⟨t,h1,m1,h2,rfl⟩:=h
     have s:=I.e C X _ m1 O h2
     obtain⟨e1,e2⟩:=Wl h1
     exact⟨YC s.ge e1 (oV O hy) (O.bi _ e2) (oV O hg) (O.bi _ (by decide)) (bH s.pl _ _),rfl,rfl⟩
    ·cases h
   ·cases h
  ·cases h
 ·split at h
  ·split at h
   ·split at h
    ·rename_i hz
     obtain⟨rfl,hgz⟩:=aar O hz
     split at h
     ·rename_i hx
      subst hx
      simp only[QJq,QJz]at h
      obtain⟨m1,h1,m2,h2,rfl⟩:=h
      have s1:=I.e C X _ m1 O h1
      have s2:=I.e C X _ m2 O h2
      exact⟨Eh O.calm s1.ge s2.ge hgz (O.bi _ (by decide)) (by rw[bH s1.pl,bH s2.pl];rfl) (bH s2.pl _ _) (oV O hg) (O.bi _ (by decide)) rfl,rfl,rfl⟩
     ·split at h
      ·rename_i hx
       subst hx
       simp only[QJq,QJz]at h
       obtain⟨m1,h1,m2,h2,rfl⟩:=h
       have s1:=I.e C X _ m1 O h1
       have s2:=I.e C X _ m2 O h2
       exact⟨Eg O.calm s1.ge s2.ge hgz (O.bi _ (by decide)) (by rw[bH s1.pl,bH s2.pl];rfl) (bH s2.pl _ _) (oV O hg) (O.bi _ (by decide)) rfl,rfl,rfl⟩
      ·cases h
    ·exact Mz I O hg h
   ·exact Mz I O hg h
  ·exact Mz I O hg h
 ·cases h
def il(ge:GE X W0 c m e)(hp:plain e=true)(hv:m.az=none)(hi:m.lE=false)(ht:tame e=true):Sd X c m e:=
 ⟨ge,Og ge hp ht,hp,fun k z=>(by rw[hv]at z;cases z),hi⟩
def hu1(O:jt C X c):X.A.units+1<cLine:=by have:=O.hu;omega
def TV{g:Nat}(h:fnAt C x=some (g,fl)):C.fns[g]? =some (x,fl):=by
 unfold fnAt at h
 simp only[QJq,QJz]at h
 obtain⟨g',h1,⟨y,fl'⟩,h2,h3⟩:=h
 cases h3
 have:=jK h1
 rw[QFz,h2]at this
 simp at this
 rw[h2,this]
def mJ{name:Str}(h:isCall o=false):attributeBase o name env (eval o env)=eval o env:=by
 cases o<;>first|rfl|simp[isCall]at h
def WD(I:Ih c n)(O:jt C X c){e:Expr}(h:fj (n+1) C e=some m):Sd X c m e:=by
 have no:∀{P:Prop},(none:Option E)=some m->P:=fun z=>nomatch z
 unfold fj at h
 split at h
 ·simp only[QJz]at h
  obtain⟨d,h1,rfl⟩:=h
  exact il (YF (Pu h1)) rfl rfl rfl rfl
 ·exact Gj O h
 ·simp only[QJz]at h
  obtain⟨m1,h1,rfl⟩:=h
  exact il (Yt (I.es C X _ m1 O h1).ga) rfl rfl rfl rfl
 ·simp only[QJz]at h
  obtain⟨m1,h1,rfl⟩:=h
  exact il (Yz (I.es C X _ m1 O h1).ga) rfl rfl rfl rfl
 ·simp only[QJq,QJz]at h
  obtain⟨o,h0,m1,h1,m2,h2,rfl⟩:=h
  rw[Xw h0]
  exact il (acj (I.e C X _ m1 O h1).ge (I.e C X _ m2 O h2).ge) rfl rfl rfl rfl
 ·split at h
  ·simp only[QJz]at h
   obtain⟨m1,h1,rfl⟩:=h
   exact il (Yy (I.e C X _ m1 O h1).ge) rfl rfl rfl rfl
  ·simp only[QJz]at h
   obtain⟨m1,h1,rfl⟩:=h
   have s:=I.e C X _ m1 O h1
   exact⟨Yx s.ge,Yj s.gt,rfl,fun k z=>(by cases z),rfl⟩
  ·exact no h
 ·simp only[QJq]at h
  obtain⟨m1,h1,h2⟩:=h
  have A:=I.es C X _ m1 O h1
  split at h2
  ·exact no h2
  ·rename_i hn
   cases A with
   |nil=>exact absurd rfl hn
   |cons s t=>
    split at h2
    ·cases h2
     exact⟨(Al.cons s t).and.1,(Al.cons s t).and.2.t,rfl,fun k z=>(by cases z),rfl⟩
    ·cases h2
     exact⟨(Al.cons s t).or.1,(Al.cons s t).or.2.t,rfl,fun k z=>(by cases z),rfl⟩
 ·split at h
  ·simp only[QJq,QJz]at h
   obtain⟨o,h0,m1,h1,m2,h2,rfl⟩:=h
   rw[Et h0]
   have s1:=I.e C X _ m1 O h1
   have s2:=I.e C X _ m2 O h2
   exact⟨YG (pH O.hu o) s1.ge s2.ge s2.va (tR s2.pl _),Yl (pH O.hu o) s1.ge s2.ge s2.va (tR s2.pl _),rfl,fun k z=>(by cases z),rfl⟩
  ·simp only[QJq,QJz]at h
   obtain⟨o,h0,o2,h02,m1,h1,m2,h2,m3,h3,rfl⟩:=h
   rw[Et h0,Et h02]
   have s1:=I.e C X _ m1 O h1
   have s2:=I.e C X _ m2 O h2
   have s3:=I.e C X _ m3 O h3
   have hm:∀b,lastMarks [fZ o,fZ o2] [b,_]=false:=fun b=>tR s3.pl (fZ o2)
   exact⟨Oz (pH O.hu o) (pH O.hu o2) s1.ge s2.ge s3.ge (hm _),Oh (pH O.hu o) (pH O.hu o2) s1.ge s2.ge s3.ge (hm _),rfl,fun k z=>(by cases z),rfl⟩
  ·exact no h
 ·simp only[QJq,QJz]at h
  obtain⟨m1,h1,m2,h2,m3,h3,rfl⟩:=h
  have s1:=I.e C X _ m1 O h1
  have s2:=I.e C X _ m2 O h2
  have s3:=I.e C X _ m3 O h3
  exact⟨YB s1.gt s2.ge s3.ge,Yk s1.gt s2.gt s3.gt,rfl,fun k z=>(by cases z),rfl⟩
 ·split at h
  ·split at h
   ·simp only[QJq,QJz]at h
    obtain⟨m1,h1,m2,h2,m3,h3,rfl⟩:=h
    exact il (Yu (I.e C X _ m1 O h1).ge (I.o C X _ m2 O h2) (I.o C X _ m3 O h3)) rfl rfl rfl rfl
   ·exact no h
  ·simp only[QJq,QJz]at h
   obtain⟨m1,h1,m2,h2,rfl⟩:=h
   have s1:=I.e C X _ m1 O h1
   have s2:=I.e C X _ m2 O h2
   exact il (YD (by have:=O.hu;omega) s1.ge s2.ge s1.va (Dh s2.pl)) rfl rfl rfl rfl
 ·split at h
  ·split at h
   ·split at h
    ·rename_i hx
     rw[QUq]at hx
     split at h
     ·rename_i g fl hf
      simp only[QJq]at h
      obtain⟨m1,h1,h2⟩:=h
      split at h2
      ·exact no h2
      ·rename_i hn
       cases h2
       have A:=I.a C X _ _ m1 O h1
       obtain⟨k,f,fd,ps,F,hr,hm,hk,hb,hl⟩:=O.fn g _ fl (TV hf)
       cases A with
       |nil=>exact absurd rfl hn
       |cons ge pl t=>
        exact il (TF F hr (oV O hx.2) hm hk hb (Gz hx.1).1 (Ar.cons ge pl t).ga (bH pl _ _) t.plain hl) rfl rfl rfl rfl
     ·obtain⟨ge,h1,h2⟩:=I.b C X _ _ m _ _ O hx.2 h
      exact il ge rfl h1 h2 rfl
    ·exact no h
   ·split at h
    ·rename_i hl
     split at h
     ·split at h
      ·rename_i hx
       subst hx
       simp only[QJq,QJz]at h
       obtain⟨m1,h1,u,h0,m2,h2,rfl⟩:=h
       split at h0
       ·rename_i hp
        rw[QUq]at hp
        have s1:=I.e C X _ m1 O h1
        have s2:=I.e C X _ m2 O h2
        exact il (Ox ⟨mJ (by simpa using hp.2),hl,bH s2.pl _ _⟩ s1.ge s2.ge) rfl rfl rfl rfl
       ·cases h0
      ·split at h
       ·rename_i hx
        subst hx
        split at h
        ·simp only[QJq]at h
         obtain⟨v,h1,h2⟩:=h
         split at h2
         ·simp only[QJz]at h2
          obtain⟨m2,h3,rfl⟩:=h2
          have s2:=I.e C X _ m2 O h3
          exact il (Ou ⟨rfl,hl,bH s2.pl _ _⟩ (GC O h1) s2.ge) rfl rfl rfl rfl
         ·exact no h2
        ·exact no h
       ·split at h
        ·rename_i hx
         subst hx
         simp only[QJq,QJz]at h
         obtain⟨m1,h1,u,h0,m2,h2,rfl⟩:=h
         split at h0
         ·rename_i hp
          rw[QUq]at hp
          have s1:=I.e C X _ m1 O h1
          have s2:=I.e C X _ m2 O h2
          exact il (Ov ⟨mJ (by simpa using hp.2),hl,bH s2.pl _ _⟩ s1.ge s2.ge) rfl rfl rfl rfl
         ·cases h0
        ·exact no h
     ·split at h
      ·rename_i hx
       subst hx
       simp only[QJq,QJz]at h
       obtain⟨m1,h1,u,h0,m2,h2,m3,h3,rfl⟩:=h
       split at h0
       ·rename_i hp
        rw[QUq]at hp
        have s1:=I.e C X _ m1 O h1
        have s2:=I.e C X _ m2 O h2
        have s3:=I.e C X _ m3 O h3
        exact il (Tv (hu1 O) ⟨mJ (by simpa using hp.2),by rw[bH s2.pl,bH s3.pl];rfl,hl,by rw[bH s2.pl,bH s3.pl];rfl⟩ s1.va s1.ge s2.ge s3.ge) rfl rfl rfl rfl
       ·cases h0
      ·exact no h
     ·exact no h
    ·exact no h
   ·exact no h
  ·exact no h
 ·split at h
  ·rename_i hx
   simp only[QUq,List.isEmpty_iff]at hx
   obtain⟨rfl,rfl⟩:=hx
   cases h
   exact il Ow rfl rfl rfl rfl
  ·exact no h
 ·split at h
  ·rename_i elt sc pos g
   obtain⟨η,tg,it,cond,m',rfl,B,gi,gp,ha⟩:=I.k C X _ _ _ m O h
   obtain⟨ta,ti,tf,tn⟩:=g
   simp only at ha
   subst ha
   exact il (Tz B gi O.calm (fun x=>yE gp _ _)) rfl rfl rfl rfl
  ·exact no h
 ·exact no h
end
theorem ih c:∀n,Ih c n
 |0=>ih0 c
 |n+1=>let I:=ih c n
  ⟨fun C X e m O h=>WD I O h,fun C X es m O h=>Rc I O h,fun C X fl es m O h=>WL I O h,fun C X o m O h=>Wx I O h,fun C X x args m p pos O hg h=>WK I O hg h,fun C X tg e m O h=>Wz I O h,fun C X elt g sc m O h=>Wy I O h,fun C X ks vs m O h=>WF I O h⟩
def NE{α:Type}(r:Out α):Prop:=∀k σ,r≠ .exc k σ
section
theorem NE.ok(a:α)σ:NE (.ok a σ):=fun _ _ z=>nomatch z
theorem NE.bad:NE (.bad:Out α):=fun _ _ z=>nomatch z
theorem NE.lift σ(o:Option α):NE (lift σ o):=by cases o<;>(intro _ _ z;cases z)
theorem NE.bind{f:α->Ev->Out β}(h:NE r)(g:∀a σ,NE (f a σ)):NE (r.bind f):=by
 cases r with
 |ok a σ=>exact g a σ
 |exc k σ=>exact absurd rfl (h k σ)
 |bad=>exact NE.bad
theorem NE.ao{f:D->Ev->Out β}(h:NE r)(g:∀a σ,NE (f a σ)):NE (r.ao f):=by
 cases r with
 |ok a σ=>cases a<;>first|exact g _ _|exact NE.bad
 |exc k σ=>exact absurd rfl (h k σ)
 |bad=>exact NE.bad
theorem NE.cZ{r:Out Rv}{f:Bool->Ev->Out β}(h:NE r)(g:∀a σ,NE (f a σ)):NE (r.cZ tr f):=
 NE.ao h fun d σ=>by
  cases tr d with
  |none=>exact NE.bad
  |some b=>exact g b σ
def NE.ite{p:Prop}[Decidable p]{a b:Out α}(h:NE a)(g:NE b):NE (if p then a else b):=by split<;>assumption
end
def Sx c f as σ:NE (uJ c f as σ):=by
 unfold uJ
 split
 ·exact NE.bad
 ·split
  ·split
   ·exact NE.ok _ _
   ·exact NE.bad
  ·exact NE.bad
def Xy k y σ:NE (tE k y σ):=by
 unfold tE
 split
 ·refine NE.ite NE.bad ?_
  split
  ·split
   ·exact NE.ok _ _
   ·exact NE.bad
  ·exact NE.bad
 ·exact NE.bad
def Sw k σ:NE (sV k σ):=by
 unfold sV
 split<;>first|exact NE.ok _ _|exact NE.bad
def yf(c:Cf):∀(m:E)(σ:Ev),NE (ev c m σ)/\NE (evs c m σ)/\NE (iT c m σ)/\NE (oZ c m σ):=by
 have k3:∀{m:E},(∀σ,NE (ev c m σ))->(∀σ,evs c m σ=.bad)->(∀σ,iT c m σ=.bad)->(∀σ,oZ c m σ=.bad)->∀σ,NE (ev c m σ)/\NE (evs c m σ)/\NE (iT c m σ)/\NE (oZ c m σ):=fun h a b d σ=>by
  rw[a,b,d]
  exact⟨h σ,NE.bad,NE.bad,NE.bad⟩
 intro m
 induction m with
 |var i=>exact k3 (fun σ=>Sw i σ) (fun _=>rfl) (fun _=>rfl) fun _=>rfl
 |con d=>exact k3 (fun σ=>NE.ok _ _) (fun _=>rfl) (fun _=>rfl) fun _=>rfl
 |glob k=>exact k3 (fun σ=>by rw[v_2];split<;>first|exact NE.ok _ _|exact NE.bad) (fun _=>rfl) (fun _=>rfl) fun _=>rfl
 |nil=>exact fun σ=>⟨NE.bad,NE.ok _ _,NE.bad,NE.bad⟩
 |cons h t ih jh=>
  intro σ
  refine⟨NE.bad,NE.bind (ih σ).1 fun x σ=>NE.bind (jh σ).2.1 fun _ _=>NE.ok _ _,?_,?_⟩
  ·cases t with
   |nil=>exact(ih σ).1
   |_=>exact NE.ao (ih σ).1 fun x σ=>(by split<;>first|exact(jh σ).2.2.1|exact NE.ok _ _|exact NE.bad)
  ·cases t with
   |nil=>exact(ih σ).1
   |_=>exact NE.ao (ih σ).1 fun x σ=>(by split<;>first|exact(jh σ).2.2.2|exact NE.ok _ _|exact NE.bad)
 |tup es ih=>exact k3 (fun σ=>NE.bind (ih σ).2.1 fun _ _=>NE.lift _ _) (fun _=>rfl) (fun _=>rfl) fun _=>rfl
 |lis es ih=>exact k3 (fun σ=>NE.bind (ih σ).2.1 fun _ _=>NE.lift _ _) (fun _=>rfl) (fun _=>rfl) fun _=>rfl
 |op o a b ih jh=>exact k3 (fun σ=>NE.ao (ih σ).1 fun _ σ=>NE.ao (jh σ).1 fun _ _=>NE.lift _ _) (fun _=>rfl) (fun _=>rfl) fun _=>rfl
 |neg a ih=>exact k3 (fun σ=>NE.ao (ih σ).1 fun _ σ=>NE.lift _ _) (fun _=>rfl) (fun _=>rfl) fun _=>rfl
 |cmp o a b ih jh=>exact k3 (fun σ=>NE.ao (ih σ).1 fun _ σ=>by split<;>first|exact NE.lift _ _|exact NE.ao (jh σ).1 fun _ _=>NE.lift _ _) (fun _=>rfl) (fun _=>rfl) fun _=>rfl
 |chain o p a b d ih jh kh=>exact k3 (fun σ=>NE.ao (ih σ).1 fun _ σ=>NE.ao (jh σ).1 fun _ σ=>NE.bind (NE.lift _ _) fun _ σ=>NE.ite (NE.ao (kh σ).1 fun _ _=>NE.lift _ _) (NE.ok _ _)) (fun _=>rfl) (fun _=>rfl) fun _=>rfl
 |and es ih=>exact k3 (fun σ=>(ih σ).2.2.1) (fun _=>rfl) (fun _=>rfl) fun _=>rfl
 |or es ih=>exact k3 (fun σ=>(ih σ).2.2.2) (fun _=>rfl) (fun _=>rfl) fun _=>rfl
 |not a ih=>exact k3 (fun σ=>NE.cZ (ih σ).1 fun _ _=>NE.ok _ _) (fun _=>rfl) (fun _=>rfl) fun _=>rfl
 |ite t a b ih jh kh=>exact k3 (fun σ=>NE.cZ (ih σ).1 fun _ σ=>NE.ite (jh σ).1 (kh σ).1) (fun _=>rfl) (fun _=>rfl) fun _=>rfl
 |idx a i ih jh=>exact k3 (fun σ=>by rw[Ks];split<;>first|exact NE.ite NE.bad (NE.ao (jh σ).1 fun _ _=>NE.lift _ _)|exact NE.ao (ih σ).1 fun _ σ=>NE.ao (jh σ).1 fun _ _=>NE.lift _ _) (fun _=>rfl) (fun _=>rfl) fun _=>rfl
 |slc a lo hi ih jh kh=>exact k3 (fun σ=>NE.ao (ih σ).1 fun _ σ=>NE.ao (jh σ).1 fun _ σ=>by split<;>first|exact NE.bad|exact NE.ao (kh σ).1 fun _ _=>NE.lift _ _) (fun _=>rfl) (fun _=>rfl) fun _=>rfl
 |noneE=>exact k3 (fun σ=>NE.ok _ _) (fun _=>rfl) (fun _=>rfl) fun _=>rfl
 |call f as ih=>exact k3 (fun σ=>NE.bind (ih σ).2.1 fun _ _=>Sx _ _ _ _) (fun _=>rfl) (fun _=>rfl) fun _=>rfl
 |ref i=>exact k3 (fun σ=>by rw[QX];split<;>first|exact NE.ok _ _|exact NE.bad) (fun _=>rfl) (fun _=>rfl) fun _=>rfl
 |rd e ih=>exact k3 (fun σ=>(ih σ).1) (fun _=>rfl) (fun _=>rfl) fun _=>rfl
 |isi a t ih=>exact k3 (fun σ=>NE.ao (ih σ).1 fun _ _=>NE.ok _ _) (fun _=>rfl) (fun _=>rfl) fun _=>rfl
 |bi b a ih=>exact k3 (fun σ=>by rw[qY];split<;>first|exact NE.lift _ _|exact NE.ao (ih σ).1 fun _ _=>NE.lift _ _) (fun _=>rfl) (fun _=>rfl) fun _=>rfl
 |range1 a ih=>exact k3 (fun σ=>NE.ao (ih σ).1 fun _ _=>NE.lift _ _) (fun _=>rfl) (fun _=>rfl) fun _=>rfl
 |zip a b ih jh=>exact k3 (fun σ=>NE.ao (ih σ).1 fun _ σ=>NE.ao (jh σ).1 fun _ _=>NE.lift _ _) (fun _=>rfl) (fun _=>rfl) fun _=>rfl
 |count a b ih jh=>exact k3 (fun σ=>NE.ao (ih σ).1 fun _ σ=>NE.ite NE.bad (NE.ao (jh σ).1 fun _ _=>NE.lift _ _)) (fun _=>rfl) (fun _=>rfl) fun _=>rfl
 |popAt i a ih=>exact k3 (fun σ=>NE.ite NE.bad (NE.ao (ih σ).1 fun _ _=>Xy _ _ _)) (fun _=>rfl) (fun _=>rfl) fun _=>rfl
 |index a b ih jh=>exact k3 (fun σ=>NE.ao (ih σ).1 fun _ σ=>NE.ite NE.bad (NE.ao (jh σ).1 fun _ _=>NE.lift _ _)) (fun _=>rfl) (fun _=>rfl) fun _=>rfl
 |get2 a b d ih jh kh=>
  refine k3 (fun σ=>?_) (fun _=>rfl) (fun _=>rfl) fun _=>rfl
  rw[Wc]
  split
  ·exact NE.ite NE.bad (NE.ao (jh σ).1 fun _ σ=>NE.ao (kh σ).1 fun _ _=>NE.lift _ _)
  ·exact NE.bad
 |emp=>exact k3 (fun σ=>NE.ok _ _) (fun _=>rfl) (fun _=>rfl) fun _=>rfl
 |comp nl tg it cond elt ih _ _=>
  refine k3 (fun σ=>?_) (fun _=>rfl) (fun _=>rfl) fun _=>rfl
  rw[nQ]
  refine NE.ao (ih σ).1 fun _ σ=>?_
  split
  ·split
   ·exact NE.ok _ _
   ·exact NE.bad
  ·exact NE.bad
section
def GE.w(h:GE X W0 c m e):GE X W c m e:=fun env=>PE.imp (h env) fun σ H Q⟨S,q⟩=>by
 refine⟨S,?_⟩
 cases r:ev c m env with
 |exc k ζ=>exact absurd r ((yf c m env).1 k ζ)
 |_=>rw[r]at q;exact q
def GA.w(h:GA X W0 c m es):GA X W c m es:=fun env p γ s σ H R I q=>h env p γ s σ H R I (by
 obtain⟨S,q⟩:=q
 refine⟨S,?_⟩
 cases r:evs c m env with
 |exc k ζ=>exact absurd r ((yf c m env).2.1 k ζ)
 |_=>rw[r]at q;exact q)
def GT.w(h:GT X W0 c m e):GT X W c m e:=PT.imp h fun σ H Q⟨env,S,q⟩=>by
 refine⟨env,S,?_⟩
 cases r:ev c m env with
 |exc k ζ=>exact absurd r ((yf c m env).1 k ζ)
 |_=>rw[r]at q;exact q
def GI.w(h:GI X W0 c m tg e):GI X W c m tg e:=fun env γ s σ H R I q=>h env γ s σ H R I (by
 obtain⟨S,q⟩:=q
 refine⟨S,?_⟩
 cases r:ev c m env with
 |exc k ζ=>exact absurd r ((yf c m env).1 k ζ)
 |_=>rw[r]at q;exact q)
end
structure Top(C:Ct)(X:Cx)(W:Wi)(c:Cf):Prop where
 fn:∀x,X.fn x=true
 po:PassesOwn (model X.prog X.w) X.A X.env X.xe
 ra:∀e f p n m,UL (n+1) C (.Raise e f p)=some m->GS X W c m (.Raise e f p)
 cx:∀f args kw cp p n m,Ih c n->rzB C f=true->trX n C f args kw=some m->GS X W c m (.Expr (.Call f args kw cp) p)
section
theorem T4(O:jt C X c):∀{n:Nat}{elt:Expr}{gens:List Comprehension}{sc:Scope}{pos:Pos},fj n C (.ListComp elt gens sc pos)=some m->∃g,gens=[g]/\Fw X c m elt g sc
 |0,_,_,_,_,h=>by rw[fj]at h;cases h
 |n+1,elt,gens,sc,pos,h=>by
  unfold fj at h
  simp only at h
  split at h
  ·exact⟨_,rfl,(ih c n).k C X _ _ _ m O h⟩
  ·cases h
def tU(O:jt C X c)(h:Jm C.sc x=true):Loc X.env.scope x:=by
 unfold Jm at h
 rw[O.sc]
 rw[Bool.or_eq_true]at h
 rcases h with h|h
 ·exact .inl (by simpa using h)
 ·exact .inr (by simpa using h)
def nT{t:Option Expr}{env:Env}(hp:plain e=true)(hc:pU e=false):swapsWith e t l env=pure false:=by
 cases e<;>first|rfl|exact absurd (hp) Qjz|exact absurd (hc) (fun h=>Qjz h.symm)
def Cv{es:List Expr}{q:Pos}(h:isTup e=false):swappedStores [.Tuple es k q] e env=pure none:=by
 cases e<;>first|rfl|exact absurd (h) (fun h=>Qjz h.symm)
def zJ{q:Pos}:swappedStores [.Subscript o i q] e env=pure none:=by
 cases e<;>rfl
def Gh{l:Nat}:swapsWithSole [t] e l env=swapsWith e (some t) l env:=rfl
def Uc{tp:Pos}{v:Value}(h:isSlice i=false):assign (.Subscript o i tp) env v=(do
   let ov<-holding [v] (eval o env)
   let iv<-holding [v,ov] (eval i env)
   standAt tp
   holding [v,ov,iv] (setItem ov iv v)
   release [v,ov,iv] []):=by
 cases i<;>first|rfl|(simp[isSlice]at h;done)
theorem sG(O:jt C X c)(T:Top C X W c):∀{es:List Expr}{is:List Nat},slotsOf C es=some is->uV X is es/\(assignEach es X.env).length=is.length/\(assignEach es X.env).findIdx? (·.1)=none
 |[],is,h=>by cases h;exact⟨.nil,rfl,rfl⟩
 |e::es,is,h=>by
  cases e<;>simp only[slotsOf]at h<;>try (cases h;done)
  rename_i x q
  split at h
  ·rename_i hl
   simp only[QJq,QJz]at h
   obtain⟨i,h1,js,h2,rfl⟩:=h
   obtain⟨a1,a2,a3⟩:=sG O T h2
   refine⟨.cons (by rw[O.N];exact jK h1) (tU O hl) (.inl (T.fn x)) a1,?_,?_⟩
   ·show(_::assignEach es X.env).length=_
    simp[a2]
   ·show(List.findIdx? (·.1) ((false,_)::assignEach es X.env))=none
    rw[List.findIdx?_cons]
    simp[a3]
  ·cases h
def wu(O:jt C X c):X.N.Nodup:=by rw[O.N];exact O.nd
def KH(O:jt C X c)(T:Top C X W c){e:Expr}(h:KJ C e=some tg):GG X tg e:=by
 cases e<;>simp only[KJ]at h<;>try (cases h;done)
 ·rename_i x q
  split at h
  ·rename_i hl
   simp only[QJz]at h
   obtain⟨i,h1,rfl⟩:=h
   exact yD (wu O) (by rw[O.N];exact jK h1) (tU O hl) (.inl (T.fn x))
  ·cases h
 ·simp only[QJz]at h
  obtain⟨is,h1,rfl⟩:=h
  obtain⟨a1,a2,a3⟩:=sG O T h1
  exact Ed (wu O) O.calm a1 a2 a3
theorem JK(O:jt C X c)(T:Top C X W c){scope:Scope}{tg:Tg}{it cond elt:E}{ifs:List Expr}{i:Nat}(B:BV X c scope η tg cond elt Ω Ξ ifs)(hi:GI X W c it Ω π)(gp:plain π=true)
  (ge:GE X W c (.comp η.length tg it cond elt) (.ListComp Ξ [⟨Ω,π,ifs,0⟩] scope cp))(hN:X.N[i]? =some x)(hl:Jm C.sc x=true):
  GS X W c (.set i (.comp η.length tg it cond elt)) (.Assign [.Name x np] (.ListComp Ξ [⟨Ω,π,ifs,0⟩] scope cp) sp):=by
 have key:∃b:Bool,swapsWith (.ListComp Ξ [⟨Ω,π,ifs,0⟩] scope cp) (some (.Name x np)) sp.line X.env=pure b:=⟨_,rfl⟩
 obtain⟨b,hb⟩:=key
 cases b with
 |false=>exact Om ge (wu O) hN (tU O hl) (.inl (T.fn x)) hb
 |true=>exact Ec B hi O.calm (fun x=>yE gp _ _) (wu O) hN (tU O hl) (.inl (T.fn x)) hb
structure IhS(c:Cf)(n:Nat):Prop where
 s:∀C X W st m,jt C X c->Top C X W c->UL n C st=some m->GS X W c m st
 ss:∀C X W st m,jt C X c->Top C X W c->rT n C st=some m->QJ X W c m st
def afx c:IhS c 0:=by
 constructor
 all_goals (intros;rename_i h;first|(rw[UL]at h;cases h)|(rw[rT]at h;cases h))
def Ra(I:IhS c n)(O:jt C X c)(T:Top C X W c){m:S}(h:rT (n+1) C st=some m):QJ X W c m st:=by
 cases st with
 |nil=>rw[rT]at h;cases h;exact Tj
 |cons s st=>
  rw[rT]at h
  simp only[QJq,QJz]at h
  obtain⟨m1,h1,m2,h2,rfl⟩:=h
  exact Oi (I.s C X W s m1 O T h1) (I.ss C X W st m2 O T h2)
def Ww(I:IhS c n)(O:jt C X c)(T:Top C X W c){st:Stmt}{m:S}(h0:UL (n+1) C st=some m):GS X W c m st:=by
 have J:=ih c n
 have no:∀{P:Prop},(none:Option S)=some m->P:=fun z=>nomatch z
 have h:=h0
 unfold UL at h
 split at h
 ·split at h
  ·cases h;exact Tq
  ·simp only[QJz]at h
   obtain⟨m1,h1,rfl⟩:=h
   have s:=J.e C X _ m1 O h1
   exact Yn s.ge.w s.va
 ·split at h
  ·split at h
   ·rename_i e _ _ _ x _
    split at h
    ·rename_i hl
     simp only[QJq,QJz]at h
     obtain⟨i,h1,m1,h2,rfl⟩:=h
     have s:=J.e C X _ m1 O h2
     have hN:X.N[i]? =some x:=by rw[O.N];exact jK h1
     cases hc:pU e with
     |false=>exact Om s.ge.w (wu O) hN (tU O hl) (.inl (T.fn x)) (nT s.pl hc)
     |true=>
      cases e<;>simp[pU]at hc
      rename_i elt gens sc cp
      obtain⟨g,rfl,η,tg,it,cond,m',rfl,B,gi,gp,ha⟩:=T4 O h2
      obtain⟨ta,ti,tf,tn⟩:=g
      simp only at ha
      subst ha
      exact JK O T B gi.w gp s.ge.w hN hl
    ·exact no h
   ·split at h
    ·exact no h
    ·rename_i hx
     rw[Bool.not_eq_true,Bool.or_eq_false_iff]at hx
     simp only[QJq,QJz]at h
     obtain⟨is,h1,m1,h2,rfl⟩:=h
     have s:=J.e C X _ m1 O h2
     obtain⟨a1,a2,a3⟩:=sG O T h1
     exact Tp s.ge.w (Ed (wu O) O.calm a1 a2 a3) (by rw[Gh];exact nT s.pl hx.2) (Cv hx.1) rfl
   ·split at h
    ·split at h
     ·exact no h
     ·rename_i hx
      rw[Bool.not_eq_true,Bool.or_eq_false_iff]at hx
      simp only[QJq]at h
      obtain⟨v,h1,h⟩:=h
      split at h
      ·simp only[QJq,QJz]at h
       obtain⟨i,h2,m1,h3,rfl⟩:=h
       have s1:=J.e C X _ i O h2
       have s:=J.e C X _ m1 O h3
       exact Ol (GC O h1) s.ge.w s1.ge.w (fun v=>Uc hx.2) (by rw[Gh];exact nT s.pl hx.1) zJ (by have:=O.hu;omega) rfl
      ·exact no h
    ·exact no h
   ·exact no h
  ·exact no h
 ·--an expression alone
  split at h
  ·have dflt:∀(e:Expr)(q:Pos),pU e=false->(fj n C e).map S.expr=some m->GS X W c m (.Expr e q):=fun e q hc z=>by
    simp only[QJz]at z
    obtain⟨m1,h1,rfl⟩:=z
    have s:=J.e C X _ m1 O h1
    exact Tr s.ge.w (nT s.pl hc)
   split at h
   ·split at h
    ·split at h
     ·rename_i hx
      simp only[QUq,QUz]at hx
      obtain⟨hl,rfl⟩:=hx
      simp only[QJq]at h
      obtain⟨v,h1,h⟩:=h
      split at h
      ·simp only[QJz]at h
       obtain⟨m1,h2,rfl⟩:=h
       have s:=J.e C X _ m1 O h2
       exact JL ⟨rfl,hl,bH s.pl _ _⟩ (GC O h1) s.ge.w
      ·exact no h
     ·exact dflt _ _ rfl h
    ·exact no h
   ·split at h
    ·rename_i hz
     exact T.cx _ _ _ _ _ _ _ J hz h
    ·exact dflt _ _ rfl h
  ·exact no h
 ·simp only[QJq,QJz]at h
  obtain⟨t,h1,a,h2,b,h3,rfl⟩:=h
  exact ace (J.e C X _ t O h1).gt.w (I.ss C X W _ a O T h2) (I.ss C X W _ b O T h3)
 ·split at h
  ·simp only[QJq,QJz]at h
   obtain⟨tg,h1,it,h2,b,h3,rfl⟩:=h
   obtain⟨gi,gp⟩:=J.i C X _ _ it O h2
   exact Yo T.po O.calm gi.w (KH O T h1) (I.ss C X W _ b O T h3) (fun x=>yE gp _ _)
  ·exact no h
 ·split at h
  ·simp only[QJq,QJz]at h
   obtain⟨t,h1,b,h3,rfl⟩:=h
   exact Oj T.po (J.e C X _ t O h1).gt.w (I.ss C X W _ b O T h3)
  ·exact no h
 ·exact T.ra _ _ _ _ _ h0
 ·exact no h
end
def RG{e f:Option Expr}{n:Nat}(h:UL (n+1) C (.Raise e f p)=some m):m=.raise (Lx C e f):=by
 unfold UL at h
 cases h
 rfl
def aba(hz:C.rz=[])f:rzB C f=false:=by
 cases f<;>first|rfl|(unfold rzB;rw[hz];rfl)
def Top.plain{X:Cx}(hf:∀x,X.fn x=true)(hp:PassesOwn (model X.prog X.w) X.A X.env X.xe)(hz:C.rz=[]):Top C X W0 c:=
 ⟨hf,hp,fun e f p n m h=>by rw[RG h];exact Oo,fun f _ _ _ _ _ _ _ z=>by rw[aba hz f]at z;cases z⟩
theorem ihS c:∀n,IhS c n
 |0=>afx c
 |n+1=>let I:=ihS c n
  ⟨fun C X W st m O T h=>Ww I O T h,fun C X W st m O T h=>Ra I O T h⟩
structure Df where
 x:Str
 st:Stmt
 N:List Str
 ps:List Str
 fl:List Bool
 exs:List Str:=[]
 rz:List Str:=[]
def ad8(ds:List Df):List (Str×List Bool):=ds.map fun d=>(d.x,d.fl)
def Ep(ds:List Df)(gB:List Str)(d:Df):Ct:={N:=d.N,sc:=aq d.st,fns:=ad8 ds,gB:=gB,exs:=d.exs}
def fnOf(ds:List Df)(gB:List Str)(d:Df):Option Fn:=(rT 60 (Ep ds gB d) (cF d.st)).map fun b=>{pars:=d.ps.length,names:=d.N.length,body:=b}
structure xq(K:QQq)(mg:QZz)(d:Df)(f:Addr)(fd:FuncData):Prop where
 fu:Hz K d.x d.x d.st f fd
 bi:Binds K fd d.ps []
 at_:mg d.x=some (.ref f)
section
variable{P:Program}{w:World}{base:Heap}{p:Pg}{fa:Nat->Addr}{fd:Nat->FuncData}
end
theorem WN{K:QQq}{H:Hp}{ns:List Int}(hO:Only H)(hS:jV K H a (ns.map V.int))(hf:∃qs,f [.val (.lst (ns.map D.int))]=.ok (.val (.bl true)) qs)E:
  cL K 1 f [.ref a] H (fun v _=>v=.bl true) E:=by
 have den:bj K H (.lst (ns.map D.int)) (.ref a):=by
  have fr:Qu K H a (ns.map V.int):=by
   rcases hS with (h|⟨o,h⟩)|h
   ·rcases hO a with z|⟨o,xs,z⟩
    ·rw[z]at h;cases h
    ·rw[z]at h;cases h
   ·exact .inl ⟨o,h⟩
   ·exact .inr h
  have l:∀(ns:List Int),ak K H (ns.map D.int) (ns.map V.int):=fun ns=>by
   induction ns with
   |nil=>exact ak.eY
   |cons i r ih=>exact ak.bF rfl ih
  exact⟨a,_,rfl,fr,l ns⟩
 obtain⟨qs,hf⟩:=hf
 refine⟨[.val (.lst (ns.map D.int))],rfl,⟨rfl,fun i s e=>?_,fun i j b h1=>?_⟩,fun i o e=>?_,?_⟩
 ·cases i with
  |zero=>simp at e;subst e;exact⟨.ref a,rfl,den⟩
  |succ i=>simp at e
 ·obtain⟨⟨s,o,e1,e2⟩,_⟩:=h1
  cases i with
  |zero=>simp at e1;subst e1;cases e2
  |succ i=>simp at e1
 ·cases i with
  |zero=>simp at e
  |succ i=>simp at e
 ·rw[hf]
  exact fun v H' _ z=>z
def Xl(a:Arguments):List Str:=a.args.map (·.arg)
def namesOf(st:Stmt):List Str:=Xl (dM st)++(((aq st).names.filter fun p=>(p.2== .local||p.2== .cell)&& !(Xl (dM st)).contains p.1).map (·.1))
def cM(x:Str)(st:Stmt)(fl:List Bool):Df:={x:=x,st:=st,N:=namesOf st,ps:=Xl (dM st),fl:=fl}
noncomputable def Le(d:Df):Bool:=
 decide ((aq d.st).kind=.function)&& !(aq d.st).isCoroutine&& !(aq d.st).isGenerator&&decide d.N.Nodup&&decide (d.N.take d.ps.length=d.ps)
 &&(d.ps.all fun x=>(aq d.st).names.lookup x==some .local||(aq d.st).names.lookup x==some .cell)&&((aq d.st).names.all fun y=>y.2 != .free)
def Gk(h:Le d=true):eN d.N d.ps (aq d.st):=by
 unfold Le at h
 simp only[QUq,QUz,Bool.not_eq_true',List.all_eq_true,Bool.or_eq_true,beq_iff_eq,bne_iff_ne,ne_eq]at h
 obtain⟨⟨⟨⟨⟨⟨h1,h2⟩,h3⟩,h4⟩,h5⟩,h6⟩,h7⟩:=h
 exact⟨h1,h2,h3,h4,h5,h6,h7⟩
def vIs:Value->D->Bool
 |.none,.non=>true
 |.bool a,.bl b=>a==b
 |.int i _,.int j=>i==j
 |.str x _,.str y=>decide (x=y)
 |_,_=>false
def HN:List Value->List D->Bool
 |[],[]=>true
 |u::us,d::ds=>vIs u d&&HN us ds
 |_,_=>false
def Ky(o:Obj)(ds:List D):Bool:=o.cls== .type "tuple"&&o.dict.isNone&&match o.data with
 |.seq its _=>HN its.toList ds&&decide (its.size<=1000)
 |_=>false
def Um(K:QQq)(mg:QZz)(x:Str)(d:D):Prop:=∃v u,mg x=some u/\RelV v u/\∀H,bj K H d v
def Ku{u:Value}(h:vIs u d=true):∃v,RelV v u/\∀H,bj K H d v:=by
 cases u<;>cases d<;>simp[vIs]at h
 ·exact⟨.non,rfl,fun H=>rfl⟩
 ·subst h;exact⟨.bl _,rfl,fun H=>rfl⟩
 ·subst h;exact⟨.int _,⟨_,rfl⟩,fun H=>rfl⟩
 ·subst h;exact⟨.str _,⟨_,rfl⟩,fun H=>rfl⟩
theorem FN:∀{us:List Value}{ds:List D},HN us ds=true->∃vs,Vals vs us/\∀H,ak K H ds vs
 |[],[]=>fun _=>⟨[],.nil,fun H=>ak.eY⟩
 |u::us,d::ds=>fun h=>by
  unfold HN at h
  rw[QUq]at h
  obtain⟨v,r,e⟩:=Ku h.1
  obtain⟨vs,rs,es⟩:=FN h.2
  exact⟨v::vs,.cons r rs,fun H=>ak.bF (e H) (es H)⟩
 |[],_::_=>fun h=>by simp[HN]at h
 |_::_,[]=>fun h=>by simp[HN]at h
section
def Yp(X:K.In h)(G:h.Ns mainGlobals mg)(e:PySem.W.nsIn K mainGlobals x=some (some u))(hv:vIs u d=true):Um K mg x d:=by
 obtain⟨v,r,q⟩:=Ku hv
 exact⟨v,u,PySem.W.mg_of X G e,r,q⟩
def Yq(X:K.In h)(G:h.Ns mainGlobals mg)(e:PySem.W.nsIn K mainGlobals x=some (some (.ref a)))(l:K.lookup a=some o)(hv:Ky o ds=true):Um K mg x (.tup ds):=by
 unfold Ky at hv
 simp only[QUq,beq_iff_eq,Option.isNone_iff_eq_none]at hv
 obtain⟨⟨hc,hd⟩,hv⟩:=hv
 split at hv
 ·rename_i its n hs
  rw[QUq,QUz]at hv
  obtain⟨vs,r,q⟩:=FN hv.1
  exact⟨.ref a,_,PySem.W.mg_of X G e,rfl,fun H=>fD (.inr ⟨o,its,n,l,hc,hd,hs,Nat.le_of_lt (Ie hv.2),r⟩) (q H)⟩
 ·cases hv
end
def HF(K:QQq)(mg:QZz):List Df->List (Addr×FuncData)->Prop
 |[],[]=>True
 |d::ds,(f,fd)::r=>xq K mg d f fd/\HF K mg ds r
 |_,_=>False
theorem HF.at{K:QQq}{mg:QZz}:∀{ds:List Df}{fs:List (Addr×FuncData)},HF K mg ds fs->∀(i:Nat)d,ds[i]? =some d->∃q,fs[i]? =some q/\xq K mg d q.1 q.2
 |[],_,_,i=>fun d e=>by simp at e
 |_::_,[],h,_=>fun _ _=>h.elim
 |d::ds,(f,fd)::r,h,0=>fun d' e=>by cases e;exact⟨(f,fd),rfl,h.1⟩
 |d::ds,_::r,h,i+1=>fun d' e=>h.2.at i d' e
def HB(K:QQq)(mg:QZz):List Str->List D->Prop
 |[],[]=>True
 |x::xs,d::ds=>Um K mg x d/\HB K mg xs ds
 |_,_=>False
theorem HB.at{K:QQq}{mg:QZz}:∀{xs:List Str}{ds:List D},HB K mg xs ds->∀(k:Nat)x,xs[k]? =some x->∃d,ds[k]? =some d/\Um K mg x d
 |[],_,_,k=>fun x e=>by simp at e
 |_::_,[],h,_=>fun _ _=>h.elim
 |x::xs,d::ds,h,0=>fun x' e=>by cases e;exact⟨d,rfl,h.1⟩
 |x::xs,d::ds,h,k+1=>fun x' e=>h.2.at k x' e
def Qv(K:QQq)(x:Str)(st:Stmt):Prop:=∃(f:Addr)(od an:Option Addr)(sl:Array (Option Value))(oc kV dc pm cd ct:Value),
 PySem.W.nsIn K mainGlobals x=some (some (.ref f))/\K.lookup f=some ⟨oc,od,.func (PySem.W.fnOf x x (dM st) (cF st) (aq st) .none kV dc pm an cd ct),sl⟩/\PySem.W.codeIn K cd x=true/\PySem.W.keepIn K (.ref f)=true
def dIn{x:Str}{f:Addr}{od an:Option Addr}{oc kV dc pm cd ct:Value}(a:PySem.W.nsIn K mainGlobals x=some (some (.ref f)))
  (l:K.lookup f=some ⟨oc,od,.func (PySem.W.fnOf x x (dM st) (cF st) (aq st) .none kV dc pm an cd ct),sl⟩)(c:PySem.W.codeIn K cd x=true)(p:PySem.W.keepIn K (.ref f)=true):Qv K x st:=⟨f,od,an,sl,oc,kV,dc,pm,cd,ct,a,l,c,p⟩
def AllIn(K:QQq):List (Str×Stmt)->Prop
 |[]=>True
 |(x,s)::r=>Qv K x s/\AllIn K r
def Bd(d:Df):Prop:=∀(kV dc pm:Value)(an:Option Addr)(cd ct:Value)(us:List Value),us.length=d.ps.length->bindArgs (PySem.W.fnOf d.x d.x (dM d.st) (cF d.st) (aq d.st) .none kV dc pm an cd ct) ⟨us,[]⟩=pure (d.ps.zip us)
def rm{us:List Value}(h:us.length=1):∃a,us=[a]:=List.length_eq_one_iff.mp h
def S6{us:List Value}(h:us.length=n+1):∃a r,us=a::r/\r.length=n:=by
 cases us with
 |nil=>simp at h
 |cons a r=>exact⟨a,r,rfl,by simpa using h⟩
def oN{us:List Value}(h:us.length=2):∃a b,us=[a,b]:=by
 obtain⟨a,r,rfl,h2⟩:=S6 h;obtain⟨b,rfl⟩:=rm h2;exact⟨a,b,rfl⟩
def jH{us:List Value}(h:us.length=3):∃a b c,us=[a,b,c]:=by
 obtain⟨a,r,rfl,h2⟩:=S6 h;obtain⟨b,c,rfl⟩:=oN h2;exact⟨a,b,c,rfl⟩
def vy{us:List Value}(h:us.length=4):∃a b c d,us=[a,b,c,d]:=by
 obtain⟨a,r,rfl,h2⟩:=S6 h;obtain⟨b,c,d,rfl⟩:=jH h2;exact⟨a,b,c,d,rfl⟩
def ae0{us:List Value}(h:us.length=5):∃a b c d e,us=[a,b,c,d,e]:=by
 obtain⟨a,r,rfl,h2⟩:=S6 h;obtain⟨b,c,d,e,rfl⟩:=vy h2;exact⟨a,b,c,d,e,rfl⟩
def HD:List Df->Prop
 |[]=>True
 |d::r=>Bd d/\HD r
inductive Zn(K:QQq)(x:Str):D->Prop
 |v {u:Value} {d:D}:PySem.W.nsIn K mainGlobals x=some (some u)->vIs u d=true->Zn K x d
 |t {a:Addr} {o:Obj} {ds:List D}:PySem.W.nsIn K mainGlobals x=some (some (.ref a))->K.lookup a=some o->Ky o ds=true->Zn K x (.tup ds)
def za(K:QQq):List Str->List D->Prop
 |[],[]=>True
 |x::xs,d::ds=>Zn K x d/\za K xs ds
 |_,_=>False
def Qz(K:QQq):List Str->Prop
 |[]=>True
 |x::r=>PySem.W.nsIn K mainGlobals x=some none/\Qz K r
section
theorem Qk(X:K.In h)(G:h.Ns mainGlobals mg):∀(ds:List Df),HD ds->AllIn K (ds.map fun d=>(d.x,d.st))->
  ∃fs,HF K mg ds fs/\∀(i:Nat)d,ds[i]? =some d->∃q,fs[i]? =some q/\xq K mg d q.1 q.2/\∀(s:Shared)(us:List Value),us.length=d.ps.length->BindsTo s q.2 ⟨us,[]⟩ (d.ps.zip us)
 |[],_,_=>⟨[],trivial,fun i d e=>by simp at e⟩
 |d::ds,⟨b,bs⟩,⟨⟨f,od,an,sl,oc,kV,dc,pm,cd,ct,a,l,c,p⟩,is⟩=>by
  obtain⟨fs,A,B⟩:=Qk X G ds bs is
  have F:=OJ l c p
  have D:xq K mg d f _:=⟨F,F.binds b,PySem.W.mg_of X G a⟩
  refine⟨(f,_)::fs,⟨D,A⟩,fun i e he=>?_⟩
  cases i with
  |zero=>cases he;exact⟨_,rfl,D,fun s us hl=>.of_eq (b kV dc pm an cd ct us hl)⟩
  |succ i=>exact B i e he
theorem Qj(X:K.In h)(G:h.Ns mainGlobals mg):∀(xs:List Str)(ds:List D),za K xs ds->HB K mg xs ds
 |[],[],_=>trivial
 |_::xs,_::ds,⟨g,r⟩=>⟨by cases g with
  |v e hv=>exact Yp X G e hv
  |t e l hv=>exact Yq X G e l hv,Qj X G xs ds r⟩
 |[],_::_,h=>h.elim
 |_::_,[],h=>h.elim
theorem Qi(X:K.In h)(G:h.Ns mainGlobals mg):∀(xs:List Str),Qz K xs->∀x∈xs,mg x=none
 |[],_=>fun x hx=>by cases hx
 |_::r,⟨e,es⟩=>fun x hx=>by
  rcases QCq.mp hx with rfl|hx
  ·exact PySem.W.mg_none_of X G e
  ·exact Qi X G r es x hx
end
section
@[simp]theorem adC{f:α->Ev->Out β}:(Out.ok a σ).bind f=f a σ:=rfl
@[simp]theorem acx{f:α->Ev->Out β}:(Out.exc k σ).bind f=.exc k σ:=rfl
@[simp]theorem acy{f:α->Ev->Out β}:(Out.bad:Out α).bind f=.bad:=rfl
@[simp]theorem cA{f:D->Ev->Out β}:(Out.ok (.val d) σ).ao f=f d σ:=rfl
@[simp]theorem mH{f:D->Ev->Out β}:(Out.ok (.new o) σ).ao f=f o.d σ:=rfl
@[simp]theorem Z7{f:D->Ev->Out β}:(Out.exc k σ).ao f=.exc k σ:=rfl
@[simp]theorem Z8{f:D->Ev->Out β}:(Out.bad).ao f=.bad:=rfl
@[simp]theorem fG{f:Bool->Ev->Out β}:(Out.ok (.val (.bl b)) σ).cZ ju f=f b σ:=rfl
@[simp]theorem Z4{f:Bool->Ev->Out β}:(Out.ok (.val (.int i)) σ).cZ ju f=f (i !=0) σ:=rfl
@[simp]theorem Z2{f:Bool->Ev->Out β}:(Out.ok (.val (.tup xs)) σ).cZ ju f=f (!xs.isEmpty) σ:=rfl
@[simp]theorem Z3{f:Bool->Ev->Out β}:(Out.ok (.val (.lst xs)) σ).cZ ju f=f (!xs.isEmpty) σ:=rfl
@[simp]theorem Z5{f:Bool->Ev->Out β}:(Out.exc k σ).cZ ju f=.exc k σ:=rfl
@[simp]theorem Z6{f:Bool->Ev->Out β}:(Out.bad).cZ ju f=.bad:=rfl
@[simp]theorem agF{a:α}:(Out.ok a σ).fl f=f a σ:=rfl
@[simp]theorem afG:(Out.exc k σ:Out α).fl f=.exc k σ:=rfl
@[simp]theorem afH:(Out.bad:Out α).fl f=.bad:=rfl
@[simp]theorem adn:(Out.ok (.val d) σ).pZ f=f d σ:=rfl
@[simp]theorem ado:(Out.ok (.new o) σ).pZ f=f o.d σ:=rfl
@[simp]theorem adp:(Out.exc k σ).pZ f=.exc k σ:=rfl
@[simp]theorem adq:(Out.bad).pZ f=.bad:=rfl
@[simp]theorem afI:(Out.ok (.val (.bl b)) σ).O2 f=f b σ:=rfl
@[simp]theorem adl:(Out.exc k σ).O2 f=.exc k σ:=rfl
@[simp]theorem adm:(Out.bad).O2 f=.bad:=rfl
@[simp]theorem wA{a:α}:Mini.lift σ (some a)=.ok a σ:=rfl
@[simp]theorem ZS:Mini.lift σ (none:Option α)=.bad:=rfl
@[simp]theorem aa7:(Fl.next σ).seq f=f σ:=rfl
@[simp]theorem ac3{f:Ev->Fl}:(Fl.ret r σ).seq f=.ret r σ:=rfl
@[simp]theorem ac4:(Fl.exc k σ).seq f=.exc k σ:=rfl
@[simp]theorem ac5:(Fl.brk σ).seq f=.brk σ:=rfl
@[simp]theorem aa8:(Fl.cont σ).seq f=.cont σ:=rfl
@[simp]theorem ac6:(Fl.bad).seq f=.bad:=rfl
@[simp]theorem pB:(Fl.next σ).turn f=f σ:=rfl
@[simp]theorem ZJ:(Fl.cont σ).turn f=f σ:=rfl
@[simp]theorem aaG:(Fl.brk σ).turn f=.next σ:=rfl
@[simp]theorem aaE{f:Ev->Fl}:(Fl.ret r σ).turn f=.ret r σ:=rfl
@[simp]theorem aaF:(Fl.exc k σ).turn f=.exc k σ:=rfl
@[simp]theorem aaH:(Fl.bad).turn f=.bad:=rfl
@[simp]theorem abb:vd (.val d) σ=.ret (.val d) σ:=rfl
@[simp]theorem abd:vd (.new o) σ=.ret (.new o) σ:=rfl
@[simp]theorem abM:Gy (some τ)=.next τ:=rfl
@[simp]theorem abN:Gy none=.bad:=rfl
@[simp]theorem acG:argv (.val d)=.val d:=rfl
@[simp]theorem acI:argv (.new o)=.val o.d:=rfl
@[simp]theorem acH:argv (.ref k)=.ref k:=rfl
@[simp]theorem aa1:Rv.CG (.val d)=some (.val d):=rfl
@[simp]theorem aa2:Rv.CG (.new o)=some (.own o):=rfl
@[simp]theorem adz:Rv.j8 (.val d)=some d:=rfl
@[simp]theorem adA:Rv.j8 (.new o)=some o.d:=rfl
@[simp]theorem VB:Ob.d (.lst xs)=.lst xs:=rfl
@[simp]theorem ag7:Ob.d (.dct xs ys)=.eE xs ys:=rfl
@[simp]theorem adc:yo (.tup xs)=some xs.length:=rfl
@[simp]theorem ade:yo (.lst xs)=some xs.length:=rfl
@[simp]theorem adF:b1 .len (.tup xs)=some (.val (.int xs.length)):=rfl
@[simp]theorem adG:b1 .len (.lst xs)=some (.val (.int xs.length)):=rfl
@[simp]theorem adH:b1 .int (.int i)=some (.val (.int i)):=rfl
@[simp]theorem adI:b1 .int (.bl b)=some (.val (.int (b2i b))):=rfl
@[simp]theorem acz:b1 .tuple d=(bM d).bind fun xs=>some (.val (.tup xs)):=rfl
@[simp]theorem adE:b1 .list d=(Rn d).bind fun xs=>some (.new (.lst xs)):=rfl
@[simp]theorem ad9 xs:Rn (.tup xs)=some xs:=rfl
@[simp]theorem aea xs:Rn (.lst xs)=some xs:=rfl
@[simp]theorem Qe:b1 .all d=(bM d).bind fun xs=>(bools xs).map fun bs=>.val (.bl (bs.all id)):=rfl
@[simp]theorem agd:b1 .any d=(bM d).bind fun xs=>(bools xs).map fun bs=>.val (.bl (bs.any id)):=rfl
@[simp]theorem adJ:b1 .dict d=(bM d).bind fun xs=>(dictOf [] [] xs).map fun p=>.new (.dct p.1 p.2):=rfl
@[simp]theorem agc:b1 .min d=(lC d).bind fun xs=>(Ng xs).map .val:=rfl
@[simp]theorem aaa:b1 .sorted d=(lC d).bind fun xs=>(qz xs).map fun ys=>.new (.lst ys):=rfl
@[simp]theorem ZM:bM (.tup xs)=some xs:=rfl
@[simp]theorem vO:bM (.lst xs)=some xs:=rfl
@[simp]theorem ZR:lC (.lst xs)=some xs:=rfl
@[simp]theorem adi:getD (.tup xs) (.int i)=at? xs i:=rfl
@[simp]theorem adk:getD (.lst xs) (.int i)=at? xs i:=rfl
@[simp]theorem add_int:binop .add (.int i) (.int j)=some (.val (.int (i+j))):=rfl
@[simp]theorem sub_int:binop .sub (.int i) (.int j)=some (.val (.int (i-j))):=rfl
@[simp]theorem mul_int:binop .mul (.int i) (.int j)=if small i||small j then some (.val (.int (i*j)))else none:=rfl
@[simp]theorem mod_int:binop .mod (.int i) (.int j)=if 0<j then some (.val (.int (i%j)))else none:=rfl
@[simp]theorem lt_int:aN .lt (.int i) (.int j)=some (decide (i<j)):=rfl
@[simp]theorem gt_int:aN .gt (.int i) (.int j)=some (decide (j<i)):=rfl
@[simp]theorem le_int:aN .le (.int i) (.int j)=some (decide (i<=j)):=rfl
@[simp]theorem agD:aN .lE d .non=some (gh d):=rfl
@[simp]theorem ZW:gh (.tup xs)=false:=rfl
@[simp]theorem ZX:gh .non=true:=rfl
@[simp]theorem eq_int:aN .eq (.int i) (.int j)=some (i==j):=rfl
@[simp]theorem ne_int:aN .ne (.int i) (.int j)=some (!(i==j)):=rfl
@[simp]theorem ag6:aN .eq (.bl b) (.bl c)=some (b==c):=rfl
@[simp]theorem agA:aN .ne (.bl b) (.bl c)=some (!(b==c)):=rfl
@[simp]theorem eq_str:aN .eq (.str x) (.str y)=some (decide (x=y)):=rfl
@[simp]theorem ne_str:aN .ne (.str x) (.str y)=some (!decide (x=y)):=rfl
@[simp]theorem aac:E.az (.var k)=some k:=rfl
@[simp]theorem aal d:E.az (.con d)=none:=rfl
@[simp]theorem Zh k:E.az (.glob k)=none:=rfl
@[simp]theorem aad a:E.az (.tup a)=none:=rfl
@[simp]theorem aah a:E.az (.lis a)=none:=rfl
@[simp]theorem acE o a b:E.az (.op o a b)=none:=rfl
@[simp]theorem aag a:E.az (.neg a)=none:=rfl
@[simp]theorem aam o a b:E.az (.cmp o a b)=none:=rfl
@[simp]theorem VL o p a b c:E.az (.chain o p a b c)=none:=rfl
@[simp]theorem aan a:E.az (.and a)=none:=rfl
@[simp]theorem acD a:E.az (.or a)=none:=rfl
@[simp]theorem aaf a:E.az (.not a)=none:=rfl
@[simp]theorem aai a b c:E.az (.ite a b c)=none:=rfl
@[simp]theorem aak a b:E.az (.idx a b)=none:=rfl
@[simp]theorem aae a b c:E.az (.slc a b c)=none:=rfl
@[simp]theorem Zi f a:E.az (.call f a)=none:=rfl
@[simp]theorem acF b a:E.az (.bi b a)=none:=rfl
@[simp]theorem aaj a t:E.az (.isi a t)=none:=rfl
@[simp]theorem aab a b:E.az (.zip a b)=none:=rfl
@[simp]theorem Ud a:E.az (.range1 a)=none:=rfl
@[simp]theorem VJ a b:E.az (.count a b)=none:=rfl
@[simp]theorem VH i a:E.az (.popAt i a)=none:=rfl
@[simp]theorem uR n tg a b c:E.az (.comp n tg a b c)=none:=rfl
@[simp]theorem acC a:E.az (.rd a)=none:=rfl
def iD xs(j:Nat)(h:j<xs.length):at? xs (j:Int)=xs[j]? :=by
 unfold at? ix?
 rw[if_neg (by omega:¬(j:Int)<0),if_pos ⟨by omega,by omega⟩]
 simp
@[simp]theorem at0:at? (a::xs) 0=some a:=(iD _ 0 (by simp)).trans rfl
@[simp]theorem at1{a b:D}:at? (a::b::xs) 1=some b:=(iD _ 1 (by simp)).trans rfl
@[simp]theorem at2{a b c:D}:at? (a::b::c::xs) 2=some c:=(iD _ 2 (by simp)).trans rfl
@[simp]theorem at3{a b c e:D}:at? (a::b::c::e::xs) 3=some e:=(iD _ 3 (by simp)).trans rfl
end
def aH(bs:List Bool):D:=.tup (bs.map .bl)
def fL:Nat->List (List Bool)
 |0=>[[]]
 |k+1=>(fL k).map (· ++[false])++(fL k).map (· ++[true])
def masks:Nat->List (List Bool)
 |0=>[[]]
 |k+1=>(masks k).map (false:: ·)++(masks k).map (true:: ·)
theorem wy:∀(bs:List Bool),bs∈masks bs.length
 |[]=>by simp[masks]
 |b::bs=>by
  have:=wy bs
  cases b<;>simp[masks,this]
def oM{α:Type}:List Bool->List α->List α
 |b::bs,x::xs=>if b then x::oM bs xs else oM bs xs
 |_,_=>[]
def Ax:List (List Bool)->Bool
 |a::b::r=>mK a b&&Ax (b::r)
 |_=>true
def sy(k:Nat)(bs:List Bool):Bool:=match qz (oM bs ((fL k).map aH))with
 |some ws=>if ws.isEmpty then true else match jY ws with
  |some rs=>(rs.all fun r=>r.length==k)&&Ax rs
  |none=>false
 |none=>false
def aa0:(masks 2).all (sy 1)=true:=by decide+kernel
def aaZ:(masks 4).all (sy 2)=true:=by decide+kernel
def aaY:(masks 8).all (sy 3)=true:=by decide+kernel
theorem wY:∀{ys:List D}{bs:List Bool},bools ys=some bs->ys=bs.map .bl
 |[],bs,e=>by cases e;rfl
 |y::ys,bs,e=>by
  cases y with
  |bl b=>
   simp only[bools]at e
   cases q:bools ys with
   |none=>rw[q]at e;cases e
   |some r=>rw[q]at e;cases e;rw[wY q];rfl
  |_=>cases e
theorem vU:∀{xs:List D}{rs:List (List Bool)},jY xs=some rs->xs=rs.map aH
 |[],rs,e=>by cases e;rfl
 |y::ys,rs,e=>by
  cases y with
  |tup zs=>
   simp only[jY]at e
   cases q:bools zs with
   |none=>rw[q]at e;cases e
   |some bs=>
    cases bs with
    |nil=>rw[q]at e;cases e
    |cons b bs=>
     rw[q]at e
     cases q2:jY ys with
     |none=>rw[q2]at e;cases e
     |some rs'=>
      rw[q2]at e
      cases e
      rw[vU q2,wY q]
      rfl
  |_=>cases e
theorem pG:∀k,(fL k).length=2 ^k
 |0=>rfl
 |k+1=>by simp[fL,pG k];omega
def Ia k(h1:1<=k)(h3:k<=3)bs(hl:bs.length=2 ^k):∃rs,qz (oM bs ((fL k).map aH))=some (rs.map aH)/\(∀r∈rs,r.length=k)/\Ax rs=true:=by
 have ok:sy k bs=true:=by
  have hm:=wy bs
  rw[hl]at hm
  rcases (by omega:k=1\/k=2\/k=3)with rfl|rfl|rfl
  ·exact List.all_eq_true.mp aa0 bs hm
  ·exact List.all_eq_true.mp aaZ bs hm
  ·exact List.all_eq_true.mp aaY bs hm
 unfold sy at ok
 cases q:qz _ with
 |none=>rw[q]at ok;cases ok
 |some ws=>
  rw[q]at ok
  simp only at ok
  split at ok
  ·rename_i he
   have:ws=[]:=by simpa using he
   subst this
   exact⟨[],rfl,fun r h=>(by cases h),rfl⟩
  ·cases q2:jY ws with
   |none=>rw[q2]at ok;cases ok
   |some rs=>
    rw[q2]at ok
    simp only[QUq,List.all_eq_true,beq_iff_eq]at ok
    exact⟨rs,by rw[vU q2],ok.1,ok.2⟩
theorem filter_tt{α:Type}:∀(xs:List α),xs.filter (fun _=>true)=xs
 |[]=>rfl
 |x::xs=>by rw[List.filter_cons_of_pos rfl,filter_tt xs]
def dB(s:Sl):Prop:=s=.un\/∃d,s=.val d
def pF(h:dB s)d(r:Ev):cR (.name 0) d (s::r)=some (.val d::r):=by
 rcases h with rfl|⟨e,rfl⟩<;>rfl
def vN(h:dB s)(h':dB t)a b(r:Ev):cR (.tup [0,1]) (.tup [a,b]) (s::t::r)=some (.val a:: .val b::r):=by
 rcases h with rfl|⟨e,rfl⟩<;>rcases h' with rfl|⟨e',rfl⟩<;>rfl
def Pr c d σ:ev c (.con d) σ=.ok (.val d) σ:=rfl
section
variable{cond elt:Ev->Out Rv}
theorem go1{f:D->D}{p:D->Bool}:∀(xs acc:List D)(s:Sl),dB s->(∀x∈xs,cond (.val x::τ)=.ok (.val (.bl (p x))) (.val x::τ))->(∀x∈xs,p x=true->elt (.val x::τ)=.ok (.val (f x)) (.val x::τ))->
  ∃s',dB s'/\aQ (.name 0) cond elt xs acc (s::τ)=.ok (acc++(xs.filter p).map f) (s'::τ)
 |[]=>fun acc s hs _ _=>⟨s,hs,by simp[aQ]⟩
 |x::xs=>fun acc s hs hc he=>by
  rw[aQ,pF hs]
  simp only
  rw[hc x QYz,fG]
  cases q:p x with
  |true=>
   obtain⟨s',a1,a2⟩:=go1 xs _ _ (.inr ⟨x,rfl⟩) (fun y hy=>hc y (QYq _ hy)) (fun y hy=>he y (QYq _ hy))
   refine⟨s',a1,?_⟩
   rw[if_pos rfl,he x QYz q,cA,a2]
   simp[q]
  |false=>
   obtain⟨s',a1,a2⟩:=go1 xs acc _ (.inr ⟨x,rfl⟩) (fun y hy=>hc y (QYq _ hy)) (fun y hy=>he y (QYq _ hy))
   refine⟨s',a1,?_⟩
   rw[if_neg (by simp),a2]
   simp[q]
def pairD(p:D×D):D:=.tup [p.1,p.2]
theorem go2{f:D×D->D}{p:D×D->Bool}:∀(xs:List (D×D))(acc:List D)(s t:Sl),dB s->dB t->(∀x∈xs,cond (.val x.1:: .val x.2::τ)=.ok (.val (.bl (p x))) (.val x.1:: .val x.2::τ))->
  (∀x∈xs,p x=true->elt (.val x.1:: .val x.2::τ)=.ok (.val (f x)) (.val x.1:: .val x.2::τ))->
  ∃s' t',aQ (.tup [0,1]) cond elt (xs.map pairD) acc (s::t::τ)=.ok (acc++(xs.filter p).map f) (s'::t'::τ)
 |[]=>fun acc s t hs ht _ _=>⟨s,t,by simp[aQ]⟩
 |x::xs=>fun acc s t hs ht hc he=>by
  rw[Qyz,aQ,show pairD x=.tup [x.1,x.2]from rfl,vN hs ht]
  simp only
  rw[hc x QYz,fG]
  cases q:p x with
  |true=>
   obtain⟨s',t',a2⟩:=go2 xs _ _ _ (.inr ⟨_,rfl⟩) (.inr ⟨_,rfl⟩) (fun y hy=>hc y (QYq _ hy)) (fun y hy=>he y (QYq _ hy))
   refine⟨s',t',?_⟩
   rw[if_pos rfl,he x QYz q,cA,a2]
   simp[q]
  |false=>
   obtain⟨s',t',a2⟩:=go2 xs acc _ _ (.inr ⟨_,rfl⟩) (.inr ⟨_,rfl⟩) (fun y hy=>hc y (QYq _ hy)) (fun y hy=>he y (QYq _ hy))
   refine⟨s',t',?_⟩
   rw[if_neg (by simp),a2]
   simp[q]
end
section
def yQ f p(hi:ev c it σ=.ok r τ)(hr:r.j8=some d)(hd:items d=some xs)(hc:∀x∈xs,ev c co (.val x::τ)=.ok (.val (.bl (p x))) (.val x::τ))(he:∀x∈xs,p x=true->ev c el (.val x::τ)=.ok (.val (f x)) (.val x::τ)):
  ev c (.comp 1 (.name 0) it co el) σ=.ok (.new (.lst ((xs.filter p).map f))) τ:=by
 obtain⟨s',_,a⟩:=go1 xs [] .un (.inl rfl) hc he
 rw[nQ,hi]
 have b:∀{β:Type}(g:D->Ev->Out β),(Out.ok r τ).ao g=g d τ:=fun g=>by cases r<;>simp[Rv.j8]at hr<;>subst hr<;>rfl
 rw[b]
 simp only[hd]
 rw[show List.replicate 1 Sl.un++τ=.un::τ from rfl,a]
 simp
def mY f(hi:ev c it σ=.ok r τ)(hr:r.j8=some d)(hd:items d=some xs)(he:∀x∈xs,ev c el (.val x::τ)=.ok (.val (f x)) (.val x::τ)):
  ev c (.comp 1 (.name 0) it AAL el) σ=.ok (.new (.lst (xs.map f))) τ:=by
 have:=yQ f (fun _=>true) hi hr hd (fun x _=>Pr c _ _) (fun x hx _=>he x hx)
 rw[filter_tt]at this
 exact this
def Y4{ps:List (D×D)}f p(hi:ev c it σ=.ok r τ)(hr:r.j8=some d)(hd:items d=some (ps.map pairD))(hc:∀x∈ps,ev c co (.val x.1:: .val x.2::τ)=.ok (.val (.bl (p x))) (.val x.1:: .val x.2::τ))
  (he:∀x∈ps,p x=true->ev c el (.val x.1:: .val x.2::τ)=.ok (.val (f x)) (.val x.1:: .val x.2::τ)):
  ev c (.comp 2 (.tup [0,1]) it co el) σ=.ok (.new (.lst ((ps.filter p).map f))) τ:=by
 obtain⟨s',t',a⟩:=go2 ps [] .un .un (.inl rfl) (.inl rfl) hc he
 rw[nQ,hi]
 have b:∀{β:Type}(g:D->Ev->Out β),(Out.ok r τ).ao g=g d τ:=fun g=>by cases r<;>simp[Rv.j8]at hr<;>subst hr<;>rfl
 rw[b]
 simp only[hd]
 rw[show List.replicate 2 Sl.un++τ=.un:: .un::τ from rfl,a]
 simp
def VF{ps:List (D×D)}f(hi:ev c it σ=.ok r τ)(hr:r.j8=some d)(hd:items d=some (ps.map pairD))(he:∀x∈ps,ev c el (.val x.1:: .val x.2::τ)=.ok (.val (f x)) (.val x.1:: .val x.2::τ)):
  ev c (.comp 2 (.tup [0,1]) it AAL el) σ=.ok (.new (.lst (ps.map f))) τ:=by
 have:=Y4 f (fun _=>true) hi hr hd (fun x _=>Pr c _ _) (fun x hx _=>he x hx)
 rw[filter_tt]at this
 exact this
end
section
theorem Y5{xs:List D}f p(hi:ev c it σ=.ok r τ0)(hr:r.j8=some d)(hd:items d=some (x0::xs))(hc0:ev c co (.val x0::τ0)=.ok (.val (.bl (p x0))) (.val x0::τ))(hc:∀x∈xs,ev c co (.val x::τ)=.ok (.val (.bl (p x))) (.val x::τ))
  (he:∀x∈x0::xs,p x=true->ev c el (.val x::τ)=.ok (.val (f x)) (.val x::τ)):ev c (.comp 1 (.name 0) it co el) σ=.ok (.new (.lst (((x0::xs).filter p).map f))) τ:=by
 rw[nQ,hi]
 have b:∀{β:Type}(g:D->Ev->Out β),(Out.ok r τ0).ao g=g d τ0:=fun g=>by cases r<;>simp[Rv.j8]at hr<;>subst hr<;>rfl
 rw[b]
 simp only[hd]
 rw[show List.replicate 1 Sl.un++τ0=.un::τ0 from rfl,aQ,pF (.inl rfl)]
 simp only
 rw[hc0,fG]
 cases q:p x0 with
 |true=>
  obtain⟨s',_,a⟩:=go1 xs _ _ (.inr ⟨_,rfl⟩) hc (fun x hx=>he x (QYq _ hx))
  rw[if_pos rfl,he x0 QYz q,cA,a]
  simp[q]
 |false=>
  obtain⟨s',_,a⟩:=go1 xs [] _ (.inr ⟨_,rfl⟩) hc (fun x hx=>he x (QYq _ hx))
  rw[if_neg (by simp),a]
  simp[q]
theorem Y0{ps:List (D×D)}f p(hi:ev c it σ=.ok r τ0)(hr:r.j8=some d)(hd:items d=some ((x0::ps).map pairD))(hc0:ev c co (.val x0.1:: .val x0.2::τ0)=.ok (.val (.bl (p x0))) (.val x0.1:: .val x0.2::τ))
  (hc:∀x∈ps,ev c co (.val x.1:: .val x.2::τ)=.ok (.val (.bl (p x))) (.val x.1:: .val x.2::τ))
  (he:∀x∈x0::ps,p x=true->ev c el (.val x.1:: .val x.2::τ)=.ok (.val (f x)) (.val x.1:: .val x.2::τ)):ev c (.comp 2 (.tup [0,1]) it co el) σ=.ok (.new (.lst (((x0::ps).filter p).map f))) τ:=by
 rw[nQ,hi]
 have b:∀{β:Type}(g:D->Ev->Out β),(Out.ok r τ0).ao g=g d τ0:=fun g=>by cases r<;>simp[Rv.j8]at hr<;>subst hr<;>rfl
 rw[b]
 simp only[hd]
 rw[show List.replicate 2 Sl.un++τ0=.un:: .un::τ0 from rfl,Qyz,aQ,show pairD x0=.tup [x0.1,x0.2]from rfl,vN (.inl rfl) (.inl rfl)]
 simp only
 rw[hc0,fG]
 cases q:p x0 with
 |true=>
  obtain⟨s',t',a⟩:=go2 ps _ _ _ (.inr ⟨_,rfl⟩) (.inr ⟨_,rfl⟩) hc (fun x hx=>he x (QYq _ hx))
  rw[if_pos rfl,he x0 QYz q,cA,a]
  simp[q]
 |false=>
  obtain⟨s',t',a⟩:=go2 ps [] _ _ (.inr ⟨_,rfl⟩) (.inr ⟨_,rfl⟩) hc (fun x hx=>he x (QYq _ hx))
  rw[if_neg (by simp),a]
  simp[q]
end
theorem jr:∀(bs:List Bool),bools (bs.map D.bl)=some bs
 |[]=>rfl
 |b::bs=>by simp[bools,jr bs]
theorem uL:∀{α:Type}(xs:List α),bools (xs.map fun _=>D.bl true)=some (xs.map fun _=>true)
 |_,[]=>rfl
 |_,x::xs=>by simp[bools,uL xs]
theorem Fo:∀{α:Type}(xs:List α),(xs.map fun _=>true).all id=true
 |_,[]=>rfl
 |_,x::xs=>by simpa using Fo xs
section
def all1(hi:ev c it σ=.ok r τ)(hr:r.j8=some d)(hd:items d=some xs)(he:∀x∈xs,ev c el (.val x::τ)=.ok (.val (.bl true)) (.val x::τ)):
  ev c (.bi .all (.comp 1 (.name 0) it AAL el)) σ=.ok (.val (.bl true)) τ:=by
 rw[qY]
 simp only[uR]
 rw[mY _ hi hr hd he,mH]
 simp only[VB,Qe,vO,QHq]
 rw[uL]
 simp only[Option.map_some,wA,Fo]
def all2{ps:List (D×D)}(hi:ev c it σ=.ok r τ)(hr:r.j8=some d)(hd:items d=some (ps.map pairD))(he:∀x∈ps,ev c el (.val x.1:: .val x.2::τ)=.ok (.val (.bl true)) (.val x.1:: .val x.2::τ)):
  ev c (.bi .all (.comp 2 (.tup [0,1]) it AAL el)) σ=.ok (.val (.bl true)) τ:=by
 rw[qY]
 simp only[uR]
 rw[VF _ hi hr hd he,mH]
 simp only[VB,Qe,vO,QHq]
 rw[uL]
 simp only[Option.map_some,wA,Fo]
end
theorem dG:∀(xs ys:List D),aV xs ys=(xs.zip ys).map pairD
 |[],_=>by simp[aV]
 |_::_,[]=>by simp[aV]
 |x::xs,y::ys=>by simp[aV,dG xs ys,pairD]
end Mini
end
section
namespace Mini
open PySem
@[simp]def fin(k:Nat):Fl->Res
 |.next σ=>.ok (.val .non) (σ.take k)
 |.ret r σ=>.ok r (σ.take k)
 |.exc c σ=>.exc c (σ.take k)
 |_=>.bad
def Rq c f ps(h:ps.length=f.pars):ir c f ps=fin f.pars (ex c f.body (ps++List.replicate (f.names-f.pars) .un)):=by
 unfold ir
 rw[if_pos h]
 cases ex c f.body _<;>rfl
def xf{α:Type}(b:Bool)(r:Out α):Out α:=if b then .bad else r
def Za(b:Bool)(r:Fl):Fl:=if b then .bad else r
def Dw{α:Type}(b:Bool)(r:Option α):Option α:=if b then none else r
@[simp]theorem adD(r:Out α):xf false r=r:=rfl
@[simp]theorem aga r:Za false r=r:=rfl
@[simp]theorem abP(r:Option α):Dw false r=r:=rfl
@[simp]theorem abO(r:Option α):Dw true r=none:=rfl
@[simp]def abf(i:Nat)(σ:Ev):Option Sl->Out Rv
 |some (.val d)=>.ok (.val d) σ
 |some (.own o)=>.ok (.val o.d) (σ.set i (.val o.d))
 |_=>.bad
@[simp]theorem abe i σ:sV i σ=abf i σ σ[i]? :=rfl
@[simp]def abT:Option Sl->Option D
 |some (.val d)=>some d
 |some (.own o)=>some o.d
 |some (.bor o)=>some o.d
 |_=>none
@[simp]theorem abS i σ:bA i σ=abT σ[i]? :=rfl
def zP(i:Nat)(σ:Ev)(s:Sl):Option Sl->Option Ev
 |some (.bor _)=>none
 |some _=>some (σ.set i s)
 |none=>none
@[simp]theorem aa3 i s σ:eO i s σ=zP i σ s σ[i]? :=rfl
@[simp]theorem aa4(i σ s d):zP i σ s (some (.val d))=some (σ.set i s):=rfl
@[simp]theorem aa5(i σ s o):zP i σ s (some (.own o))=some (σ.set i s):=rfl
@[simp]theorem ac2(i σ s):zP i σ s (some .un)=some (σ.set i s):=rfl
@[simp]theorem aa6(i σ s o):zP i σ s (some (.bor o))=none:=rfl
@[simp]def Dg(i:Nat)(σ:Ev)(q:Ob):Ev:=σ.set i (.own q)
@[simp]def W9(i:Nat)(σ:Ev)(q:Ob):Ev:=σ.set i (.bor q)
@[simp]def aaJ(i:Nat)(f:Ob->Option Ob)(σ:Ev):Option Sl->Option Ev
 |some (.own o)=>(f o).map (Dg i σ)
 |some (.bor o)=>(f o).map (W9 i σ)
 |_=>none
@[simp]theorem aaI i f σ:fM i f σ=aaJ i f σ σ[i]? :=rfl
@[simp]def okB(r:Rv):Option Ev->Out Rv
 |some σ=>.ok r σ
 |none=>.bad
@[simp]def acu(as:List Rv)(σ:Ev):Res->Out Rv
 |.ok r qs=>okB r (giveBack as qs σ)
 |_=>.bad
@[simp]def acv(c:Cf)(f:Nat)(as:List Rv)(σ:Ev):Option (List Sl)->Out Rv
 |none=>.bad
 |some ps=>acu as σ (c.fn f ps)
@[simp]theorem acw c f as σ:uJ c f as σ=acv c f as σ (enter as σ):=rfl
@[simp]theorem ady(σ):enter [] σ=some []:=rfl
@[simp]theorem adx(d as σ):enter (.val d::as) σ=(enter as σ).map (.val d:: ·):=rfl
@[simp]def afV(r:Option (List Sl)):Option Sl->Option (List Sl)
 |some (.own o)=>r.map (.bor o:: ·)
 |some (.bor o)=>r.map (.bor o:: ·)
 |_=>none
@[simp]theorem adw(i as σ):enter (.ref i::as) σ=Dw (as.any (mj i)) (afV (enter as σ) σ[i]?):=rfl
@[simp]theorem aiw c(i σ):ev c (.var i) σ=sV i σ:=rfl
@[simp]theorem aiv c(d σ):ev c (.con d) σ=.ok (.val d) σ:=rfl
@[simp]theorem aiu c(k σ):ev c (.glob k) σ=match c.gl k with|some d=>.ok (.val d) σ|none=>.bad:=rfl
@[simp]def adY(ds:List D):Option Rv:=if fits ds.length then some (.val (.tup ds))else none
@[simp]def XJ(ds:List D):Option Rv:=if fits ds.length then some (.new (.lst ds))else none
@[simp]def ae4(rs:List Rv)(σ:Ev):Out Rv:=lift σ ((aZ rs).bind adY)
@[simp]def afa(rs:List Rv)(σ:Ev):Out Rv:=lift σ ((aZ rs).bind XJ)
@[simp]theorem ait c(es σ):ev c (.tup es) σ=(evs c es σ).bind ae4:=rfl
@[simp]theorem ais c(es σ):ev c (.lis es) σ=(evs c es σ).bind afa:=rfl
@[simp]def ae8(o:Zm)(x y:D)(σ:Ev):Out Rv:=lift σ (binop o x y)
@[simp]def kOp(c:Cf)(o:Zm)(b:E)(x:D)(σ:Ev):Out Rv:=(ev c b σ).ao (ae8 o x)
@[simp]theorem air c(o a b σ):ev c (.op o a b) σ=(ev c a σ).ao (kOp c o b):=rfl
@[simp]theorem aiq c(a σ):ev c (.neg a) σ=(ev c a σ).ao fun x σ=>lift σ (match x with|.int i=>some (.val (.int (-i)))|_=>none):=rfl
@[simp]def qV(q:Bool):Rv:=.val (.bl q)
@[simp]def af0(o:Cm)(x d:D):Option Rv:=(aN o x d).map qV
@[simp]def Nt(o:Cm)(x y:D)(σ:Ev):Out Rv:=lift σ ((aN o x y).map qV)
@[simp]def afl(c:Cf)(o:Cm)(b:E)(x:D)(σ:Ev):Option Nat->Out Rv
 |some k=>lift σ ((bA k σ).bind (af0 o x))
 |none=>(ev c b σ).ao (Nt o x)
@[simp]def ab8(c:Cf)(o:Cm)(b:E)(x:D)(σ:Ev):Out Rv:=afl c o b x σ b.az
@[simp]theorem aip c(o a b σ):ev c (.cmp o a b) σ=(ev c a σ).ao (ab8 c o b):=rfl
def X5(c:Cf)(o:Cm)(d:E)(y:D)(q:Bool)(σ:Ev):Out Rv:=if q then(ev c d σ).ao (Nt o y)else .ok (.val (.bl false)) σ
@[simp]theorem afm(c o d y σ):X5 c o d y true σ=(ev c d σ).ao (Nt o y):=rfl
@[simp]theorem afn(c o d y σ):X5 c o d y false σ=.ok (.val (.bl false)) σ:=rfl
@[simp]def afo(c:Cf)(o p:Cm)(d:E)(x y:D)(σ:Ev):Out Rv:=(lift σ (aN o x y)).bind (X5 c p d y)
@[simp]def kCh(c:Cf)(o p:Cm)(b d:E)(x:D)(σ:Ev):Out Rv:=(ev c b σ).ao (afo c o p d x)
@[simp]theorem aio c(ρ υ a b d σ):ev c (.chain ρ υ a b d) σ=(ev c a σ).ao (kCh c ρ υ b d):=rfl
@[simp]theorem ain c(es σ):ev c (.and es) σ=iT c es σ:=rfl
@[simp]theorem ag5 c(es σ):ev c (.or es) σ=oZ c es σ:=rfl
@[simp]def ae9(b:Bool)(σ:Ev):Out Rv:=.ok (.val (.bl (!b))) σ
@[simp]theorem ag4 c(a σ):ev c (.not a) σ=(ev c a σ).cZ ju ae9:=rfl
def Nr(c:Cf)(a b:E)(q:Bool)(σ:Ev):Out Rv:=if q then ev c a σ else ev c b σ
@[simp]theorem adf(c a b σ):Nr c a b true σ=ev c a σ:=rfl
@[simp]theorem adg(c a b σ):Nr c a b false σ=ev c b σ:=rfl
@[simp]theorem ag3 c(t a b σ):ev c (.ite t a b) σ=(ev c t σ).cZ ju (Nr c a b):=rfl
@[simp]def afC(y d:D):Option Rv:=(getD d y).map Rv.val
@[simp]def afg(k:Nat)(y:D)(σ:Ev):Out Rv:=lift σ ((bA k σ).bind (afC y))
@[simp]def ab2(x y:D)(σ:Ev):Out Rv:=lift σ ((getD x y).map Rv.val)
@[simp]def ab3(c:Cf)(i:E)(x:D)(σ:Ev):Out Rv:=(ev c i σ).ao (ab2 x)
@[simp]def afy(c:Cf)(a i:E)(σ:Ev):Option Nat->Out Rv
 |some k=>xf (bA k σ).isNone ((ev c i σ).ao (afg k))
 |none=>(ev c a σ).ao (ab3 c i)
@[simp]theorem ag2 c(a i σ):ev c (.idx a i) σ=afy c a i σ a.az:=rfl
@[simp]def ae5(hi:E)(x:D)(l:Option Int)(h:D)(σ:Ev):Out Rv:=lift σ ((eX hi.lE h).bind (jB x l))
@[simp]def slM(c:Cf)(hi:E)(x:D)(σ:Ev):Option (Option Int)->Out Rv
 |none=>.bad
 |some l=>(ev c hi σ).ao (ae5 hi x l)
@[simp]def ae6(c:Cf)(lo hi:E)(x l:D)(σ:Ev):Out Rv:=slM c hi x σ (eX lo.lE l)
@[simp]def kSl(c:Cf)(lo hi:E)(x:D)(σ:Ev):Out Rv:=(ev c lo σ).ao (ae6 c lo hi x)
@[simp]theorem ag1 c(a lo hi σ):ev c (.slc a lo hi) σ=(ev c a σ).ao (kSl c lo hi):=rfl
@[simp]theorem ag0 c(σ):ev c .noneE σ=.ok (.val .non) σ:=rfl
@[simp]theorem agZ c(f as σ):ev c (.call f as) σ=(evs c as σ).bind (uJ c f):=rfl
@[simp]def aeO(i:Nat)(σ:Ev):Option Sl->Out Rv
 |some (.own _)=>.ok (.ref i) σ
 |some (.bor _)=>.ok (.ref i) σ
 |_=>.bad
@[simp]theorem agY c(i σ):ev c (.ref i) σ=aeO i σ σ[i]? :=rfl
@[simp]theorem agX c(e σ):ev c (.rd e) σ=ev c e σ:=rfl
@[simp]def afe(t:Ty)(x:D)(σ:Ev):Out Rv:=.ok (.val (.bl (pR t x))) σ
@[simp]theorem agW c(a t σ):ev c (.isi a t) σ=(ev c a σ).ao (afe t):=rfl
@[simp]def kBi(b:Bi)(x:D)(σ:Ev):Out Rv:=lift σ (b1 b x)
@[simp]def biM(c:Cf)(b:Bi)(a:E)(σ:Ev):Option Nat->Out Rv
 |some k=>lift σ ((bA k σ).bind (b1 b))
 |none=>(ev c a σ).ao (kBi b)
@[simp]theorem agV c(b a σ):ev c (.bi b a) σ=biM c b a σ a.az:=rfl
def abY(x:D)(σ:Ev):Out Rv:=lift σ (match x with|.int n=>if fits n.toNat&&zb n then some (.val (.lst (bN 0 n.toNat)))else none|_=>none)
@[simp]theorem abX n(σ):abY (.int n) σ=lift σ (if fits n.toNat&&zb n then some (.val (.lst (bN 0 n.toNat)))else none):=rfl
@[simp]theorem agU c(a σ):ev c (.range1 a) σ=(ev c a σ).ao abY:=rfl
@[simp]def adP(xs ys:List D):Rv:=.val (.lst (aV xs ys))
@[simp]def adQ(y:D)(xs:List D):Option Rv:=(bM y).map (adP xs)
@[simp]def abV(x y:D)(σ:Ev):Out Rv:=lift σ ((bM x).bind (adQ y))
@[simp]def ae3(c:Cf)(b:E)(x:D)(σ:Ev):Out Rv:=(ev c b σ).ao (abV x)
@[simp]theorem agT c(a b σ):ev c (.zip a b) σ=(ev c a σ).ao (ae3 c b):=rfl
@[simp]def ab7(x y:D)(σ:Ev):Out Rv:=lift σ (Bq x y)
@[simp]def afk(c:Cf)(b:E)(x:D)(σ:Ev):Out Rv:=xf (bM x).isNone ((ev c b σ).ao (ab7 x))
@[simp]theorem agS c(a b σ):ev c (.count a b) σ=(ev c a σ).ao (afk c b):=rfl
@[simp]theorem adh(ks vs):oU (some (.eE ks vs))=true:=rfl
@[simp]theorem agR c(k a σ):ev c (.popAt k a) σ=xf (!gQ (bA k σ)) ((ev c a σ).ao (tE k)):=rfl
@[simp]def ab6(c:Cf)(nl:Nat)(tg:Tg)(cond elt:E)(x:D)(σ:Ev):Out Rv:=match items x with
  |some xs=>match aQ tg (ev c cond) (ev c elt) xs [] (List.replicate nl .un++σ)with
   |.ok ys τ=>.ok (.new (.lst ys)) (τ.drop nl)
   |_=>.bad
  |none=>.bad
@[simp]theorem agQ c(nl tg it cond elt σ):ev c (.comp nl tg it cond elt) σ=(ev c it σ).ao (ab6 c nl tg cond elt):=rfl
@[simp]def ab5(x:Rv)(xs:List Rv)(σ:Ev):Out (List Rv):=.ok (argv x::xs) σ
@[simp]def afj(c:Cf)(t:E)(x:Rv)(σ:Ev):Out (List Rv):=(evs c t σ).bind (ab5 x)
@[simp]theorem agM c(σ):evs c .nil σ=.ok [] σ:=rfl
@[simp]theorem agL c(h t σ):evs c (.cons h t) σ=(ev c h σ).bind (afj c t):=rfl
@[simp]theorem aim c(σ):ex c .nil σ=.next σ:=rfl
@[simp]theorem ail c(h t σ):ex c (.cons h t) σ=(ex c h σ).seq (ex c t):=rfl
@[simp]theorem aik c(σ):ex c .brk σ=.brk σ:=rfl
@[simp]theorem aij c(σ):ex c .cont σ=.cont σ:=rfl
@[simp]def WR(i:Nat)(σ:Ev)(s:Sl):Option Ev:=eO i s σ
@[simp]def ae7(i:Nat)(x:Rv)(σ:Ev):Fl:=Gy (x.CG.bind (WR i σ))
@[simp]theorem aii c(i e σ):ex c (.set i e) σ=(ev c e σ).fl (ae7 i):=rfl
@[simp]def abW(is:List Nat)(x:D)(σ:Ev):Fl:=Gy (cR (.tup is) x σ)
@[simp]theorem aih c(is e σ):ex c (.setT is e) σ=(ev c e σ).pZ (abW is):=rfl
@[simp]def afb(k:Nat)(x y:D)(σ:Ev):Fl:=Gy (fM k (pI y x) σ)
@[simp]def kIx(c:Cf)(k:Nat)(ix:E)(x:D)(σ:Ev):Fl:=Za (bA k σ).isNone ((ev c ix σ).pZ (afb k x))
@[simp]theorem aig c(k ix e σ):ex c (.setIx k ix e) σ=(ev c e σ).pZ (kIx c k ix):=rfl
@[simp]def abZ(_:D)(σ:Ev):Fl:=.next σ
@[simp]theorem aif c(e σ):ex c (.expr e) σ=(ev c e σ).pZ abZ:=rfl
@[simp]def age(x:D)(xs:List D):Option (List D):=if fits (xs.length+1)then some (xs++[x])else none
@[simp]def afp(k:Nat)(x:D)(σ:Ev):Fl:=Gy (fM k (Dt (age x)) σ)
@[simp]theorem aie c(k e σ):ex c (.append k e) σ=Za (!gQ (bA k σ)) ((ev c e σ).pZ (afp k)):=rfl
@[simp]def aeM(c:Cf)(e:E)(i:Nat)(σ:Ev):Option Sl->Fl
 |some (.own o)=>.ret (.new o) (σ.set i .un)
 |_=>(ev c e σ).fl vd
@[simp]def aeN(c:Cf)(e:E)(σ:Ev):Option Nat->Fl
 |some i=>aeM c e i σ σ[i]?
 |none=>(ev c e σ).fl vd
@[simp]theorem agK c(e σ):ex c (.ret e) σ=aeN c e σ e.az:=rfl
def X4(c:Cf)(a b:S)(q:Bool)(σ:Ev):Fl:=if q then ex c a σ else ex c b σ
@[simp]theorem afc(c a b σ):X4 c a b true σ=ex c a σ:=rfl
@[simp]theorem afd(c a b σ):X4 c a b false σ=ex c b σ:=rfl
@[simp]theorem agJ c(t a b σ):ex c (.ite t a b) σ=(ev c t σ).O2 (X4 c a b):=rfl
@[simp]def kFor(c:Cf)(tg:Tg)(b:S)(σ:Ev):Option (List D)->Fl
 |some xs=>cX tg (ex c b) xs σ
 |none=>.bad
@[simp]def ab4(c:Cf)(tg:Tg)(b:S)(x:D)(σ:Ev):Fl:=kFor c tg b σ (items x)
@[simp]theorem agI c(tg it b σ):ex c (.for_ tg it b) σ=(ev c it σ).pZ (ab4 c tg b):=rfl
@[simp]theorem agH c(t b σ):ex c (.while_ t b) σ=gA (ev c t) (ex c b) c.turns σ:=rfl
@[simp]theorem agG c(k σ):ex c (.raise k) σ=.exc k σ:=rfl
@[simp]def afq(c:Cf)(e:E)(x:D)(σ:Ev):Out Rv:=match x with|.bl true=>iT c e σ|.bl false=>.ok (.val (.bl false)) σ|_=>.bad
@[simp]def kOr(c:Cf)(e:E)(x:D)(σ:Ev):Out Rv:=match x with|.bl true=>.ok (.val (.bl true)) σ|.bl false=>oZ c e σ|_=>.bad
@[simp]theorem adv c(h σ):iT c (.cons h .nil) σ=ev c h σ:=rfl
@[simp]theorem adu c(h a b σ):iT c (.cons h (.cons a b)) σ=(ev c h σ).ao (afq c (.cons a b)):=rfl
@[simp]theorem afU c(h σ):oZ c (.cons h .nil) σ=ev c h σ:=rfl
@[simp]theorem afT c(h a b σ):oZ c (.cons h (.cons a b)) σ=(ev c h σ).ao (kOr c (.cons a b)):=rfl
@[simp high]theorem aji x0:at? [x0] 0=some x0:=rfl
@[simp high]theorem ajh x0 x1:at? [x0,x1] 0=some x0:=rfl
@[simp high]theorem ajg x0 x1:at? [x0,x1] 1=some x1:=rfl
@[simp high]theorem ajf x0 x1 x2:at? [x0,x1,x2] 0=some x0:=rfl
@[simp high]theorem aje x0 x1 x2:at? [x0,x1,x2] 1=some x1:=rfl
@[simp high]theorem ajd x0 x1 x2:at? [x0,x1,x2] 2=some x2:=rfl
@[simp high]theorem ajc x0 x1 x2 x3:at? [x0,x1,x2,x3] 0=some x0:=rfl
@[simp high]theorem ajb x0 x1 x2 x3:at? [x0,x1,x2,x3] 1=some x1:=rfl
@[simp high]theorem aja x0 x1 x2 x3:at? [x0,x1,x2,x3] 2=some x2:=rfl
@[simp high]theorem ai9 x0 x1 x2 x3:at? [x0,x1,x2,x3] 3=some x3:=rfl
@[simp]theorem aid(σ):giveBack [] [] σ=some σ:=rfl
@[simp]theorem aic(i as o ps σ):giveBack (.ref i::as) (.bor o::ps) σ=(fM i (fun _=>some o) σ).bind (giveBack as ps):=rfl
@[simp]theorem aib(d as p ps σ):giveBack (.val d::as) (p::ps) σ=giveBack as ps σ:=rfl
@[simp]theorem ahJ(i j):mj i (.ref j)=(i==j):=rfl
@[simp]theorem ahI(i d):mj i (.val d)=false:=rfl
@[simp]theorem ahH(i o):mj i (.new o)=false:=rfl
@[simp]theorem ahq(xs):pR .tup (.tup xs)=true:=rfl
@[simp]theorem ahp(xs):pR .lst (.lst xs)=true:=rfl
@[simp]theorem aho(x):pR .str (.str x)=true:=rfl
@[simp]theorem ahn(b):pR .bool (.bl b)=true:=rfl
def adW(i):pR .bool (.int i)=false:=rfl
@[simp]theorem ahm(i):pR .int (.int i)=true:=rfl
@[simp]theorem afR:fits 0=true:=rfl
@[simp]theorem afQ:fits 1=true:=rfl
@[simp]theorem afP:fits 2=true:=rfl
@[simp]theorem afO:fits 3=true:=rfl
@[simp]theorem afN:fits 4=true:=rfl
@[simp]theorem afM:fits 5=true:=rfl
@[simp]theorem afL:fits 6=true:=rfl
@[simp]theorem afK:fits 7=true:=rfl
@[simp]theorem afJ:fits 8=true:=rfl
@[simp↓]theorem ite_tt{α:Type}(a b:α):(if true=true then a else b)=a:=rfl
@[simp↓]theorem ite_ff{α:Type}(a b:α):(if false=true then a else b)=b:=rfl
@[simp]theorem adK xs ys:binop .add (.tup xs) (.tup ys)=if fits (xs.length+ys.length)then some (.val (.tup (xs++ys)))else none:=rfl
@[simp]theorem adL xs ys:binop .add (.lst xs) (.lst ys)=if fits (xs.length+ys.length)then some (.new (.lst (xs++ys)))else none:=rfl
@[simp]def ab0(x y:D)(σ:Ev):Out Rv:=lift σ (Od x y)
@[simp]def ab1(c:Cf)(b:E)(x:D)(σ:Ev):Out Rv:=xf (lC x).isNone ((ev c b σ).ao (ab0 x))
@[simp]theorem agP(c:Cf)(a b σ):ev c (.index a b) σ=(ev c a σ).ao (ab1 c b):=rfl
@[simp]def gtK(k x y:D):Option Rv:=(oX y k x).map Rv.val
@[simp]def afh(i:Nat)(k x:D)(σ:Ev):Out Rv:=lift σ ((bA i σ).bind (gtK k x))
@[simp]def afi(c:Cf)(i:Nat)(x:E)(k:D)(σ:Ev):Out Rv:=(ev c x σ).ao (afh i k)
@[simp]def afB(c:Cf)(d k x:E)(σ:Ev):Option Nat->Out Rv
 |some i=>xf (!oU (bA i σ)) ((ev c k σ).ao (afi c i x))
 |none=>.bad
@[simp]theorem agO c(d k x σ):ev c (.get2 d k x) σ=afB c d k x σ d.az:=rfl
@[simp]theorem agN c(σ):ev c .emp σ=.ok (.new (.dct [] [])) σ:=rfl
@[simp high]theorem aia a0(r:Ev):(a0::r)[0]? =some a0:=rfl
@[simp high]theorem ahF a0 v(r:Ev):List.set (a0::r) 0 v=v::r:=rfl
@[simp high]theorem ah9 a0 a1(r:Ev):(a0::a1::r)[1]? =some a1:=rfl
@[simp high]theorem ahE a0 a1 v(r:Ev):List.set (a0::a1::r) 1 v=a0::v::r:=rfl
@[simp high]theorem ah8 a0 a1 a2(r:Ev):(a0::a1::a2::r)[2]? =some a2:=rfl
@[simp high]theorem ahD a0 a1 a2 v(r:Ev):List.set (a0::a1::a2::r) 2 v=a0::a1::v::r:=rfl
@[simp high]theorem ah7 a0 a1 a2 a3(r:Ev):(a0::a1::a2::a3::r)[3]? =some a3:=rfl
@[simp high]theorem ahC a0 a1 a2 a3 v(r:Ev):List.set (a0::a1::a2::a3::r) 3 v=a0::a1::a2::v::r:=rfl
@[simp high]theorem ah6 a0 a1 a2 a3 a4(r:Ev):(a0::a1::a2::a3::a4::r)[4]? =some a4:=rfl
@[simp high]theorem ahB a0 a1 a2 a3 a4 v(r:Ev):List.set (a0::a1::a2::a3::a4::r) 4 v=a0::a1::a2::a3::v::r:=rfl
@[simp high]theorem ah5 a0 a1 a2 a3 a4 a5(r:Ev):(a0::a1::a2::a3::a4::a5::r)[5]? =some a5:=rfl
@[simp high]theorem ahA a0 a1 a2 a3 a4 a5 v(r:Ev):List.set (a0::a1::a2::a3::a4::a5::r) 5 v=a0::a1::a2::a3::a4::v::r:=rfl
@[simp high]theorem ah4 a0 a1 a2 a3 a4 a5 a6(r:Ev):(a0::a1::a2::a3::a4::a5::a6::r)[6]? =some a6:=rfl
@[simp high]theorem ahz a0 a1 a2 a3 a4 a5 a6 v(r:Ev):List.set (a0::a1::a2::a3::a4::a5::a6::r) 6 v=a0::a1::a2::a3::a4::a5::v::r:=rfl
@[simp high]theorem ah3 a0 a1 a2 a3 a4 a5 a6 a7(r:Ev):(a0::a1::a2::a3::a4::a5::a6::a7::r)[7]? =some a7:=rfl
@[simp high]theorem ahy a0 a1 a2 a3 a4 a5 a6 a7 v(r:Ev):List.set (a0::a1::a2::a3::a4::a5::a6::a7::r) 7 v=a0::a1::a2::a3::a4::a5::a6::v::r:=rfl
@[simp high]theorem ah2 a0 a1 a2 a3 a4 a5 a6 a7 a8(r:Ev):(a0::a1::a2::a3::a4::a5::a6::a7::a8::r)[8]? =some a8:=rfl
@[simp high]theorem ahx a0 a1 a2 a3 a4 a5 a6 a7 a8 v(r:Ev):List.set (a0::a1::a2::a3::a4::a5::a6::a7::a8::r) 8 v=a0::a1::a2::a3::a4::a5::a6::a7::v::r:=rfl
@[simp high]theorem ah1 a0 a1 a2 a3 a4 a5 a6 a7 a8 a9(r:Ev):(a0::a1::a2::a3::a4::a5::a6::a7::a8::a9::r)[9]? =some a9:=rfl
@[simp high]theorem ahw a0 a1 a2 a3 a4 a5 a6 a7 a8 a9 v(r:Ev):List.set (a0::a1::a2::a3::a4::a5::a6::a7::a8::a9::r) 9 v=a0::a1::a2::a3::a4::a5::a6::a7::a8::v::r:=rfl
abbrev jf:=List (Str×Int)
def nR:List D->List D->Option jf
 |[],[]=>some []
 |.str x::ks,.int i::vs=>(nR ks vs).map ((x,i):: ·)
 |_,_=>none
def jz(l:jf):List D:=l.map fun p=>.str p.1
def Cq(l:jf):List D:=l.map fun p=>.int p.2
def bz(x:Str):jf->Option Int
 |[]=>none
 |p::r=>if p.1=x then some p.2 else bz x r
def gY(ls ss:jf)(i:Nat):Int:=match ss[i]? with
 |some p=>p.2+(bz p.1 ls).getD 0
 |none=>0
def gn(f:Nat->Int):Nat->Nat
 |0=>0
 |n+1=>if f n<f (gn f n)then n else gn f n
structure Gs where
 cs:List D
 sd:D
 ss:jf
structure Gf where
 led:List Sl->Res
 stp:List Sl->Res
 snw:List Sl->Res
def M3:Res->Option jf
 |.ok (.new (.dct ks vs)) _=>nR ks vs
 |_=>none
def Ce:Res->Option D
 |.ok (.val d) _=>some d
 |_=>none
def Jk:Res->Option (List D)
 |.ok (.new (.lst xs)) _=>some xs
 |_=>none
def okT(ls ss:jf):Bool:=ss.all fun p=>bz p.1 ss==some p.2&&(bz p.1 ls).isSome
def yg(f:Gf)(n t sd:D):Option (List D):=if gh sd then some []else Jk (f.stp [.val n,.val t,.val sd])
def sJ(f:Gf)(nm:List D)(ss:jf)(tm:Int):Option jf:=M3 (f.snw [.val (.lst nm),.bor (.dct (jz ss) (Cq ss)),.val (.int tm)])
noncomputable def kY(f:Gf)(n t:D)(ls:jf)(g:Gs):Option Gs:=
 if okT ls g.ss&&fits (g.cs.length+1)then match g.ss[gn (gY ls g.ss) g.ss.length]? with
  |none=>none
  |some p=>(Ce (f.led [.val n,.val t,.val g.sd,.val (.str p.1)])).bind fun sd=>(yg f n t sd).bind fun nm=>
    (sJ f nm (g.ss.filter fun q=>decide (q.1≠p.1)) (gY ls g.ss (gn (gY ls g.ss) g.ss.length))).map fun ss=>
     ⟨g.cs++[.tup [.int (gY ls g.ss (gn (gY ls g.ss) g.ss.length)),.str p.1]],sd,ss⟩
 else none
def mX(st:Gs->Option Gs)(k:Int):Nat->Gs->Option Gs
 |0,_=>none
 |m+1,g=>if !g.ss.isEmpty&&decide ((g.cs.length:Int)<k)then(st g).bind (mX st k m)else some g
def Pa(g:Gs):D:=if gh g.sd then .str "unasked" else if g.ss.isEmpty then .str "end" else .str "on"
structure QH where
 chk:Nat
 isn:Nat
 fst:Nat
 stp:Nat
 led:Nat
 snw:Nat
 mz:E
 top:Int
def QH.gf(T:QH)(c:Cf):Gf:=⟨c.fn T.led,c.fn T.stp,c.fn T.snw⟩
def Sv:Out Rv->Option jf
 |.ok (.new (.dct ks vs)) _=>nR ks vs
 |_=>none
noncomputable def Te(T:QH)(c:Cf)(n t w:D):Option (jf×Gs):=
 (Sv (ev c T.mz [.un,.val n,.val t,.val w])).bind fun ls=>(Ce (c.fn T.fst [.val n])).bind fun sd=>(Jk (c.fn T.stp [.val n,.val t,.val sd])).bind fun nm=>
  (sJ (T.gf c) nm [] 0).map fun ss=>(ls,⟨[],sd,ss⟩)
def NZ:Res->Bool
 |.ok (.val _) _=>true
 |_=>false
def isT:Res->Bool
 |.ok (.val (.bl true)) _=>true
 |_=>false
noncomputable def eV(T:QH)(c:Cf):List Sl->Res
 |[.val n,.val t,.val w,.val (.int k)]=>
  if NZ (c.fn T.chk [.val n,.val t,.val w])&&isT (c.fn T.isn [.val (.int k),.val (.int 0),.val (.int T.top)])then
   match (Te T c n t w).bind fun q=>mX (kY (T.gf c) n t q.1) k c.turns q.2 with
   |some g=>.ok (.val (.tup [.lst g.cs,Pa g])) [.val n,.val t,.val w,.val (.int k)]
   |none=>.bad
  else .bad
 |_=>.bad
end Mini
end
section
namespace Mini
open PySem L2 PyProof.Rows
section
variable{X:Cx}{γ:QQz}{σ:L2.St}{H:Hp}{s:Shared}{l q:Addr}{xs:List V}{kf:Nat->Int}{Q:QZq}{E:QZq}
def PN(hc:X.calm=true)(I:L2.Inv X γ σ H s)(hl:H l=some (.lst xs))(hne:0<xs.length)
  (turn:∀(i:Nat)(v:V)(u:Value)(ο:QQz)(s:Shared),xs[i]? =some v->L2.Inv (Cx.under X X.A.in1) ο σ H s->RelV v u->
   wpAny (model X.prog X.w) X.A.in1 (call (.ref q) [u]) (EP (Cx.under X X.A.in1) ο σ (fun r H'=>r=.int (kf i)/\H'=H)) (fun _ _=>False) s)
  (fin:∀(i:Nat)(v:V)(u:Value)(s:Shared),xs[i]? =some v->(∀j,j<xs.length->kf i<=kf j/\(j<i->kf i<kf j))->L2.Inv X γ σ H s->RelV v u->Q u s):
  wpAny (model X.prog X.w) X.A (call (.builtin "min") [.ref l] [(Str.ofString "key",.ref q)]) Q E s:=by
 have hname:(toString "min"++toString ".loop":String)="min.loop":=by decide
 obtain⟨its,rv,p,hz⟩:=I.list (xs:=xs) (.inl (.inl hl))
 refine kmk_tree PySem.F.kind_min PySem.F.plain_min PySem.F.entry_min (kmk_min_key _ _) ?_
 refine QKq (wpAny_of_eq (show Builtin.Builtins.bindParams "min" ["key","default"] 0 ⟨[],[(Str.ofString "key",.ref q)]⟩=pure [some (.ref q),none]from rfl) ?_)
 refine QKq (QKz ?_)
 refine QKq (wpAny_pyIter_list p.isList ?_)
 refine QKq (wpAny_newList ?_ (QIq _))
 rw[hname]
 generalize hh1:s.heap.push {cls:=.type "list_iterator",data:=.fields #[.ref l,.int 0 0]}=h1
 have z1:h1.objs.size=s.heap.objs.size+1:=by rw[<-hh1];exact Heap.size_push _ _
 have g1:h1.get? s.heap.objs.size=some {cls:=.type "list_iterator",data:=.fields #[.ref l,.int 0 0]}:=by rw[<-hh1];exact Qzq _ rfl
 have hSI:h1.objs.size≠s.heap.objs.size:=by rw[z1];exact Nat.succ_ne_self _
 have fI:=I.uy (QVz _) (I.hok.fresh (QVz _))
 have fS:dC X γ H h1.objs.size:=I.uy (by omega) (I.hok.fresh (by omega))
 have I0:L2.Inv (Cx.under X X.A.in1) γ σ H {s with heap:=h1.push (seqObj "list" #[] 0)}:=
  Inv.under (Inv.gR (ch:=[]) (t':=s.toks) I (fun b o _ e=>QWq _ (by rw[<-hh1];exact QWq _ e)) (fun b hb=>nomatch hb)) rfl rfl
 have eS:(h1.push (seqObj "list" #[] 0)).get? h1.objs.size=some (seqObj "list" #[] 0):=Qzq _ rfl
 have eI:(h1.push (seqObj "list" #[] 0)).get? s.heap.objs.size=some {cls:=.type "list_iterator",data:=.fields #[.ref l,.int 0 0]}:=QWq _ g1
 refine QKz ⟨plainId_quiet PySem.F.plain_min_loop _,?_⟩
 have T:=jg (P:=X.prog) (w:=X.w) (K:=X.K) (tg:=.Name "x" ⟨0,0,0,0⟩) l s.heap.objs.size
 refine codeAny_builtin PySem.F.entry_min_loop ?_
 rw[Around.under_plainId PySem.F.plain_min_loop _]
 show wpAny _ X.A.in1 (seqItems? (.ref h1.objs.size)>>=_) _ _ _
 refine QKq (wpAny_seqItems eS rfl ?_)
 show wpAny _ X.A.in1 (tryCatch (pyNext (.ref s.heap.objs.size)) _>>=_) _ _ _
 have fI':=fI
 have fS':=fS
 have I1:=Inv.lr I0 fS' eS (fun v z=>by cases z)
 obtain⟨v,hv⟩:∃v,xs[0]? =some v:=⟨xs[0],QXq hne⟩
 refine QKq (wpAny_tryCatch (QGq (T.item (Cx.under X X.A.in1) rfl rfl rfl hc 0 _ _ σ H (fun _ _=>False) I1 (fun b hb=>by rw[QDz.mp hb];exact dC.lr fI' hSI) ⟨_,eI,rfl,rfl⟩ ⟨xs,v,.inl (.inl hl),hv⟩) (fun r s1 h=>?_) fun _ _ h=>h.elim))
 obtain⟨u,rfl,h⟩:=h
 refine mq (QGq h (fun _ s2 h2=>?_) fun _ _ h=>h.elim)
 obtain⟨y,H',I2,ry,⟨rfl,yl⟩,st2,nf⟩:=h2
 have ev:=QEq ((yl xs (.inl (.inl hl))).symm.trans hv)
 subst ev
 obtain⟨oI,eI2,cI,dI⟩:=id st2
 have I3:=Inv.lr I2 (dC.lr (o:=seqObj "list" #[] 0) fI' hSI) eI2 (fun v z=>by rw[dI]at z;cases z)
 refine QKq (wpAny_tryCatch (Qqq (QGq (turn 0 y u _ s2 hv I3 ry) (fun x s3 he=>?_) fun _ _ hF=>hF.elim)))
 obtain⟨z,H3,I4,rz,rfl,rfl⟩:=he
 obtain⟨t2,rfl⟩:=(show∃t,x=Value.int (kf 0) t from rz)
 have eI4:=Inv.last I4
 have eS4:=Inv.last I4.cV
 have I5:=I4.cV.cV
 have s5:=Heap.SameBut.update s3.heap h1.objs.size (Obj.mapSeq fun _=> #[u,.int (kf 0) t2])
 obtain⟨c2,hc2⟩:∃c2,(s3.heap.update h1.objs.size (Obj.mapSeq fun _=> #[u,.int (kf 0) t2])).get? h1.objs.size=some (seqObj "list" #[u,.int (kf 0) t2] c2):=⟨_,get?_update_seq eS4 fun _=> #[u,.int (kf 0) t2]⟩
 refine QKq ?_
 refine wpAny_updateSeq eS4 rfl ?_
 rw[hname]
 refine QKz ⟨plainId_quiet PySem.F.plain_min_loop _,?_⟩
 refine Nf (X:=Cx.under X X.A.in1) (A:=X.A) rfl hc hl hSI turn (fun i v u s' e b J r=>fin i v u s' e b (Inv.back J rfl rfl) r) _ 0 0 _ y u t2 c2 rfl hne
  (Inv.gR (ch:=[h1.objs.size]) I5 (fun b o hb e=>(s5.2 b (by simpa using hb)).trans e) (fun b hb=>by rw[QDz.mp hb];exact fS')) fI' fS' ⟨oI,(s5.2 _ (Ne.symm hSI)).trans eI4,cI,dI⟩ hc2 hv ry (QVz _) fun j' hj'=>?_
 have e:j'=0:=by omega
 subst e
 exact⟨by omega,fun h=>absurd h (Nat.lt_irrefl _)⟩
end
structure VM(K:QQq)(C:Addr)(m:Str)(g:Addr):Prop where
 me:Meth K C m g
 get:PySem.W.specialIn K (.ref g) "__get__"=some (some (.builtin "function.__get__"))
 tk:PySem.W.takesIn K (.ref g)=some false
 cp:PySem.W.copiedNames.contains m=false
section
variable{X:Cx}{γ:QQz}{σ:L2.St}{H:Hp}{s:Shared}{a C dx g:Addr}{fs:List (Str×V)}{m:Str}{A:Around}{Q:QZq}{E:QZq}
def Bf(I:L2.Inv X γ σ H s)(e:H a=some (.ins C dx fs))(c:ql X.K C)(k:VM X.K C m g)(l:fs.lookup m=none)
  (h:∀q s',H q=none->L2.Inv X γ σ (upd H q (.met g a)) s'->Q (.ref q) s'):wpAny (model X.prog X.w) A (getAttr (.ref a) m b) Q E s:=by
 obtain⟨mA,O,r,_,_,_⟩:=rG I.hok e
 have hn:=lK.none_of (by rw[<-l];exact r m)
 obtain⟨od,J,hl⟩:=O.look
 refine PySem.W.get_bind I.Av J (PySem.W.plainGet_of (c.get m)).1 (PySem.W.findObj_fn c.hd k.me.at_ k.get k.tk k.cp (by rw[hl,hn])) (PySem.W.plainGet_of (c.get m)).2 ?_
 refine wpAny_call (PySem.W.fn_get I.Av (beq_iff_eq.mp k.me.fn) (PySem.W.handed_on rfl (h s.heap.objs.size _ (I.hok.fresh (QVz _)) ?_)))
 exact I.laid (fun b u q=>QWq _ q) (QVz _) (Qzq _ rfl)
end
section
variable{X:Cx}{CX:J8}{k:Nat}{C:Addr}{fd:FuncData}{ps:List Str}{sp:Sp}{E:XK}{m:Str}{p pos kpos:Pos}{e le ke:Expr}{ta:TE}{t tk:TA}{g:Addr}{ds:List Value}{dvs:List V}
def Wu(K:QQq)(ta:TE)(m:Str)(g:Addr):TE:=fun σ H Q=>ta σ H fun x H1=>∃a C dx fs,x=.ref a/\H1 a=some (.ins C dx fs)/\ql K C/\VM K C m g/\fs.lookup m=none/\∀q,H1 q=none->Q (.ref q) (upd H1 q (.met g a))
def Xh(he:PE X e ta)(hb:attributeBase e m X.env (eval e X.env)=eval e X.env):PE X (.Attribute e m pos) (Wu X.K ta m g):=by
 intro γ s σ H Q I h
 refine Hy hb (cj (he γ s σ H _ I h) fun u s1⟨x,H1,I1,rx,a,C,dx,fs,ex,ea,c,k,l,q⟩=>?_)
 subst ex
 obtain rfl:u=Value.ref a:=rx
 exact Bf I1 ea c k l fun q' s2 hq I2=>⟨.ref q',_,I2,rfl,q q' hq⟩
theorem Ij{σ:L2.St}{H:Hp}{Q:VK}{vs:List V}(F:cD X.prog X.w X.K X.mg X.base CX k g fd ps sp)(hr:dR k X.A)(hb:Binds X.K fd ps ds)(hd:Vals dvs ds)(hx:lL CX X E)
  (I:L2.Inv X γ σ H s)(eq:H q=some (.met g a))(r:Vals vs us)(h:sp ((.ref a::vs)++dvs) H Q E):wpAny (model X.prog X.w) X.A (call (.ref q) us) (EP X γ σ Q) X.xe s:=by
 have r2:Vals ((.ref a::vs)++dvs) _:=Vals.append (.cons rfl r) hd
 have hl:((Value.ref a::us)++ds).length=ps.length:=by rw[<-r2.length];exact F.len _ _ _ _ h
 have ho:=I.hok q _ eq
 refine wpAny_call (ks_codeAny_call_bound ho (codeAny_mono (F.run X.A X.stack s H ⟨.ref a::us,[]⟩ _ _ Q E hr I.env0 (hb s _ I.Av hl) r2 h) fun r s' hq=>?_))
 cases r with
 |error e=>exact hx γ σ H s e s' I hq
 |ok fl=>
  cases fl with
  |ret u=>exact I.after hq
  |next=>exact False.elim hq
  |brk=>exact False.elim hq
  |cont=>exact False.elim hq
def acP(X:Cx)(σ:L2.St)(H:Hp)(q:Addr)(xs:List V)(kf:Nat->Int):Prop:=
 ∀(i:Nat)(v:V)(u:Value)(ο:QQz)(s:Shared),xs[i]? =some v->L2.Inv (Cx.under X X.A.in1) ο σ H s->RelV v u->
  wpAny (model X.prog X.w) X.A.in1 (call (.ref q) [u]) (EP (Cx.under X X.A.in1) ο σ (fun r H'=>r=.int (kf i)/\H'=H)) (fun _ _=>False) s
end
def XR{σ:L2.St}{q a g:Addr}{kf:Nat->Int}{fd:FuncData}{sp:Sp}(F:cD X.prog X.w X.K X.mg X.base gw k g fd ps sp)(hr:dR (k+1) X.A)(hb:Binds X.K fd ps [])(eq:H q=some (.met g a))
  (h:∀i v,xs[i]? =some v->sp [.ref a,v] H (fun r H'=>r=.int (kf i)/\H'=H) E0):acP X σ H q xs kf:=by
 intro i v u ο s hv I ru
 have I':L2.Inv {Cx.under X X.A.in1 with xe:=fun _ _=>False} ο σ H s:=Inv.FJ I
 exact QGq (Ij (X:={Cx.under X X.A.in1 with xe:=fun _ _=>False}) F hr.in1 hb .nil iK I' eq (.cons ru .nil) (h i v hv)) (fun r s'⟨z,H',J,rz,e⟩=>⟨z,H',Inv.FJ J,rz,e⟩) fun _ _ z=>z
noncomputable def qy(K:QQq):Sp:=fun vs H Q _=>∃a w C dx fs sa la i j,vs=[.ref a,w]/\H a=some (.ins C dx fs)/\ql K C/\bh K C "since"/\bh K C "lengths"/\fs.lookup ("since":Str)=some (.ref sa)/\fs.lookup ("lengths":Str)=some (.ref la)/\
 nO H sa w (some (.int i))/\nO H la w (some (.int j))/\Q (.int (i+j)) H
def Ze(st:Stmt):Prop:=∃p1 p2 p3 p4 p5 p6 p7 p8 p9 p10:Pos,cF st=[.Return (some (.BinOp (.Subscript (.Attribute (.Name "self" p1) "since" p2) (.Name "wire" p3) p4) .Add (.Subscript (.Attribute (.Name "self" p5) "lengths" p6) (.Name "wire" p7) p8) p9)) p10]
section
variable{P:Program}{w:World}{K:QQq}{mg:QZz}{base:Heap}
def YS{st:Stmt}{f:Addr}{k:Nat}(F:Hz K "due" qual st f fd)(S:eN ["self","wire"] ["self","wire"] (aq st))(v0:J5 (aq st) "self")(v1:J5 (aq st) "wire")(hb:Ze st):
  cD P w K mg base gw (k+1) f fd ["self","wire"] (qy K):=by
 obtain⟨p1,p2,p3,p4,p5,p6,p7,p8,p9,p10,hb⟩:=hb
 refine F.ok S (fun vs H Q E⟨a,w,C,dx,fs,sa,la,i,j,e,_⟩=>by rw[e];rfl) fun cdv A outer s H vs Q E hr h=>?_
 rw[hb]
 have hu:(gG gw P w K mg base ["self","wire"] qual (aq st) f cdv A outer s H E).rE.A.units+1<cLine:=by have:=hr.units;exact Nat.lt_of_le_of_lt (Nat.add_le_add_left (by decide) _) this
 refine⟨_,jF (jc (Xj (Gw hu (nD (dj (i:=0) rfl v0) rfl) (dj (i:=1) rfl v1) (fun _ _=>rfl)) (Gw hu (nD (dj (i:=0) rfl v0) rfl) (dj (i:=1) rfl v1) (fun _ _=>rfl)))),?_⟩
 obtain⟨a,w,C,dx,fs,sa,la,i,j,rfl,ea,cl,n1,n2,l1,l2,g1,g2,q⟩:=h
 exact⟨.ref a,rfl,a,C,dx,fs,.ref sa,rfl,ea,cl,n1,l1,w,rfl,sa,.int i,rfl,g1,.ref a,rfl,a,C,dx,fs,.ref la,rfl,ea,cl,n2,l2,w,rfl,la,.int j,rfl,g2,i,j,rfl,rfl,q⟩
end
def O9(v:V)(kvs:List (Key×V)):V:=if v=.non then .str "unasked" else if kvs.isEmpty then .str "end" else .str "on"
noncomputable def Ge(K:QQq):Sp:=fun vs H Q _=>∃a C dx fs v sa kvs,vs=[.ref a]/\H a=some (.ins C dx fs)/\ql K C/\bh K C "stand"/\bh K C "since"/\fs.lookup ("stand":Str)=some v/\fs.lookup ("since":Str)=some (.ref sa)/\
 H sa=some (.dK kvs)/\Q (O9 v kvs) H
def Zd(st:Stmt):Prop:=∃(k1 k2 k3 k4:Nat)(p1 p2 p3 p4 p5 p6 p7 p8 p9 p10 p11 p12 p13:Pos),cF st=[.If (.Compare (.Attribute (.Name "self" p1) "stand" p2) [.Is] [.Constant .none k1 p3] p4) [.Return (some (.Constant (.str "unasked") k2 p5)) p6] [] p7,
   .Return (some (.IfExp (.Attribute (.Name "self" p8) "since" p9) (.Constant (.str "on") k3 p10) (.Constant (.str "end") k4 p11) p12)) p13]
section
variable{P:Program}{w:World}{K:QQq}{mg:QZz}{base:Heap}
def YM{st:Stmt}{f:Addr}{k:Nat}(F:Hz K "ending" qual st f fd)(S:eN ["self"] ["self"] (aq st))(v0:J5 (aq st) "self")(hb:Zd st):
  cD P w K mg base gw (k+1) f fd ["self"] (Ge K):=by
 obtain⟨k1,k2,k3,k4,p1,p2,p3,p4,p5,p6,p7,p8,p9,p10,p11,p12,p13,hb⟩:=hb
 refine F.ok S (fun vs H Q E⟨a,C,dx,fs,v,sa,kvs,e,_⟩=>by rw[e];rfl) fun cdv A outer s H vs Q E hr h=>?_
 rw[hb]
 refine⟨_,bZ (Mg (xT Dr (nD (dj (i:=0) rfl v0) rfl) Dl rfl) (jF (jc xW)) xU) (jF (jc (tK (oh (nD (dj (i:=0) rfl v0) rfl) (fun _=>rfl)) xW xW))),?_⟩
 obtain⟨a,C,dx,fs,v,sa,kvs,rfl,ea,cl,n1,n2,l1,l2,e2,q⟩:=h
 refine⟨.ref a,rfl,a,C,dx,fs,v,rfl,ea,cl,n1,l1,rfl,decide _,rfl,?_⟩
 unfold O9 at q
 by_cases hv:v=.non
 ·rw[if_pos hv]at q
  rw[if_pos (by simpa using hv)]
  exact q
 ·rw[if_neg hv]at q
  rw[if_neg (by simpa using hv)]
  refine⟨.ref a,rfl,a,C,dx,fs,.ref sa,rfl,ea,cl,n2,l2, !kvs.isEmpty,.inr (.inr ⟨kvs,e2,rfl⟩),?_⟩
  cases hk:kvs.isEmpty
  ·rw[hk]at q;exact q
  ·rw[hk]at q;exact q
end
def DX{w:World}{v:Value}(h:(fV P w).is k v=true):RelV (kV k) v:=by
 rcases cJ h with ⟨i,t,rfl,rfl⟩|⟨x,t,rfl,rfl⟩<;>exact⟨t,rfl⟩
def Jw{P:Program}{w:World}:∀{kvs:List (Key×V)}{vs:List (Key×Value)}{es:List DictEntry},KV kvs vs->Pairs (fV P w) es vs->Vals (kvs.map fun p=>kV p.1) (es.map (·.key)):=by
 intro kvs vs es r
 induction r generalizing es with
 |nil=>intro p;cases p;exact .nil
 |cons h t ih=>
  intro p
  cases p with
  |cons h1 h2 h3=>exact .cons (by dsimp only;rw[h.1];exact DX h1) (ih h3)
section
variable{X:Cx}
def EY(hc:X.calm=true):gH X (.type "list") (fun xs H Q=>∃a kvs,xs=[.ref a]/\H a=some (.dK kvs)/\∀l,H l=none->Q (.ref l) (upd H l (.lst (kvs.map fun p=>kV p.1)))):=by
 rintro γ s σ H xs us Q I r ⟨a,kvs,rfl,e,q⟩
 obtain⟨u,rfl,rx⟩:=vals1 r
 cases rx
 obtain⟨z,y,vs,rel,o,es,ep,h1,h2,h3,_,pr,_⟩:=(I.hok a _ e)
 have lk:=Paired.length rel
 have le:es.size=vs.length:=by rw[<-Array.length_toList];exact pr.length
 refine PySem.W.kdl_call (Qa y) (I.ok.hd hc) ⟨o,h1,h2,h3⟩ (by omega) fun h' tk acc c' kp g it=>?_
 have ev:acc.toList=es.toList.map (·.key):=by
  refine List.ext_getElem? fun i=>?_
  rw[Array.getElem?_toList,QFz,Array.getElem?_toList]
  by_cases hi:i<acc.size
  ·obtain⟨e,e1,e2⟩:=it.2 i acc[i] (Array.getElem?_eq_getElem hi)
   rw[Array.getElem?_eq_getElem hi,e1,e2]
   rfl
  ·have:=it.1
   rw[Array.getElem?_eq_none (by omega),Array.getElem?_eq_none (by omega)]
   rfl
 have rv:Vals (kvs.map fun p=>kV p.1) acc.toList:=by rw[ev];exact Jw rel pr
 refine⟨.ref s.heap.objs.size,_,I.laid kp (QVz _) (show dq X.prog X.w _ h' _ (.lst _)from⟨by rw[QAq];omega,acc.toList,c',rv,by simpa using g⟩),rfl,q _ (I.hok.fresh (QVz _))⟩
end
section
variable{X:Cx}{k:Nat}{fd:FuncData}{ps:List Str}{sp:Sp}{p pos kpos:Pos}{le ke:Expr}{t tk:TA}{g:Addr}
noncomputable def K3(g:Addr)(sp:Sp)(t tk:TA):TE:=fun σ H Q=>t σ H fun vs H1=>tk σ H1 fun zs H2=>∃(l q a:Addr)(xs:List V)(kf:Nat->Int),vs=[.ref l]/\zs=[.ref q]/\H2 l=some (.lst xs)/\0<xs.length/\H2 q=some (.met g a)/\
 (∀(i:Nat)v,xs[i]? =some v->sp [.ref a,v] H2 (fun r H'=>r=.int (kf i)/\H'=H2) E0)/\∀(i:Nat)v,xs[i]? =some v->(∀j,j<xs.length->kf i<=kf j/\(j<i->kf i<kf j))->Q v H2
def RW(hc:X.calm=true)(F:cD X.prog X.w X.K X.mg X.base gw k g fd ps sp)(hr:dR (k+1) X.A)(hb:Binds X.K fd ps [])(ha:PA X [le] t)(hkw:PK X [⟨some "key",ke,kpos⟩] tk)(hg:Gl X "min")(hm:X.mg "min"=none)
  (he:backTo pos (starEach [le] X.env)=(false,eval le X.env)::backTo pos (starEach [] X.env):=by rfl)(hplain:(backTo pos (starEach [le] X.env)).any (·.1)=false:=by rfl):
  PE X (.Call (.Name "min" p) [le] [⟨some "key",ke,kpos⟩] pos) (K3 g sp t tk):=by
 intro γ s σ H Q I h
 refine wpAny_Call_Name_kw (jJ I hg hm rfl ?_)
 refine callWith_kw (cj (ha pos γ s σ H _ I h) fun us s1⟨vs,H1,I1,r,q⟩=>?_) he hplain
 refine cj (hkw pos γ s1 σ H1 _ I1 q) fun ws s2⟨zs,H2,I2,rz,l,q',a,xs,kf,e1,e2,hl,hne,eq,hk,fin⟩=>?_
 subst e1 e2
 obtain⟨u1,rfl,r1⟩:=Vals.one r
 obtain⟨u2,rfl,r2⟩:=Vals.one rz
 obtain rfl:u1=Value.ref l:=r1
 obtain rfl:u2=Value.ref q':=r2
 exact PN hc I2 hl hne (XR F hr hb eq hk) fun i v u s' e b J rv=>⟨v,H2,J,rv,fin i v e b⟩
end
def U6(K:QQq)(c:Cf)(m:E):TE:=fun σ H Q=>∃env,tM K W0 env (ev c m env) σ H Q
theorem GE.U6{c:Cf}{e:Expr}(h:GE X W0 c m e):PE X e (U6 X.K c m):=fun γ s σ H Q I⟨env,q⟩=>h env γ s σ H Q I q
def U5(t:TE):TE:=fun σ H Q=>t σ H fun v H1=>∃a u,v=.ref a/\H1 a=some u/\Qy u/\∀o,Q v (upd H1 a (.frz o u))
def Ms{e:Expr}(h:PE X e t):PE X e (U5 t):=by
 intro γ s σ H Q I q
 refine cj (h γ s σ H _ I q) fun u s1⟨v,H1,I1,r,a,w,ev,ha,hu,k⟩=>?_
 obtain⟨o,I2⟩:=Inv.freeze I1 ha hu
 exact⟨v,_,I2,r,k o⟩
abbrev sf(K:QQq)(f:Str):TE:=Wq K (bf 0) f
abbrev rLk:List V->Hp->VK->Prop:=fun xs H Q=>∃a kvs,xs=[.ref a]/\H a=some (.dK kvs)/\∀l,H l=none->Q (.ref l) (upd H l (.lst (kvs.map fun p=>kV p.1)))
noncomputable def ad5(K:QQq)(C g:Addr)(spD spL spS spW:Sp):TS:=
 kJ (xH (K3 g spD (aJ (tCB rLk (aJ (sf K "since") di)) di) (aJ (Wu K (bf 0) "due" g) di)) (oY 1))
 (kJ (xH (qw C "due" spD [] E0 (bf 0) (aJ (bf 1) di)) (oY 2))
 (kJ (qx (tBM K "list" xR (sf K "changes") (aJ (KY (aJ (bf 2) (aJ (bf 1) di))) di)))
 (kJ (m9 K (bf 0) (ik spL [] E0 (aJ (sf K "net") (aJ (sf K "talk") (aJ (sf K "stand") (aJ (bf 1) di))))) "stand")
 (kJ (qx (Cr (sf K "since") (bf 1)))
 (kJ (xH (tIf (FW (UW (fun x y H Q=>y=.non/\Q (.bl (decide (x=.non))) H) (sf K "stand") (tC .non))) (K4 di) (ik spS [] E0 (aJ (sf K "net") (aJ (sf K "talk") (aJ (sf K "stand") di))))) (oY 3))
 (m9 K (bf 0) (ik spW [] E0 (aJ (U5 (bf 3)) (aJ (sf K "since") (aJ (bf 2) di)))) "since"))))))
abbrev lA:List Str:=["self","wire","time","names"]
def vK(K:QQq)(C g:Addr)(spD spL spS spW:Sp):Sp:=fun vs H Q _=>vs.length=1/\ad5 K C g spD spL spS spW {nx:=fun _ H'=>Q .non H',rt:=Q} (L2.start lA vs) H
inductive Zf(st:Stmt):Prop
 |mk (x1 lc:Nat) (p1 p2 p3 p4 p5 p6 p7 p8 p9 p10 q1 q2 q6 a1 a2 a3 a4 a5 b1 b2 b3 b4 b5 b6 b7 b8 c1 c2 c3 c4 c5 c6 c7 c8 c9 c10 c11 c12 d1 d2 d3 d4 d5 d6 e1 e2 e3 e4 e5 e6 e7 e8 e9 e10 e11 e12 e13 e14 e15 g1 g2 g3 g4 g5 g6 g7 g8 g9:Pos) (h0_:cF st=[.Assign [.Name "wire" q1] (.Call (.Name "min" p1) [.Call (.Name "list" p2) [.Attribute (.Name "self" p3) "since" p4] [] p5] [⟨some "key",.Attribute (.Name "self" p6) "due" p7,p8⟩] p9) p10,
   .Assign [.Name "time" q2] (.Call (.Attribute (.Name "self" a1) "due" a2) [.Name "wire" a3] [] a4) a5,
   .Expr (.Call (.Attribute (.Attribute (.Name "self" b1) "changes" b2) "append" b3) [.Tuple [.Name "time" b4,.Name "wire" b5] lc b6] [] b7) b8,
   .Assign [.Attribute (.Name "self" c1) "stand" c2] (.Call (.Name "led_to" c3) [.Attribute (.Name "self" c4) "net" c5,.Attribute (.Name "self" c6) "talk" c7,.Attribute (.Name "self" c8) "stand" c9,.Name "wire" c10] [] c11) c12,
   .Expr (.Call (.Attribute (.Attribute (.Name "self" d1) "since" d2) "pop" d3) [.Name "wire" d4] [] d5) d6,
   .Assign [.Name "names" q6] (.IfExp (.Compare (.Attribute (.Name "self" e1) "stand" e2) [.Is] [.Constant .none x1 e3] e4) (.List [] e5) (.Call (.Name "steps_at" e6) [.Attribute (.Name "self" e7) "net" e8,.Attribute (.Name "self" e9) "talk" e10,.Attribute (.Name "self" e11) "stand" e12] [] e13) e14) e15,
   .Assign [.Attribute (.Name "self" g1) "since" g2] (.Call (.Name "since_when" g3) [.Name "names" g4,.Attribute (.Name "self" g5) "since" g6,.Name "time" g7] [] g8) g9]) (h1_:∀env:Env,∃pl:Sem Bool,eval (.Call (.Attribute (.Name "self" a1) "due" a2) [.Name "wire" a3] [] a4) env=(do
   let ov<-eval (.Name "self" a1) env
   standAt a2.atName
   let (f,first)<-holding [ov] (getMethod ov "due" pl)
   callWith a4 f first (backTo a4 (starEach [.Name "wire" a3] env)) (backToKw a4 (keywordEach [] env)))) (h2_:(b3.endLine==b7.line)=true) (h3_:(d3.endLine==d5.line)=true)
section
variable{P:Program}{w:World}{K:QQq}{mg:QZz}{base:Heap}
def Y7{st:Stmt}{f C g fl fs fw:Addr}{k:Nat}{spD spL spS spW:Sp}
  (F:Hz K "change" qual st f fd)(S:eN lA ["self"] (aq st))(lo:∀x∈lA,(aq st).names.lookup x=some .local)
  (gl:∀x∈(["min","list","led_to","steps_at","since_when"]:List Str),(aq st).names.lookup x=some .globalImplicit)
  (cl:ql K C)(bd:VM K C "due" g)(D:cD P w K mg base gw k g fdD ["self","wire"] spD)(bD:Binds K fdD ["self","wire"] [])
  (L:cD P w K mg base gw k fl fdL psL spL)(bL:Binds K fdL psL [])(mL:mg "led_to"=some (.ref fl))(kL:PySem.W.keepIn K (.ref fl)=true)
  (T:cD P w K mg base gw k fs fdS psS spS)(bT:Binds K fdS psS [])(mT:mg "steps_at"=some (.ref fs))(kT:PySem.W.keepIn K (.ref fs)=true)
  (W:cD P w K mg base gw k fw fdW psW spW)(bW:Binds K fdW psW [])(mW:mg "since_when"=some (.ref fw))(kW:PySem.W.keepIn K (.ref fw)=true)
  (m1:mg "min"=none)(m2:mg "list"=none)(hb:Zf st):
  cD P w K mg base gw (k+2) f fd ["self"] (vK K C g spD spL spS spW):=by
 obtain⟨x1,lc,p1,p2,p3,p4,p5,p6,p7,p8,p9,p10,q1,q2,q6,a1,a2,a3,a4,a5,b1,b2,b3,b4,b5,b6,b7,b8,c1,c2,c3,c4,c5,c6,c7,c8,c9,c10,c11,c12,d1,d2,d3,d4,d5,d6,e1,e2,e3,e4,e5,e6,e7,e8,e9,e10,e11,e12,e13,e14,e15,g1,g2,g3,g4,g5,g6,g7,g8,g9,hb,hm,h3,h5⟩:=hb
 refine F.ok S (fun vs H Q E h=>h.1) fun cdv A outer s H vs Q E hr h=>?_
 rw[hb]
 refine⟨_,?_,h.2⟩
 have hr1:=hr.mono (Nat.le_succ k)
 have v:∀x∈lA,J5 (aq st) x:=fun x hx=>.inl (lo x hx)
 have pv0:∀{p:Pos},PE (gG gw P w K mg base lA qual (aq st) f cdv A outer s H E).rE (.Name "self" p) (bf 0):=fun{p}=>dj (i:=0) rfl (v _ (by simp))
 have pv1:∀{p:Pos},PE (gG gw P w K mg base lA qual (aq st) f cdv A outer s H E).rE (.Name "wire" p) (bf 1):=fun{p}=>dj (i:=1) rfl (v _ (by simp))
 have pv2:∀{p:Pos},PE (gG gw P w K mg base lA qual (aq st) f cdv A outer s H E).rE (.Name "time" p) (bf 2):=fun{p}=>dj (i:=2) rfl (v _ (by simp))
 have pv3:∀{p:Pos},PE (gG gw P w K mg base lA qual (aq st) f cdv A outer s H E).rE (.Name "names" p) (U5 (bf 3)):=fun{p}=>Ms (dj (i:=3) rfl (v _ (by simp)))
 have pf:∀{p q:Pos}{x:Str},PE (gG gw P w K mg base lA qual (aq st) f cdv A outer s H E).rE (.Attribute (.Name "self" p) x q) (sf K x):=fun{p q x}=>nD pv0 rfl
 refine bZ (sZ S.nd rfl (.inl (lo _ (by simp))) (RW rfl D hr bD (aC (lV (EY rfl) (gl _ (by simp)) m2 rfl (aC pf bO)) bO) (RP (Xh pv0 rfl) Xd) (gl _ (by simp)) m1) rfl (.inr (lo _ (by simp)))) ?_
 obtain⟨pl,ht⟩:=hm (gG gw P w K mg base lA qual (aq st) f cdv A outer s H E).rE.env
 refine bZ (sZ S.nd rfl (.inl (lo _ (by simp))) (RX (pl:=pl) pv0 cl bd.me D hr1 bD .nil iK (aC pv1 bO) rfl rfl ht) rfl (.inr (lo _ (by simp)))) ?_
 refine bZ (lU (Gu ⟨rfl,h3,rfl⟩ PySem.F.slot_list_append PySem.F.type_list_append pM pf (Dj (aC pv2 (aC pv1 bO)))) rfl) ?_
 refine bZ (lq pv0 (gU L hr1 (gl _ (by simp)) mL kL bL .nil iK (aC pf (aC pf (aC pf (aC pv1 bO))))) rfl) ?_
 refine bZ (lU (Mt pf pv1 ⟨rfl,rfl,h5,rfl⟩) rfl) ?_
 refine bZ (sZ S.nd rfl (.inl (lo _ (by simp))) (tK (xT Dr pf Dl rfl) (Dm bO) (gU T hr1 (gl _ (by simp)) mT kT bT .nil iK (aC pf (aC pf (aC pf bO))))) rfl (.inr (lo _ (by simp)))) ?_
 exact jF (lq pv0 (gU W hr1 (gl _ (by simp)) mW kW bW .nil iK (aC pv3 (aC pf (aC pv2 bO)))) rfl)
end
noncomputable def ad1(K:QQq)(c:Cf)(mz:E)(spF spS spW:Sp):TS:=
 kJ (m9 K (bf 0) (bf 1) "net") (kJ (m9 K (bf 0) (bf 2) "talk") (kJ (m9 K (bf 0) (U6 K c mz) "lengths") (kJ (m9 K (bf 0) (K4 di) "changes")
 (kJ (m9 K (bf 0) (ik spF [] E0 (aJ (bf 1) di)) "stand")
 (m9 K (bf 0) (ik spW [] E0 (aJ (U5 (ik spS [] E0 (aJ (bf 1) (aJ (bf 2) (aJ (sf K "stand") di))))) (aJ (U6 K c .emp) (aJ (tC (.int 0)) di)))) "since")))))
abbrev gb:List Str:=["self","net","talk","waits"]
def Gd(K:QQq)(c:Cf)(mz:E)(spF spS spW:Sp):Sp:=fun vs H Q _=>vs.length=4/\ad1 K c mz spF spS spW {nx:=fun _ H'=>Q .non H',rt:=Q} (L2.start gb vs) H
inductive Zc(ct:Ct)(mz:E)(st:Stmt):Prop
 |mk (x1:Nat) (ez:Expr) (p1 p2 p3 p4 q1 q2 q3 q4 r1 r2 r3 s1 s2 s3 s4 u1 u2 u3 u4 u5 u6 v1 v2 v3 v4 v5 v6 v7 v8 v9 v10 v11 v12 v13:Pos) (h0_:cF st=[.Assign [.Attribute (.Name "self" p1) "net" p2] (.Name "net" p3) p4,.Assign [.Attribute (.Name "self" q1) "talk" q2] (.Name "talk" q3) q4,
   .Assign [.Attribute (.Name "self" r1) "lengths" r2] ez r3,.Assign [.Attribute (.Name "self" s1) "changes" s2] (.List [] s3) s4,
   .Assign [.Attribute (.Name "self" u1) "stand" u2] (.Call (.Name "first_stand" u3) [.Name "net" u4] [] u5) u6,
   .Assign [.Attribute (.Name "self" v1) "since" v2] (.Call (.Name "since_when" v3) [.Call (.Name "steps_at" v4) [.Name "net" v5,.Name "talk" v6,.Attribute (.Name "self" v7) "stand" v8] [] v9,.Dict [] [] v10,.Constant (.int 0) x1 v11] [] v12) v13]) (h1_:∀(l:Nat)(env:Env),swapsWith ez (some (.Attribute (.Name "self" r1) "lengths" r2)) l env=pure false) (h2_:fj 60 ct ez=some mz)
section
variable{P:Program}{w:World}{K:QQq}{mg:QZz}{base:Heap}
def Yb{st:Stmt}{f ff fs fw:Addr}{k:Nat}{spF spS spW:Sp}{c:Cf}
  (F:Hz K "__init__" qual st f fd)(S:eN gb gb (aq st))(lo:∀x∈gb,(aq st).names.lookup x=some .local)
  (gl:∀x∈(["first_stand","steps_at","since_when"]:List Str),(aq st).names.lookup x=some .globalImplicit)
  (D:cD P w K mg base gw k ff fdF psF spF)(bD:Binds K fdF psF [])(mD:mg "first_stand"=some (.ref ff))(kD:PySem.W.keepIn K (.ref ff)=true)
  (T:cD P w K mg base gw k fs fdS psS spS)(bT:Binds K fdS psS [])(mT:mg "steps_at"=some (.ref fs))(kT:PySem.W.keepIn K (.ref fs)=true)
  (W:cD P w K mg base gw k fw fdW psW spW)(bW:Binds K fdW psW [])(mW:mg "since_when"=some (.ref fw))(kW:PySem.W.keepIn K (.ref fw)=true)(hX:∀X:Cx,X.prog=P->X.w=w->X.K=K->X.mg=mg->X.base=base->X.calm=true->X.N=gb->X.env.scope=aq st->dR k X.A->jt ct X c)(hb:Zc ct mz st):
  cD P w K mg base gw (k+1) f fd gb (Gd K c mz spF spS spW):=by
 obtain⟨x1,ez,p1,p2,p3,p4,q1,q2,q3,q4,r1,r2,r3,s1,s2,s3,s4,u1,u2,u3,u4,u5,u6,v1,v2,v3,v4,v5,v6,v7,v8,v9,v10,v11,v12,v13,hb,sw,tr⟩:=hb
 refine F.ok S (fun vs H Q E h=>h.1) fun cdv A outer s H vs Q E hr h=>?_
 rw[hb]
 refine⟨_,?_,h.2⟩
 have v:∀x∈gb,J5 (aq st) x:=fun x hx=>.inl (lo x hx)
 have pv0:∀{p:Pos},PE (gG gw P w K mg base gb qual (aq st) f cdv A outer s H E).rE (.Name "self" p) (bf 0):=fun{p}=>dj rfl (v _ (by simp))
 have pv1:∀{p:Pos},PE (gG gw P w K mg base gb qual (aq st) f cdv A outer s H E).rE (.Name "net" p) (bf 1):=fun{p}=>dj rfl (v _ (by simp))
 have pv2:∀{p:Pos},PE (gG gw P w K mg base gb qual (aq st) f cdv A outer s H E).rE (.Name "talk" p) (bf 2):=fun{p}=>dj rfl (v _ (by simp))
 have pf:∀{p q:Pos}{x:Str},PE (gG gw P w K mg base gb qual (aq st) f cdv A outer s H E).rE (.Attribute (.Name "self" p) x q) (sf K x):=fun{p q x}=>nD pv0 rfl
 refine bZ (lq pv0 pv1 rfl) (bZ (lq pv0 pv2 rfl) (bZ (lq pv0 (GE.U6 ((ih c 60).e ct _ _ _ (hX _ rfl rfl rfl rfl rfl rfl rfl rfl hr) tr).ge) (sw _ _)) ?_))
 refine bZ (lq pv0 (Dm bO) rfl) (bZ (lq pv0 (gU D hr (gl _ (by simp)) mD kD bD .nil iK (aC pv1 bO)) rfl) ?_)
 exact jF (lq pv0 (gU W hr (gl _ (by simp)) mW kW bW .nil iK (aC (Ms (gU T hr (gl _ (by simp)) mT kT bT .nil iK (aC pv1 (aC pv2 (aC pf bO))))) (aC (GE.U6 Ow) (aC Dn bO)))) rfl)
end
def tNo:TS:=fun _ _ _=>False
def Xb{ss:List Stmt}:vC X ss tNo:=fun _ _ _ _ _ _ h=>h.elim
abbrev gf(K:QQq)(f:Str):TE:=Wq K (bf 4) f
noncomputable def adZ(K:QQq)(C:Addr)(top:Int)(spK spN spI spC spE:Sp):TS:=
 kJ (qx (ik spK [] E0 (aJ (bf 0) (aJ (bf 1) (aJ (bf 2) di)))))
 (kJ (aaR (aaQ (fun σ H Q=>ik spN [] E0 (aJ (bf 3) (aJ (tC (.int 0)) (aJ (tC (.int top)) di))) σ H fun x H'=>∃k,Fq K x H' k/\Q k H')) tNo U0)
 (kJ (xH (U3 C spI [] E0 (aJ (bf 0) (aJ (bf 1) (aJ (bf 2) di)))) (oY 4))
 (kJ (KR (aaX (fun σ H Q=>gf K "since" σ H fun x H'=>∃k,Fq K x H' k/\Q k H') (tB (tLt (tCB (fun xs H Q=>∃x n,xs=[x]/\Ul K x H n/\Q (.int n) H) (aJ (gf K "changes") di)) (bf 3))))
  (qx (qw C "change" spC [] E0 (bf 4) di)))
 (Q7 (KY (aJ (U5 (gf K "changes")) (aJ (qw C "ending" spE [] E0 (bf 4) di) di)))))))
abbrev gO:List Str:=["net","talk","waits","number","going"]
def K7(K:QQq)(C:Addr)(top:Int)(spK spN spI spC spE:Sp):Sp:=fun vs H Q _=>vs.length=4/\adZ K C top spK spN spI spC spE {nx:=fun _ H'=>Q .non H',rt:=Q} (L2.start gO vs) H
inductive Zb(st:Stmt):Prop
 |mk (x1 x2:Nat) (rs:List Stmt) (p1 p2 p3 p4 p5 p6 q1 q2 q3 q4 q5 q6 q7 r1 r2 r3 r4 r5 r6 r7 s1 s2 s3 s4 s5 s6 s7 s8 s9 u1 u2 u3 u4 u5 v1 v2 v3 v4 v5 v6 v7:Pos) (h0_:cF st=[.Expr (.Call (.Name "check_waits" p1) [.Name "net" p2,.Name "talk" p3,.Name "waits" p4] [] p5) p6,
   .If (.UnaryOp .Not (.Call (.Name "is_number" q1) [.Name "number" q2,.Constant (.int 0) x1 q3,.Name "MOST_CHANGES" q4] [] q5) q6) rs [] q7,
   .Assign [.Name "going" r1] (.Call (.Name "Going" r2) [.Name "net" r3,.Name "talk" r4,.Name "waits" r5] [] r6) r7,
   .While (.BoolOp .And [.Attribute (.Name "going" s1) "since" s2,.Compare (.Call (.Name "len" s3) [.Attribute (.Name "going" s4) "changes" s5] [] s6) [.Lt] [.Name "number" s7] s8] s9)
    [.Expr (.Call (.Attribute (.Name "going" u1) "change" u2) [] [] u3) u4] [] u5,
   .Return (some (.Tuple [.Attribute (.Name "going" v1) "changes" v2,.Call (.Attribute (.Name "going" v3) "ending" v4) [] [] v5] x2 v6)) v7]) (h1_:∀env:Env,∃pl:Sem Bool,eval (.Call (.Attribute (.Name "going" u1) "change" u2) [] [] u3) env=(do
   let ov<-eval (.Name "going" u1) env
   standAt u2.atName
   let (f,first)<-holding [ov] (getMethod ov "change" pl)
   callWith u3 f first (backTo u3 (starEach [] env)) (backToKw u3 (keywordEach [] env)))) (h2_:∀env:Env,∃pl:Sem Bool,eval (.Call (.Attribute (.Name "going" v3) "ending" v4) [] [] v5) env=(do
   let ov<-eval (.Name "going" v3) env
   standAt v4.atName
   let (f,first)<-holding [ov] (getMethod ov "ending" pl)
   callWith v5 f first (backTo v5 (starEach [] env)) (backToKw v5 (keywordEach [] env))))
section
variable{P:Program}{w:World}{K:QQq}{mg:QZz}{base:Heap}
def Wm{st:Stmt}{f C fk fn fi fc fe:Addr}{k:Nat}{spK spN spI spC spE:Sp}{tu:Tok}
  (F:Hz K "timed" qual st f fd)(S:eN gO ["net","talk","waits","number"] (aq st))(lo:∀x∈gO,(aq st).names.lookup x=some .local)
  (gl:∀x∈(["check_waits","is_number","MOST_CHANGES","Going","len"]:List Str),(aq st).names.lookup x=some .globalImplicit)
  (cl:ql K C)(mk:Mk K C fi)(mc:Meth K C "change" fc)(me:Meth K C "ending" fe)
  (A1:cD P w K mg base gw k fk fdK psK spK)(b1:Binds K fdK psK [])(m1:mg "check_waits"=some (.ref fk))(k1:PySem.W.keepIn K (.ref fk)=true)
  (A2:cD P w K mg base gw k fn fdN psN spN)(b2:Binds K fdN psN [])(m2:mg "is_number"=some (.ref fn))(k2:PySem.W.keepIn K (.ref fn)=true)
  (A3:cD P w K mg base gw k fi fdI psI spI)(b3:Binds K fdI psI [])(m3:mg "Going"=some (.ref C))
  (A4:cD P w K mg base gw k fc fdC psC spC)(b4:Binds K fdC psC [])(A5:cD P w K mg base gw k fe fdE psE spE)(b5:Binds K fdE psE [])
  (mt:mg "MOST_CHANGES"=some (.int top tu))(ml:mg "len"=none)(hb:Zb st):
  cD P w K mg base gw (k+2) f fd ["net","talk","waits","number"] (K7 K C top spK spN spI spC spE):=by
 obtain⟨x1,x2,rs,p1,p2,p3,p4,p5,p6,q1,q2,q3,q4,q5,q6,q7,r1,r2,r3,r4,r5,r6,r7,s1,s2,s3,s4,s5,s6,s7,s8,s9,u1,u2,u3,u4,u5,v1,v2,v3,v4,v5,v6,v7,hb,hm,hn⟩:=hb
 refine F.ok S (fun vs H Q E h=>h.1) fun cdv A outer s H vs Q E hr h=>?_
 rw[hb]
 refine⟨_,?_,h.2⟩
 have hr1:=hr.mono (Nat.le_succ k)
 have v:∀x∈gO,J5 (aq st) x:=fun x hx=>.inl (lo x hx)
 have pv0:∀{p:Pos},PE (gG gw P w K mg base gO qual (aq st) f cdv A outer s H E).rE (.Name "net" p) (bf 0):=fun{p}=>dj (i:=0) rfl (v _ (by simp))
 have pv1:∀{p:Pos},PE (gG gw P w K mg base gO qual (aq st) f cdv A outer s H E).rE (.Name "talk" p) (bf 1):=fun{p}=>dj (i:=1) rfl (v _ (by simp))
 have pv2:∀{p:Pos},PE (gG gw P w K mg base gO qual (aq st) f cdv A outer s H E).rE (.Name "waits" p) (bf 2):=fun{p}=>dj (i:=2) rfl (v _ (by simp))
 have pv3:∀{p:Pos},PE (gG gw P w K mg base gO qual (aq st) f cdv A outer s H E).rE (.Name "number" p) (bf 3):=fun{p}=>dj (i:=3) rfl (v _ (by simp))
 have pv4:∀{p:Pos},PE (gG gw P w K mg base gO qual (aq st) f cdv A outer s H E).rE (.Name "going" p) (bf 4):=fun{p}=>dj (i:=4) rfl (v _ (by simp))
 have pf:∀{p q:Pos}{x:Str},PE (gG gw P w K mg base gO qual (aq st) f cdv A outer s H E).rE (.Attribute (.Name "going" p) x q) (gf K x):=fun{p q x}=>nD pv4 rfl
 obtain⟨pl,ht⟩:=hm (gG gw P w K mg base gO qual (aq st) f cdv A outer s H E).rE.env
 obtain⟨pl2,ht2⟩:=hn (gG gw P w K mg base gO qual (aq st) f cdv A outer s H E).rE.env
 refine bZ (lU (gU A1 hr1 (gl _ (by simp)) m1 k1 b1 .nil iK (aC pv0 (aC pv1 (aC pv2 bO)))) rfl) ?_
 refine bZ (Mg (Ma (oh (gU A2 hr1 (gl _ (by simp)) m2 k2 b2 .nil iK (aC pv3 (aC Dn (aC (Gv (v:=.int top) (gl _ (by simp)) mt ⟨tu,rfl⟩) bO)))) (fun _=>rfl))) Xb xU) ?_
 refine bZ (sZ S.nd rfl (.inl (lo _ (by simp))) (RZ mk A3 hr (gl _ (by simp)) m3 b3 .nil iK (aC pv0 (aC pv1 (aC pv2 bO)))) rfl (.inr (lo _ (by simp)))) ?_
 refine bZ (z9 PassesOwn.never (PW.pt (LR (oh pf (fun _=>rfl)) (Gp (Xa (abE (oE Bt (gl _ (by simp)) ml rfl (aC pf bO)) pv3))))) (jF (lU (Aa (pl:=pl) pv4 cl mc A4 hr1 b4 .nil iK ht) rfl))) ?_
 exact jF (jc (Dj (aC (Ms pf) (aC (Aa (pl:=pl2) pv4 cl me A5 hr1 b5 .nil iK ht2) bO))))
end
def jl(l:jf):List (Key×V):=l.map fun p=>(.inr p.1,.int p.2)
def Kp(H H':Hp):Prop:=∀b u,H b=some u->H' b=some u
def Kp.trans(a:Kp H H1)(b:Kp H1 H2):Kp H H2:=fun c u h=>b c u (a c u h)
def Kp.pers(k:Kp H H'):bV H H':=⟨fun b xs h=>k b _ h,fun b o u h=>k b _ h⟩
def Kp.lay{a:Addr}(h:H a=none):Kp H (upd H a u):=fun b v e=>by
 rw[au (fun z=>by subst z;rw[h]at e;cases e)];exact e
def Kp.chg{a:Addr}(k:Kp H0 H)(h:H0 a=none):Kp H0 (upd H a u):=fun b v e=>by
 rw[au (fun z=>by subst z;rw[h]at e;cases e)];exact k b v e
def nG(vn vt vs:V)(la ca sa:Addr):List (Str×V):=[("net",vn),("talk",vt),("lengths",.ref la),("changes",.ref ca),("stand",vs),("since",.ref sa)]
structure iG(K:QQq)(C:Addr)(H0 H:Hp)(a:Addr)(n t:D)(ls:jf)(cs:List D)(sd:D)(ss:jf):Prop where
 ex:∃(dx la ca sa:Addr)(vn vt vs:V)(cv:List V),H a=some (.ins C dx (nG vn vt vs la ca sa))/\bj K H n vn/\bj K H t vt/\bj K H sd vs/\H la=some (.dK (jl ls))/\H ca=some (.lst cv)/\ak K H cs cv/\H sa=some (.dK (jl ss))/\
  la≠sa/\H0 a=none/\H0 ca=none/\H0 sa=none
 kp:Kp H0 H
def rJ{d:Addr}{x:Str}(e:H d=some (.dK (jl l)))(h:f9 (jl l) (.inr x)=some (.int i)):nO H d (.str x) (some (.int i)):=by
 rw[<-h];exact nO.k (k:=.inr x) e
def Bl(ls ss:jf)(i:Nat):Int:=match ss[i]? with
 |some p=>p.2+(match f9 (jl ls) (.inr p.1)with|some (.int j)=>j|_=>0)
 |none=>0
theorem iG.mono{K:QQq}{C a:Addr}{n t sd:D}{cs:List D}(G:iG K C H0 H a n t ls cs sd ss)(k:Kp H H'):iG K C H0 H' a n t ls cs sd ss:=by
 obtain⟨⟨dx,la,ca,sa,vn,vt,vs,cv,e1,d1,d2,d3,e2,e3,d4,e4,r⟩,k0⟩:=G
 exact⟨⟨dx,la,ca,sa,vn,vt,vs,cv,k _ _ e1,d1.mono k.pers,d2.mono k.pers,d3.mono k.pers,k _ _ e2,k _ _ e3,d4.mono k.pers,k _ _ e4,r⟩,k0.trans k⟩
section
variable{K:QQq}{C a g:Addr}{H0 H:Hp}{n t sd:D}{ls ss:jf}{cs:List D}{σ:L2.St}{D:Ends}
def af8(hσ:σ[0]? =some (some (.ref a)))(G:iG K C H0 H a n t ls cs sd ss)(cl:ql K C)(bd:VM K C "due" g)(n1:bh K C "since")(n2:bh K C "lengths")(ne:0<ss.length)
  (hi:∀(i:Nat)(p:Str×Int),ss[i]? =some p->f9 (jl ss) (.inr p.1)=some (.int p.2))(hl:∀(i:Nat)(p:Str×Int),ss[i]? =some p->∃j,f9 (jl ls) (.inr p.1)=some (.int j))
  (fin:∀(i:Nat)(p:Str×Int)(H1:Hp),ss[i]? =some p->(∀j,j<ss.length->Bl ls ss i<=Bl ls ss j/\(j<i->Bl ls ss i<Bl ls ss j))->Kp H H1->D.nx (σ.set 1 (some (.str p.1))) H1):
  xH (K3 g (qy K) (aJ (tCB rLk (aJ (sf K "since") di)) di) (aJ (Wu K (bf 0) "due" g) di)) (oY 1) D σ H:=by
 obtain⟨⟨dx,la,ca,sa,vn,vt,vs,cv,e1,d1,d2,d3,e2,e3,d4,e4,r⟩,k0⟩:=G
 refine⟨.ref a,hσ,a,C,dx,_,.ref sa,rfl,e1,cl,n1,rfl,sa,jl ss,rfl,e4,fun l hl0=>?_⟩
 have k1:Kp H (upd H l (.lst ((jl ss).map fun p=>kV p.1))):=Kp.lay hl0
 refine⟨.ref a,hσ,a,C,dx,_,rfl,k1 _ _ e1,cl,bd,rfl,fun q hq=>?_⟩
 have k2:=k1.trans (Kp.lay (u:=.met g a) hq)
 have nlq:l≠q:=fun z=>by subst z;rw[aB]at hq;cases hq
 refine⟨l,q,a,(jl ss).map fun p=>kV p.1,Bl ls ss,rfl,rfl,?_,?_,aB,fun i v hv=>?_,fun i v hv best=>?_⟩
 ·rw[au nlq,aB]
 ·simpa[jl]using ne
 ·unfold jl at hv
  rw[List.map_map,QFz]at hv
  obtain⟨p,ep,rfl⟩:=QJz.mp hv
  obtain⟨j,hj⟩:=hl i p ep
  refine⟨a,.str p.1,C,dx,_,sa,la,p.2,j,rfl,k2 _ _ e1,cl,n1,n2,rfl,rfl,rJ (k2 _ _ e4) (hi i p ep),rJ (k2 _ _ e2) hj,?_,rfl⟩
  unfold Bl
  rw[ep]
  simp only[hj]
 ·unfold jl at hv
  rw[List.map_map,QFz]at hv
  obtain⟨p,ep,rfl⟩:=QJz.mp hv
  exact fin i p _ ep (fun j hj=>best j (by simpa[jl]using hj)) k2
end
section
variable{K:QQq}{C a g:Addr}{H0 H:Hp}{n t sd:D}{ls ss:jf}{cs:List D}{σ:L2.St}{D:Ends}
def af7{x:Str}(hσ:σ[0]? =some (some (.ref a)))(hx:σ[1]? =some (some (.str x)))(G:iG K C H0 H a n t ls cs sd ss)(cl:ql K C)(n1:bh K C "since")(n2:bh K C "lengths")
  (hi:f9 (jl ss) (.inr x)=some (.int i))(hj:f9 (jl ls) (.inr x)=some (.int j))(fin:D.nx (σ.set 2 (some (.int (i+j)))) H):
  xH (qw C "due" (qy K) [] E0 (bf 0) (aJ (bf 1) di)) (oY 2) D σ H:=by
 obtain⟨⟨dx,la,ca,sa,vn,vt,vs,cv,e1,d1,d2,d3,e2,e3,d4,e4,r⟩,k0⟩:=G
 exact⟨.ref a,hσ,a,dx,_,rfl,e1,rfl,.str x,hx,a,.str x,C,dx,_,sa,la,i,j,rfl,e1,cl,n1,n2,rfl,rfl,rJ e4 hi,rJ e2 hj,fin⟩
def af6{i:Int}(hσ:σ[0]? =some (some (.ref a)))(hx:σ[1]? =some (some (.str x)))(ht:σ[2]? =some (some (.int i)))(G:iG K C H0 H a n t ls cs sd ss)(cl:ql K C)(n1:bh K C "changes")(hz:cs.length<sizeLine)
  (fin:∀H1,iG K C H0 H1 a n t ls (cs++[.tup [.int i,.str x]]) sd ss->D.nx σ H1):
  qx (tBM K "list" xR (sf K "changes") (aJ (KY (aJ (bf 2) (aJ (bf 1) di))) di)) D σ H:=by
 obtain⟨⟨dx,la,ca,sa,vn,vt,vs,cv,e1,d1,d2,d3,e2,e3,d4,e4,ne,z1,z2,z3⟩,k0⟩:=G
 refine⟨.ref a,hσ,a,C,dx,_,.ref ca,rfl,e1,cl,n1,rfl,.inl ⟨rfl,cv,.inl (.inl e3)⟩,.int i,ht,.str x,hx,by simp[sizeLine_eq],fun p hp=>?_⟩
 have k1:Kp H (upd H p (.tup [.int i,.str x])):=Kp.lay hp
 have lc:cv.length<sizeLine:=by rw[<-d4.length];exact hz
 have nca:ca≠a:=fun z=>by subst z;rw[e1]at e3;cases e3
 have ncl:ca≠la:=fun z=>by subst z;rw[e2]at e3;cases e3
 have ncs:ca≠sa:=fun z=>by subst z;rw[e4]at e3;cases e3
 have ncp:ca≠p:=fun z=>by subst z;rw[hp]at e3;cases e3
 refine⟨ca,cv,.ref p,rfl,rfl,k1 _ _ e3,lc,fin _ ?_⟩
 have k2:bV H (upd (upd H p (.tup [.int i,.str x])) ca (.lst (cv++[.ref p]))):=by
  refine⟨fun b xs h=>?_,fun b o u h=>?_⟩
  ·rw[au (fun z=>by subst z;rw[e3]at h;cases h)];exact k1 _ _ h
  ·rw[au (fun z=>by subst z;rw[e3]at h;cases h)];exact k1 _ _ h
 refine⟨⟨dx,la,ca,sa,vn,vt,vs,cv++[.ref p],?_,d1.mono k2,d2.mono k2,d3.mono k2,?_,aB,ak.append (d4.mono k2) ?_,?_,ne,z1,z2,z3⟩,(k0.trans k1).chg z2⟩
 ·rw[au (Ne.symm nca)];exact k1 _ _ e1
 ·rw[au (Ne.symm ncl)];exact k1 _ _ e2
 ·refine ak.bF ?_ ak.eY
  unfold bj
  refine⟨p,[.int i,.str x],rfl,.inl (.inl ?_),ak.bF (by unfold bj;rfl) (ak.bF (by unfold bj;rfl) ak.eY)⟩
  rw[au (Ne.symm ncp),aB]
 ·rw[au (Ne.symm ncs)];exact k1 _ _ e4
end
def Ad{ds:List D}{i:Nat}:¬aO (ds.map .val) σ i b:=by
 rintro ⟨⟨s,xs,e,h⟩,_⟩
 rw[QFz]at e
 obtain⟨d,_,rfl⟩:=QJz.mp e
 cases h
def Lh{K:QQq}{ds:List D}(l:ak K H ds vs):Sat K (ds.map .val) (vs.map some) H:=by
 refine⟨by simp[l.length],fun i s e=>?_,fun i j a h _=>absurd h Ad⟩
 rw[QFz]at e
 obtain⟨d,ed,rfl⟩:=QJz.mp e
 obtain⟨v,ev,dv⟩:=l.get ed
 exact⟨v,by rw[QFz,ev];rfl,dv⟩
def lQ{K:QQq}{H:Hp}{vs:List V}{r:Rv}{k:Nat}{E:XK}(l:ak K H ds vs)(hk:vs.length=k)(h:f (ds.map .val)=.ok r qs)(fin:∀v H',Kp H H'->acL K H H' r v->Q v H'):cL K k f vs H Q E:=by
 refine⟨ds.map .val,hk,Lh l,fun i o e=>?_,?_⟩
 ·rw[QFz]at e
  obtain⟨d,_,z⟩:=QJz.mp e
  cases z
 ·rw[h]
  exact fun v H' c rc=>fin v H' (fun b u e=>c.keep b u e fun i=>Ad) rc
section
variable{K:QQq}{C a g:Addr}{H0 H:Hp}{n t sd:D}{ls ss:jf}{cs:List D}{σ:L2.St}{D:Ends}{f:List Sl->Res}
def af5{sd':Mini.D}(hσ:σ[0]? =some (some (.ref a)))(hx:σ[1]? =some (some (.str x)))(G:iG K C H0 H a n t ls cs sd ss)(cl:ql K C)(n1:bh K C "net")(n2:bh K C "talk")(n3:bh K C "stand")
  (hf:f [.val n,.val t,.val sd,.val (.str x)]=.ok (.val sd') qs)(fin:∀H1,iG K C H0 H1 a n t ls cs sd' ss->D.nx σ H1):
  m9 K (bf 0) (ik (cL K 4 f) [] E0 (aJ (sf K "net") (aJ (sf K "talk") (aJ (sf K "stand") (aJ (bf 1) di))))) "stand" D σ H:=by
 obtain⟨⟨dx,la,ca,sa,vn,vt,vs,cv,e1,d1,d2,d3,e2,e3,d4,e4,ne,z1,z2,z3⟩,k0⟩:=G
 refine⟨.ref a,hσ,a,C,dx,_,vn,rfl,e1,cl,n1,rfl,.ref a,hσ,a,C,dx,_,vt,rfl,e1,cl,n2,rfl,.ref a,hσ,a,C,dx,_,vs,rfl,e1,cl,n3,rfl,.str x,hx,?_⟩
 refine lQ (E:=E0) (ak.bF d1 (ak.bF d2 (ak.bF d3 (ak.bF (by unfold bj;rfl) ak.eY)))) rfl hf fun v H' k rc=>?_
 have hv:=rc
 refine⟨.ref a,hσ,a,C,dx,_,rfl,k _ _ e1,cl,n3,by simp[nG],fin _ ?_⟩
 have hp:jE "stand" v (nG vn vt vs la ca sa)=nG vn vt v la ca sa:=rfl
 have ea:=k _ _ e1
 have k2:bV H' (upd H' a (.ins C dx (nG vn vt v la ca sa))):=by
  refine⟨fun b xs h=>?_,fun b o u h=>?_⟩
  ·rw[au (fun z=>by subst z;rw[ea]at h;cases h)];exact h
  ·rw[au (fun z=>by subst z;rw[ea]at h;cases h)];exact h
 have kp:=k.pers
 have n_:∀{b:Addr}{u:HO},H b=some u->(∀C dx fs,u≠ .ins C dx fs)->upd H' a (.ins C dx (nG vn vt v la ca sa)) b=some u:=fun{b u}h hu=>by
  rw[au (fun z=>by subst z;rw[e1]at h;cases h;exact hu _ _ _ rfl)];exact k _ _ h
 exact⟨⟨dx,la,ca,sa,vn,vt,v,cv,aB,(d1.mono kp).mono k2,(d2.mono kp).mono k2,hv.mono k2,n_ e2 (by intros;intro z;cases z),n_ e3 (by intros;intro z;cases z),(d4.mono kp).mono k2,n_ e4 (by intros;intro z;cases z),ne,z1,z2,z3⟩,(k0.trans k).chg z1⟩
end
section
variable{K:QQq}{C a g:Addr}{H0 H:Hp}{n t sd:D}{ls ss ss':jf}{cs:List D}{σ:L2.St}{D:Ends}{f:List Sl->Res}
def af4{i:Int}(hσ:σ[0]? =some (some (.ref a)))(hx:σ[1]? =some (some (.str x)))(G:iG K C H0 H a n t ls cs sd ss)(cl:ql K C)(n1:bh K C "since")(hi:f9 (jl ss) (.inr x)=some (.int i))(hs:qM (jl ss) (.inr x)=jl ss')
  (fin:∀H1,iG K C H0 H1 a n t ls cs sd ss'->D.nx σ H1):
  qx (Cr (sf K "since") (bf 1)) D σ H:=by
 obtain⟨⟨dx,la,ca,sa,vn,vt,vs,cv,e1,d1,d2,d3,e2,e3,d4,e4,ne,z1,z2,z3⟩,k0⟩:=G
 refine⟨.ref a,hσ,a,C,dx,_,.ref sa,rfl,e1,cl,n1,rfl,sa,rfl,⟨_,.inl e4⟩,.str x,hx,jl ss,.inr x,.int i,e4,rfl,hi,?_⟩
 rw[hs]
 refine fin _ ?_
 have k2:bV H (upd H sa (.dK (jl ss'))):=by
  refine⟨fun b xs h=>?_,fun b o u h=>?_⟩
  ·rw[au (fun z=>by subst z;rw[e4]at h;cases h)];exact h
  ·rw[au (fun z=>by subst z;rw[e4]at h;cases h)];exact h
 refine⟨⟨dx,la,ca,sa,vn,vt,vs,cv,?_,d1.mono k2,d2.mono k2,d3.mono k2,?_,?_,d4.mono k2,aB,ne,z1,z2,z3⟩,k0.chg z3⟩
 ·rw[au (fun z=>by subst z;rw[e4]at e1;cases e1)];exact e1
 ·rw[au ne];exact e2
 ·rw[au (fun z=>by subst z;rw[e4]at e3;cases e3)];exact e3
end
section
variable{K:QQq}{C a g:Addr}{H0 H:Hp}{n t sd:D}{ls ss:jf}{cs nm:List D}{σ:L2.St}{D:Ends}{f:List Sl->Res}
theorem af3(hσ:σ[0]? =some (some (.ref a)))(G:iG K C H0 H a n t ls cs sd ss)(cl:ql K C)(n1:bh K C "net")(n2:bh K C "talk")(n3:bh K C "stand")
  (hf:if gh sd then nm=[]else∃qs,f [.val n,.val t,.val sd]=.ok (.new (.lst nm)) qs)
  (fin:∀p H1,iG K C H0 H1 a n t ls cs sd ss->H p=none->j7 K H1 (.lst nm) p->Kp H H1->D.nx (σ.set 3 (some (.ref p))) H1):
  xH (tIf (FW (UW (fun x y H Q=>y=.non/\Q (.bl (decide (x=.non))) H) (sf K "stand") (tC .non))) (K4 di) (ik (cL K 3 f) [] E0 (aJ (sf K "net") (aJ (sf K "talk") (aJ (sf K "stand") di))))) (oY 3) D σ H:=by
 have G0:=G
 obtain⟨⟨dx,la,ca,sa,vn,vt,vs,cv,e1,d1,d2,d3,e2,e3,d4,e4,ne,z1,z2,z3⟩,k0⟩:=G
 refine⟨.ref a,hσ,a,C,dx,_,vs,rfl,e1,cl,n3,rfl,rfl,decide _,rfl,?_⟩
 rw[yL d3]
 cases hs:gh sd with
 |true=>
  rw[hs]at hf
  have hnm:nm=[]:=by simpa using hf
  subst hnm
  refine⟨QIq _,fun p hp=>fin p _ (G0.mono (Kp.lay hp)) hp ⟨_,aB,?_⟩ (Kp.lay hp)⟩
  exact⟨[],rfl,ak.eY⟩
 |false=>
  rw[hs]at hf
  obtain⟨qs,hf⟩:∃qs,f [.val n,.val t,.val sd]=.ok _ qs:=by simpa using hf
  refine⟨.ref a,hσ,a,C,dx,_,vn,rfl,e1,cl,n1,rfl,.ref a,hσ,a,C,dx,_,vt,rfl,e1,cl,n2,rfl,.ref a,hσ,a,C,dx,_,vs,rfl,e1,cl,n3,rfl,?_⟩
  refine lQ (E:=E0) (ak.bF d1 (ak.bF d2 (ak.bF d3 ak.eY))) rfl hf fun v H' k rc=>?_
  obtain⟨p,rfl,ob,hp⟩:=rc
  exact fin p H' (G0.mono k) hp ob k
end
theorem jx x:∀l:jf,f9 (jl l) (.inr x)=(bz x l).map V.int
 |[]=>rfl
 |p::l=>by
  show f9 ((Sum.inr p.1,V.int p.2)::jl l) _=_
  by_cases e:p.1=x
  ·rw[j9 (by show(Sum.inr p.1)=.inr x;rw[e]),bz,if_pos e];rfl
  ·rw[kj (fun z=>e (Sum.inr.inj z)),jx x l,bz,if_neg e]
def Pb x l:qM (jl l) (.inr x)=jl (l.filter fun q=>decide (q.1≠x)):=by
 unfold qM jl
 rw[List.filter_map]
 congr 1
 refine List.filter_congr fun q _=>?_
 by_cases e:q.1=x<;>simp[e]
def YT ls ss i:Bl ls ss i=gY ls ss i:=by
 unfold Bl gY
 cases ss[i]? with
 |none=>rfl
 |some p=>simp only[jx];cases bz p.1 ls<;>rfl
section
variable{K:QQq}{C a:Addr}{H0 H:Hp}{n t sd:D}{ls ss:jf}{cs nm:List D}{σ:L2.St}{D:Ends}{f:List Sl->Res}
theorem xG:∀{kvs:List (Key×V)}{vs:List Mini.D}{l:jf},nR (kvs.map fun p=>dO p.1) vs=some l->ak K H vs (kvs.map (·.2))->kvs=jl l
 |[],vs,l,h,_=>by
  cases vs with
  |nil=>cases h;rfl
  |cons v vs=>simp[nR]at h
 |(k,v)::kvs,vs,l,h,d=>by
  cases k with
  |inl i=>cases vs<;>simp[nR,dO]at h
  |inr x=>
   cases vs with
   |nil=>simp[nR,dO]at h
   |cons w vs=>
    cases w with
    |int i=>
     have h':=h
     obtain⟨l',e,rfl⟩:=QJz.mp h'
     obtain⟨v',r,q,dv,dr⟩:=ak.aX.mp d
     injection q with q1 q2
     subst q2
     have ev:v=.int i:=by
      have dv2:=dv
      exact q1.trans dv2
     rw[ev,xG e dr]
     rfl
    |_=>simp[nR,dO]at h
def Ss l:J7 K H (.dct (jz l) (Cq l)) (.dK (jl l)):=by
 refine⟨jl l,rfl,by simp[jz,jl,dO],?_⟩
 induction l with
 |nil=>exact ak.eY
 |cons p l ih=>exact ak.bF (by unfold bj;rfl) ih
theorem zM{p sa:Addr}{tm:Int}{ss':jf}{Q:VK}{E:XK}(dp:bj K H (.lst nm) (.ref p))(es:H sa=some (.dK (jl ss)))(hf:M3 (f [.val (.lst nm),.bor (.dct (jz ss) (Cq ss)),.val (.int tm)])=some ss')
  (fin:∀b H',(∀c u,H c=some u->c≠sa->H' c=some u)->bV H H'->H b=none->H' b=some (.dK (jl ss'))->Q (.ref b) H'):cL K 3 f [.ref p,.ref sa,.int tm] H Q E:=by
 have own:∀i b,aO [.val (.lst nm),.bor (.dct (jz ss) (Cq ss)),.val (.int tm)] ([V.ref p,.ref sa,.int tm].map some) i b->i=1/\b=sa:=fun i b⟨⟨s,o,e1,e2⟩,e3⟩=>by
  match i with
  |0=>cases e1;cases e2
  |1=>cases e3;exact⟨rfl,rfl⟩
  |2=>cases e1;cases e2
  |i+3=>simp at e1
 refine⟨[.val (.lst nm),.bor (.dct (jz ss) (Cq ss)),.val (.int tm)],rfl,⟨rfl,fun i s e=>?_,fun i j b h1 h2=>(own i b h1).1.trans (own j b h2).1.symm⟩,fun i o e=>?_,?_⟩
 ·match i with
  |0=>cases e;exact⟨_,rfl,dp⟩
  |1=>cases e;exact⟨_,rfl,_,es,Ss ss⟩
  |2=>cases e;exact⟨_,rfl,by unfold bj;rfl⟩
  |i+3=>simp at e
 ·match i with
  |0=>cases e
  |1=>cases e
  |2=>cases e
  |i+3=>simp at e
 ·cases hr:f [.val (.lst nm),.bor (.dct (jz ss) (Cq ss)),.val (.int tm)]with
  |bad=>rw[hr]at hf;cases hf
  |exc _ _=>rw[hr]at hf;cases hf
  |ok r qs=>
   rw[hr]at hf
   cases r with
   |val _=>cases hf
   |ref _=>cases hf
   |new o=>
    cases o with
    |lst _=>cases hf
    |dct ks vs=>
     intro v H' c rc
     obtain⟨b,rfl,⟨u,hu,kvs,rfl,hk,hd⟩,hb⟩:=rc
     have hf':nR ks vs=some ss':=hf
     rw[hk]at hf'
     have:=xG hf' hd
     subst this
     exact fin b H' (fun c' u' e ne=>c.keep c' u' e fun i o=>ne (own i c' o).2) c.pers hb hu
theorem af2{tm:Int}(hσ:σ[0]? =some (some (.ref a)))(ht:σ[2]? =some (some (.int tm)))(hp:σ[3]? =some (some (.ref p)))(G:iG K C H0 H a n t ls cs sd ss)(cl:ql K C)(n1:bh K C "since")
  (p0:H0 p=none)(ob:j7 K H (.lst nm) p)(pc:∀dx vn vt vs la ca sa,H a=some (.ins C dx (nG vn vt vs la ca sa))->p≠ca)
  (hf:M3 (f [.val (.lst nm),.bor (.dct (jz ss) (Cq ss)),.val (.int tm)])=some ss')(fin:∀H1,iG K C H0 H1 a n t ls cs sd ss'->D.nx σ H1):
  m9 K (bf 0) (ik (cL K 3 f) [] E0 (aJ (U5 (bf 3)) (aJ (sf K "since") (aJ (bf 2) di)))) "since" D σ H:=by
 obtain⟨⟨dx,la,ca,sa,vn,vt,vs,cv,e1,d1,d2,d3,e2,e3,d4,e4,ne,z1,z2,z3⟩,k0⟩:=G
 obtain⟨u,hu,ol⟩:=ob
 have hpc:=pc _ _ _ _ _ _ _ e1
 have cu:=ol.qD
 obtain⟨vl,rfl,dl⟩:=id ol
 have npa:a≠p:=fun z=>by subst z;rw[hu]at e1;cases e1
 have npl:la≠p:=fun z=>by subst z;rw[hu]at e2;cases e2
 have nps:sa≠p:=fun z=>by subst z;rw[hu]at e4;cases e4
 refine⟨.ref p,hp,p,_,rfl,hu,cu,fun o=>?_⟩
 have pf:=dX (o:=o) hu cu
 have f1:∀{b:Addr}{w:HO},b≠p->H b=some w->upd H p (.frz o (.lst vl)) b=some w:=fun nb h=>by rw[au nb];exact h
 refine⟨.ref a,hσ,a,C,dx,_,.ref sa,rfl,f1 npa e1,cl,n1,rfl,.int tm,ht,?_⟩
 refine zM (E:=E0) (nm:=nm) (ss:=ss) ((ol.mono pf).den aB) (f1 nps e4) hf fun b H' keep pe hb eb=>?_
 have nas:a≠sa:=fun z=>by subst z;rw[e4]at e1;cases e1
 have ncs:ca≠sa:=fun z=>by subst z;rw[e4]at e3;cases e3
 have ea:=keep _ _ (f1 npa e1) nas
 refine⟨.ref a,hσ,a,C,dx,_,rfl,ea,cl,n1,by simp[nG],fin _ ?_⟩
 have hpf:jE "since" (.ref b) (nG vn vt vs la ca sa)=nG vn vt vs la ca b:=rfl
 rw[hpf]
 have k2:bV H' (upd H' a (.ins C dx (nG vn vt vs la ca b))):=by
  refine⟨fun b xs h=>?_,fun b o u h=>?_⟩
  ·rw[au (fun z=>by subst z;rw[ea]at h;cases h)];exact h
  ·rw[au (fun z=>by subst z;rw[ea]at h;cases h)];exact h
 have pp:=(pf.trans pe).trans k2
 have nba:b≠a:=fun z=>by subst z;rw[f1 npa e1]at hb;cases hb
 have nbl:la≠b:=fun z=>by subst z;rw[f1 npl e2]at hb;cases hb
 have f2:∀{c:Addr}{w:HO},c≠p->c≠sa->c≠a->H c=some w->upd H' a (.ins C dx (nG vn vt vs la ca b)) c=some w:=fun x1 x2 x3 h=>by rw[au x3];exact keep _ _ (f1 x1 h) x2
 have b0:H0 b=none:=by
  cases q:H0 b with
  |none=>rfl
  |some w=>
   have:=k0 _ _ q
   have nbp:b≠p:=fun z=>by subst z;rw[p0]at q;cases q
   rw[f1 nbp this]at hb
   cases hb
 refine⟨⟨dx,la,ca,b,vn,vt,vs,cv,aB,d1.mono pp,d2.mono pp,d3.mono pp,f2 npl ne (fun z=>by subst z;rw[e1]at e2;cases e2) e2,f2 (Ne.symm hpc) ncs (fun z=>by subst z;rw[e1]at e3;cases e3) e3,d4.mono pp,?_,nbl,z1,z2,b0⟩,fun c w h=>?_⟩
 ·rw[au nba];exact eb
 ·exact f2 (fun z=>by subst z;rw[p0]at h;cases h) (fun z=>by subst z;rw[z3]at h;cases h) (fun z=>by subst z;rw[z1]at h;cases h) (k0 c w h)
end
theorem ww(f:Nat->Int):∀n,0<n->gn f n<n/\∀j,j<n->f (gn f n)<=f j/\(j<gn f n->f (gn f n)<f j)
 |0=>fun h=>absurd h (Nat.lt_irrefl 0)
 |1=>fun _=>⟨by simp[gn],fun j hj=>by
  have:j=0:=by omega
  subst this
  simp[gn]⟩
 |n+2=>fun _=>by
  obtain⟨h1,h2⟩:=ww f (n+1) (by omega)
  rw[gn]
  split
  ·rename_i c
   refine⟨by omega,fun j hj=>?_⟩
   by_cases e:j=n+1
   ·subst e;exact⟨Int.le_refl _,fun z=>absurd z (by omega)⟩
   ·have:=(h2 j (by omega)).1
    exact⟨by omega,fun _=>by omega⟩
  ·rename_i c
   refine⟨by omega,fun j hj=>?_⟩
   by_cases e:j=n+1
   ·subst e;exact⟨by omega,fun z=>by omega⟩
   ·exact h2 j (by omega)
def Ji f(hi:i<n)(h:∀j,j<n->f i<=f j/\(j<i->f i<f j)):i=gn f n:=by
 obtain⟨h1,h2⟩:=ww f n (by omega)
 have a:=h _ h1
 have b:=h2 i hi
 rcases Nat.lt_trichotomy i _ with c|c|c
 ·have:=b.2 c;omega
 ·exact c
 ·have:=a.2 c;omega
section
variable{K:QQq}{C a g:Addr}{H0 H:Hp}{n t sd:D}{ls ss:jf}{cs:List D}{F:Gf}
structure Qs(K:QQq)(C:Addr):Prop where
 net:bh K C "net"
 talk:bh K C "talk"
 len:bh K C "lengths"
 chg:bh K C "changes"
 std:bh K C "stand"
 snc:bh K C "since"
theorem T5{E:XK}(cl:ql K C)(bd:VM K C "due" g)(na:Qs K C)(G:iG K C H0 H a n t ls cs sd ss)(ne:ss≠[])(hs:kY F n t ls ⟨cs,sd,ss⟩=some g')
  (fin:∀H',iG K C H0 H' a n t ls g'.cs g'.sd g'.ss->Q .non H'):vK K C g (qy K) (cL K 4 F.led) (cL K 3 F.stp) (cL K 3 F.snw) [.ref a] H Q E:=by
 refine⟨rfl,?_⟩
 unfold kY at hs
 split at hs
 rotate_left
 ·cases hs
 rename_i hok
 rw[QUq]at hok
 obtain⟨hok,hfit⟩:=hok
 have lp:=List.length_pos_iff.mpr ne
 have ok:∀p∈ss,bz p.1 ss=some p.2/\∃j,bz p.1 ls=some j:=fun p hp=>by
  have:=List.all_eq_true.mp hok p hp
  simp only[QUq,beq_iff_eq]at this
  exact⟨this.1,Option.isSome_iff_exists.mp this.2⟩
 split at hs
 ·cases hs
 rename_i p ep
 obtain⟨sd',e1,hs⟩:=QJq.mp hs
 obtain⟨nm,e2,hs⟩:=QJq.mp hs
 obtain⟨ss',e3,rfl⟩:=QJz.mp hs
 have mp:=QBz ep
 obtain⟨o1,j,o2⟩:=ok p mp
 have du:gY ls ss (gn (gY ls ss) ss.length)=p.2+j:=by
  show(match ss[gn _ ss.length]? with|some p=>p.2+(bz p.1 ls).getD 0|none=>0)=_
  rw[ep]
  simp only[o2]
  rfl
 refine af8 rfl G cl bd na.snc na.len lp (fun i q e=>?_) (fun i q e=>?_) fun i q H1 e best k1=>?_
 ·rw[jx,(ok q (QBz e)).1];rfl
 ·obtain⟨j,hj⟩:=(ok q (QBz e)).2
  exact⟨j,by rw[jx,hj];rfl⟩
 have hi:i<ss.length:=by
  rcases Nat.lt_or_ge i ss.length with z|z
  ·exact z
  ·rw[List.getElem?_eq_none z]at e;cases e
 have im:=Ji _ hi fun j hj=>by
  have:=best j hj
  simp only[YT]at this
  exact this
 have qp:q=p:=by rw[im,ep]at e;exact(QEq e).symm
 subst qp
 refine af7 rfl rfl (G.mono k1) cl na.snc na.len (by rw[jx,o1];rfl) (by rw[jx,o2];rfl) ?_
 have hz:cs.length<sizeLine:=by
  rw[sizeLine_eq]
  have:cs.length+1<=16777216:=by simpa[fits]using hfit
  omega
 refine af6 rfl rfl rfl (G.mono k1) cl na.chg hz fun H2 G2=>?_
 have hl:∃qs,F.led [.val n,.val t,.val sd,.val (.str q.1)]=.ok (.val sd') qs:=by
  have e1':=e1
  cases h:F.led [.val n,.val t,.val sd,.val _]with
  |bad=>rw[h]at e1';cases e1'
  |exc _ _=>rw[h]at e1';cases e1'
  |ok r qs=>
   rw[h]at e1'
   cases r with
   |val d=>cases e1';exact⟨qs,rfl⟩
   |_=>cases e1'
 obtain⟨qs,hl⟩:=hl
 refine af5 rfl rfl G2 cl na.net na.talk na.std hl fun H3 G3=>?_
 refine af4 rfl rfl G3 cl na.snc (by rw[jx,o1];rfl) (Pb q.1 ss) fun H4 G4=>?_
 have hn:if gh sd' then nm=[]else∃qs,F.stp [.val n,.val t,.val sd']=.ok (.new (.lst nm)) qs:=by
  unfold yg at e2
  cases h:gh sd' with
  |true=>rw[h]at e2;cases e2;simp
  |false=>
   rw[h]at e2
   cases h2:F.stp [.val n,.val t,.val sd']with
   |bad=>rw[h2]at e2;cases e2
   |exc _ _=>rw[h2]at e2;cases e2
   |ok r qs=>
    rw[h2]at e2
    cases r with
    |new o=>
     cases o with
     |lst xs=>cases e2;exact⟨qs,rfl⟩
     |_=>cases e2
    |_=>cases e2
 refine af3 rfl G4 cl na.net na.talk na.std hn fun pp H5 G5 hp ob k5=>?_
 refine af2 rfl rfl rfl G5 cl na.snc ?_ ob ?_ (by rw[<-du];exact e3) fun H6 G6=>fin H6 ?_
 ·cases h:H0 pp with
  |none=>rfl
  |some w=>rw[G4.kp _ _ h]at hp;cases hp
 ·intro dx vn vt vs la ca sa e
  obtain⟨dx',la',ca',sa',vn',vt',vs',cv,f1,_,_,_,_,f3,_⟩:=G4.ex
  rw[k5 _ _ f1]at e
  injection e with e
  injection e with _ _ e
  have:ca'=ca:=by simp[nG]at e;exact e.2.2.2.1
  subst this
  exact fun z=>by subst z;rw[hp]at f3;cases f3
 ·rw[du]
  exact G6
end
def lu{a C dx:Addr}{u:HO}(e:H a=some (.ins C dx fs)):bV H (upd H a u):=by
 refine⟨fun b xs h=>?_,fun b o u h=>?_⟩
 ·rw[au (fun z=>by subst z;rw[e]at h;cases h)];exact h
 ·rw[au (fun z=>by subst z;rw[e]at h;cases h)];exact h
structure BR(K:QQq)(C:Addr)(H0:Hp)(x dx:Addr)(n t w:D)(vn vt vw:V)(H:Hp)(fs:List (Str×V)):Prop where
 ex:H x=some (.ins C dx fs)
 kp:Kp H0 H
 dn:bj K H n vn
 dt:bj K H t vt
 dw:bj K H w vw
section
variable{K:QQq}{C x dx:Addr}{H0 H H':Hp}{n t w:D}{vn vt vw:V}{fs fs':List (Str×V)}
theorem BR.mono(I:BR K C H0 x dx n t w vn vt vw H fs)(k:Kp H H'):BR K C H0 x dx n t w vn vt vw H' fs:=
 ⟨k _ _ I.ex,I.kp.trans k,I.dn.mono k.pers,I.dt.mono k.pers,I.dw.mono k.pers⟩
def BR.put(I:BR K C H0 x dx n t w vn vt vw H fs)(z:H0 x=none):BR K C H0 x dx n t w vn vt vw (upd H x (.ins C dx fs')) fs':=
 ⟨aB,I.kp.chg z,I.dn.mono (lu I.ex),I.dt.mono (lu I.ex),I.dw.mono (lu I.ex)⟩
def Gm(I:BR K C H0 x dx n t w vn vt vw H fs):Sat K [.un,.val n,.val t,.val w] [some (.ref x),some vn,some vt,some vw] H:=by
 refine⟨rfl,fun i s e=>?_,fun i j a h=>?_⟩
 ·match i with
  |0=>cases e;trivial
  |1=>cases e;exact⟨_,rfl,I.dn⟩
  |2=>cases e;exact⟨_,rfl,I.dt⟩
  |3=>cases e;exact⟨_,rfl,I.dw⟩
  |i+4=>simp at e
 ·obtain⟨⟨s,o,e1,e2⟩,_⟩:=h
  match i with
  |0=>cases e1;cases e2
  |1=>cases e1;cases e2
  |2=>cases e1;cases e2
  |3=>cases e1;cases e2
  |i+4=>simp at e1
def Gx{i:Nat}:¬aO [.un,.val n,.val t,.val w] σ i b:=by
 rintro ⟨⟨s,o,e1,e2⟩,_⟩
 match i with
 |0=>cases e1;cases e2
 |1=>cases e1;cases e2
 |2=>cases e1;cases e2
 |3=>cases e1;cases e2
 |i+4=>simp at e1
def Su{l:jf}(h:Sv r=some l):∃ks vs env,r=.ok (.new (.dct ks vs)) env/\nR ks vs=some l:=by
 cases r with
 |bad=>cases h
 |exc _ _=>cases h
 |ok r env=>
  cases r with
  |new o=>
   cases o with
   |dct ks vs=>exact⟨ks,vs,env,rfl,h⟩
   |_=>cases h
  |_=>cases h
def QV{d:D}(h:Ce r=some d):∃qs,r=.ok (.val d) qs:=by
 cases r with
 |bad=>cases h
 |exc _ _=>cases h
 |ok r qs=>
  cases r with
  |val d=>cases h;exact⟨qs,rfl⟩
  |_=>cases h
def SN{xs:List D}(h:Jk r=some xs):∃qs,r=.ok (.new (.lst xs)) qs:=by
 cases r with
 |bad=>cases h
 |exc _ _=>cases h
 |ok r qs=>
  cases r with
  |new o=>
   cases o with
   |lst xs=>cases h;exact⟨qs,rfl⟩
   |_=>cases h
  |_=>cases h
theorem Td{mz:E}{Q:VK}{E:XK}{sd:D}(cl:ql K C)(na:Qs K C)(z:H0 x=none)(I:BR K C H0 x dx n t w vn vt vw H [])
  (h1:Sv (ev c mz [.un,.val n,.val t,.val w])=some ls)(h2:Ce (ff [.val n])=some sd)(h3:Jk (fs_ [.val n,.val t,.val sd])=some nm)(h4:M3 (fw [.val (.lst nm),.bor (.dct [] []),.val (.int 0)])=some ss)
  (fin:∀H',iG K C H0 H' x n t ls [] sd ss->Q .non H'):Gd K c mz (cL K 1 ff) (cL K 3 fs_) (cL K 3 fw) [.ref x,vn,vt,vw] H Q E:=by
 obtain⟨ks,vs,env',hm,hl⟩:=Su h1
 obtain⟨q2,h2⟩:=QV h2
 obtain⟨q3,h3⟩:=SN h3
 refine⟨rfl,?_⟩
 refine⟨vn,rfl,.ref x,rfl,x,C,dx,_,rfl,I.ex,cl,na.net,by simp,?_⟩
 have I1:=I.put (fs':=[("net",vn)]) z
 refine⟨vt,rfl,.ref x,rfl,x,C,dx,[("net",vn)],rfl,I1.ex,cl,na.talk,by simp,?_⟩
 have I2:=I1.put (fs':=[("net",vn),("talk",vt)]) z
 show m9 K (bf 0) (U6 K c mz) "lengths" _ _ (upd (upd H x (.ins C dx [("net",vn)])) x (.ins C dx [("net",vn),("talk",vt)]))
 refine⟨[.un,.val n,.val t,.val w],Gm I2,?_⟩
 rw[hm]
 rintro v H3 N ⟨la,rfl,⟨u,hu,kvs,rfl,hk,hd⟩,hla⟩
 rw[hk]at hl
 have:=xG hl hd
 subst this
 have k3:=fun b u e=>N.keep b u e fun i=>Gx
 have I3:=I2.mono k3
 have nxl:la≠x:=fun q=>by subst q;rw[I2.ex]at hla;cases hla
 refine⟨.ref x,rfl,x,C,dx,_,rfl,I3.ex,cl,na.len,by simp,?_⟩
 have I4:=I3.put (fs':=[("net",vn),("talk",vt),("lengths",.ref la)]) z
 have l4:upd H3 x (.ins C dx [("net",vn),("talk",vt),("lengths",.ref la)]) la=some (.dK (jl ls)):=by rw[au nxl];exact hu
 show m9 K (bf 0) (K4 di) "changes" _ _ (upd H3 x (.ins C dx [("net",vn),("talk",vt),("lengths",.ref la)]))
 generalize upd H3 x (.ins C dx [("net",vn),("talk",vt),("lengths",.ref la)])=H4 at I4 l4⊢
 refine⟨QIq _,fun ca hca=>?_⟩
 have k5:Kp H4 (upd H4 ca (.lst [])):=Kp.lay hca
 have I5:=I4.mono k5
 have nxc:ca≠x:=fun q=>by subst q;rw[I4.ex]at hca;cases hca
 refine⟨.ref x,rfl,x,C,dx,_,rfl,I5.ex,cl,na.chg,by simp,?_⟩
 have I6:=I5.put (fs':=[("net",vn),("talk",vt),("lengths",.ref la),("changes",.ref ca)]) z
 have c0:H0 ca=none:=by
  cases q:H0 ca with
  |none=>rfl
  |some w=>rw[I4.kp _ _ q]at hca;cases hca
 have l6:upd (upd H4 ca (.lst [])) x (.ins C dx [("net",vn),("talk",vt),("lengths",.ref la),("changes",.ref ca)]) la=some (.dK (jl ls)):=by rw[au nxl];exact k5 _ _ l4
 have c6:upd (upd H4 ca (.lst [])) x (.ins C dx [("net",vn),("talk",vt),("lengths",.ref la),("changes",.ref ca)]) ca=some (.lst []):=by rw[au nxc,aB]
 show m9 K (bf 0) (ik (cL K 1 ff) [] E0 (aJ (bf 1) di)) "stand" _ _ (upd (upd H4 ca (.lst [])) x (.ins C dx [("net",vn),("talk",vt),("lengths",.ref la),("changes",.ref ca)]))
 refine⟨vn,rfl,?_⟩
 refine lQ (E:=E0) (ds:=[n]) (ak.bF I6.dn ak.eY) rfl h2 fun v H7 k7 rc=>?_
 have hv:=rc
 have I7:=I6.mono k7
 refine⟨.ref x,rfl,x,C,dx,_,rfl,I7.ex,cl,na.std,by simp,?_⟩
 have I8:=I7.put (fs':=[("net",vn),("talk",vt),("lengths",.ref la),("changes",.ref ca),("stand",v)]) z
 have l8:upd H7 x (.ins C dx [("net",vn),("talk",vt),("lengths",.ref la),("changes",.ref ca),("stand",v)]) la=some (.dK (jl ls)):=by rw[au nxl];exact k7 _ _ l6
 have c8:upd H7 x (.ins C dx [("net",vn),("talk",vt),("lengths",.ref la),("changes",.ref ca),("stand",v)]) ca=some (.lst []):=by rw[au nxc];exact k7 _ _ c6
 have v8:bj K (upd H7 x (.ins C dx [("net",vn),("talk",vt),("lengths",.ref la),("changes",.ref ca),("stand",v)])) sd v:=hv.mono (lu I7.ex)
 show m9 K (bf 0) (ik (cL K 3 fw) [] E0 (aJ (U5 (ik (cL K 3 fs_) [] E0 (aJ (bf 1) (aJ (bf 2) (aJ (sf K "stand") di))))) (aJ (U6 K c .emp) (aJ (tC (.int 0)) di)))) "since" _ _ (upd H7 x (.ins C dx [("net",vn),("talk",vt),("lengths",.ref la),("changes",.ref ca),("stand",v)]))
 generalize upd H7 x (.ins C dx [("net",vn),("talk",vt),("lengths",.ref la),("changes",.ref ca),("stand",v)])=H8 at I8 l8 c8 v8⊢
 refine⟨vn,rfl,vt,rfl,.ref x,rfl,x,C,dx,_,v,rfl,I8.ex,cl,na.std,rfl,?_⟩
 refine lQ (E:=E0) (ds:=[n,t,sd]) (ak.bF I8.dn (ak.bF I8.dt (ak.bF v8 ak.eY))) rfl h3 fun vl H9 k9 rc=>?_
 obtain⟨p,rfl,⟨u9,hu9,ol⟩,hp⟩:=rc
 have cu:=ol.qD
 refine⟨p,u9,rfl,hu9,cu,fun o=>?_⟩
 have nn:∀{b:Addr}{y:HO},H8 b=some y->upd H9 p (.frz o u9) b=some y:=fun{b y}h=>by
  rw[au (fun q=>by subst q;rw[hp]at h;cases h)];exact k9 _ _ h
 have dp:bj K (upd H9 p (.frz o u9)) (.lst nm) (.ref p):=(ol.mono (dX hu9 cu)).den aB
 have k10:Kp H8 (upd H9 p (.frz o u9)):=fun b y h=>nn h
 have I10:=I8.mono k10
 generalize upd H9 p (.frz o u9)=H10 at dp k10 I10
 refine⟨[.un,.val n,.val t,.val w],Gm I10,?_⟩
 rintro v2 H11 N2 ⟨s0,rfl,⟨u2,hu2,kv2,rfl,hk2,hd2⟩,hs0⟩
 have kn:kv2=jl []:=by
  cases kv2 with
  |nil=>rfl
  |cons a b=>cases hk2
 subst kn
 have k11:Kp H10 H11:=fun b u e=>N2.keep b u e fun i=>Gx
 refine zM (E:=E0) (nm:=nm) (ss:=[]) (dp.mono k11.pers) hu2 h4 fun b H12 keep pe hb eb=>?_
 have old:∀{c:Addr}{y:HO},H8 c=some y->H12 c=some y:=fun{c y}h=>keep _ _ (k11 _ _ (k10 _ _ h)) fun q=>by subst q;rw[k10 _ _ h]at hs0;cases hs0
 have k12:Kp H8 H12:=fun c y h=>old h
 have I12:=I8.mono k12
 refine⟨.ref x,rfl,x,C,dx,_,rfl,I12.ex,cl,na.snc,by simp,fin _ ?_⟩
 have hpf:jE "since" (.ref b) [("net",vn),("talk",vt),("lengths",.ref la),("changes",.ref ca),("stand",v)]=nG vn vt v la ca b:=rfl
 rw[hpf]
 have nb:∀{c:Addr}{y:HO},H8 c=some y->c≠b:=fun{c y}h q=>by subst q;rw[k11 _ _ (k10 _ _ h)]at hb;cases hb
 have I13:=I12.put (fs':=nG vn vt v la ca b) z
 have b0:H0 b=none:=by
  cases q:H0 b with
  |none=>rfl
  |some w=>exact absurd rfl (nb (I8.kp _ _ q))
 refine⟨⟨dx,la,ca,b,vn,vt,v,[],aB,I13.dn,I13.dt,(v8.mono k12.pers).mono (lu I12.ex),?_,?_,ak.eY,?_,nb l8,z,c0,b0⟩,I13.kp⟩
 ·rw[au nxl];exact old l8
 ·rw[au nxc];exact old c8
 ·rw[au (Ne.symm (nb I8.ex))];exact eb
end
section
variable{K:QQq}{C g:Addr}{H:Hp}
def O8{sd:D}{cs:List D}(d:bj K H' sd v):bj K H' (Pa ⟨cs,sd,ss⟩) (O9 v (jl ss)):=by
 have e:=yL d
 unfold Pa O9
 by_cases c:v=.non
 ·rw[if_pos c]
  have:gh sd=true:=by rw[<-e];simpa using c
  rw[this,if_pos rfl]
  rfl
 ·rw[if_neg c]
  have:gh sd=false:=by rw[<-e];simpa using c
  rw[this,if_neg (by decide)]
  cases ss with
  |nil=>unfold bj;rfl
  |cons p ss=>unfold bj;rfl
theorem Q5{c:Cf}{n t w d:D}{k:Int}{Q:VK}{E:XK}(cl:ql K C)(bd:VM K C "due" g)(na:Qs K C)
  (dn:bj K H n vn)(dt:bj K H t vt)(dw:bj K H w vw)(hf:eV T c [.val n,.val t,.val w,.val (.int k)]=.ok (.val d) qs)
  (fin:∀v H',Kp H H'->bj K H' d v->Q v H'):
  K7 K C T.top (cL K 3 (c.fn T.chk)) (cL K 3 (c.fn T.isn)) (Gd K c T.mz (cL K 1 (c.fn T.fst)) (cL K 3 (c.fn T.stp)) (cL K 3 (c.fn T.snw)))
   (vK K C g (qy K) (cL K 4 (c.fn T.led)) (cL K 3 (c.fn T.stp)) (cL K 3 (c.fn T.snw))) (Ge K) [vn,vt,vw,.int k] H Q E:=by
 rw[eV]at hf
 split at hf
 rotate_left
 ·cases hf
 rename_i hok
 rw[QUq]at hok
 obtain⟨ok1,ok2⟩:=hok
 obtain⟨d1,q1,c1⟩:∃d q,c.fn T.chk [.val n,.val t,.val w]=.ok (.val d) q:=by
  cases h:c.fn T.chk [.val n,.val t,.val w]with
  |bad=>rw[h]at ok1;cases ok1
  |exc _ _=>rw[h]at ok1;cases ok1
  |ok r q=>
   rw[h]at ok1
   cases r with
   |val d=>exact⟨d,q,rfl⟩
   |_=>cases ok1
 obtain⟨q2,c2⟩:∃q,c.fn T.isn [.val (.int k),.val (.int 0),.val (.int T.top)]=.ok (.val (.bl true)) q:=by
  cases h:c.fn T.isn [.val (.int k),.val (.int 0),.val (.int T.top)]with
  |bad=>rw[h]at ok2;cases ok2
  |exc _ _=>rw[h]at ok2;cases ok2
  |ok r q=>
   rw[h]at ok2
   cases r with
   |val d=>
    cases d with
    |bl b=>
     cases b with
     |true=>exact⟨q,rfl⟩
     |false=>cases ok2
    |_=>cases ok2
   |_=>cases ok2
 split at hf
 rotate_left
 ·cases hf
 rename_i G hG
 injection hf with hf _
 injection hf with hf
 obtain⟨⟨ls,g0⟩,hi,hG⟩:=QJq.mp hG
 unfold Te at hi
 obtain⟨ls0,h1,hi⟩:=QJq.mp hi
 obtain⟨sd,h2,hi⟩:=QJq.mp hi
 obtain⟨nm,h3,hi⟩:=QJq.mp hi
 obtain⟨ss,h4,hi⟩:=QJz.mp hi
 cases hi
 refine⟨rfl,?_⟩
 refine⟨vn,rfl,vt,rfl,vw,rfl,?_⟩
 refine lQ (E:=E0) (ds:=[n,t,w]) (ak.bF dn (ak.bF dt (ak.bF dw ak.eY))) rfl c1 fun _ H1 k1 _=>?_
 refine⟨.int k,rfl,?_⟩
 refine lQ (E:=E0) (ds:=[.int k,.int 0,.int T.top]) (ak.bF (by unfold bj;rfl) (ak.bF (by unfold bj;rfl) (ak.bF (by unfold bj;rfl) ak.eY))) rfl c2 fun v2 H2 k2 rc=>?_
 have ev:v2=.bl true:=by
  have rc':=rc
  exact rc'
 subst ev
 refine⟨true,rfl,?_⟩
 refine⟨vn,rfl,vt,rfl,vw,rfl,fun x dx hx hdx nx=>?_⟩
 have k02:=k1.trans k2
 have x0:H x=none:=by
  cases q:H x with
  |none=>rfl
  |some u=>rw[k02 _ _ q]at hx;cases hx
 have ka:Kp H2 (upd H2 dx (.own x)):=Kp.lay hdx
 have kb:Kp (upd H2 dx (.own x)) (upd (upd H2 dx (.own x)) x (.ins C dx [])):=Kp.lay (by rw[au (Ne.symm nx)];exact hx)
 have k3:=(k02.trans ka).trans kb
 refine Td cl na x0 ⟨aB,k3,dn.mono k3.pers,dt.mono k3.pers,dw.mono k3.pers⟩ h1 h2 h3 h4 fun H4 G4=>⟨rfl,?_⟩
 refine⟨fun m ζ H'=>ζ=[some vn,some vt,some vw,some (.int k),some (.ref x)]/\∃g1:Gs,iG K C H H' x n t ls g1.cs g1.sd g1.ss/\mX (kY (T.gf c) n t ls) k m g1=some G,⟨_,rfl,_,G4,hG⟩,?_⟩
 rintro m ζ H5 ⟨rfl,⟨cs5,sd5,ss5⟩,G5,hl⟩
 cases m with
 |zero=>cases hl
 |succ m=>
  rw[mX]at hl
  obtain⟨dx5,la,ca,sa,un,ut,us,cv,e1,f1,f2,f3,e2,e3,f4,e4,ne,z1,z2,z3⟩:=id G5.ex
  have hlen:=f4.length
  have body:∀N:L2.St->Hp->Prop,ss5≠[]->(kY (T.gf c) n t ls ⟨cs5,sd5,ss5⟩).bind (mX (kY (T.gf c) n t ls) k m)=some G->∀D:Ends,∃N:L2.St->Hp->Prop,(∀ζ H',N ζ H'->∃m',m'<m+1/\(ζ=[some vn,some vt,some vw,some (.int k),some (.ref x)]/\∃g1:Gs,iG K C H H' x n t ls g1.cs g1.sd g1.ss/\mX (kY (T.gf c) n t ls) k m' g1=some G))/\
    qx (qw C "change" (vK K C g (qy K) (cL K 4 (c.fn T.led)) (cL K 3 (c.fn T.stp)) (cL K 3 (c.fn T.snw))) [] E0 (bf 4) di) {D with nx:=N,ct:=N,bk:=D.nx} [some vn,some vt,some vw,some (.int k),some (.ref x)] H5:=fun _ hne hb D=>by
   obtain⟨g2,s1,s2⟩:=QJq.mp hb
   refine⟨fun ζ H'=>ζ=[some vn,some vt,some vw,some (.int k),some (.ref x)]/\iG K C H H' x n t ls g2.cs g2.sd g2.ss,fun ζ H'⟨a1,a2⟩=>⟨m,Nat.lt_succ_self m,a1,g2,a2,s2⟩,?_⟩
   have Z:vK K C g (qy K) (cL K 4 (c.fn T.led)) (cL K 3 (c.fn T.stp)) (cL K 3 (c.fn T.snw)) [.ref x] H5 (fun _ H'=>[some vn,some vt,some vw,some (.int k),some (.ref x)]=[some vn,some vt,some vw,some (.int k),some (.ref x)]/\iG K C H H' x n t ls g2.cs g2.sd g2.ss) E0:=
    T5 (F:=⟨c.fn T.led,c.fn T.stp,c.fn T.snw⟩) (Q:=fun _ H'=>[some vn,some vt,some vw,some (.int k),some (.ref x)]=[some vn,some vt,some vw,some (.int k),some (.ref x)]/\iG K C H H' x n t ls g2.cs g2.sd g2.ss) cl bd na G5 hne s1 fun H6 G6=>⟨rfl,G6⟩
   exact⟨.ref x,rfl,x,dx5,_,rfl,e1,rfl,Z⟩
  refine⟨.ref x,rfl,x,C,dx5,_,.ref sa,rfl,e1,cl,na.snc,rfl, !(jl ss5).isEmpty,.inr (.inr ⟨_,e4,rfl⟩),?_⟩
  have done:=hl
  have last:∀D:Ends,D.rt=Q->some (⟨cs5,sd5,ss5⟩:Gs)=some G->Q7 (KY (aJ (U5 (gf K "changes")) (aJ (qw C "ending" (Ge K) [] E0 (bf 4) di) di))) D [some vn,some vt,some vw,some (.int k),some (.ref x)] H5:=fun D hD hg=>by
   cases hg
   have cu:Qy (.lst cv):=by constructor<;>(intros;intro z;cases z)
   refine⟨.ref x,rfl,x,C,dx5,_,.ref ca,rfl,e1,cl,na.chg,rfl,ca,_,rfl,e3,cu,fun o=>?_⟩
   have pf:=dX (o:=o) e3 cu
   have nca:x≠ca:=fun z=>by subst z;rw[e1]at e3;cases e3
   have ncs:sa≠ca:=fun z=>by subst z;rw[e4]at e3;cases e3
   refine⟨.ref x,rfl,x,dx5,_,rfl,by rw[au nca];exact e1,rfl,x,C,dx5,_,us,sa,jl ss5,rfl,by rw[au nca];exact e1,cl,na.std,na.snc,rfl,rfl,by rw[au ncs];exact e4,by simp[sizeLine_eq],fun p hp=>?_⟩
   rw[hD]
   have k6:Kp (upd H5 ca (.frz o (.lst cv))) (upd (upd H5 ca (.frz o (.lst cv))) p (.tup [.ref ca,O9 us (jl ss5)])):=Kp.lay hp
   have pp:=pf.trans k6.pers
   refine fin _ _ ((G5.kp.chg z2).trans k6) ?_
   rw[<-hf]
   refine fD (.inl (.inl aB)) (ak.bF ?_ (ak.bF (O8 (f3.mono pp)) ak.eY))
   unfold bj
   exact⟨ca,cv,rfl,.inl ⟨o,k6 _ _ aB⟩,f4.mono pp⟩
  cases hs:ss5 with
  |nil=>
   subst hs
   exact last _ rfl done
  |cons p5 s5=>
   have hne:ss5≠[]:=by rw[hs];exact List.cons_ne_nil _ _
   rw[<-hs]
   have em:(!(jl ss5).isEmpty)=true:=by rw[hs];rfl
   have em2:(!ss5.isEmpty)=true:=by rw[hs];rfl
   rw[em]
   refine Eq.mpr (if_pos rfl) ?_
   rw[em2,Bool.true_and]at done
   refine⟨.ref x,rfl,x,C,dx5,_,.ref ca,rfl,e1,cl,na.chg,rfl,.ref ca,cv.length,rfl,.inl ⟨cv,.inl (.inl e3),rfl⟩,.int k,rfl,cv.length,k,rfl,rfl,?_⟩
   rw[hlen]at done
   refine⟨_,rfl,?_⟩
   cases hc:decide ((cv.length:Int)<k)with
   |false=>
    rw[hc]at done
    refine Eq.mpr (if_neg (fun z=>Qjz (hc.symm.trans z))) ?_
    exact last _ rfl done
   |true=>
    rw[hc]at done
    refine Eq.mpr (if_pos hc) ?_
    exact body (fun _ _=>False) hne done _
end
structure MfK(K:QQq)(x qual:Str)(st:Stmt)(f:Addr)(N ps:List Str):Prop where
 fu:∃fd,Hz K x qual st f fd/\Binds K fd ps []
 sc:eN N ps (aq st)
 lo:∀y∈N,(aq st).names.lookup y=some .local
structure GoK(K:QQq)(mg:QZz)(ct:Ct)(T:QH)(C fi fu fc fe:Addr)(si su sc se st:Stmt):Prop where
 cl:ql K C
 na:Qs K C
 bd:VM K C "due" fu
 mk_:Mk K C fi
 mc:Meth K C "change" fc
 me:Meth K C "ending" fe
 Mi:MfK K "__init__" "Going.__init__" si fi gb gb
 Mu:MfK K "due" "Going.due" su fu ["self","wire"] ["self","wire"]
 Mc:MfK K "change" "Going.change" sc fc lA ["self"]
 Me:MfK K "ending" "Going.ending" se fe ["self"] ["self"]
 bi:Zc ct T.mz si
 bu:Ze su
 bc:Zf sc
 be:Zd se
 bt:Zb st
 gi:∀x∈(["first_stand","steps_at","since_when"]:List Str),(aq si).names.lookup x=some .globalImplicit
 gc:∀x∈(["min","list","led_to","steps_at","since_when"]:List Str),(aq sc).names.lookup x=some .globalImplicit
 gt:∀x∈(["check_waits","is_number","MOST_CHANGES","Going","len"]:List Str),(aq st).names.lookup x=some .globalImplicit
 lt:∀x∈gO,(aq st).names.lookup x=some .local
 mG:mg "Going"=some (.ref C)
 mi:mg "min"=none
 ml:mg "list"=none
 mn:mg "len"=none
 mt:∃tu,mg "MOST_CHANGES"=some (.int T.top tu)
section
variable{P:Program}{w:World}{K:QQq}{mg:QZz}{base:Heap}
def uY(P:Program)(w:World)(K:QQq)(mg:QZz)(base:Heap)(k:Nat)(c:Cf)(x:Str)(ix ar:Nat):Prop:=
 ∃f fd ps,cD P w K mg base gw k f fd ps (cL K ar (c.fn ix))/\Binds K fd ps []/\mg x=some (.ref f)/\PySem.W.keepIn K (.ref f)=true
theorem Q4{c:Cf}{k:Nat}{fd:FuncData}(cl:ql K C)(bd:VM K C "due" g)(na:Qs K C)
  (F:cD P w K mg base gw k f fd ps (K7 K C T.top (cL K 3 (c.fn T.chk)) (cL K 3 (c.fn T.isn)) (Gd K c T.mz (cL K 1 (c.fn T.fst)) (cL K 3 (c.fn T.stp)) (cL K 3 (c.fn T.snw)))
   (vK K C g (qy K) (cL K 4 (c.fn T.led)) (cL K 3 (c.fn T.stp)) (cL K 3 (c.fn T.snw))) (Ge K))):cD P w K mg base gw k f fd ps (cL K 4 (eV T c)):=by
 refine F.imp fun vs H Q E h=>?_
 obtain⟨sl,hl,S,no,h⟩:=h
 have hf:eV T c sl≠ .bad:=fun z=>by rw[z]at h;exact h
 obtain⟨n,t,w,k,rfl⟩:∃n t w k,sl=[.val n,.val t,.val w,.val (.int k)]:=by
  unfold eV at hf
  split at hf
  ·exact⟨_,_,_,_,rfl⟩
  ·exact absurd rfl hf
 obtain⟨vn,vt,vw,vk,rfl⟩:∃a b c d,vs=[a,b,c,d]:=by
  match vs,hl with
  |[a,b,c,d],_=>exact⟨a,b,c,d,rfl⟩
 obtain⟨_,e1,dn⟩:=S.sl 0 _ rfl
 obtain⟨_,e2,dt⟩:=S.sl 1 _ rfl
 obtain⟨_,e3,dw⟩:=S.sl 2 _ rfl
 obtain⟨_,e4,dk⟩:=S.sl 3 _ rfl
 cases e1;cases e2;cases e3;cases e4
 have ek:vk=.int k:=by unfold bj at dk;exact dk
 subst ek
 have fv:∃d qs,eV T c [.val n,.val t,.val w,.val (.int k)]=.ok (.val d) qs:=by
  rw[eV]at hf⊢
  split at hf
  ·rename_i q
   rw[if_pos q]
   split at hf
   ·rename_i g hg
    exact⟨_,_,rfl⟩
   ·exact absurd rfl hf
  ·exact absurd rfl hf
 obtain⟨d,qs,fv⟩:=fv
 rw[fv]at h
 refine Q5 cl bd na dn dt dw fv fun v H' kp dv=>h v H' ⟨fun i o e=>?_,kp.pers,fun b u e _=>kp b u e,fun b e=>?_⟩ dv
 ·match i with
  |0=>cases e
  |1=>cases e
  |2=>cases e
  |3=>cases e
  |i+4=>simp at e
 ·cases q:H b with
  |none=>rfl
  |some u=>rw[kp b u q]at e;cases e
def Wn{ct:Ct}{c:Cf}{si su sc se st:Stmt}{n:Nat}(G:GoK K mg ct T C fi fu fc fe si su sc se st)(Ft:Hz K "timed" "timed" st ft fdt)(St:eN gO ["net","talk","waits","number"] (aq st))
  (hX:∀X:Cx,X.prog=P->X.w=w->X.K=K->X.mg=mg->X.base=base->X.calm=true->X.N=gb->X.env.scope=aq si->dR n X.A->jt ct X c)
  (c1:uY P w K mg base n c "check_waits" T.chk 3)(c2:uY P w K mg base n c "is_number" T.isn 3)(c3:uY P w K mg base n c "first_stand" T.fst 1)(c4:uY P w K mg base n c "steps_at" T.stp 3)(c5:uY P w K mg base n c "led_to" T.led 4)(c6:uY P w K mg base n c "since_when" T.snw 3):
  cD P w K mg base gw (n+5) ft fdt ["net","talk","waits","number"] (cL K 4 (eV T c)):=by
 obtain⟨f1,d1,p1,F1,B1,m1,k1⟩:=c1
 obtain⟨f2,d2,p2,F2,B2,m2,k2⟩:=c2
 obtain⟨f3,d3,p3,F3,B3,m3,k3⟩:=c3
 obtain⟨f4,d4,p4,F4,B4,m4,k4⟩:=c4
 obtain⟨f5,d5,p5,F5,B5,m5,k5⟩:=c5
 obtain⟨f6,d6,p6,F6,B6,m6,k6⟩:=c6
 obtain⟨fdi,Fi,Bi_⟩:=G.Mi.fu
 obtain⟨fdu,Fu,Bu⟩:=G.Mu.fu
 obtain⟨fdc,Fc,Bc⟩:=G.Mc.fu
 obtain⟨fde,Fe,Be⟩:=G.Me.fu
 have vis:∀{x qual:Str}{s:Stmt}{f:Addr}{N ps:List Str},MfK K x qual s f N ps->∀y∈N,J5 _ y:=fun M y hy=>.inl (M.lo y hy)
 have U:cD P w K mg base gw (n+1) fu fdu ["self","wire"] _:=YS Fu G.Mu.sc (vis G.Mu _ (by simp)) (vis G.Mu _ (by simp)) G.bu
 have En:cD P w K mg base gw (n+1) fe fde ["self"] _:=YM Fe G.Me.sc (vis G.Me _ (by simp)) G.be
 have le:=Nat.le_succ n
 have Ch:=Y7 Fc G.Mc.sc G.Mc.lo G.gc G.cl G.bd U Bu (F5.mono le) B5 m5 k5 (F4.mono le) B4 m4 k4 (F6.mono le) B6 m6 k6 G.mi G.ml G.bc
 have In:=Yb Fi G.Mi.sc G.Mi.lo G.gi F3 B3 m3 k3 F4 B4 m4 k4 F6 B6 m6 k6 hX G.bi
 refine Q4 G.cl G.bd G.na ?_
 obtain⟨tu,mt⟩:=G.mt
 have l3:=Nat.le_add_right n 3
 have l1:n+1<=n+3:=Nat.add_le_add_left (by decide) n
 exact Wm Ft St G.lt G.gt G.cl G.mk_ G.mc G.me (F1.mono l3) B1 m1 k1 (F2.mono l3) B2 m2 k2 (In.mono l1) Bi_ G.mG Ch Bc (En.mono l1) Be mt G.mn G.bt
end
def pJ(ds:List Df)(gB:List Str)(vals:List D)(t:Nat)(T:QH):Pg:=
 {fns:=(ds.take t).map fun d=>(fnOf ds gB d).getD {pars:=0,names:=0,body:=.nil},gl:=fun k=>vals[k]?,turns:=1000,pf:=fun c _=>eV T c}
def uU{sc:Scope}{xs:List Str}(h:(xs.all fun x=>sc.names.lookup x==some k)=true):∀x∈xs,sc.names.lookup x=some k:=fun x hx=>by
 have:=List.all_eq_true.mp h x hx
 simpa using this
def fQ(x q:Str)(st:Stmt)(m:Value)(c:Addr):Obj:=⟨.type "function",none,.func (PySem.W.fnOf x q (dM st) (cF st) (aq st) .none .none .none m none (.ref c) .none), #[]⟩
def mfk{K:QQq}{st:Stmt}{m:Value}(l:K.lookup f=some (fQ x q st m c))(cd:PySem.W.codeIn K (.ref c) q=true)
  (b:∀(kV dc pm:Value)(an:Option Addr)(cd ct:Value)(us:List Value),us.length=ps.length->bindArgs (PySem.W.fnOf x q (dM st) (cF st) (aq st) .none kV dc pm an cd ct) ⟨us,[]⟩=pure (ps.zip us))
  (sc:Le {x:=x,st:=st,N:=N,ps:=ps,fl:=[]}=true)(lo:(N.all fun y=>(aq st).names.lookup y==some .local)=true):MfK K x q st f N ps:=
 let F:=OJ l cd (by unfold PySem.W.keepIn;dsimp only;rw[l];rfl)
 ⟨⟨_,F,F.binds b⟩,Gk sc,uU lo⟩
def Fx(ds:List Df)(t i:Nat)(x:Str)(ar:Nat):Prop:=i<t/\∃d,ds[i]? =some d/\d.x=x/\d.ps.length=ar
structure Zj(ds:List Df)(t:Nat)(T:QH):Prop where
 chk:Fx ds t T.chk "check_waits" 3
 isn:Fx ds t T.isn "is_number" 3
 fst:Fx ds t T.fst "first_stand" 1
 stp:Fx ds t T.stp "steps_at" 3
 led:Fx ds t T.led "led_to" 4
 snw:Fx ds t T.snw "since_when" 3
def Cp T c sl:eV T c sl=.bad\/sl.length=4:=by
 unfold eV
 split
 ·exact .inr rfl
 ·exact .inl rfl
section
variable{P:Program}{w:World}{K:QQq}{mg:QZz}{base:Heap}{ds:List Df}{gB:List Str}{vals:List D}{fa:Nat->Addr}{fd:Nat->FuncData}{t:Nat}{dt:Df}{T:QH}{C fi fu fc fe:Addr}{si su sc se:Stmt}{dI:Df}
theorem Mj(hfn:∀i d,ds[i]? =some d->xq K mg d (fa i) (fd i))(hsc:∀d∈ds,eN d.N d.ps (aq d.st))(HS:(ds.take t).all (fun d=>(fnOf ds gB d).isSome)=true)(hlen:ds.length=t+1)(hdt:ds[t]? =some dt)
  (hx:dt.x="timed")(hN:dt.N=gO)(hp:dt.ps=(["net","talk","waits","number"]:List Str))(hbi:∀x∈rN,mg x=none)(hgl:∀(k:Nat)x,gB[k]? =some x->∃d v u,vals[k]? =some d/\mg x=some u/\RelV v u/\∀H,bj K H d v)
  (GK:GoK K mg (Ep ds gB dI) T C fi fu fc fe si su sc se dt.st)(TK:Zj ds t T)(hI:dI.N=gb)(hIs:dI.st=si):
  ∀(n i:Nat)d,ds[i]? =some d->cD P w K mg base gw (5*n) (fa i) (fd i) d.ps (cL K d.ps.length ((pJ ds gB vals t T).fn n i)):=by
 have htr:∀i d,i<t->ds[i]? =some d->∃g,(pJ ds gB vals t T).fns[i]? =some g/\fnOf ds gB d=some g:=fun i d hi e=>by
  have e':(ds.take t)[i]? =some d:=by rw[List.getElem?_take_of_lt hi];exact e
  have hs:=List.all_eq_true.mp HS d (QBz e')
  obtain⟨g,hg⟩:=Option.isSome_iff_exists.mp hs
  refine⟨g,?_,hg⟩
  show((ds.take t).map fun d=>(fnOf ds gB d).getD {pars:=0,names:=0,body:=.nil})[i]? =some g
  rw[QFz,e']
  simp[hg]
 have hno:(pJ ds gB vals t T).fns[t]? =none:=by
  show((ds.take t).map _)[t]? =none
  rw[QFz,List.getElem?_eq_none (by rw[List.length_take];exact Nat.min_le_left _ _)]
  rfl
 have fnt:∀n,(pJ ds gB vals t T).fn (n+1) t=eV T ((pJ ds gB vals t T).cf n):=fun n=>by
  funext sl
  show(match (pJ ds gB vals t T).fns[t]? with|some g=>ir ((pJ ds gB vals t T).cf n) g sl|none=>eV T ((pJ ds gB vals t T).cf n) sl)=_
  rw[hno]
 have lt:∀i d,ds[i]? =some d->i<t\/i=t:=fun i d e=>by
  have:i<ds.length:=by
   rcases Nat.lt_or_ge i ds.length with z|z
   ·exact z
   ·rw[List.getElem?_eq_none z]at e;cases e
  omega
 have len:∀n i d,ds[i]? =some d->∀sl,(pJ ds gB vals t T).fn n i sl=.bad\/sl.length=d.ps.length:=fun n i d e sl=>by
  cases n with
  |zero=>exact .inl rfl
  |succ n=>
   rcases lt i d e with hi|rfl
   ·obtain⟨g2,hg2,ht2⟩:=htr i d hi e
    unfold fnOf at ht2
    simp only[QJz]at ht2
    obtain⟨b2,hb2,rfl⟩:=ht2
    have:(pJ ds gB vals t T).fn (n+1) i sl=ir ((pJ ds gB vals t T).cf n) {pars:=d.ps.length,names:=d.N.length,body:=b2} sl:=by
     show(match (pJ ds gB vals t T).fns[i]? with|some g=>ir ((pJ ds gB vals t T).cf n) g sl|none=>(pJ ds gB vals t T).pf ((pJ ds gB vals t T).cf n) i sl)=_
     rw[hg2]
    rw[this]
    exact Ik _ _ sl
   ·rw[hdt]at e
    cases e
    rw[fnt,hp]
    exact Cp T _ sl
 have xok:∀n d X,(∀g d2,ds[g]? =some d2->cD P w K mg base gw (5*n) (fa g) (fd g) d2.ps (cL K d2.ps.length ((pJ ds gB vals t T).fn n g)))->X.prog=P->X.w=w->X.K=K->X.mg=mg->X.base=base->X.N=d.N->X.env.scope=aq d.st->X.calm=true->d.N.Nodup->dR (5*n) X.A->jt (Ep ds gB d) X ((pJ ds gB vals t T).cf n):=fun n d X IH e1 e2 e3 e4 e5 e6 e7 e8 nd hr=>by
  subst e1 e2 e3 e4 e5
  refine⟨e6,e7,nd,e8,?_,hbi,fun k x hk=>?_,fun g x fl hk=>?_⟩
  ·have:=hr.un
   omega
  ·obtain⟨dd,v,u,h1,h2,h3,h4⟩:=hgl k x hk
   exact⟨dd,h1,v,u,h2,h3,h4⟩
  ·have hk':(ds.map fun d=>(d.x,d.fl))[g]? =some (x,fl):=hk
   rw[QFz]at hk'
   cases q:ds[g]? with
   |none=>rw[q]at hk';cases hk'
   |some d2=>
    rw[q]at hk'
    obtain⟨rfl,rfl⟩:=hk'
    have D2:=hfn g d2 q
    exact⟨5*n,fa g,fd g,d2.ps,IH g d2 q,hr,D2.at_,D2.fu.kp,D2.bi,len n g d2 q⟩
 intro n
 induction n with
 |zero=>
  intro i d e
  have no:∀vs H Q E,¬cL K d.ps.length ((pJ ds gB vals t T).fn 0 i) vs H Q E:=fun vs H Q E h=>by
   obtain⟨_,_,_,_,z⟩:=h
   exact z
  exact⟨fun vs H Q E h=>absurd h (no vs H Q E),fun A outer s H args us vs Q E _ _ _ _ h=>absurd h (no vs H Q E)⟩
 |succ n IH=>
  intro i d e
  have D:=hfn i d e
  have S:=hsc d (QBz e)
  rcases lt i d e with hi|rfl
  ·obtain⟨g,hg,ht⟩:=htr i d hi e
   unfold fnOf at ht
   simp only[QJz]at ht
   obtain⟨b,hb,rfl⟩:=ht
   have hp:(pJ ds gB vals t T).fn (n+1) i=ir ((pJ ds gB vals t T).cf n) {pars:=d.ps.length,names:=d.N.length,body:=b}:=by
    funext sl
    show(match (pJ ds gB vals t T).fns[i]? with|some g=>ir ((pJ ds gB vals t T).cf n) g sl|none=>(pJ ds gB vals t T).pf ((pJ ds gB vals t T).cf n) i sl)=_
    rw[hg]
   rw[hp]
   refine cD.mono (j:=5*n+1) ?_ (by omega)
   refine TQ D.fu S rfl rfl fun cdv A outer s H E hr=>?_
   exact(ihS _ 60).ss (Ep ds gB d) _ W0 _ b (xok n d _ IH rfl rfl rfl rfl rfl rfl rfl rfl S.nd hr) (.plain (fun _=>rfl) PassesOwn.never rfl) hb
  ·rw[hdt]at e
   cases e
   have cal:∀{j:Nat}{x:Str}{ar:Nat},Fx ds i j x ar->uY P w K mg base (5*n) ((pJ ds gB vals i T).cf n) x j ar:=fun⟨_,d2,e2,ex,ea⟩=>by
    have D2:=hfn _ d2 e2
    have F2:=IH _ d2 e2
    rw[ea]at F2
    exact⟨_,_,_,F2,D2.bi,ex▸D2.at_,D2.fu.kp⟩
   have Fu_:=D.fu
   rw[hx]at Fu_
   rw[hN,hp]at S
   rw[fnt,hp]
   exact Wn GK Fu_ S (fun X e1 e2 e3 e4 e5 e6 e7 e8 hr=>xok n dI X IH e1 e2 e3 e4 e5 (by rw[hI];exact e7) (by rw[hIs];exact e8) e6 (by rw[hI];decide) hr) (cal TK.chk) (cal TK.isn) (cal TK.fst) (cal TK.stp) (cal TK.led) (cal TK.snw)
end
section
variable{K:QQq}{h:Heap}{mg:QZz}
def Qh{l:PySem.W.OpenLaw}{w:World}{ds:List Df}{vals:List D}{dL dt dI:Df}{T:QH}{si su sc se:Stmt}(X:K.In h)(G:h.Ns mainGlobals mg)(hfa:mg "law"=some (.ref fa))(hx:dL.x="law")(hy:dL.ps=[y])(hL:ds[L]? =some dL)(b:HD ds)
  (scp:ds.all Le=true)(HS:(ds.take t).all (fun d=>(fnOf ds gB d).isSome)=true)(A:AllIn K (ds.map fun d=>(d.x,d.st)))(B:za K gB vals)(Z:Qz K rN)
  (hlen:ds.length=t+1)(hdt:ds[t]? =some dt)(hx':dt.x="timed")(hN:dt.N=gO)(hp:dt.ps=(["net","talk","waits","number"]:List Str))
  (GK:GoK K mg (Ep ds gB dI) T C fi fu fc fe si su sc se dt.st)(TK:Zj ds t T)(hI:dI.N=gb)(hIs:dI.st=si):
  ∃fd:FuncData,(∀(s:Shared)(v:Value),BindsTo s fd ⟨[v],[]⟩ [(y,v)])/\∀base:Heap,K.In base->base.Ns mainGlobals mg->cD l.prog w K mg base gw (5*n) fa fd [y] (cL K 1 ((pJ ds gB vals t T).fn n L)):=by
 obtain⟨fs,A,CC⟩:=Qk X G ds b A
 obtain⟨q,e1,e2,e3⟩:=CC L dL hL
 have e:=hfa.symm.trans (hx▸e2.at_)
 cases e
 refine⟨q.2,fun s v=>?_,fun base _ _=>?_⟩
 ·have:=e3 s [v] (by rw[hy];rfl)
  rw[hy]at this
  exact this
 ·have z1:∀(i:Nat)d,ds[i]? =some d->xq K mg d (((fs[i]?).map (·.1)).getD 0) (((fs[i]?).map (·.2)).getD q.2):=fun i d e=>by
   obtain⟨q,e1,e2⟩:=A.at i d e
   simp only[e1,Option.map_some,Option.getD_some]
   exact e2
  have z3:∀k x,gB[k]? =some x->∃d v u,vals[k]? =some d/\mg x=some u/\RelV v u/\∀H,bj K H d v:=fun k x e=>by
   obtain⟨dd,e1,v,u,z1,z2,z3⟩:=(Qj X G gB vals B).at k x e
   exact⟨dd,v,u,e1,z1,z2,z3⟩
  have Z:=Mj (P:=l.prog) (w:=w) (base:=base)
   z1 (fun d hd=>Gk (List.all_eq_true.mp scp d hd)) HS hlen hdt hx' hN hp (Qi X G _ Z) z3 GK TK hI hIs n L dL hL
  simp only[e1,Option.map_some,Option.getD_some]at Z
  rw[hy]at Z
  exact Z
end
def HJ{l:PySem.W.OpenLaw}{loose:List Str}{YP:World->Heap->Prop}{K:Params->QQq}{p:Pg}{L:Nat}(hn:l.most=some 63)(hdf:d.params.defaults=[])
  (hY:∀(w:World)(h:Heap),YP w h->(K w.params).In h)(math:∀ns:List Int,ns.length<=63->∃qs,p.fn 40 L [.val (.lst (ns.map D.int))]=.ok (.val (.bl true)) qs)
  (F:∀(w:World)(mg:QZz)(fa:Addr)(h:Heap),(K w.params).In h->h.Ns mainGlobals mg->mg d.name=some (.ref fa)->
   ∃fd:FuncData,(∀(s:Shared)(u:Value),BindsTo s fd ⟨[u],[]⟩ [(y,u)])/\∀base:Heap,(K w.params).In base->base.Ns mainGlobals mg->cD l.prog w (K w.params) mg base gw (5*40) fa fd [y] (cL (K w.params) 1 (p.fn 40 L))):
  PySem.W.WalkO q loose XP YP l.row.toRowW d [] (fun f vs=>PySem.call f vs):=
 L2.QK hn (by decide) hdf ⟨rfl,by decide,by decide⟩ hY F (fun _ _ a ns hl hO hS=>WN hO hS (math ns hl) _) fun _ _ _ _ _ z=>z
end Mini
end
section
namespace Tx
open PySem L2 Mini
abbrev d0:Df:=cM "checked" s0 [false]
abbrev d1:Df:=cM "is_net" s1 [false]
abbrev d2:Df:=cM "has_parts" s2 [false]
abbrev d3:Df:=cM "is_tuple" s3 [false,false,false]
abbrev d4:Df:=cM "is_number" s4 [false,false,false]
abbrev d5:Df:=cM "is_name" s5 [false]
abbrev d6:Df:=cM "are_unlike" s6 [false]
abbrev d7:Df:=cM "is_row" s7 [false,false]
abbrev d8:Df:=cM "is_wire" s8 [false,false]
abbrev d9:Df:=cM "are_wires" s9 [false,false,false,false]
abbrev d10:Df:=cM "are_rows" Rp [false,false]
abbrev d11:Df:=cM "is_kind" BW [false,false,false]
abbrev d12:Df:=cM "is_held" s12 [false,false,false]
abbrev d13:Df:=cM "wire_names" Ii [false]
abbrev d14:Df:=cM "waiting_gates" s14 [false,false]
abbrev d15:Df:=cM "told" s15 [false,false,false]
abbrev d16:Df:=cM "told_held" s16 [false,false,false]
abbrev d17:Df:=cM "checked_talk" s17 [false,false]
abbrev d18:Df:=cM "is_talk" s18 [false,false]
abbrev d19:Df:=cM "is_state" s19 [false,false,false]
abbrev d20:Df:=cM "first_stand" s20 [false]
abbrev d21:Df:=cM "steps_at" s21 [false,false,false]
abbrev d22:Df:=cM "is_unasked" s22 [false,false,false]
abbrev d23:Df:=cM "led_to" s23 [false,false,false,false]
abbrev d24:Df:=cM "changed" s24 [false,false,false]
abbrev d25:Df:=cM "check_waits" s25 [false,false,false]
abbrev d26:Df:=cM "since_when" s26 [false,false,false]
abbrev d27:Df:=cM "_law_cell_at" s27 [false,false]
abbrev d28:Df:=cM "_law_mixed" s28 [false,false,false]
abbrev d29:Df:=cM "_law_next" s29 [false,true,false]
abbrev d30:Df:=cM "_law_some" s30 [false,true,false,false,false]
abbrev d31:Df:=cM "_law_table" s31 [false,true,false]
abbrev d32:Df:=cM "_law_kind" s32 [false,true,false,false]
abbrev d33:Df:=cM "_law_net" s33 [false,true,false,false]
abbrev d34:Df:=cM "_law_talk" s34 [false,true,false,false]
abbrev d35:Df:=cM "_law_ring" s35 [false,true]
abbrev d36:Df:=cM "_law_chain" s36 [false,true]
abbrev d37:Df:=cM "_law_meeting" s37 [false,true]
abbrev d38:Df:=cM "_law_spoilt_kind" s38 [false,true,false]
abbrev d39:Df:=cM "_law_case" s39 [false,false]
abbrev d40:Df:=cM "_law_names" s40 [false]
abbrev d41:Df:=cM "_law_tells" s41 [false,false,false]
abbrev d42:Df:=cM "_law_waiting" s42 [false,false]
abbrev d43:Df:=cM "_law_steps" s43 [false,false,false]
abbrev d44:Df:=cM "_law_led" s44 [false,false,false,false]
abbrev d45:Df:=cM "_law_timed" s45 [false,false,false,false]
abbrev d46:Df:=cM "law" s46 [false]
abbrev d47:Df:=cM "timed" s47 [false,false,false,false]
abbrev dI:Df:={x:="__init__",st:=s90,N:=gb,ps:=gb,fl:=[]}
def ds:List Df:=[d0,d1,d2,d3,d4,d5,d6,d7,d8,d9,d10,d11,d12,d13,d14,d15,d16,d17,d18,d19,d20,d21,d22,d23,d24,d25,d26,d27,d28,d29,d30,d31,d32,d33,d34,d35,d36,d37,d38,d39,d40,d41,d42,d43,d44,d45,d46,d47]
def gB:List Str:=["LETTERS","LONGEST_NAME","WORDS","MOST_INPUTS","MOST_GATES","MOST_WIRES","MOST_TABLE_WIRES","DEEPEST_HELD","MOST_STATES","LONGEST_WAIT","MOST_CHANGES"]
noncomputable def vals:List D:=[.str "abcdefghijklmnopqrstuvwxyz",.int 6,.tup [.str "input",.str "gate",.str "start",.str "out",.str "state",.str "same",.str "not",.str "and",.str "or",.str "both",.str "held",.str "table",.str "on",.str "off"],.int 3,.int 5,.int 4,.int 8,.int 3,.int 12,.int 99,.int 200]
def tx:QH:=⟨25,4,20,21,23,26,.bi .dict (.zip (.call 13 AAi) (.var 3)),200⟩
def pg:Pg:=pJ ds gB vals 47 tx
def scp:ds.all Le=true:=by decide+kernel
def HS:(ds.take 47).all (fun d=>(fnOf ds gB d).isSome)=true:=by decide+kernel
def bd:HD ds:=⟨fun _ _ _ _ _ _ us hl=>by obtain⟨_,rfl⟩:=rm hl;rfl,fun _ _ _ _ _ _ us hl=>by obtain⟨_,rfl⟩:=rm hl;rfl,fun _ _ _ _ _ _ us hl=>by obtain⟨_,rfl⟩:=rm hl;rfl,fun _ _ _ _ _ _ us hl=>by obtain⟨_,_,_,rfl⟩:=jH hl;rfl,fun _ _ _ _ _ _ us hl=>by obtain⟨_,_,_,rfl⟩:=jH hl;rfl,fun _ _ _ _ _ _ us hl=>by obtain⟨_,rfl⟩:=rm hl;rfl,fun _ _ _ _ _ _ us hl=>by obtain⟨_,rfl⟩:=rm hl;rfl,fun _ _ _ _ _ _ us hl=>by obtain⟨_,_,rfl⟩:=oN hl;rfl,fun _ _ _ _ _ _ us hl=>by obtain⟨_,_,rfl⟩:=oN hl;rfl,fun _ _ _ _ _ _ us hl=>by obtain⟨_,_,_,_,rfl⟩:=vy hl;rfl,fun _ _ _ _ _ _ us hl=>by obtain⟨_,_,rfl⟩:=oN hl;rfl,fun _ _ _ _ _ _ us hl=>by obtain⟨_,_,_,rfl⟩:=jH hl;rfl,fun _ _ _ _ _ _ us hl=>by obtain⟨_,_,_,rfl⟩:=jH hl;rfl,fun _ _ _ _ _ _ us hl=>by obtain⟨_,rfl⟩:=rm hl;rfl,fun _ _ _ _ _ _ us hl=>by obtain⟨_,_,rfl⟩:=oN hl;rfl,fun _ _ _ _ _ _ us hl=>by obtain⟨_,_,_,rfl⟩:=jH hl;rfl,fun _ _ _ _ _ _ us hl=>by obtain⟨_,_,_,rfl⟩:=jH hl;rfl,fun _ _ _ _ _ _ us hl=>by obtain⟨_,_,rfl⟩:=oN hl;rfl,fun _ _ _ _ _ _ us hl=>by obtain⟨_,_,rfl⟩:=oN hl;rfl,fun _ _ _ _ _ _ us hl=>by obtain⟨_,_,_,rfl⟩:=jH hl;rfl,fun _ _ _ _ _ _ us hl=>by obtain⟨_,rfl⟩:=rm hl;rfl,fun _ _ _ _ _ _ us hl=>by obtain⟨_,_,_,rfl⟩:=jH hl;rfl,fun _ _ _ _ _ _ us hl=>by obtain⟨_,_,_,rfl⟩:=jH hl;rfl,fun _ _ _ _ _ _ us hl=>by obtain⟨_,_,_,_,rfl⟩:=vy hl;rfl,fun _ _ _ _ _ _ us hl=>by obtain⟨_,_,_,rfl⟩:=jH hl;rfl,fun _ _ _ _ _ _ us hl=>by obtain⟨_,_,_,rfl⟩:=jH hl;rfl,fun _ _ _ _ _ _ us hl=>by obtain⟨_,_,_,rfl⟩:=jH hl;rfl,fun _ _ _ _ _ _ us hl=>by obtain⟨_,_,rfl⟩:=oN hl;rfl,fun _ _ _ _ _ _ us hl=>by obtain⟨_,_,_,rfl⟩:=jH hl;rfl,fun _ _ _ _ _ _ us hl=>by obtain⟨_,_,_,rfl⟩:=jH hl;rfl,fun _ _ _ _ _ _ us hl=>by obtain⟨_,_,_,_,_,rfl⟩:=ae0 hl;rfl,fun _ _ _ _ _ _ us hl=>by obtain⟨_,_,_,rfl⟩:=jH hl;rfl,fun _ _ _ _ _ _ us hl=>by obtain⟨_,_,_,_,rfl⟩:=vy hl;rfl,fun _ _ _ _ _ _ us hl=>by obtain⟨_,_,_,_,rfl⟩:=vy hl;rfl,fun _ _ _ _ _ _ us hl=>by obtain⟨_,_,_,_,rfl⟩:=vy hl;rfl,fun _ _ _ _ _ _ us hl=>by obtain⟨_,_,rfl⟩:=oN hl;rfl,fun _ _ _ _ _ _ us hl=>by obtain⟨_,_,rfl⟩:=oN hl;rfl,fun _ _ _ _ _ _ us hl=>by obtain⟨_,_,rfl⟩:=oN hl;rfl,fun _ _ _ _ _ _ us hl=>by obtain⟨_,_,_,rfl⟩:=jH hl;rfl,fun _ _ _ _ _ _ us hl=>by obtain⟨_,_,rfl⟩:=oN hl;rfl,fun _ _ _ _ _ _ us hl=>by obtain⟨_,rfl⟩:=rm hl;rfl,fun _ _ _ _ _ _ us hl=>by obtain⟨_,_,_,rfl⟩:=jH hl;rfl,fun _ _ _ _ _ _ us hl=>by obtain⟨_,_,rfl⟩:=oN hl;rfl,fun _ _ _ _ _ _ us hl=>by obtain⟨_,_,_,rfl⟩:=jH hl;rfl,fun _ _ _ _ _ _ us hl=>by obtain⟨_,_,_,_,rfl⟩:=vy hl;rfl,fun _ _ _ _ _ _ us hl=>by obtain⟨_,_,_,_,rfl⟩:=vy hl;rfl,fun _ _ _ _ _ _ us hl=>by obtain⟨_,rfl⟩:=rm hl;rfl,fun _ _ _ _ _ _ us hl=>by obtain⟨_,_,_,_,rfl⟩:=vy hl;rfl,trivial⟩
noncomputable def nms:List (Str×Stmt):=("checked",s0)::("is_net",s1)::("has_parts",s2)::("is_tuple",s3)::("is_number",s4)::("is_name",s5)::("are_unlike",s6)::("is_row",s7)::("is_wire",s8)::("are_wires",s9)::("are_rows",Rp)::("is_kind",BW)::("is_held",s12)::("wire_names",Ii)::("waiting_gates",s14)::("told",s15)::("told_held",s16)::("checked_talk",s17)::("is_talk",s18)::("is_state",s19)::("first_stand",s20)::("steps_at",s21)::("is_unasked",s22)::("led_to",s23)::("changed",s24)::("check_waits",s25)::("since_when",s26)::("_law_cell_at",s27)::("_law_mixed",s28)::("_law_next",s29)::("_law_some",s30)::("_law_table",s31)::("_law_kind",s32)::("_law_net",s33)::("_law_talk",s34)::("_law_ring",s35)::("_law_chain",s36)::("_law_meeting",s37)::("_law_spoilt_kind",s38)::("_law_case",s39)::("_law_names",s40)::("_law_tells",s41)::("_law_waiting",s42)::("_law_steps",s43)::("_law_led",s44)::("_law_timed",s45)::("law",s46)::("timed",s47)::[]
end Tx
end
section
open PySem
section
open Mini
namespace Tx
def dF{n i:Nat}{g:Fn}{ps us:List Sl}(h:pg.fns[i]? =some g:=by kernel_rfl)(e:us=ps++List.replicate (g.names-g.pars) .un:=by rfl)(l:ps.length=g.pars:=by rfl):pg.fn (n+1) i ps=fin g.pars (ex (pg.cf n) g.body us):=by
 subst e
 refine Eq.trans ?_ (Rq _ _ _ l)
 show(match pg.fns[i]? with|some g=>ir (pg.cf n) g ps|none=>pg.pf (pg.cf n) i ps)=_
 rw[h]
def qL(k:Nat):Fn:=(pg.fns[k]?).getD ⟨0,0,.nil⟩
def eU{n i p k:Nat}{ps:List Sl}(h:(pg.fns[i]?).isSome=true:=by kernel_rfl)(hp:(qL i).pars=p:=by kernel_rfl)(hk:(qL i).names-p=k:=by kernel_rfl)(l:ps.length=p:=by rfl):pg.fn (n+1) i ps=fin p (ex (pg.cf n) (qL i).body (ps++List.replicate k .un)):=by
 subst hp hk
 refine dF ?_ rfl l
 unfold qL
 obtain⟨g,e⟩:=Option.isSome_iff_exists.mp h
 rw[e]
 rfl
noncomputable def qi:Fn:=⟨1,1,(.cons (.ite (.not (.call 1 AAS)) ABt .nil) (.cons (.ret (.var 0)) .nil))⟩
def Iz(n:Nat)(p0:Sl):pg.fn (n+1) 0 [p0]=fin 1 (ex (pg.cf n) qi.body [p0]):=dF (g:=qi)
noncomputable def By:Fn:=qL 1
def LK(n:Nat)(p0:Sl):pg.fn (n+1) 1 [p0]=fin 1 (ex (pg.cf n) By.body [p0,.un]):=eU (p:=1) (k:=1)
noncomputable def qW:Fn:=qL 2
def z7(n:Nat)(p0:Sl):pg.fn (n+1) 2 [p0]=fin 1 (ex (pg.cf n) qW.body [p0]):=eU (p:=1) (k:=0)
noncomputable def jR:Fn:=⟨3,3,(.cons (.ret (.and (.cons (.isi (.var 0) .tup) (.cons (.chain .le .le (.var 1) ABl (.var 2)) .nil)))) .nil)⟩
def sW(n:Nat)(p0 p1 p2:Sl):pg.fn (n+1) 3 [p0,p1,p2]=fin 3 (ex (pg.cf n) jR.body [p0,p1,p2]):=dF (g:=jR)
noncomputable def iU:Fn:=⟨3,3,(.cons (.ret (.and (.cons (.isi (.var 0) .int) (.cons (.not (.isi (.var 0) .bool)) (.cons (.chain .le .le (.var 1) (.var 0) (.var 2)) .nil))))) .nil)⟩
def qC(n:Nat)(p0 p1 p2:Sl):pg.fn (n+1) 4 [p0,p1,p2]=fin 3 (ex (pg.cf n) iU.body [p0,p1,p2]):=dF (g:=iU)
noncomputable def o9:Fn:=qL 6
def xQ(n:Nat)(p0:Sl):pg.fn (n+1) 6 [p0]=fin 1 (ex (pg.cf n) o9.body [p0]):=eU (p:=1) (k:=0)
noncomputable def Bx:Fn:=qL 7
def LC(n:Nat)(p0 p1:Sl):pg.fn (n+1) 7 [p0,p1]=fin 2 (ex (pg.cf n) Bx.body [p0,p1]):=eU (p:=2) (k:=0)
noncomputable def qe:Fn:=⟨2,2,(.cons (.ret (.and (.cons (.isi (.var 0) .str) (.cons (.cmp .isin (.var 0) (.var 1)) .nil)))) .nil)⟩
def Iu(n:Nat)(p0 p1:Sl):pg.fn (n+1) 8 [p0,p1]=fin 2 (ex (pg.cf n) qe.body [p0,p1]):=dF (g:=qe)
noncomputable def qX:Fn:=qL 9
def z8(n:Nat)(p0 p1 p2 p3:Sl):pg.fn (n+1) 9 [p0,p1,p2,p3]=fin 4 (ex (pg.cf n) qX.body [p0,p1,p2,p3]):=eU (p:=4) (k:=0)
noncomputable def uQ:Fn:=qL 10
def De(n:Nat)(p0 p1:Sl):pg.fn (n+1) 10 [p0,p1]=fin 2 (ex (pg.cf n) uQ.body [p0,p1]):=eU (p:=2) (k:=0)
noncomputable def eF:Fn:=⟨3,5,(.cons (.ite (.or (.cons (.not (.call 3 (.cons (.var 0) (.cons AAP AAv)))) (.cons (.not (.isi AAH .str)) .nil))) AAQ .nil) (.cons (.set 3 AAH) (.cons (.set 4 ABl) (.cons (.ite (.cmp .isin (.var 3) (.tup AAX)) (.cons (.ret (.and (.cons ABv (.cons (.call 8 (.cons AAb AAi)) .nil)))) .nil) .nil) (.cons (.ite (.cmp .isin (.var 3) (.tup (.cons AAy (.cons ABK .nil)))) (.cons (.ret (.and (.cons ABv (.cons (.call 9 (.cons AAb (.cons (.var 1) (.cons AAG (.cons (.glob 5) .nil))))) .nil)))) .nil) .nil) (.cons (.ite (.cmp .eq (.var 3) ABL) (.cons (.ret (.and (.cons ABv (.cons (.call 9 (.cons AAb (.cons (.var 1) (.cons AAP (.cons (.glob 5) .nil))))) .nil)))) .nil) .nil) (.cons (.ite ABw (.cons (.ret (.and (.cons (.cmp .eq (.var 4) AAT) (.cons (.call 9 (.cons AAb (.cons (.var 1) (.cons AAG (.cons (.glob 6) .nil))))) (.cons (.call 10 (.cons AAf (.cons (.bi .len AAb) .nil))) .nil))))) .nil) .nil) (.cons (.ite ABx (.cons (.ret (.and (.cons (.cmp .eq (.var 4) (.con (.int 4))) (.cons (.cmp .lt (.var 2) (.glob 7)) (.cons (.call 12 (.cons (.var 0) (.cons (.var 1) ACL))) .nil))))) .nil) .nil) AAQ))))))))⟩
def gk(n:Nat)(p0 p1 p2:Sl):pg.fn (n+1) 11 [p0,p1,p2]=fin 3 (ex (pg.cf n) eF.body [p0,p1,p2,.un,.un]):=dF (g:=eF)
noncomputable def qg:Fn:=⟨3,3,(.cons (.ret (.and (.cons (.call 11 (.cons AAb AAV)) (.cons (.call 8 (.cons AAf AAi)) (.cons (.isi (.idx (.var 0) AAT) .bool) .nil))))) .nil)⟩
def Iw(n:Nat)(p0 p1 p2:Sl):pg.fn (n+1) 12 [p0,p1,p2]=fin 3 (ex (pg.cf n) qg.body [p0,p1,p2]):=dF (g:=qg)
noncomputable def o6:Fn:=qL 13
def n6(n:Nat)(p0:Sl):pg.fn (n+1) 13 [p0]=fin 1 (ex (pg.cf n) o6.body [p0]):=eU (p:=1) (k:=0)
noncomputable def j0:Fn:=qL 14
def q8(n:Nat)(p0 p1:Sl):pg.fn (n+1) 14 [p0,p1]=fin 2 (ex (pg.cf n) j0.body [p0,p1,.un]):=eU (p:=2) (k:=1)
noncomputable def Fg:Fn:=⟨3,5,(.cons (.set 3 AAH) (.cons (.ite (.cmp .eq (.var 3) AAu) (.cons (.ret ABf) .nil) .nil) (.cons (.ite (.cmp .eq (.var 3) ABj) (.cons (.ret (.not ABf)) .nil) .nil) (.cons (.ite ABx ABi .nil) (.cons (.set 4 (.bi .tuple (.comp 1 (.name 0) AAb AAL (.idx (.var 3) (.var 0))))) (.cons (.ite (.cmp .eq (.var 3) AAy) ACH .nil) (.cons (.ite (.cmp .eq (.var 3) ABK) ACG .nil) (.cons (.ite ABw ABq .nil) AAl))))))))⟩
def nC(n:Nat)(p0 p1 p2:Sl):pg.fn (n+1) 15 [p0,p1,p2]=fin 3 (ex (pg.cf n) Fg.body [p0,p1,p2,.un,.un]):=dF (g:=Fg)
noncomputable def lF:Fn:=⟨3,5,(.cons (.set 3 (.call 15 (.cons AAb AAV))) (.cons (.set 4 (.cmp .eq (.idx (.var 2) AAf) (.var 3))) (.cons (.ret (.ite (.cmp .eq (.var 4) (.idx (.var 0) AAT)) (.var 3) (.var 1))) .nil)))⟩
def zU(n:Nat)(p0 p1 p2:Sl):pg.fn (n+1) 16 [p0,p1,p2]=fin 3 (ex (pg.cf n) lF.body [p0,p1,p2,.un,.un]):=dF (g:=lF)
noncomputable def iC:Fn:=⟨2,2,(.cons (.ite (.not (.call 18 (.cons (.call 0 AAS) AAi))) ABt .nil) (.cons (.ret (.var 1)) .nil))⟩
def sX(n:Nat)(p0 p1:Sl):pg.fn (n+1) 17 [p0,p1]=fin 2 (ex (pg.cf n) iC.body [p0,p1]):=dF (g:=iC)
noncomputable def xm:Fn:=qL 18
def Iv(n:Nat)(p0 p1:Sl):pg.fn (n+1) 18 [p0,p1]=fin 2 (ex (pg.cf n) xm.body [p0,p1,.un,.un]):=eU (p:=2) (k:=2)
noncomputable def uP:Fn:=qL 19
def Dd(n:Nat)(p0 p1 p2:Sl):pg.fn (n+1) 19 [p0,p1,p2]=fin 3 (ex (pg.cf n) uP.body [p0,p1,p2]):=eU (p:=3) (k:=0)
noncomputable def jd:Fn:=⟨1,1,(.cons (.ret (.tup (.cons AAf ABQ))) .nil)⟩
def vg(n:Nat)(p0:Sl):pg.fn (n+1) 20 [p0]=fin 1 (ex (pg.cf n) jd.body [p0]):=dF (g:=jd)
noncomputable def uM:Fn:=qL 21
def CT(n:Nat)(p0 p1 p2:Sl):pg.fn (n+1) 21 [p0,p1,p2]=fin 3 (ex (pg.cf n) uM.body [p0,p1,p2,.un]):=eU (p:=3) (k:=1)
noncomputable def jQ:Fn:=⟨3,3,(.cons (.ret (.and (.cons (.cmp .isin (.var 2) AAH) (.cons (.cmp .notin (.var 2) (.bi .dict (.idx AAb AAr))) .nil)))) .nil)⟩
def xP(n:Nat)(p0 p1 p2:Sl):pg.fn (n+1) 22 [p0,p1,p2]=fin 3 (ex (pg.cf n) jQ.body [p0,p1,p2]):=dF (g:=jQ)
noncomputable def o8:Fn:=⟨4,5,(.cons (.ite (.call 22 (.cons (.var 1) (.cons (.var 2) AAg))) (.cons ABm .nil) .nil) (.cons (.set 4 (.bi .dict ACI)) (.cons (.ret (.tup (.cons (.call 24 (.cons (.var 0) (.cons AAZ AAg))) (.cons (.get2 (.var 4) (.var 3) AAe) .nil)))) .nil)))⟩
def Lz(n:Nat)(p0 p1 p2 p3:Sl):pg.fn (n+1) 23 [p0,p1,p2,p3]=fin 4 (ex (pg.cf n) o8.body [p0,p1,p2,p3,.un]):=dF (g:=o8)
noncomputable def xn:Fn:=qL 24
def IK(n:Nat)(p0 p1 p2:Sl):pg.fn (n+1) 24 [p0,p1,p2]=fin 3 (ex (pg.cf n) xn.body [p0,p1,p2]):=eU (p:=3) (k:=0)
noncomputable def m7:Fn:=qL 25
def vm(n:Nat)(p0 p1 p2:Sl):pg.fn (n+1) 25 [p0,p1,p2]=fin 3 (ex (pg.cf n) m7.body [p0,p1,p2,.un]):=eU (p:=3) (k:=1)
noncomputable def o7:Fn:=qL 26
def xO(n:Nat)(p0 p1 p2:Sl):pg.fn (n+1) 26 [p0,p1,p2]=fin 3 (ex (pg.cf n) o7.body [p0,p1,p2]):=eU (p:=3) (k:=0)
noncomputable def fH:Fn:=⟨2,2,(.cons (.ite (.cmp .lt (.var 1) ABl) (.cons (.ret (.idx (.var 0) (.var 1))) .nil) .nil) (.cons (.ite (.cmp .eq (.var 0) ABs) (.cons (.ret AAd) .nil) .nil) (.cons (.ret (.op .add (.op .mul (.idx (.var 0) (.op .mod (.var 1) ABl)) (.con (.int 31))) (.var 1))) .nil)))⟩
def jb(n:Nat)(p0 p1:Sl):pg.fn (n+1) 27 [p0,p1]=fin 2 (ex (pg.cf n) fH.body [p0,p1]):=dF (g:=fH)
noncomputable def lJ:Fn:=⟨3,4,(.cons (.set 3 (.op .mod (.op .mul (.op .add (.op .add (.call 27 (.cons (.var 0) AAi)) (.op .mul (.con (.int 7919)) (.var 1))) AAG) (.con (.int 48271))) (.con (.int 2147483647)))) (.cons (.ret (.op .mod (.op .mod (.op .add (.op .add (.op .mul (.var 3) (.var 3)) (.op .mul (.con (.int 7)) (.var 3))) (.var 1)) (.con (.int 2147483629))) (.var 2))) .nil))⟩
def zZ(n:Nat)(p0 p1 p2:Sl):pg.fn (n+1) 28 [p0,p1,p2]=fin 3 (ex (pg.cf n) lJ.body [p0,p1,p2,.un]):=dF (g:=lJ)
noncomputable def nM:Fn:=⟨3,3,(.cons (.setIx 1 AAd (.op .add AAa AAG)) (.cons (.ret (.call 28 (.cons (.var 0) (.cons AAa ABb)))) .nil))⟩
def Dc(n:Nat)(p0 p1 p2:Sl):pg.fn (n+1) 29 [p0,p1,p2]=fin 3 (ex (pg.cf n) nM.body [p0,p1,p2]):=dF (g:=nM)
noncomputable def nJ:Fn:=⟨5,6,(.cons (.set 5 (.bi .list (.var 2))) (.cons (.while_ AAo AAt) (.cons (.ret ABc) .nil)))⟩
def CW(n:Nat)(p0 p1 p2 p3 p4:Sl):pg.fn (n+1) 30 [p0,p1,p2,p3,p4]=fin 5 (ex (pg.cf n) nJ.body [p0,p1,p2,p3,p4,.un]):=dF (g:=nJ)
noncomputable def lH:Fn:=⟨3,6,(.cons (.set 3 (.call 30 (.cons (.var 0) (.cons (.ref 1) (.cons (.var 2) (.cons AAG AAz)))))) (.cons (.set 4 (.lis (.cons (.tup .nil) .nil))) (.cons (.for_ (.name 5) (.var 3) (.cons (.set 4 (.op .add (.comp 1 (.name 0) (.var 4) AAL (.op .add (.var 0) (.tup (.cons (.con (.bl false)) .nil)))) (.comp 1 (.name 0) (.var 4) AAL (.op .add (.var 0) (.tup (.cons AAL .nil)))))) .nil)) (.cons (.ret (.tup (.cons ABJ (.cons (.var 3) (.cons (.bi .tuple (.bi .sorted (.comp 1 (.name 0) (.var 4) ABU (.var 0)))) .nil))))) .nil))))⟩
def zW(n:Nat)(p0 p1 p2:Sl):pg.fn (n+1) 31 [p0,p1,p2]=fin 3 (ex (pg.cf n) lH.body [p0,p1,p2,.un,.un,.un]):=dF (g:=lH)
noncomputable def dY:Fn:=⟨4,6,(.cons (.set 4 (.call 29 (.cons (.var 0) (.cons (.ref 1) (.cons (.con (.int 9)) .nil))))) (.cons (.ite (.or (.cons (.cmp .lt (.var 4) (.con (.int 4))) (.cons (.cmp .lt ABk AAP) .nil))) (.cons (.ret (.tup (.cons (.idx (.lis AAX) (.op .mod (.var 4) AAP)) (.cons ABI .nil)))) .nil) .nil) (.cons (.ite (.cmp .lt (.var 4) (.con (.int 7))) (.cons (.ret (.tup (.cons (.idx (.lis (.cons AAy (.cons ABK (.cons ABL .nil)))) (.op .sub (.var 4) (.con (.int 4)))) (.cons (.call 30 (.cons (.var 0) (.cons (.ref 1) (.cons (.var 2) (.cons AAP AAz))))) .nil)))) .nil) .nil) (.cons (.ite (.or (.cons (.cmp .eq (.var 4) (.con (.int 7))) (.cons (.cmp .eq (.var 3) AAd) .nil))) (.cons (.ret (.call 31 (.cons (.var 0) (.cons (.ref 1) ABb)))) .nil) .nil) (.cons (.set 5 (.call 32 (.cons (.var 0) (.cons (.ref 1) (.cons (.var 2) ACJ))))) (.cons (.ret (.tup (.cons AAm (.cons (.var 5) (.cons ABI (.cons ABn .nil)))))) .nil))))))⟩
def jC(n:Nat)(p0 p1 p2 p3:Sl):pg.fn (n+1) 32 [p0,p1,p2,p3]=fin 4 (ex (pg.cf n) dY.body [p0,p1,p2,p3,.un,.un]):=dF (g:=dY)
noncomputable def xg:Fn:=qL 33
def Ip(n:Nat)(p0 p1 p2 p3:Sl):pg.fn (n+1) 33 [p0,p1,p2,p3]=fin 4 (ex (pg.cf n) xg.body [p0,p1,p2,p3,.un,.un,.un,.un]):=eU (p:=4) (k:=4)
noncomputable def uN:Fn:=qL 34
def CV(n:Nat)(p0 p1 p2 p3:Sl):pg.fn (n+1) 34 [p0,p1,p2,p3]=fin 4 (ex (pg.cf n) uN.body [p0,p1,p2,p3,.un,.un,.un,.un,.un]):=eU (p:=4) (k:=5)
noncomputable def uO:Fn:=qL 35
def CZ(n:Nat)(p0 p1:Sl):pg.fn (n+1) 35 [p0,p1]=fin 2 (ex (pg.cf n) uO.body [p0,p1,.un,.un,.un]):=eU (p:=2) (k:=3)
noncomputable def qU:Fn:=qL 36
def z6(n:Nat)(p0 p1:Sl):pg.fn (n+1) 36 [p0,p1]=fin 2 (ex (pg.cf n) qU.body [p0,p1,.un,.un,.un,.un,.un,.un]):=eU (p:=2) (k:=6)
noncomputable def aL:Fn:=⟨2,8,(.cons (.set 2 (.call 29 (.cons (.var 0) (.cons (.ref 1) (.cons (.con (.int 6)) .nil))))) (.cons (.set 3 (.tup (.cons (.idx (.lis (.cons ABL (.cons ABL (.cons AAy (.cons ABK (.cons ABL (.cons ABL .nil))))))) (.var 2)) (.cons (.tup (.cons AAs (.cons ABO .nil))) .nil)))) (.cons (.ite (.cmp .gt (.var 2) AAT) (.cons (.set 3 (.tup (.cons AAm (.cons (.tup (.cons AAu (.cons AAs .nil))) (.cons ABO (.cons AAL .nil)))))) .nil) .nil) (.cons (.set 4 (.tup (.cons (.tup (.cons (.tup (.cons AAs ABe)) (.cons (.tup (.cons ABO ABG)) .nil))) (.cons (.tup (.cons (.tup (.cons ABO AAz)) .nil)) (.cons (.tup (.cons (.tup (.cons AAs AAz)) .nil)) (.cons (.tup (.cons (.tup (.cons ABZ ABQ)) .nil)) .nil)))))) (.cons (.set 5 (.lis (.cons (.tup (.cons ABZ AAg)) .nil))) (.cons (.ite ABn (.cons (.append 5 (.tup (.cons ABY (.cons (.tup (.cons (.idx (.lis AAX) AAc) (.cons ABZ .nil))) .nil)))) .nil) .nil) (.cons (.set 6 ABn) (.cons (.set 7 (.lis (.cons (.var 6) (.cons (.var 6) (.cons (.var 6) .nil))))) (.cons (.ite (.cmp .gt (.bi .len (.var 5)) AAG) (.cons (.append 7 (.cmp .eq (.var 6) (.cmp .eq (.idx (.idx (.idx (.var 5) AAG) AAG) AAd) AAu))) .nil) .nil) (.cons (.ret (.tup (.cons (.tup (.cons (.tup (.cons AAs (.cons ABO .nil))) (.cons ABc (.cons (.bi .tuple (.var 7)) .nil)))) (.cons (.tup (.cons (.tup (.cons ABZ .nil)) (.cons (.var 4) .nil))) .nil)))) .nil))))))))))⟩
def iZ(n:Nat)(p0 p1:Sl):pg.fn (n+1) 37 [p0,p1]=fin 2 (ex (pg.cf n) aL.body [p0,p1,.un,.un,.un,.un,.un,.un]):=dF (g:=aL)
noncomputable def dN:Fn:=⟨3,6,(.cons (.set 3 (.op .add AAZ (.bi .tuple (.comp 1 (.name 0) AAe AAL AAH)))) (.cons (.set 4 (.call 29 (.cons (.var 0) (.cons (.ref 1) (.cons (.bi .len AAe) .nil))))) (.cons (.set 5 (.bi .list AAe)) (.cons (.setIx 5 (.var 4) (.tup (.cons (.idx (.idx (.var 5) (.var 4)) AAd) (.cons (.call 32 (.cons (.var 0) (.cons (.ref 1) (.cons (.var 3) ABe)))) .nil)))) (.cons (.ret (.tup (.cons AAZ (.cons ABc (.cons (.idx (.var 2) AAP) .nil))))) .nil)))))⟩
def n8(n:Nat)(p0 p1 p2:Sl):pg.fn (n+1) 38 [p0,p1,p2]=fin 3 (ex (pg.cf n) dN.body [p0,p1,p2,.un,.un,.un]):=dF (g:=dN)
noncomputable def bQ:Fn:=⟨2,6,(.cons (.set 2 (.lis AAi)) (.cons (.set 3 (.call 29 (.cons (.var 0) (.cons (.ref 2) (.cons (.con (.int 8)) .nil))))) (.cons (.ite (.cmp .lt (.var 3) AAP) (.cons (.set 4 (.call 33 (.cons (.var 0) (.cons (.ref 2) (.cons AAP AAv))))) (.cons (.ret (.tup (.cons (.var 4) (.cons (.call 34 (.cons (.var 0) (.cons (.ref 2) (.cons (.var 4) AAv)))) .nil)))) .nil)) .nil) (.cons (.ite (.cmp .eq (.var 3) AAP) (.cons (.ret (.tup (.cons (.call 33 (.cons (.var 0) (.cons (.ref 2) (.cons AAd AAv)))) (.cons (.tup (.cons (.tup .nil) (.cons (.tup (.cons (.tup .nil) .nil)) .nil))) .nil)))) .nil) .nil) (.cons (.ite (.cmp .eq (.var 3) AAT) (.cons (.set 4 (.call 35 ABN)) (.cons (.ite ABV (.cons (.ret (.tup (.cons (.var 4) (.cons (.tup (.cons (.tup .nil) (.cons (.tup (.cons (.tup .nil) .nil)) .nil))) .nil)))) .nil) .nil) (.cons (.ret (.tup (.cons (.var 4) (.cons (.tup (.cons (.tup (.cons ABY .nil)) (.cons (.tup (.cons (.tup (.cons (.tup (.cons ABY ABe)) .nil)) (.cons (.tup (.cons (.tup (.cons ABY ABQ)) .nil)) .nil))) .nil))) .nil)))) .nil))) .nil) (.cons (.ite (.cmp .lt (.var 3) (.con (.int 6))) (.cons (.setT [4,5] (.call 36 ABN)) .nil) (.cons (.setT [4,5] (.call 37 ABN)) .nil)) (.cons (.ite (.and (.cons (.cmp .eq (.op .mod (.var 3) AAP) AAG) (.cons ABV .nil))) (.cons (.set 4 (.call 38 (.cons (.var 0) (.cons (.ref 2) (.cons (.var 4) .nil))))) .nil) .nil) (.cons (.ret (.tup (.cons (.var 4) (.cons (.var 5) .nil)))) .nil))))))))⟩
def fK(n:Nat)(p0 p1:Sl):pg.fn (n+1) 39 [p0,p1]=fin 2 (ex (pg.cf n) bQ.body [p0,p1,.un,.un,.un,.un]):=dF (g:=bQ)
noncomputable def qT:Fn:=⟨1,1,(.cons (.ret (.op .add (.bi .list AAH) (.comp 1 (.name 0) AAb AAL AAH))) .nil)⟩
def zY(n:Nat)(p0:Sl):pg.fn (n+1) 40 [p0]=fin 1 (ex (pg.cf n) qT.body [p0]):=dF (g:=qT)
noncomputable def lG:Fn:=⟨3,5,(.cons (.ite (.cmp .eq AAH AAu) (.cons (.ret ABg) .nil) .nil) (.cons (.ite (.cmp .eq AAH ABj) (.cons (.ret (.not ABg)) .nil) .nil) (.cons (.ite (.cmp .eq AAH AAm) AAn .nil) (.cons (.set 4 (.comp 1 (.name 0) AAb AAL (.idx (.var 2) (.var 0)))) (.cons (.ite (.cmp .eq AAH ABJ) ABa .nil) (.cons (.ite (.cmp .eq AAH AAy) ABW .nil) (.cons (.ite (.cmp .eq AAH ABK) ABp .nil) (.cons (.ite ABH (.cons (.ret (.var 2)) .nil) .nil) ABz))))))))⟩
def dW(n:Nat)(p0 p1 p2:Sl):pg.fn (n+1) 41 [p0,p1,p2]=fin 3 (ex (pg.cf n) lG.body [p0,p1,p2,.un,.un]):=dF (g:=lG)
noncomputable def mZ:Fn:=qL 42
def vf(n:Nat)(p0 p1:Sl):pg.fn (n+1) 42 [p0,p1]=fin 2 (ex (pg.cf n) mZ.body [p0,p1,.un]):=eU (p:=2) (k:=1)
noncomputable def qR:Fn:=qL 43
def zX(n:Nat)(p0 p1 p2:Sl):pg.fn (n+1) 43 [p0,p1,p2]=fin 3 (ex (pg.cf n) qR.body [p0,p1,p2,.un]):=eU (p:=3) (k:=1)
noncomputable def xj:Fn:=qL 44
def Ir(n:Nat)(p0 p1 p2 p3:Sl):pg.fn (n+1) 44 [p0,p1,p2,p3]=fin 4 (ex (pg.cf n) xj.body [p0,p1,p2,p3,.un,.un,.un,.un]):=eU (p:=4) (k:=4)
noncomputable def qQ:Fn:=qL 45
def zV(n:Nat)(p0 p1 p2 p3:Sl):pg.fn (n+1) 45 [p0,p1,p2,p3]=fin 4 (ex (pg.cf n) qQ.body [p0,p1,p2,p3,.un,.un,.un,.un,.un,.un,.un,.un,.un,.un]):=eU (p:=4) (k:=10)
noncomputable def Qd:Fn:=⟨1,7,(.cons ABP (.cons AAp (.cons (.set 4 (.bi .tuple (.comp 1 (.name 0) (.range1 ABd) AAL (.op .add AAG AAh)))) AAx)))⟩
def abn(n:Nat)(p0:Sl):pg.fn (n+1) 46 [p0]=fin 1 (ex (pg.cf n) Qd.body [p0,.un,.un,.un,.un,.un,.un]):=dF (g:=Qd)
def RJ(n:Nat)(ps:List Sl):pg.fn (n+1) 47 ps=eV tx (pg.cf n) ps:=by
 show(match pg.fns[47]? with|some g=>ir (pg.cf n) g ps|none=>eV tx (pg.cf n) ps)=_
 rw[show pg.fns[47]? =none by kernel_rfl]
end Tx
end
end
section
open PySem Mini
namespace Tx
abbrev sc(ns:List Int):D:=.lst (ns.map .int)
def Qg(ns:List Int)(i:Int)(h0:0<=i)(h:i<ns.length):∃r:Int,at? (ns.map D.int) i=some (.int r):=by
 unfold at? ix?
 rw[QAq,if_neg (by omega:¬i<0)]
 rw[if_pos ⟨h0,h⟩]
 have:i.toNat<ns.length:=by omega
 exact⟨ns[i.toNat],by simp[this]⟩
def M7(ns:List Int):mV (ns.map D.int)=true:=by
 induction ns with
 |nil=>rfl
 |cons i r ih=>simp[mV,nd,ih]
def JR(ns:List Int):mR (ns.map D.int)=0:=by
 induction ns with
 |nil=>rfl
 |cons i r ih=>simp[mR,dep,ih]
def O6(ns:List Int):aN .eq (.lst (ns.map .int)) (.lst [])=some ns.isEmpty:=by
 cases ns with
 |nil=>rfl
 |cons i ns=>simp[aN,j6,flat,nd,mV,dep,mR,dH,Bk,M7,JR]
def Ez n ns k(hk:0<=k):∃r:Int,pg.fn (n+1) 27 [.val (sc ns),.val (.int k)]=.ok (.val (.int r)) [.val (sc ns),.val (.int k)]:=by
 by_cases h:k<ns.length
 ·obtain⟨r,e⟩:=Qg ns k hk h
  exact⟨r,by rw[jb];simp[fH,h,e]⟩
 ·by_cases hn:ns=[]
  ·subst hn
   have h0:¬k<0:=by omega
   exact⟨0,by rw[jb];simp[fH,h0,aZ,fits,O6 []]⟩
  ·have hl':=List.length_pos_iff.mpr hn
   have hl:(0:Int)<ns.length:=by omega
   obtain⟨r,e⟩:=Qg ns (k%ns.length) (Int.emod_nonneg _ (by omega)) (Int.emod_lt_of_pos _ hl)
   have he:ns.isEmpty=false:=by simpa using hn
   exact⟨r*31+k,by rw[jb];simp[fH,h,e,aZ,fits,O6,he,hl,hl',small]⟩
@[simp]theorem ahb(n:Nat):(pg.cf n).fn=pg.fn n:=rfl
@[simp]theorem aha(n:Nat):(pg.cf n).gl=pg.gl:=rfl
@[simp]theorem acr(n:Nat):(pg.cf n).turns=1000:=rfl
def oK n ns k many(hk:0<=k)(hm:0<many):∃r:Int,0<=r/\r<many/\
  pg.fn (n+2) 28 [.val (sc ns),.val (.int k),.val (.int many)]=.ok (.val (.int r)) [.val (sc ns),.val (.int k),.val (.int many)]:=by
 obtain⟨c,e⟩:=Ez n ns k hk
 have b:∀x:Int,small (x%2147483647)=true:=fun x=>by
  simp[small]
  omega
 have s1:small 7919=true:=by decide
 have s2:small 48271=true:=by decide
 refine⟨_,?_,?_,by rw[zZ];simp[lJ,e,s1,s2,s3,b,hm];rfl⟩
 ·exact Int.emod_nonneg _ (by omega)
 ·exact Int.emod_lt_of_pos _ hm
def QD{k:Int}(h:0<=k):0<=k+1:=Int.le_trans h (Int.le_add_one (Int.le_refl k))
def bG n ns k many(hk:0<=k)(hm:0<many):∃r:Int,0<=r/\r<many/\
  pg.fn (n+3) 29 [.val (sc ns),.bor (.lst [.int k]),.val (.int many)]=.ok (.val (.int r)) [.val (sc ns),.bor (.lst [.int (k+1)]),.val (.int many)]:=by
 obtain⟨r,h1,h2,e⟩:=oK n ns _ many (QD hk) hm
 refine⟨r,h1,h2,?_⟩
 rw[Dc]
 simp[nM,at?,ix?,pI,e]
end Tx
end
section
open PySem Mini
namespace Tx
def sE:E:=AAo
def zN:S:=AAt
abbrev someσ(ns:List Int)(k:Int)(xs:List D)(least most:Int)(row:List D):Ev:=[.val (sc ns),.bor (.lst [.int k]),.val (.tup xs),.val (.int least),.val (.int most),.own (.lst row)]
def K8 n ns k(hk:0<=k)xs row least most(h0:0<row.length)(hf:row.length<=1000):
  ∃j:Nat,j<row.length/\ex (pg.cf (n+3)) zN (someσ ns k xs least most row)=.next (someσ ns (k+1) xs least most (row.eraseIdx j)):=by
 obtain⟨r,h1,h2,e⟩:=bG n ns k row.length hk (by omega)
 refine⟨r.toNat,by omega,?_⟩
 have f:fits row.length=true:=by simp[fits];omega
 have hx:ix? row.length r=some r.toNat:=by
  unfold ix?
  rw[if_neg (by omega:¬r<0),if_pos ⟨h1,h2⟩]
 have hr:row[r.toNat]? =some _:=QXq (by omega)
 simp[zN,e,gQ,tE,f,hx,hr,Dt]
theorem Ib(n:Nat)(ns:List Int)(xs:List D)(least most:Int)(hx:xs.length<=1000)(hl:0<=least)(hlm:least<=most):∀(L:Nat)(row:List D)(k:Int)(fuel:Nat),row.length=L->L<fuel->0<=k->row.Sublist xs->least<=row.length->
  ∃ys k',ys.Sublist xs/\least<=ys.length/\ys.length<=most/\0<=k'/\gA (ev (pg.cf (n+3)) sE) (ex (pg.cf (n+3)) zN) fuel (someσ ns k xs least most row)=.next (someσ ns k' xs least most ys):=by
 intro L
 induction L with
 |zero=>
  intro row k fuel hL hf hk hs hr
  obtain⟨fuel,rfl⟩:∃f,fuel=f+1:=⟨fuel-1,by omega⟩
  have:¬least<row.length:=by omega
  exact⟨row,k,hs,hr,by omega,hk,by simp[gA,sE,this]⟩
 |succ L ih=>
  intro row k fuel hL hf hk hs hr
  obtain⟨fuel,rfl⟩:∃f,fuel=f+1:=⟨fuel-1,by omega⟩
  have hrl:=hs.length_le
  by_cases h1:least<row.length
  ·--the row is longer than the least
   have cont:∀k1:Int,0<=k1->∃ys k',ys.Sublist xs/\least<=ys.length/\ys.length<=most/\0<=k'/\
     (ex _ zN _).turn _=.next (someσ ns k' xs least most ys):=fun k1 hk1=>by
    obtain⟨j,hj,e⟩:=K8 n ns k1 hk1 xs row least most (by omega) (by omega)
    have el:(row.eraseIdx j).length=L:=by rw[List.length_eraseIdx_of_lt hj];omega
    obtain⟨ys,k',a1,a2,a3,a4,a5⟩:=ih _ (k1+1) fuel el (by omega) (by omega) ((List.eraseIdx_sublist row j).trans hs) (by omega)
    exact⟨ys,k',a1,a2,a3,a4,by rw[e];exact a5⟩
   by_cases h2:most<row.length
   ·obtain⟨ys,k',a1,a2,a3,a4,a5⟩:=cont k hk
    refine⟨ys,k',a1,a2,a3,a4,?_⟩
    rw[<-a5]
    simp[gA,sE,h1,h2]
   ·obtain⟨r,b1,b2,e⟩:=bG n ns k 2 hk (by omega)
    by_cases h3:r=1
    ·subst h3
     obtain⟨ys,k',a1,a2,a3,a4,a5⟩:=cont (k+1) (by omega)
     refine⟨ys,k',a1,a2,a3,a4,?_⟩
     rw[<-a5]
     simp[gA,sE,h1,h2,e]
    ·exact⟨row,k+1,hs,by omega,by omega,by omega,by simp[gA,sE,h1,h2,e,h3]⟩
  ·exact⟨row,k,hs,by omega,by omega,hk,by simp[gA,sE,h1]⟩
def Gg n ns k(hk:0<=k)xs least most(hx:xs.length<=900)(hl:0<=least)(hlm:least<=most)(hxl:least<=xs.length):
  ∃ys k',ys.Sublist xs/\least<=ys.length/\ys.length<=most/\0<=k'/\
   pg.fn (n+4) 30 [.val (sc ns),.bor (.lst [.int k]),.val (.tup xs),.val (.int least),.val (.int most)]=.ok (.val (.tup ys)) [.val (sc ns),.bor (.lst [.int k']),.val (.tup xs),.val (.int least),.val (.int most)]:=by
 obtain⟨ys,k',a1,a2,a3,a4,a5⟩:=Ib n ns xs least most (by omega) hl hlm xs.length xs k 1000 rfl (by omega) hk (List.Sublist.refl _) hxl
 refine⟨ys,k',a1,a2,a3,a4,?_⟩
 rw[CW]
 have hb:nJ.body=.cons _ (.cons (.while_ sE zN) _):=rfl
 rw[hb]
 simp[a5]
end Tx
end
section
open PySem Mini
namespace Tx
def uX(s:Sl):Prop:=s=.un\/∃d,s=.val d
def kZ(h:uX s)d(r:Ev):cR (.name 0) d (s::r)=some (.val d::r):=by
 rcases h with rfl|⟨e,rfl⟩<;>simp[cR]
def qP:E:=ABU
def yR n ns k(hk:0<=k)d(rest:Ev):∃b:Bool,ev (pg.cf (n+3)) qP (.val d:: .val (sc ns):: .bor (.lst [.int k])::rest)=.ok (.val (.bl b)) (.val d:: .val (sc ns):: .bor (.lst [.int (k+1)])::rest):=by
 obtain⟨r,h1,h2,e⟩:=bG n ns k 2 hk (by omega)
 exact⟨r==1,by simp[qP,e]⟩
theorem Pz(n:Nat)(ns:List Int)(rest:Ev):∀(xs acc:List D)(k:Int)(s:Sl),0<=k->uX s->∃bs k' s',bs.length=xs.length/\0<=k'/\uX s'/\
  aQ (.name 0) (ev (pg.cf (n+3)) qP) (ev (pg.cf (n+3)) (.var 0)) xs acc (s:: .val (sc ns):: .bor (.lst [.int k])::rest)=.ok (acc++oM bs xs) (s':: .val (sc ns):: .bor (.lst [.int k'])::rest)
 |[]=>fun acc k s hk hs=>⟨[],k,s,rfl,hk,hs,by simp[aQ,oM]⟩
 |x::xs=>fun acc k s hk hs=>by
  obtain⟨b,e⟩:=yR n ns k hk x rest
  cases b with
  |true=>
   obtain⟨bs,k',s',a1,a2,a3,a4⟩:=Pz n ns rest xs _ (k+1) _ (by omega) (.inr ⟨x,rfl⟩)
   refine⟨true::bs,k',s',by simp[a1],a2,a3,?_⟩
   rw[aQ,kZ hs]
   simp only[e,fG,if_true]
   have e0:ev (pg.cf (n+3)) (.var 0) (.val x:: .val (sc ns):: .bor (.lst [.int (k+1)])::rest)=.ok (.val x) (.val x:: .val (sc ns):: .bor (.lst [.int (k+1)])::rest):=by simp
   rw[e0,cA,a4]
   simp[oM]
  |false=>
   obtain⟨bs,k',s',a1,a2,a3,a4⟩:=Pz n ns rest xs acc (k+1) _ (by omega) (.inr ⟨x,rfl⟩)
   refine⟨false::bs,k',s',by simp[a1],a2,a3,?_⟩
   rw[aQ,kZ hs]
   simp only[e,fG,Qxq,if_false]
   rw[a4]
   simp[oM]
def Ug(b:Bool):E:=(.comp 1 (.name 0) (.var 4) AAL (.op .add (.var 0) (.tup (.cons (.con (.bl b)) .nil))))
def xN:S:=(.cons (.set 4 (.op .add (Ug false) (Ug true))) .nil)
theorem Ql(c:Cf)(b:Bool)(rest:Ev):∀(rs:List (List Bool))(acc:List D)(s:Sl),uX s->(∀r∈rs,r.length<=1000)->∃s',uX s'/\
  aQ (.name 0) (ev c AAL) (ev c (.op .add (.var 0) (.tup (.cons (.con (.bl b)) .nil)))) (rs.map aH) acc (s::rest)=.ok (acc++(rs.map (· ++[b])).map aH) (s'::rest)
 |[]=>fun acc s hs _=>⟨s,hs,by simp[aQ]⟩
 |r::rs=>fun acc s hs hl=>by
  obtain⟨s',a1,a2⟩:=Ql c b rest rs _ _ (.inr ⟨_,rfl⟩) fun q hq=>hl q (QYq _ hq)
  have h1:=hl r QYz
  refine⟨s',a1,?_⟩
  rw[Qyz,aQ,kZ hs]
  have e0:ev c (.op .add (.var 0) (.tup (.cons (.con (.bl b)) .nil))) (.val (aH r)::rest)=.ok (.val (aH (r++[b]))) (.val (aH r)::rest):=by
   have f:fits (r.length+1)=true:=by simp[fits];omega
   simp[aZ,aH,f]
  have e1:ev c AAL (.val (aH r)::rest)=.ok (.val (.bl true)) (.val (aH r)::rest):=by simp
  simp only[e1,fG,if_true]
  rw[e0,cA,a2]
  simp
def Qm c b(rs:List (List Bool))(hl:∀r∈rs,r.length<=1000)(hs:s=.own (.lst (rs.map aH))\/s=.val (.lst (rs.map aH)))s0 s1 s2 s3 s5:ev c (Ug b) [s0,s1,s2,s3,s,s5]=.ok (.new (.lst ((rs.map (· ++[b])).map aH))) [s0,s1,s2,s3,.val (.lst (rs.map aH)),s5]:=by
 obtain⟨s',_,a⟩:=Ql c b [s0,s1,s2,s3,.val _,s5] rs [] .un (.inl rfl) hl
 have h:ev c (.var 4) [s0,s1,s2,s3,s,s5]=.ok (.val (.lst (rs.map aH))) [s0,s1,s2,s3,.val (.lst (rs.map aH)),s5]:=by
  rcases hs with rfl|rfl<;>simp
 unfold Ug
 rw[nQ,h,cA]
 simp only[items]
 rw[show List.replicate 1 Sl.un++[s0,s1,s2,s3,.val _,s5]=Sl.un::[s0,s1,s2,s3,.val _,s5]from rfl,a]
 simp
def Im c(rs:List (List Bool))(hl:∀r∈rs,r.length<=1000)(hn:rs.length<=1000)(hs:s=.own (.lst (rs.map aH)))s0 s1 s2 s3 s5:
  ex c xN [s0,s1,s2,s3,s,s5]=.next [s0,s1,s2,s3,.own (.lst ((rs.map (· ++[false])++rs.map (· ++[true])).map aH)),s5]:=by
 have f:fits (rs.length+rs.length)=true:=by simp[fits];omega
 unfold xN
 simp only[x_0,x_1,x_5,v_5]
 rw[Qm c false rs hl (.inl hs),mH]
 rw[Qm c true rs hl (.inr rfl),mH]
 simp[f]
theorem vR(c:Cf)(s0 s1 s2 s3:Sl):∀(ys:List D)(k:Nat)(s5:Sl),uX s5->k+ys.length<=9->∃s5',uX s5'/\cX (.name 5) (ex c xN) ys [s0,s1,s2,s3,.own (.lst ((fL k).map aH)),s5]=.next [s0,s1,s2,s3,.own (.lst ((fL (k+ys.length)).map aH)),s5']
 |[]=>fun k s5 h5 _=>⟨s5,h5,by simp[cX]⟩
 |y::ys=>fun k s5 h5 hk=>by
  simp only[QBq]at hk
  obtain⟨s5',a1,a2⟩:=vR c s0 s1 s2 s3 ys (k+1) _ (.inr ⟨y,rfl⟩) (by omega)
  refine⟨s5',a1,?_⟩
  have st:cR (.name 5) y [s0,s1,s2,s3,.own (.lst ((fL k).map aH)),s5]=some [s0,s1,s2,s3,.own (.lst ((fL k).map aH)),.val y]:=by
   rcases h5 with rfl|⟨e,rfl⟩<;>simp[cR]
  have lens:∀k,∀r∈fL k,r.length=k:=by
   intro k
   induction k with
   |zero=>intro r hr;simp[fL]at hr;subst hr;rfl
   |succ k ih=>
    intro r hr
    simp only[fL,QXz,QDq]at hr
    rcases hr with ⟨q,hq,rfl⟩|⟨q,hq,rfl⟩<;>simp[ih q hq]
  have hn:(fL k).length<=1000:=by
   rw[pG]
   have:2 ^k<=2 ^9:=Nat.pow_le_pow_right (by omega) (by omega)
   omega
  rw[cX,st]
  simp only
  rw[Im c _ (fun r hr=>by rw[lens k r hr];omega) hn rfl,pB]
  rw[show(fL k).map _++(fL k).map _=fL (k+1)from rfl,a2]
  rw[show k+1+ys.length=k+(y::ys).length by simp;omega]
def rK:E:=.comp 1 (.name 0) (.var 4) qP (.var 0)
def Es n ns k(hk:0<=k)zs s2 s3 s5:∃bs k',bs.length=zs.length/\0<=k'/\
  ev (pg.cf (n+3)) rK [.val (sc ns),.bor (.lst [.int k]),s2,s3,.own (.lst zs),s5]=.ok (.new (.lst (oM bs zs))) [.val (sc ns),.bor (.lst [.int k']),s2,s3,.val (.lst zs),s5]:=by
 obtain⟨bs,k',s',c1,c2,c3,c4⟩:=Pz n ns [s2,s3,.val _,s5] zs [] k .un hk (.inl rfl)
 refine⟨bs,k',c1,c2,?_⟩
 have h:ev (pg.cf (n+3)) (.var 4) [.val (sc ns),.bor (.lst [.int k]),s2,s3,.own (.lst zs),s5]=.ok (.val (.lst zs)) [.val (sc ns),.bor (.lst [.int k]),s2,s3,.val (.lst zs),s5]:=by simp
 unfold rK
 rw[nQ,h,cA]
 simp only[items]
 rw[show List.replicate 1 Sl.un++[.val _,.bor _,s2,s3,.val _,s5]=Sl.un:: .val _:: .bor _::[s2,s3,.val _,s5]from rfl,c4]
 simp
def KQ n ns k(hk:0<=k)xs(hx:xs.length<=900)(h1:1<=xs.length):
  ∃ys rs k',ys.Sublist xs/\1<=ys.length/\ys.length<=3/\(∀r∈rs,r.length=ys.length)/\Ax rs=true/\0<=k'/\
   pg.fn (n+5) 31 [.val (sc ns),.bor (.lst [.int k]),.val (.tup xs)]=.ok (.val (.tup [.str "table",.tup ys,.tup (rs.map aH)])) [.val (sc ns),.bor (.lst [.int k']),.val (.tup xs)]:=by
 obtain⟨ys,k1,a1,a2,a3,a4,a5⟩:=Gg n ns k hk xs 1 3 hx (by omega) (by omega) (by omega)
 obtain⟨s5,b1,b2⟩:=vR (pg.cf (n+4)) (.val (sc ns)) (.bor (.lst [.int k1])) (.val (.tup xs)) (.val (.tup ys)) ys 0 .un (.inl rfl) (by omega)
 obtain⟨bs,k2,c1,c2,c4⟩:=Es (n+1) ns k1 a4 ((fL ys.length).map aH) (.val (.tup xs)) (.val (.tup ys)) s5
 rw[QAq,pG]at c1
 obtain⟨rs,d1,d2,d3⟩:=Ia ys.length (by omega) (by omega) bs c1
 refine⟨ys,rs,k2,a1,by omega,by omega,d2,d3,c2,?_⟩
 rw[zW]
 have hb:lH=⟨3,6,.cons _ (.cons _ (.cons (.for_ _ _ xN)
  (.cons (.ret (.tup (.cons _ (.cons _ (.cons (.bi .tuple (.bi .sorted rK)) .nil))))) .nil)))⟩:=rfl
 rw[hb]
 have e1:([D.tup []])=(fL 0).map aH:=rfl
 have e2:(fL 0).length=1:=rfl
 have q:rK.az=none:=rfl
 simp[a5,aZ,items,e1,e2,b2,c4,d1,q]
end Tx
end
section
open PySem Mini
namespace Tx
inductive cg(xs:List D):Nat->D->Prop
 |same {n:Nat} {x:D}:x∈xs->cg xs n (.tup [.str "same",x])
 |not {n:Nat} {x:D}:x∈xs->cg xs n (.tup [.str "not",x])
 |and {n:Nat} {ys:List D}:ys.Sublist xs->2<=ys.length->ys.length<=3->cg xs n (.tup [.str "and",.tup ys])
 |or {n:Nat} {ys:List D}:ys.Sublist xs->2<=ys.length->ys.length<=3->cg xs n (.tup [.str "or",.tup ys])
 |both {n:Nat} {ys:List D}:ys.Sublist xs->2<=ys.length->ys.length<=3->cg xs n (.tup [.str "both",.tup ys])
 |table {n:Nat} {ys:List D} {rs:List (List Bool)}:ys.Sublist xs->1<=ys.length->ys.length<=3->(∀r∈rs,r.length=ys.length)->Ax rs=true->cg xs n (.tup [.str "table",.tup ys,.tup (rs.map aH)])
 |held {n:Nat} {k x:D} {b:Bool}:cg xs n k->x∈xs->cg xs (n+1) (.tup [.str "held",k,x,.bl b])
def Qf xs r(h1:0<=r)(h2:r<xs.length):∃d,at? xs r=some d/\d∈xs:=by
 unfold at? ix?
 rw[if_neg (Int.not_lt.mpr h1),if_pos ⟨h1,h2⟩]
 have:=(Int.toNat_lt h1).mpr h2
 exact⟨xs[r.toNat],by simp[this],List.getElem_mem this⟩
def SM(r:Int):r%2=0\/r%2=1:=by omega
def O1{r:Int}(h1:¬r<4)(h2:r<7):r-4=0\/r-4=1\/r-4=2:=by omega
def eight{r:Int}(h1:¬r<7)(h2:r<9)(h3:¬r=7):r=8:=by omega
def YW(n:Nat):¬((n:Int)+1=0):=by omega
def wG m ns xs(hx:xs.length<=900)(h1:1<=xs.length)deep
  (rec:∀dp,deep=dp+1->∀k:Int,0<=k->∃d k',cg xs dp d/\0<=k'/\pg.fn (m+5) 32 [.val (sc ns),.bor (.lst [.int k]),.val (.tup xs),.val (.int dp)]=.ok (.val d) [.val (sc ns),.bor (.lst [.int k']),.val (.tup xs),.val (.int dp)])
  k(hk:0<=k):∃d k',cg xs deep d/\0<=k'/\
  pg.fn (m+6) 32 [.val (sc ns),.bor (.lst [.int k]),.val (.tup xs),.val (.int deep)]=.ok (.val d) [.val (sc ns),.bor (.lst [.int k']),.val (.tup xs),.val (.int deep)]:=by
 obtain⟨r,r1,r2,er⟩:=bG (m+2) ns k 9 hk (by decide)
 have hk1:=QD hk
 by_cases c1:r<4\/xs.length<2
 ·obtain⟨q,q1,q2,eq⟩:=bG (m+2) ns _ xs.length hk1 (Int.ofNat_lt.mpr h1)
  obtain⟨x,ex,mx⟩:=Qf xs q q1 q2
  obtain⟨w,ew,kw⟩:∃w,at? [.str "same",.str "not"] (r%2)=some _/\cg xs deep (.tup [.str w,x]):=by
   rcases SM r with h|h<;>rw[h]
   ·exact⟨_,rfl,.same mx⟩
   ·exact⟨_,rfl,.not mx⟩
  refine⟨_,k+1+1,kw,QD hk1,?_⟩
  rw[jC]
  by_cases c4:r<4
  ·simp[dY,er,c4,eq,ex,aZ,ew]
  ·have c6:=c1.resolve_left c4
   have c5:(xs.length:Int)<2:=Int.ofNat_lt.mpr c6
   simp[dY,er,c4,c5,c6,eq,ex,aZ,ew]
 ·have c2:¬r<4:=fun h=>c1 (.inl h)
  have c3':=fun h=>c1 (.inr h)
  have c3:¬(xs.length:Int)<2:=fun h=>c3' (Int.ofNat_lt.mp h)
  by_cases c7:r<7
  ·obtain⟨ys,k',a1,a2,a3,a4,a5⟩:=Gg (m+1) ns _ hk1 xs 2 3 hx (by decide) (by decide) (Int.not_lt.mp c3)
   have a2:=Int.ofNat_le.mp a2
   have a3:=Int.ofNat_le.mp a3
   obtain⟨w,ew,kw⟩:∃w,at? [.str "and",.str "or",.str "both"] (r-4)=some _/\cg xs deep (.tup [.str w,.tup ys]):=by
    rcases O1 c2 c7 with h|h|h<;>rw[h]
    ·exact⟨_,rfl,.and a1 a2 a3⟩
    ·exact⟨_,rfl,.or a1 a2 a3⟩
    ·exact⟨_,rfl,.both a1 a2 a3⟩
   exact⟨_,k',kw,a4,by rw[jC];simp[dY,er,c2,c3,c3',c7,a5,aZ,ew]⟩
  ·by_cases c8:r=7\/deep=0
   ·obtain⟨ys,rs,k',a1,a2,a3,a4,a5,a6,a7⟩:=KQ m ns _ hk1 xs hx h1
    refine⟨_,k',.table a1 a2 a3 a4 a5,a6,?_⟩
    rw[jC]
    by_cases c9:r=7
    ·subst c9
     simp[dY,er,c3,c3',a7]
    ·have c10:=c8.resolve_left c9
     subst c10
     simp[dY,er,c2,c3,c3',c7,c9,beq_false_of_ne c9,a7]
   ·obtain⟨dp,rfl⟩:=Nat.exists_eq_succ_of_ne_zero (fun h=>c8 (.inr h))
    have c9:=eight c7 r2 fun h=>c8 (.inl h)
    subst c9
    obtain⟨d,k1,b1,b2,b3⟩:=rec dp rfl _ hk1
    obtain⟨q,q1,q2,eq⟩:=bG (m+2) ns k1 xs.length b2 (Int.ofNat_lt.mpr h1)
    obtain⟨x,ex,mx⟩:=Qf xs q q1 q2
    obtain⟨z,z1,z2,ez⟩:=bG (m+2) ns _ 2 (QD b2) (by decide)
    refine⟨_,k1+1+1,.held (b:=z==1) b1 mx,QD (QD b2),?_⟩
    rw[jC]
    have e1:=YW dp
    simp[dY,er,c3,c3',beq_false_of_ne e1,e1,(Int.add_sub_cancel _ _),b3,eq,ex,ez,aZ]
def afv m deep:m+deep+1+5=m+6+deep:=by omega
def afu m deep:m+6+(deep+1)=m+deep+1+6:=by omega
theorem yu ns xs(hx:xs.length<=900)(h1:1<=xs.length):∀(deep m:Nat)(k:Int),0<=k->∃d k',cg xs deep d/\0<=k'/\
  pg.fn (m+6+deep) 32 [.val (sc ns),.bor (.lst [.int k]),.val (.tup xs),.val (.int deep)]=.ok (.val d) [.val (sc ns),.bor (.lst [.int k']),.val (.tup xs),.val (.int deep)]
 |0=>fun m k hk=>wG m ns xs hx h1 0 (fun dp h=>nomatch h) k hk
 |deep+1=>fun m k hk=>by
  have:=wG _ ns xs hx h1 (deep+1) (fun dp h k hk=>by
   cases h
   rw[afv m deep]
   exact(yu ns xs hx h1 deep m k hk)) k hk
  rw[afu m deep]
  exact this
end Tx
end
section
open PySem Mini
namespace Tx
def Hf:E:=(.tup (.cons (.var 0) (.cons (.call 32 (.cons (.var 1) (.cons (.ref 2) (.cons (.var 7) ABe)))) .nil)))
def Nq n ns k(hk:0<=k)xs(hx:xs.length<=900)(h1:1<=xs.length)x s3 s4 s5 s6 s8:∃d k',cg xs 1 d/\0<=k'/\
  ev (pg.cf (n+7)) Hf [.val x,.val (sc ns),.bor (.lst [.int k]),s3,s4,s5,s6,.val (.tup xs),s8]=.ok (.val (.tup [x,d])) [.val x,.val (sc ns),.bor (.lst [.int k']),s3,s4,s5,s6,.val (.tup xs),s8]:=by
 obtain⟨d,k',a1,a2,a3⟩:=yu ns xs hx h1 1 n k hk
 refine⟨d,k',a1,a2,?_⟩
 simp only[Int.natCast_one,show n+6+1=n+7 from rfl]at a3
 simp[Hf,a3,aZ]
theorem Ao(n:Nat)(ns:List Int)(xs:List D)(hx:xs.length<=900)(h1:1<=xs.length)(s3 s4 s5 s6 s8:Sl):∀(row acc:List D)(k:Int)(s:Sl),0<=k->uX s->∃ks k' s',ks.length=row.length/\(∀d∈ks,cg xs 1 d)/\0<=k'/\uX s'/\
  aQ (.name 0) (ev (pg.cf (n+7)) AAL) (ev (pg.cf (n+7)) Hf) row acc [s,.val (sc ns),.bor (.lst [.int k]),s3,s4,s5,s6,.val (.tup xs),s8]
   =.ok (acc++aV row ks) [s',.val (sc ns),.bor (.lst [.int k']),s3,s4,s5,s6,.val (.tup xs),s8]
 |[]=>fun acc k s hk hs=>⟨[],k,s,rfl,fun d h=>(by cases h),hk,hs,by simp[aQ,aV]⟩
 |x::row=>fun acc k s hk hs=>by
  obtain⟨d,k1,a1,a2,a3⟩:=Nq n ns k hk xs hx h1 x s3 s4 s5 s6 s8
  obtain⟨ks,k',s',b1,b2,b3,b4,b5⟩:=Ao n ns xs hx h1 s3 s4 s5 s6 s8 row _ k1 _ a2 (.inr ⟨x,rfl⟩)
  refine⟨d::ks,k',s',by simp[b1],fun e h=>?_,b3,b4,?_⟩
  ·rcases QCq.mp h with rfl|h
   ·exact a1
   ·exact b2 e h
  ·rw[aQ,kZ hs]
   have e1:∀σ,ev (pg.cf (n+7)) AAL σ=.ok (.val (.bl true)) σ:=fun σ=>by simp
   simp only[e1,fG,if_true]
   rw[a3,cA,b5]
   simp[aV]
theorem uz(n:Nat)(ns:List Int)(rest:Ev):∀(xs acc:List D)(k:Int)(s:Sl),0<=k->uX s->∃(bs:List Bool)(k':Int)(s':Sl),bs.length=xs.length/\0<=k'/\uX s'/\
  aQ (.name 0) (ev (pg.cf (n+3)) AAL) (ev (pg.cf (n+3)) qP) xs acc (s:: .val (sc ns):: .bor (.lst [.int k])::rest)=.ok (acc++bs.map .bl) (s':: .val (sc ns):: .bor (.lst [.int k'])::rest)
 |[]=>fun acc k s hk hs=>⟨[],k,s,rfl,hk,hs,by simp[aQ]⟩
 |x::xs=>fun acc k s hk hs=>by
  obtain⟨b,e⟩:=yR n ns k hk x rest
  obtain⟨bs,k',s',a1,a2,a3,a4⟩:=uz n ns rest xs _ _ _ (QD hk) (.inr ⟨x,rfl⟩)
  refine⟨b::bs,k',s',by simp[a1],a2,a3,?_⟩
  rw[aQ,kZ hs]
  have e1:∀σ,ev (pg.cf (n+3)) AAL σ=.ok (.val (.bl true)) σ:=fun σ=>by simp
  simp only[e1,fG,if_true]
  rw[e,cA,a4]
  simp
def GP:E:=(.comp 1 (.name 0) (.var 5) AAL Hf)
def Hd:E:=(.comp 1 (.name 0) (.var 6) AAL qP)
def ye:S:=(.cons (.set 6 (.op .add (.var 4) (.var 5))) (.cons (.set 7 (.bi .tuple GP)) (.cons (.ret (.tup (.cons (.var 4) (.cons (.var 7) (.cons (.bi .tuple Hd) .nil))))) .nil)))
def M4 n ns k(hk:0<=k)ν row(hx:ν.length+row.length<=900)(h1:1<=row.length)s2 s3:∃(ks:List D)(ls:List Bool)(k':Int),ks.length=row.length/\(∀d∈ks,cg (ν++row) 1 d)/\ls.length=(ν++row).length/\0<=k'/\
  ex (pg.cf (n+7)) ye [.val (sc ns),.bor (.lst [.int k]),s2,s3,.val (.tup ν),.val (.tup row),.un,.un]
   =.ret (.val (.tup [.tup ν,.tup (aV row ks),.tup (ls.map .bl)])) [.val (sc ns),.bor (.lst [.int k']),s2,s3,.val (.tup ν),.val (.tup row),.val (.tup (ν++row)),.val (.tup (aV row ks))]:=by
 obtain⟨ks,k1,s',a1,a2,a3,a4,a5⟩:=Ao n ns (ν++row) (by simpa using hx) (by simp;omega) s2 s3 _ _ .un row [] k .un hk (.inl rfl)
 obtain⟨ls,k',s'',b1,b2,b3,b4⟩:=uz _ ns [s2,s3,.val _,.val _,.val _,.val _] _ [] k1 .un a3 (.inl rfl)
 refine⟨ks,ls,k',a1,a2,b1,b2,?_⟩
 have f:fits (ν.length+row.length)=true:=by simp[fits];omega
 have em:ev (pg.cf (n+7)) GP [.val (sc ns),.bor (.lst [.int k]),s2,s3,.val (.tup ν),.val (.tup row),.val (.tup (ν++row)),.un]=.ok (.new (.lst (aV row ks))) [.val (sc ns),.bor (.lst [.int k1]),s2,s3,.val (.tup ν),.val (.tup row),.val (.tup (ν++row)),.un]:=by
  have h:ev (pg.cf (n+7)) (.var 5) [.val (sc ns),.bor (.lst [.int k]),s2,s3,.val (.tup ν),.val (.tup row),.val (.tup (ν++row)),.un]=.ok (.val (.tup row)) [.val (sc ns),.bor (.lst [.int k]),s2,s3,.val (.tup ν),.val (.tup row),.val (.tup (ν++row)),.un]:=by simp
  unfold GP
  rw[nQ,h,cA]
  simp only[items]
  rw[show List.replicate 1 Sl.un++[.val _,.bor _,s2,s3,.val _,.val _,.val _,.un]=[.un,.val _,.bor _,s2,s3,.val _,.val _,.val _,.un]from rfl,a5]
  simp
 have el:ev (pg.cf (n+7)) Hd [.val (sc ns),.bor (.lst [.int k1]),s2,s3,.val (.tup ν),.val (.tup row),.val (.tup (ν++row)),.val (.tup (aV row ks))]=.ok (.new (.lst (ls.map .bl))) [.val (sc ns),.bor (.lst [.int k']),s2,s3,.val (.tup ν),.val (.tup row),.val (.tup (ν++row)),.val (.tup (aV row ks))]:=by
  have h:ev (pg.cf (n+7)) (.var 6) [.val (sc ns),.bor (.lst [.int k1]),s2,s3,.val (.tup ν),.val (.tup row),.val (.tup (ν++row)),.val (.tup (aV row ks))]=.ok (.val (.tup (ν++row))) [.val (sc ns),.bor (.lst [.int k1]),s2,s3,.val (.tup ν),.val (.tup row),.val (.tup (ν++row)),.val (.tup (aV row ks))]:=by simp
  unfold Hd
  rw[nQ,h,cA]
  simp only[items]
  rw[show List.replicate 1 Sl.un++[.val _,.bor _,s2,s3,.val _,.val _,.val _,.val _]=.un:: .val _:: .bor _::[s2,s3,.val _,.val _,.val _,.val _]from rfl,b4]
  simp
 have q1:GP.az=none:=rfl
 have q2:Hd.az=none:=rfl
 simp[ye,f,em,el,q1,q2,aZ]
def hd(h:Nat):List D:=([.str "a",.str "b",.str "come"]:List D).take h
def dD(g:Nat):List D:=([.str "p",.str "q",.str "rr",.str "go",.str "abcdef"]:List D).take g
def iw(h2:h<=2):(hd h).length=h:=List.length_take_of_le (Nat.le_succ_of_le h2)
def dU(g4:g<=5):(dD g).length=g:=List.length_take_of_le g4
def aF(h g:Nat)(ks:List D)(ls:List Bool):D:=.tup [.tup (hd h),.tup (aV (dD g) ks),.tup (ls.map .bl)]
structure cU(h g:Nat)(ks:List D)(ls:List Bool):Prop where
 h2:h<=2
 g1:1<=g
 g5:g<=5
 kl:ks.length=g
 kk:∀d∈ks,cg (hd h++dD g) 1 d
 ll:ls.length=h+g
def XN{h:Nat}(i2:ni<=2)(r2:(h:Int)<ni+1):h<=2:=by omega
def M5 n ns k(hk:0<=k)ni(i0:0<=ni)(i2:ni<=2):∃h g ks ls k',cU h g ks ls/\0<=k'/\
  pg.fn (n+8) 33 [.val (sc ns),.bor (.lst [.int k]),.val (.int ni),.val (.int 4)]=.ok (.val (aF h g ks ls)) [.val (sc ns),.bor (.lst [.int k']),.val (.int ni),.val (.int 4)]:=by
 obtain⟨r,r1,r2,er⟩:=bG (n+4) ns k _ hk (Int.lt_add_one_of_le i0)
 obtain⟨q,q1,q2,eq⟩:=bG (n+4) ns _ 4 (QD hk) (by decide)
 obtain⟨h,rfl⟩:=Int.eq_ofNat_of_zero_le r1
 obtain⟨g,rfl⟩:=Int.eq_ofNat_of_zero_le q1
 have h2:=XN i2 r2
 have g3:=Int.ofNat_lt.mp q2
 have g1:=Nat.le_add_right 1 g
 have g5:=Nat.add_le_add_left (Nat.le_of_lt g3) 1
 have lh:=iw h2
 have lg:=dU g5
 obtain⟨ks,ls,k',a1,a2,a3,a4,a5⟩:=M4 n ns _ (QD (QD hk)) (hd h) (dD _) (by rw[lh,lg];exact Nat.le_trans (Nat.add_le_add h2 g5) (by decide)) (by rw[lg];exact g1) (.val (.int ni)) (.val (.int 4))
 refine⟨h,1+g,ks,ls,k',⟨h2,g1,g5,a1.trans lg,a2,by rw[a3,QTq,lh,lg]⟩,a4,?_⟩
 rw[Ip]
 have hb:xg=⟨4,8,(.cons (.set 4 (.slc (.tup (.cons AAs (.cons ABO (.cons (.con (.str "come")) .nil)))) .noneE (.call 29 (.cons (.var 0) (.cons (.ref 1) ACL))))) (.cons (.set 5 (.slc (.tup AAj) .noneE ABS)) ye))⟩:=by kernel_rfl
 rw[hb]
 have c1:jB (.tup [.str "a",.str "b",.str "come"]) none (some h)=some (.val (.tup (hd h))):=by
  rcases h with _|_|_|h
  ·rfl
  ·rfl
  ·rfl
  ·exact absurd h2 (by simp)
 have c2:jB (.tup [.str "p",.str "q",.str "rr",.str "go",.str "abcdef"]) none (some (1+g))=some (.val (.tup (dD (1+g)))):=by
  rcases g with _|_|_|_|g
  ·rfl
  ·rfl
  ·rfl
  ·rfl
  ·exact absurd g3 (by simp)
 simp[er,eq,aZ,eX,E.lE,c1,c2,a5,aF]
end Tx
end
section
open PySem Mini
namespace Tx
def aW n xs a b(h1:a<=xs.length)(h2:xs.length<=b):pg.fn (n+1) 3 [.val (.tup xs),.val (.int a),.val (.int b)]=.ok (.val (.bl true)) [.val (.tup xs),.val (.int a),.val (.int b)]:=by
 rw[sW]
 simp[jR,h1,h2]
def VG:E:=.bi .all (.comp 1 (.name 0) (.var 0) AAL (.isi (.var 0) .bool))
def wJ n bs m(h:m=bs.length):pg.fn (n+2) 7 [.val (aH bs),.val (.int m)]=.ok (.val (.bl true)) [.val (aH bs),.val (.int m)]:=by
 subst h
 have e:ev (pg.cf (n+1)) VG [.val (aH bs),.val (.int bs.length)]=.ok (.val (.bl true)) [.val (aH bs),.val (.int bs.length)]:=by
  refine all1 (r:=.val (aH bs)) (by simp) rfl rfl fun x hx=>?_
  obtain⟨b,_,rfl⟩:=QDq.mp hx
  simp
 have t:pg.fn _ 3 [.val (aH bs),.val _,.val _]=.ok _ [.val _,.val _,.val _]:=aW n _ bs.length bs.length (by simp) (by simp)
 rw[LC]
 have hb:Bx=⟨2,2,(.cons (.ret (.and (.cons (.call 3 (.cons (.var 0) (.cons (.var 1) AAi))) (.cons VG .nil)))) .nil)⟩:=by kernel_rfl
 rw[hb]
 simp[t,e]
def cG(xs:List D):Prop:=∀x∈xs,∃s,x=.str s
def jn(h:cG xs):xs.all flat=true:=by
 rw[List.all_eq_true]
 intro x hx
 obtain⟨s,rfl⟩:=h x hx
 rfl
def jM{x:D}(hx:x∈xs)(h:cG xs):aR x xs=true:=by
 induction xs with
 |nil=>cases hx
 |cons y ys ih=>
  unfold aR
  rcases QCq.mp hx with rfl|hx
  ·obtain⟨s,rfl⟩:=h x QYz
   simp[dH]
  ·simp[ih hx fun z hz=>h z (QYq _ hz)]
def Er(h:cG xs)(nd:xs.Nodup)(hx:x∈xs):iB x xs=1:=by
 induction xs with
 |nil=>cases hx
 |cons y ys ih=>
  have hys:=fun z hz=>h z (QYq _ hz)
  obtain⟨s,rfl⟩:=h y QYz
  rw[List.nodup_cons]at nd
  have zero:∀{zs:List D},cG zs->D.str s∉zs->iB (.str s) zs=0:=by
   intro zs
   induction zs with
   |nil=>intro _ _;rfl
   |cons z zs ihz=>
    intro hz hn
    obtain⟨q,rfl⟩:=hz z QYz
    have ne:q≠s:=fun e=>hn (by rw[e];exact QYz)
    simp[iB,dH,ne,ihz (fun w hw=>hz w (QYq _ hw)) fun hw=>hn (QYq _ hw)]
  rcases QCq.mp hx with rfl|hx
  ·simp[iB,dH,zero hys nd.1]
  ·obtain⟨q,rfl⟩:=hys x hx
   have ne:s≠q:=fun e=>nd.1 (by rw[e];exact hx)
   simp[iB,dH,ne,ih hys nd.2 hx]
def jL n{d:D}(dd:d=.tup xs\/d=.lst xs)(h:cG xs)(hx:x∈xs):pg.fn (n+1) 8 [.val x,.val d]=.ok (.val (.bl true)) [.val x,.val d]:=by
 obtain⟨s,rfl⟩:=h x hx
 rw[Iu]
 have o:gr (.str s) xs=true:=by
  unfold gr
  rw[jn h]
  rfl
 have e:aN .isin (.str s) d=some true:=by
  rcases dd with rfl|rfl<;>(show(if gr _ xs then some _ else none)=_;rw[o,jM hx h];rfl)
 simp[qe,e]
def xx:E:=.bi .all (.comp 1 (.name 0) (.var 0) AAL (.cmp .eq (.count (.var 1) (.var 0)) AAG))
def m8 n{d:D}(hd:d=.tup xs\/d=.lst xs)(h:cG xs)(nd:xs.Nodup):pg.fn (n+1) 6 [.val d]=.ok (.val (.bl true)) [.val d]:=by
 have e:ev (pg.cf n) xx [.val d]=.ok (.val (.bl true)) [.val d]:=by
  refine all1 (r:=.val d) (by simp) rfl (by rcases hd with rfl|rfl<;>rfl) fun x hx=>?_
  obtain⟨s,rfl⟩:=h x hx
  have e1:Bq (.tup xs) (.str s)=some (.val (.int 1)):=by
   simp only[Bq]
   rw[jn h,Er h nd hx]
   rfl
  have e2:Bq (.lst xs) _=some _:=e1
  rcases hd with rfl|rfl<;>simp[e1,e2]
 have hb:o9=⟨1,1,(.cons (.ret xx) .nil)⟩:=by kernel_rfl
 rw[xQ,hb]
 have q:xx.az=none:=rfl
 simp[e,q]
def pY:D->D
 |.tup (a::_)=>a
 |_=>.non
theorem xr:∀(gs ks:List D),ks.length=gs.length->(aV gs ks).map pY=gs
 |[],ks=>fun _=>by simp[aV]
 |g::gs,[]=>fun h=>by simp at h
 |g::gs,k::ks=>fun h=>by simp[aV,pY,xr gs ks (by simpa using h)]
def Bh(it:E):E:=.comp 1 (.name 0) it AAL AAH
def ux{σ:Ev}gs ks(hl:ks.length=gs.length)(hi:ev c it σ=.ok (.val (.tup (aV gs ks))) σ):ev c (Bh it) σ=.ok (.new (.lst gs)) σ:=by
 have:=mY (el:=.idx (.var 0) AAd) pY hi rfl rfl fun y hy=>by
  rw[dG]at hy
  obtain⟨p,_,rfl⟩:=QDq.mp hy
  simp[pairD,pY]
 rw[xr gs ks hl]at this
 exact this
def fB n hs gs ks x(hl:ks.length=gs.length)(hf:hs.length+gs.length<=1000):
  pg.fn (n+1) 13 [.val (.tup [.tup hs,.tup (aV gs ks),x])]=.ok (.new (.lst (hs++gs))) [.val (.tup [.tup hs,.tup (aV gs ks),x])]:=by
 have f:fits (hs.length+gs.length)=true:=by simp[fits];omega
 have hb:o6=⟨1,1,.cons (.ret (.op .add (.bi .list AAH) (Bh AAb))) .nil⟩:=by kernel_rfl
 rw[n6,hb]
 simp[ux (c:=pg.cf n) (it:=.idx (.var 0) AAG) (σ:=[.val (.tup [.tup hs,.tup (aV gs ks),x])]) gs ks hl (by simp),f]
end Tx
end
section
open PySem Mini
namespace Tx
@[simp↓]theorem Ur:decide (Str.ofString "same"=Str.ofString "same")=true:=rfl
@[simp↓]theorem Zx:decide (Str.ofString "not"=Str.ofString "not")=true:=rfl
@[simp↓]theorem ZF:decide (Str.ofString "and"=Str.ofString "and")=true:=rfl
@[simp↓]theorem acX:decide (Str.ofString "or"=Str.ofString "or")=true:=rfl
@[simp↓]theorem UG:decide (Str.ofString "both"=Str.ofString "both")=true:=rfl
@[simp↓]theorem QB:decide (Str.ofString "table"=Str.ofString "table")=true:=rfl
@[simp↓]theorem Uw:decide (Str.ofString "held"=Str.ofString "held")=true:=rfl
@[simp]theorem VP:decide (Str.ofString "same"=Str.ofString "not")=false:=rfl
@[simp]theorem VR:decide (Str.ofString "same"=Str.ofString "and")=false:=rfl
@[simp]theorem Zt:decide (Str.ofString "same"=Str.ofString "or")=false:=rfl
@[simp]theorem Ut:decide (Str.ofString "same"=Str.ofString "both")=false:=rfl
@[simp]theorem QR:decide (Str.ofString "same"=Str.ofString "table")=false:=rfl
@[simp]theorem Us:decide (Str.ofString "same"=Str.ofString "held")=false:=rfl
@[simp]theorem V0:decide (Str.ofString "not"=Str.ofString "same")=false:=rfl
@[simp]theorem Zy:decide (Str.ofString "not"=Str.ofString "and")=false:=rfl
@[simp]theorem aav:decide (Str.ofString "not"=Str.ofString "or")=false:=rfl
@[simp]theorem V2:decide (Str.ofString "not"=Str.ofString "both")=false:=rfl
@[simp]theorem Uu:decide (Str.ofString "not"=Str.ofString "table")=false:=rfl
@[simp]theorem V1:decide (Str.ofString "not"=Str.ofString "held")=false:=rfl
@[simp]theorem V7:decide (Str.ofString "and"=Str.ofString "same")=false:=rfl
@[simp]theorem ZD:decide (Str.ofString "and"=Str.ofString "not")=false:=rfl
@[simp]theorem aaw:decide (Str.ofString "and"=Str.ofString "or")=false:=rfl
@[simp]theorem V9:decide (Str.ofString "and"=Str.ofString "both")=false:=rfl
@[simp]theorem UJ:decide (Str.ofString "and"=Str.ofString "table")=false:=rfl
@[simp]theorem V8:decide (Str.ofString "and"=Str.ofString "held")=false:=rfl
@[simp]theorem Zu:decide (Str.ofString "or"=Str.ofString "same")=false:=rfl
@[simp]theorem aat:decide (Str.ofString "or"=Str.ofString "not")=false:=rfl
@[simp]theorem aau:decide (Str.ofString "or"=Str.ofString "and")=false:=rfl
@[simp]theorem Zw:decide (Str.ofString "or"=Str.ofString "both")=false:=rfl
@[simp]theorem VV:decide (Str.ofString "or"=Str.ofString "table")=false:=rfl
@[simp]theorem Zv:decide (Str.ofString "or"=Str.ofString "held")=false:=rfl
@[simp]theorem Uy:decide (Str.ofString "both"=Str.ofString "same")=false:=rfl
@[simp]theorem V5:decide (Str.ofString "both"=Str.ofString "not")=false:=rfl
@[simp]theorem V6:decide (Str.ofString "both"=Str.ofString "and")=false:=rfl
@[simp]theorem ZC:decide (Str.ofString "both"=Str.ofString "or")=false:=rfl
@[simp]theorem QT:decide (Str.ofString "both"=Str.ofString "table")=false:=rfl
@[simp]theorem Uz:decide (Str.ofString "both"=Str.ofString "held")=false:=rfl
@[simp]theorem QL:decide (Str.ofString "table"=Str.ofString "same")=false:=rfl
@[simp]theorem Up:decide (Str.ofString "table"=Str.ofString "not")=false:=rfl
@[simp]theorem Uq:decide (Str.ofString "table"=Str.ofString "and")=false:=rfl
@[simp]theorem VN:decide (Str.ofString "table"=Str.ofString "or")=false:=rfl
@[simp]theorem QQ:decide (Str.ofString "table"=Str.ofString "both")=false:=rfl
@[simp]theorem QM:decide (Str.ofString "table"=Str.ofString "held")=false:=rfl
@[simp]theorem Uv:decide (Str.ofString "held"=Str.ofString "same")=false:=rfl
@[simp]theorem V3:decide (Str.ofString "held"=Str.ofString "not")=false:=rfl
@[simp]theorem V4:decide (Str.ofString "held"=Str.ofString "and")=false:=rfl
@[simp]theorem Zz:decide (Str.ofString "held"=Str.ofString "or")=false:=rfl
@[simp]theorem Ux:decide (Str.ofString "held"=Str.ofString "both")=false:=rfl
@[simp]theorem QS:decide (Str.ofString "held"=Str.ofString "table")=false:=rfl
@[simp]theorem Vu:aN .isin (.str "same") (.tup [.str "same",.str "not"])=some true:=rfl
@[simp]theorem Yd:aN .isin (.str "not") (.tup [.str "same",.str "not"])=some true:=rfl
@[simp]theorem Yh:aN .isin (.str "and") (.tup [.str "same",.str "not"])=some false:=rfl
@[simp]theorem ZZ:aN .isin (.str "or") (.tup [.str "same",.str "not"])=some false:=rfl
@[simp]theorem Vw:aN .isin (.str "both") (.tup [.str "same",.str "not"])=some false:=rfl
@[simp]theorem Th:aN .isin (.str "table") (.tup [.str "same",.str "not"])=some false:=rfl
@[simp]theorem Vv:aN .isin (.str "held") (.tup [.str "same",.str "not"])=some false:=rfl
@[simp]theorem Yc:aN .isin (.str "same") (.tup [.str "and",.str "or"])=some false:=rfl
@[simp]theorem Z0:aN .isin (.str "not") (.tup [.str "and",.str "or"])=some false:=rfl
@[simp]theorem Z1:aN .isin (.str "and") (.tup [.str "and",.str "or"])=some true:=rfl
@[simp]theorem aca:aN .isin (.str "or") (.tup [.str "and",.str "or"])=some true:=rfl
@[simp]theorem Yg:aN .isin (.str "both") (.tup [.str "and",.str "or"])=some false:=rfl
@[simp]theorem Vt:aN .isin (.str "table") (.tup [.str "and",.str "or"])=some false:=rfl
@[simp]theorem Ye:aN .isin (.str "held") (.tup [.str "and",.str "or"])=some false:=rfl
def gl5:pg.gl 5=some (.int 4):=rfl
def gl6:pg.gl 6=some (.int 8):=rfl
def gl7:pg.gl 7=some (.int 3):=rfl
def Ko:E:=.bi .all (.comp 1 (.name 0) (.var 0) AAL (.call 8 (.cons (.var 0) ABb)))
def eG n{d:D}(dd:d=.tup xs\/d=.lst xs)(h:cG xs)(nd:xs.Nodup)(hs:ys.Sublist xs)a b(h1:a<=ys.length)(h2:ys.length<=b):
  pg.fn (n+2) 9 [.val (.tup ys),.val d,.val (.int a),.val (.int b)]=.ok (.val (.bl true)) [.val (.tup ys),.val d,.val (.int a),.val (.int b)]:=by
 have e:ev (pg.cf (n+1)) Ko [.val (.tup ys),.val d,.val (.int a),.val (.int b)]=.ok (.val (.bl true)) [.val (.tup ys),.val d,.val (.int a),.val (.int b)]:=by
  refine all1 (r:=.val (.tup ys)) (by simp) rfl rfl fun x hx=>?_
  simp[jL n dd h (hs.subset hx)]
 have hb:qX=⟨4,4,(.cons (.ite (.not (.call 3 (.cons (.var 0) (.cons (.var 2) AAg)))) AAQ .nil) (.cons (.ret (.and (.cons Ko (.cons (.call 6 AAS) .nil)))) .nil))⟩:=by kernel_rfl
 rw[z8,hb]
 simp[aW n ys a b h1 h2,e,m8 n (.inl rfl) (fun z hz=>h z (hs.subset hz)) (hs.nodup nd)]
def afZ xs:cut xs (some 1) none=xs.tail:=by
 cases xs with
 |nil=>rfl
 |cons x xs=>
  have:clip (xs.length+1) 1=1:=by simp[clip];omega
  simp[cut,this]
theorem wL:∀(rs:List (List Bool)),Ax rs=true->∀p∈rs.zip rs.tail,mK p.1 p.2=true
 |[]=>fun _ p h=>by simp at h
 |[a]=>fun _ p h=>by simp at h
 |a::b::r=>fun hi p h=>by
  simp only[Ax,QUq]at hi
  simp only[List.tail_cons,List.zip_cons_cons,QCq]at h
  rcases h with rfl|h
  ·exact hi.1
  ·exact wL _ hi.2 p (by simpa using h)
def U8:E:=.bi .all (.comp 1 (.name 0) (.var 0) AAL (.call 7 (.cons (.var 0) ABb)))
def upC:E:=.bi .all (.comp 2 (.tup [0,1]) (.zip (.var 0) (.slc (.var 0) AAG .noneE)) AAL (.cmp .lt (.var 0) (.var 1)))
def BK n rs(m:Nat)(h:∀r∈rs,r.length=m)(hi:Ax rs=true):
  pg.fn (n+3) 10 [.val (.tup (rs.map aH)),.val (.int m)]=.ok (.val (.bl true)) [.val (.tup (rs.map aH)),.val (.int m)]:=by
 have e1:ev (pg.cf (n+2)) U8 [.val (.tup (rs.map aH)),.val (.int m)]=.ok (.val (.bl true)) [.val (.tup (rs.map aH)),.val (.int m)]:=by
  refine all1 (r:=.val (.tup (rs.map aH))) (by simp) rfl rfl fun x hx=>?_
  obtain⟨r,hr,rfl⟩:=QDq.mp hx
  simp[wJ n r m (by rw[h r hr])]
 have e2:ev (pg.cf (n+2)) upC [.val (.tup (rs.map aH)),.val (.int m)]=.ok (.val (.bl true)) [.val (.tup (rs.map aH)),.val (.int m)]:=by
  have hz:aV (rs.map aH) (rs.map aH).tail=((rs.zip rs.tail).map fun p=>(aH p.1,aH p.2)).map pairD:=by
   rw[dG,<-List.map_tail,List.zip_map]
   rfl
  refine all2 (r:=.val (.lst (aV _ (rs.map aH).tail))) ?_ rfl (by show some _=some _;rw[hz]) fun x hx=>?_
  ·simp[eX,E.lE,jB,afZ]
  ·obtain⟨p,hp,rfl⟩:=QDq.mp hx
   have lt:aN .lt (aH p.1) (aH p.2)=some true:=by
    simp[aN,ltD,aH,jr,wL rs hi p hp]
   simp[lt]
 have hb:uQ=⟨2,2,(.cons (.ite (.or (.cons (.not (.isi (.var 0) .tup)) (.cons (.not U8) .nil))) AAQ .nil) (.cons (.ret upC) .nil))⟩:=by kernel_rfl
 have q:upC.az=none:=rfl
 rw[De,hb]
 simp[e1,e2,q]
def Jz n k:n+4+2*k=n+2+2*k+1+1:=by omega
def S9 n k:n+1+2*k+2=n+2+2*k+1:=by omega
def aft n k:n+2*k+3=n+2+2*k+1:=by omega
def afs n k:n+3+2*k+1=n+4+2*k:=by omega
def afr n k:n+4+2*(k+1)=n+4+2*k+1+1:=by omega
def Ha{a:Nat}(h1:c<=a)(h2:d<=c):(d:Int)<=a:=Int.ofNat_le.mpr (Nat.le_trans h2 h1)
def Hb{a:Nat}(h1:a<=c)(h2:c<=d):(a:Int)<=d:=Int.ofNat_le.mpr (Nat.le_trans h1 h2)
theorem Ea{xs:List D}(h:cG xs)(nd:xs.Nodup):∀{k:Nat}{d:D},cg xs k d->∀(n:Nat)(dp:Int),dp+k<=3->
  pg.fn (n+4+2*k) 11 [.val d,.val (.lst xs),.val (.int dp)]=.ok (.val (.bl true)) [.val d,.val (.lst xs),.val (.int dp)]:=by
 intro k d hk
 induction hk with
 | @same k x hx=>
  intro n dp _
  rw[Jz,gk]
  simp[eF,aW (n+2+2*k) [.str "same",x] 2 4 (by simp) (by simp),jL (n+2+2*k) (.inr rfl) h hx,aZ]
 | @not k x hx=>
  intro n dp _
  rw[Jz,gk]
  simp[eF,aW (n+2+2*k) [.str "not",x] 2 4 (by simp) (by simp),jL (n+2+2*k) (.inr rfl) h hx,aZ]
 | @and k ys hs h1 h2=>
  intro n dp _
  have w:=eG (n+1+2*k) (.inr rfl) h nd hs 1 4 (Ha h1 (by decide)) (Hb h2 (by decide))
  rw[S9]at w
  rw[Jz,gk]
  simp[eF,aW (n+2+2*k) [.str "and",.tup ys] 2 4 (by simp) (by simp),w,aZ,gl5]
 | @or k ys hs h1 h2=>
  intro n dp _
  have w:=eG (n+1+2*k) (.inr rfl) h nd hs 1 4 (Ha h1 (by decide)) (Hb h2 (by decide))
  rw[S9]at w
  rw[Jz,gk]
  simp[eF,aW (n+2+2*k) [.str "or",.tup ys] 2 4 (by simp) (by simp),w,aZ,gl5]
 | @both k ys hs h1 h2=>
  intro n dp _
  have w:=eG (n+1+2*k) (.inr rfl) h nd hs 2 4 (Ha h1 (by decide)) (Hb h2 (by decide))
  rw[S9]at w
  rw[Jz,gk]
  simp[eF,aW (n+2+2*k) [.str "both",.tup ys] 2 4 (by simp) (by simp),w,aZ,gl5]
 | @table k ys rs hs h1 h2 hr hi=>
  intro n dp _
  have w:=eG (n+1+2*k) (.inr rfl) h nd hs 1 8 (Ha h1 (by decide)) (Hb h2 (by decide))
  rw[S9]at w
  have z:=BK (n+2*k) rs ys.length hr hi
  rw[aft]at z
  rw[Jz,gk]
  simp[eF,aW (n+2+2*k) [.str "table",.tup ys,.tup (rs.map aH)] 2 4 (by simp) (by simp),w,z,aZ,gl6]
 | @held k d x b hk hx ih=>
  intro n dp hd
  have w:=jL (n+3+2*k) (.inr rfl) h hx
  rw[afs]at w
  have hl:pg.fn (n+4+2*k+1) 12 [.val (.tup [.str "held",d,x,.bl b]),.val (.lst xs),.val (.int (dp+1))]=.ok (.val (.bl true)) [.val (.tup [.str "held",d,x,.bl b]),.val (.lst xs),.val (.int (dp+1))]:=by
   rw[Iw]
   simp[qg,ih n (dp+1) (by omega),w]
  have lt:dp<3:=by omega
  rw[afr,gk]
  simp[eF,aW (n+4+2*k) [.str "held",d,x,.bl b] 2 4 (by simp) (by simp),hl,aZ,gl7,lt]
end Tx
end
section
open PySem Mini
namespace Tx
def Vl(h g:Nat):List Str:=(["a","b","come"]:List Str).take h++(["p","q","rr","go","abcdef"]:List Str).take g
def names(h g:Nat):List D:=hd h++dD g
def oJ h g:names h g=(Vl h g).map .str:=by
 simp[names,Vl,hd,dD,List.map_take]
def vo{ss:List Str}(h:ss.Nodup):(ss.map D.str).Nodup:=by
 induction ss with
 |nil=>simp
 |cons s ss ih=>
  rw[List.nodup_cons]at h
  rw[Qyz,List.nodup_cons]
  exact⟨fun z=>h.1 (by simpa using z),ih h.2⟩
def names_nodup(h2:h<=2)(g1:1<=g)(g4:g<=5):(names h g).Nodup:=by
 rw[oJ]
 exact vo (((List.take_sublist h _).append (List.take_sublist g _)).nodup (by decide))
def aU h g:cG (names h g):=fun x hx=>by
 rw[oJ]at hx
 obtain⟨s,_,rfl⟩:=QDq.mp hx
 exact⟨s,rfl⟩
def dZ(h2:h<=2)(g4:g<=5):(names h g).length=h+g:=by
 rw[names,QTq,iw h2,dU g4]
def Sy n s(hs:s∈Vl 3 5):pg.fn (n+1) 5 [.val (.str s)]=.ok (.val (.bl true)) [.val (.str s)]:=by
 have:Vl 3 5=(["a","b","come","p","q","rr","go","abcdef"]:List Str):=by rfl
 rw[this]at hs
 simp only[QCq,QAz,or_false]at hs
 rcases hs with rfl|rfl|rfl|rfl|rfl|rfl|rfl|rfl<;>kernel_rfl
def GD{s:Str}(hs:s∈Vl h g):s∈Vl 3 5:=by
 unfold Vl at*
 rw[QXz]at*
 rcases hs with hs|hs
 ·exact .inl (by have:=List.mem_of_mem_take hs;simpa using this)
 ·exact .inr (by have:=List.mem_of_mem_take hs;simpa using this)
def gl3:pg.gl 3=some (.int 3):=rfl
def gl4:pg.gl 4=some (.int 5):=rfl
def Do:E:=.bi .all (.comp 1 (.name 0) AAb AAL ABy)
def Fz(h:ys.length=xs.length):(aV xs ys).length=xs.length:=by
 rw[dG];simp[h]
section
def lB(h g:Nat)(ks:List D)(X:D):D:=.tup [.tup (hd h),.tup (aV (dD g) ks),X]
def Az n(O:cU h g ks ls)X:pg.fn (n+2) 2 [.val (lB h g ks X)]=.ok (.val (.bl true)) [.val (lB h g ks X)]:=by
 have lg:=dU O.g5
 have lh:=iw O.h2
 have lz:(aV (dD g) ks).length=g:=by rw[Fz (by rw[lg,O.kl]),lg]
 have e:ev (pg.cf (n+1)) Do [.val (lB h g ks X)]=.ok (.val (.bl true)) [.val (lB h g ks X)]:=by
  refine all1 (r:=.val (.tup (aV (dD g) ks))) (by simp[lB]) rfl rfl fun x hx=>?_
  rw[dG]at hx
  obtain⟨p,_,rfl⟩:=QDq.mp hx
  simp[pairD,aW n [p.1,p.2] 2 2 (by simp) (by simp)]
 have hb:qW=⟨1,1,(.cons (.ite (.or (.cons (.not (.call 3 (.cons AAH (.cons AAd (.cons (.glob 3) .nil))))) (.cons (.not (.call 3 (.cons AAb (.cons AAG (.cons (.glob 4) .nil))))) .nil))) AAQ .nil) (.cons (.ret Do) .nil))⟩:=by kernel_rfl
 have q:Do.az=none:=rfl
 rw[z7,hb]
 simp only[lB]at*
 simp[aW n (hd h) 0 3 (by omega) (by have:=O.h2;omega),aW n (aV (dD g) ks) 1 5 (by have:=O.g1;omega) (by have:=O.g5;omega),gl3,gl4,e,q]
def Vm:E:=.bi .all (.comp 1 (.name 0) (.var 1) AAL (.call 5 AAS))
def Vq:E:=.bi .all (.comp 2 (.tup [0,1]) AAb AAL (.call 11 (.cons (.var 1) (.cons (.var 3) ABQ))))
def NT n(O:cU h g ks ls)X b(t5:pg.fn (n+6) 7 [.val X,.val (.int (names h g).length)]=.ok (.val (.bl b)) [.val X,.val (.int (names h g).length)]):pg.fn (n+7) 1 [.val (lB h g ks X)]=.ok (.val (.bl b)) [.val (lB h g ks X)]:=by
 have lg:=dU O.g5
 have lh:=iw O.h2
 have T:=aU h g
 have Nd:=names_nodup O.h2 O.g1 O.g5
 have e1:ev (pg.cf (n+6)) Vm [.val (lB h g ks X),.own (.lst (names h g))]=.ok (.val (.bl true)) [.val (lB h g ks X),.val (.lst (names h g))]:=by
  refine all1 (r:=.val (.lst (names h g))) (by simp) rfl rfl fun x hx=>?_
  rw[oJ]at hx
  obtain⟨s,hs,rfl⟩:=QDq.mp hx
  simp[Sy (n+5) s (GD hs)]
 have e2:ev (pg.cf (n+6)) Vq [.val (lB h g ks X),.val (.lst (names h g))]=.ok (.val (.bl true)) [.val (lB h g ks X),.val (.lst (names h g))]:=by
  refine all2 (r:=.val (.tup (aV (dD g) ks))) (by simp[lB]) rfl (by show some _=some _;rw[dG]) fun x hx=>?_
  simp[Ea T Nd (O.kk x.2 (List.of_mem_zip hx).2) n 0 (by decide)]
 have hb:By=⟨1,2,(.cons (.ite (.or (.cons (.not (.call 3 (.cons (.var 0) (.cons AAT AAz)))) (.cons (.not (.call 2 AAS)) .nil))) AAQ .nil) (.cons (.set 1 ACN) (.cons (.ite (.or (.cons (.not Vm) (.cons (.not (.call 6 AAi)) .nil))) AAQ .nil) (.cons (.ret (.and (.cons Vq (.cons (.call 7 (.cons AAf ABX)) .nil)))) .nil))))⟩:=by kernel_rfl
 rw[LK,hb]
 have nn:hd h++dD g=names h g:=rfl
 have g2:getD (lB h g ks X) (.int 2)=some X:=by simp[lB]
 have t1':pg.fn _ 3 [.val (lB h g ks X),.val _,.val _]=.ok _ [.val _,.val _,.val _]:=aW (n+5) [.tup (hd h),.tup (aV (dD g) ks),X] 3 3 (by simp) (by simp)
 have t3':pg.fn _ 13 [.val (lB h g ks X)]=.ok (.new (.lst (names h g))) [.val _]:=fB (n+5) (hd h) (dD g) ks X (by rw[O.kl,lg]) (by have:=O.h2;have:=O.g5;omega)
 simp[t1',Az (n+4) O X,t3',e1,m8 (n+5) (.inr rfl) T Nd,e2,g2,t5]
def JB n(O:cU h g ks ls):pg.fn (n+7) 1 [.val (aF h g ks ls)]=.ok (.val (.bl true)) [.val (aF h g ks ls)]:=
 NT n O _ true (wJ _ ls (names h g).length (by rw[dZ O.h2 O.g5,O.ll]))
def Ew n(O:cU h g ks ls):pg.fn (n+8) 0 [.val (aF h g ks ls)]=.ok (.val (aF h g ks ls)) [.val (aF h g ks ls)]:=by
 rw[Iz]
 simp[qi,JB n O]
end
end Tx
end
section
open PySem Mini
namespace Tx
theorem goD(τ:Int->Ev){cond elt:Ev->Out Rv}(P:D->D->Prop)(all:Bool):∀(xs acc:List D)(k:Int)(s:Sl),0<=k->dB s->
  (∀x∈xs,∀k,0<=k->∃b k',0<=k'/\(all=true->b=true)/\cond (.val x::τ k)=.ok (.val (.bl b)) (.val x::τ k'))->
  (∀x∈xs,∀k,0<=k->∃y k',0<=k'/\P x y/\elt (.val x::τ k)=.ok (.val y) (.val x::τ k'))->
  ∃(zs:List (D×D))(k':Int)(s':Sl),(zs.map (·.1)).Sublist xs/\(all=true->zs.map (·.1)=xs)/\(∀p∈zs,P p.1 p.2)/\0<=k'/\aQ (.name 0) cond elt xs acc (s::τ k)=.ok (acc++zs.map (·.2)) (s'::τ k')
 |[]=>fun acc k s hk _ _ _=>⟨[],k,s,List.Sublist.refl _,fun _=>rfl,fun p h=>(by cases h),hk,by simp[aQ]⟩
 |x::xs=>fun acc k s hk hs hc he=>by
  obtain⟨b,k1,a1,a2,a3⟩:=hc x QYz k hk
  rw[aQ,pF hs]
  simp only[a3,fG]
  cases b with
  |true=>
   obtain⟨y,k2,b1,b2,b3⟩:=he x QYz k1 a1
   obtain⟨zs,k',s',c1,c2,c3,c4,c5⟩:=goD τ P all xs _ k2 _ b1 (.inr ⟨_,rfl⟩) (fun z hz=>hc z (QYq _ hz)) fun z hz=>he z (QYq _ hz)
   refine⟨(x,y)::zs,k',s',c1.cons_cons x,fun h=>by simp[c2 h],fun p hp=>?_,c4,?_⟩
   ·rcases QCq.mp hp with rfl|hp
    ·exact b2
    ·exact c3 p hp
   ·rw[if_pos rfl,b3,cA,c5]
    simp
  |false=>
   obtain⟨zs,k',s',c1,c2,c3,c4,c5⟩:=goD τ P all xs acc k1 _ a1 (.inr ⟨_,rfl⟩) (fun z hz=>hc z (QYq _ hz)) fun z hz=>he z (QYq _ hz)
   exact⟨zs,k',s',c1.cons x,fun h=>by simpa using a2 h,c3,c4,by rw[if_neg (by simp),c5]⟩
def Py{σ:Ev}{r:Rv}{xs:List D}(τ:Int->Ev)(P:D->D->Prop)(all:Bool)(hk:0<=k)(hi:ev c it σ=.ok r (τ k))(hr:r.j8=some d)(hd:items d=some xs)
  (hc:∀x∈xs,∀k,0<=k->∃b k',0<=k'/\(all=true->b=true)/\ev c co (.val x::τ k)=.ok (.val (.bl b)) (.val x::τ k'))
  (he:∀x∈xs,∀k,0<=k->∃y k',0<=k'/\P x y/\ev c el (.val x::τ k)=.ok (.val y) (.val x::τ k')):
  ∃(zs:List (D×D))(k':Int),(zs.map (·.1)).Sublist xs/\(all=true->zs.map (·.1)=xs)/\(∀p∈zs,P p.1 p.2)/\0<=k'/\ev c (.comp 1 (.name 0) it co el) σ=.ok (.new (.lst (zs.map (·.2)))) (τ k'):=by
 obtain⟨zs,k',s',a1,a2,a3,a4,a5⟩:=goD τ P all xs [] k .un hk (.inl rfl) hc he
 refine⟨zs,k',a1,a2,a3,a4,?_⟩
 rw[nQ,hi]
 have b:∀{β:Type}(g:D->Ev->Out β),(Out.ok r (τ k)).ao g=g d (τ k):=fun g=>by cases r<;>simp[Rv.j8]at hr<;>subst hr<;>rfl
 rw[b]
 simp only[hd]
 rw[show List.replicate 1 Sl.un++τ k=.un::τ k from rfl,a5]
 simp
def qG(m:D×Nat):D:=.tup [m.1,.int m.2]
def gZ(st:List (D×Nat)):D:=.tup (st.map qG)
def aG(os:List D)(sts:List (List (D×Nat))):D:=.tup [.tup os,.tup (sts.map gZ)]
structure cT(h g:Nat)(os:List D)(sts:List (List (D×Nat))):Prop where
 ou:os.Sublist (dD g)
 s1:1<=sts.length
 s4:sts.length<=4
 mv:∀st∈sts,(st.map (·.1)).Sublist (hd h++os)/\∀m∈st,m.2<sts.length
def R6:E:=.comp 1 (.name 0) AAe ABT AAH
def U7:E:=.comp 1 (.name 0) (.op .add AAZ (.var 4)) qP (.var 0)
def Xz:E:=(.tup (.cons (.var 0) (.cons (.call 29 (.cons (.var 1) (.cons (.ref 2) (.cons (.var 6) .nil)))) .nil)))
def XC:E:=.comp 1 (.name 0) (.var 8) AAL Xz
def zz:S:=(.cons (.set 8 U7) (.cons (.append 6 (.bi .tuple XC)) .nil))
def Wv{zs:List (D×D)}(h:(zs.map (·.1)).Sublist xs)(e:∀p∈zs,p.2=p.1):(zs.map (·.2)).Sublist xs:=by
 rw[show zs.map (·.2)=zs.map (·.1)from List.map_congr_left e];exact h
section
variable(n:Nat)(ns:List Int)(hs os gs:List D)(x:D)(s3 s5 s6 s7 s8:Sl)
def K9(k:Int)(hk:0<=k)(hl:hs.length+os.length<=900):∃(ys:List D)(k':Int),ys.Sublist (hs++os)/\0<=k'/\
  ev (pg.cf (n+3)) U7 [.val (sc ns),.bor (.lst [.int k]),.val (.tup [.tup hs,.tup gs,x]),s3,.val (.tup os),s5,s6,s7,s8]=.ok (.new (.lst ys)) [.val (sc ns),.bor (.lst [.int k']),.val (.tup [.tup hs,.tup gs,x]),s3,.val (.tup os),s5,s6,s7,s8]:=by
 have f:fits (hs.length+os.length)=true:=by simp[fits];omega
 obtain⟨zs,k',a1,a2,a3,a4,a5⟩:=Py (it:=(.op .add AAZ (.var 4))) (el:=.var 0) (σ:=[.val (sc ns),.bor (.lst [.int k]),.val (.tup [.tup hs,.tup gs,x]),s3,.val (.tup os),s5,s6,s7,s8]) (fun k=>[.val (sc ns),.bor (.lst [.int k]),.val (.tup [.tup hs,.tup gs,x]),s3,.val (.tup os),s5,s6,s7,s8])
  (fun x y=>y=x) false hk (r:=.val (.tup (hs++os))) (by simp[f]) rfl rfl
  (fun x _ k hk=>by obtain⟨b,e⟩:=yR n ns k hk x [.val _,s3,.val _,s5,s6,s7,s8];exact⟨b,k+1,by omega,by simp,e⟩) fun x _ k hk=>⟨x,k,hk,rfl,by simp⟩
 exact⟨_,k',Wv a1 a3,a4,a5⟩
theorem SJ(k:Int)(hk:0<=k)(ys:List D)(many:Nat)(h1:1<=many)(net:D)(s4:Sl):∃(st:List (D×Nat))(k':Int),st.map (·.1)=ys/\(∀m∈st,m.2<many)/\0<=k'/\
  ev (pg.cf (n+3)) XC [.val (sc ns),.bor (.lst [.int k]),.val net,s3,s4,.val (.int many),s6,s7,.own (.lst ys)]=.ok (.new (.lst (st.map qG))) [.val (sc ns),.bor (.lst [.int k']),.val net,s3,s4,.val (.int many),s6,s7,.val (.lst ys)]:=by
 obtain⟨zs,k',a1,a2,a3,a4,a5⟩:=Py (c:=pg.cf (n+3)) (it:=.var 8) (co:=.con (.bl true)) (el:=Xz) (σ:=[.val (sc ns),.bor (.lst [.int k]),.val net,s3,s4,.val (.int many),s6,s7,.own (.lst ys)]) (fun k=>[.val (sc ns),.bor (.lst [.int k]),.val net,s3,s4,.val (.int many),s6,s7,.val (.lst ys)])
  (fun x y=>∃j:Nat,j<many/\y=qG (x,j)) true hk (r:=.val (.lst ys)) (by simp) rfl rfl
  (fun x _ k hk=>⟨true,k,hk,fun _=>rfl,by simp⟩) fun x _ k hk=>by
   obtain⟨q,q1,q2,e⟩:=bG n ns k many hk (by omega)
   obtain⟨j,rfl⟩:∃j:Nat,q=j:=⟨q.toNat,by omega⟩
   exact⟨_,k+1,by omega,⟨j,by omega,rfl⟩,by simp[Xz,e,aZ,qG]⟩
 have pick:∀(zs:List (D×D)),(∀p∈zs,∃j:Nat,j<many/\p.2=qG (p.1,j))->∃st:List _,st.map (·.1)=zs.map (·.1)/\(∀m∈st,m.2<many)/\st.map qG=zs.map (·.2):=by
  intro zs
  induction zs with
  |nil=>exact fun _=>⟨[],rfl,fun m h=>(by cases h),rfl⟩
  |cons z zs ih=>
   intro h
   obtain⟨j,j1,j2⟩:=h z QYz
   obtain⟨st,b1,b2,b3⟩:=ih fun p hp=>h p (QYq _ hp)
   refine⟨(z.1,j)::st,by simp[b1],fun m hm=>?_,by simp[b3,j2]⟩
   rcases QCq.mp hm with rfl|hm
   ·exact j1
   ·exact b2 m hm
 obtain⟨st,b1,b2,b3⟩:=pick zs a3
 exact⟨st,k',by rw[b1,a2 rfl],b2,a4,by rw[b3];exact a5⟩
def HX(k:Int)(hk:0<=k)(hl:hs.length+os.length<=900)(many:Nat)(h1:1<=many)(acc:List D)(ha:acc.length<=1000)(h8:dB s8):∃(st:List (D×Nat))(k':Int)(s':Sl),(st.map (·.1)).Sublist (hs++os)/\(∀m∈st,m.2<many)/\0<=k'/\dB s'/\
  ex (pg.cf (n+3)) zz [.val (sc ns),.bor (.lst [.int k]),.val (.tup [.tup hs,.tup gs,x]),s3,.val (.tup os),.val (.int many),.own (.lst acc),s7,s8]=.next [.val (sc ns),.bor (.lst [.int k']),.val (.tup [.tup hs,.tup gs,x]),s3,.val (.tup os),.val (.int many),.own (.lst (acc++[gZ st])),s7,s']:=by
 obtain⟨ys,k1,a1,a2,a3⟩:=K9 n ns hs os gs x s3 (.val (.int many)) (.own (.lst acc)) s7 s8 k hk hl
 obtain⟨st,k',b1,b2,b3,b4⟩:=SJ n ns s3 (.own (.lst acc)) s7 k1 a2 ys many h1 (.tup [.tup hs,.tup gs,x]) (.val (.tup os))
 have f:fits (acc.length+1)=true:=by simp[fits];omega
 have q:XC.az=none:=rfl
 refine⟨st,k',.val (.lst ys),by rw[b1];exact a1,b2,b3,.inr ⟨_,rfl⟩,?_⟩
 rcases h8 with rfl|⟨e,rfl⟩<;>simp[zz,a3,b4,gQ,Dt,f,q,gZ]
theorem vI(hl:hs.length+os.length<=900)(many:Nat)(h1:1<=many):∀(xs:List D)(acc:List (List (D×Nat)))(k:Int)(s7 s8:Sl),0<=k->dB s7->dB s8->acc.length+xs.length<=1000->∃(sts:List (List (D×Nat)))(k':Int)(t7 t8:Sl),sts.length=xs.length/\(∀st∈sts,(st.map (·.1)).Sublist (hs++os)/\∀m∈st,m.2<many)/\0<=k'/\
  cX (.name 7) (ex (pg.cf (n+3)) zz) xs [.val (sc ns),.bor (.lst [.int k]),.val (.tup [.tup hs,.tup gs,x]),s3,.val (.tup os),.val (.int many),.own (.lst (acc.map gZ)),s7,s8]=.next [.val (sc ns),.bor (.lst [.int k']),.val (.tup [.tup hs,.tup gs,x]),s3,.val (.tup os),.val (.int many),.own (.lst ((acc++sts).map gZ)),t7,t8]
 |[]=>fun acc k s7 s8 hk _ _ _=>⟨[],k,s7,s8,rfl,fun st h=>(by cases h),hk,by simp[cX]⟩
 |y::xs=>fun acc k s7 s8 hk h7 h8 hx=>by
  simp only[QBq]at hx
  obtain⟨st,k1,s',a1,a2,a3,a4,a5⟩:=HX n ns hs os gs x s3 _ s8 k hk hl many h1 (acc.map gZ) (by simp;omega) h8
  obtain⟨sts,k',t7,t8,b1,b2,b3,b4⟩:=vI hl many h1 xs (acc++[st]) k1 _ s' a3 (.inr ⟨_,rfl⟩) a4 (by simp;omega)
  refine⟨st::sts,k',t7,t8,by simp[b1],fun q hq=>?_,b3,?_⟩
  ·rcases QCq.mp hq with rfl|hq
   ·exact⟨a1,a2⟩
   ·exact b2 q hq
  ·rw[cX]
   have st1:cR (.name 7) y [.val (sc ns),.bor (.lst [.int k]),.val (.tup [.tup hs,.tup gs,x]),s3,.val (.tup os),.val (.int many),.own (.lst (acc.map gZ)),s7,s8]=some [.val (sc ns),.bor (.lst [.int k]),.val (.tup [.tup hs,.tup gs,x]),s3,.val (.tup os),.val (.int many),.own (.lst (acc.map gZ)),.val y,s8]:=by
    rcases h7 with rfl|⟨e,rfl⟩<;>simp[cR]
   rw[st1]
   simp only
   rw[a5,pB]
   rw[show acc.map gZ++[gZ st]=(acc++[st]).map gZ by simp,b4]
   simp
end
theorem lR:∀(m:Nat)(lo:Int),(bN lo m).length=m
 |0=>fun _=>rfl
 |m+1=>fun lo=>by simp[bN,lR m]
def R5(n:Nat)(ns:List Int)(k:Int)(hk:0<=k)(hs gs ks:List D)(x:D)(hl:ks.length=gs.length)(s3 s4 s5 s6 s7 s8:Sl):∃(os:List D)(k':Int),os.Sublist gs/\0<=k'/\
  ev (pg.cf (n+3)) R6 [.val (sc ns),.bor (.lst [.int k]),.val (.tup [.tup hs,.tup (aV gs ks),x]),s3,s4,s5,s6,s7,s8]=.ok (.new (.lst os)) [.val (sc ns),.bor (.lst [.int k']),.val (.tup [.tup hs,.tup (aV gs ks),x]),s3,s4,s5,s6,s7,s8]:=by
 obtain⟨zs,k',a1,a2,a3,a4,a5⟩:=Py (c:=pg.cf (n+3)) (it:=AAe) (co:=ABT) (el:=AAH) (σ:=[.val (sc ns),.bor (.lst [.int k]),.val (.tup [.tup hs,.tup (aV gs ks),x]),s3,s4,s5,s6,s7,s8]) (fun k=>[.val (sc ns),.bor (.lst [.int k]),.val (.tup [.tup hs,.tup (aV gs ks),x]),s3,s4,s5,s6,s7,s8])
  (fun x y=>y=pY x) false hk (r:=.val (.tup (aV gs ks))) (by simp) rfl rfl
  (fun x _ k hk=>by
   obtain⟨q,_,_,e⟩:=bG n ns k 3 hk (by omega)
   exact⟨decide (0<q),k+1,by omega,by simp,by simp[e]⟩) fun x hx k hk=>by
   rw[dG]at hx
   obtain⟨p,_,rfl⟩:=QDq.mp hx
   exact⟨_,k,hk,rfl,by simp[pairD,pY]⟩
 refine⟨_,k',?_,a4,a5⟩
 have:=a1.map pY
 rw[xr gs ks hl]at this
 rw[show zs.map (·.2)=(zs.map (·.1)).map pY by rw[List.map_map];exact List.map_congr_left a3]
 exact this
def Q6(n:Nat)(ns:List Int)(k:Int)(hk:0<=k){ks:List D}(O:cU h g ks ls):∃os sts k',cT h g os sts/\0<=k'/\
  pg.fn (n+4) 34 [.val (sc ns),.bor (.lst [.int k]),.val (aF h g ks ls),.val (.int 4)]=.ok (.val (aG os sts)) [.val (sc ns),.bor (.lst [.int k']),.val (aF h g ks ls),.val (.int 4)]:=by
 have lg:=dU O.g5
 have lh:=iw O.h2
 obtain⟨os,k1,a1,a2,a3⟩:=R5 n ns k hk (hd h) (dD g) ks _ (by rw[O.kl,lg]) _ .un .un .un .un .un
 obtain⟨q,q1,q2,eq⟩:=bG n ns k1 4 a2 (by omega)
 obtain⟨m,rfl⟩:∃m:Nat,q=m:=⟨q.toNat,by omega⟩
 have lo:=a1.length_le
 have:=O.h2
 have:=O.g5
 obtain⟨sts,k',t7,t8,b1,b2,b3,b4⟩:=vI n ns (hd h) os _ _ _ (by omega) (1+m) (by omega) (bN 0 (1+m)) [] (k1+1) .un .un (by omega) (.inl rfl) (.inl rfl) (by simp[lR];omega)
 rw[lR]at b1
 refine⟨os,sts,k',⟨a1,by omega,by omega,fun st hst=>?_⟩,b3,?_⟩
 ·rw[b1];exact b2 st hst
 ·have hb:uN=⟨4,9,.cons (.set 4 (.bi .tuple R6)) (.cons (.set 5 ABS) (.cons (.set 6 ABs) (.cons (.for_ (.name 7) (.range1 (.var 5)) zz) (.cons (.ret (.tup (.cons (.var 4) (.cons (.bi .tuple (.var 6)) .nil)))) .nil))))⟩:=by kernel_rfl
  rw[CV,hb]
  have q0:R6.az=none:=rfl
  have fm:fits (1+m)=true:=by simp[fits];omega
  have md:zb (1+m)=true:=by simp[zb];omega
  have tn:(1+(m:Int)).toNat=1+m:=by omega
  have b4':cX (.name 7) (ex (pg.cf (n+3)) zz) (bN 0 (1+m)) [.val (sc ns),.bor (.lst [.int (k1+1)]),.val (aF h g ks ls),.val (.int 4),.val (.tup os),.val (.int (1+m)),.own (.lst []),.un,.un]=.next [.val (sc ns),.bor (.lst [.int k']),.val (aF h g ks ls),.val (.int 4),.val (.tup os),.val (.int (1+m)),.own (.lst (sts.map gZ)),t7,t8]:=by simpa[aF]using b4
  have a3':ev _ R6 [.val _,.bor _,.val (aF h g ks ls),.val (.int 4),.un,.un,.un,.un,.un]=.ok _ [.val _,.bor _,.val (aF h g ks ls),.val _,.un,.un,.un,.un,.un]:=a3
  simp[a3',q0,eq,aZ,fm,md,tn,b4',items,aG]
end Tx
end
section
open PySem Mini
namespace Tx
def Hc:E:=(.comp 1 (.name 0) (.var 2) AAL qP)
def Np n ns k(hk:0<=k)xs s3 s4:∃(bs:List Bool)(k':Int),bs.length=xs.length/\0<=k'/\
  ev (pg.cf (n+3)) Hc [.val (sc ns),.bor (.lst [.int k]),.own (.lst xs),s3,s4]=.ok (.new (.lst (bs.map .bl))) [.val (sc ns),.bor (.lst [.int k']),.val (.lst xs),s3,s4]:=by
 obtain⟨bs,k',s',a1,a2,a3,a4⟩:=uz n ns [.val _,s3,s4] xs [] k .un hk (.inl rfl)
 refine⟨bs,k',a1,a2,?_⟩
 have h:ev (pg.cf (n+3)) (.var 2) [.val (sc ns),.bor (.lst [.int k]),.own (.lst xs),s3,s4]=.ok (.val (.lst xs)) [.val (sc ns),.bor (.lst [.int k]),.val (.lst xs),s3,s4]:=by simp
 unfold Hc
 rw[nQ,h,cA]
 simp only[items]
 rw[show List.replicate 1 Sl.un++[.val _,.bor _,.val _,s3,s4]=.un:: .val _:: .bor _::[.val _,s3,s4]from rfl,a4]
 simp
noncomputable def U9:S:=(.cons (.append 3 (.tup (.cons (.idx (.var 2) (.var 4)) (.cons (.tup (.cons AAm (.cons (.tup (.cons AAu (.cons (.idx (.var 2) (.op .sub (.var 4) AAG)) .nil))) (.cons (.idx (.var 2) (.op .mod (.op .add (.var 4) AAG) ABk)) (.cons (.con (.bl false)) .nil))))) .nil)))) .nil)
def rk(a b:String):D:=.tup [.str "held",.tup [.str "same",.str a],.str b,.bl false]
def zQ:Nat->List D
 |3=>[rk "rr" "q",rk "p" "rr",rk "q" "p"]
 |4=>[rk "go" "q",rk "p" "rr",rk "q" "go",rk "rr" "p"]
 |_=>[rk "abcdef" "q",rk "p" "rr",rk "q" "go",rk "rr" "abcdef",rk "go" "p"]
def Io c s0 s1 g(hg:g=3\/g=4\/g=5):∃s4,cX (.name 4) (ex c U9) (bN 0 g) [s0,s1,.own (.lst (dD g)),.own (.lst []),.un]=.next [s0,s1,.own (.lst (dD g)),.own (.lst (aV (dD g) (zQ g))),s4]:=by
 refine⟨.val (.int (g-1)),?_⟩
 rcases hg with rfl|rfl|rfl
 all_goals
  try rfl
def CP g(hg:g=3\/g=4\/g=5):∀d∈zQ g,cg (hd 0++dD g) 1 d:=by
 intro d h
 rcases hg with rfl|rfl|rfl<;>simp only[zQ,QCq,QAz,or_false]at h<;>rcases h with rfl|rfl|rfl|rfl|rfl<;>exact .held (.same (by simp[hd,dD])) (by simp[hd,dD])
def RD n ns k(hk:0<=k):∃g ks ls k',cU 0 g ks ls/\3<=g/\0<=k'/\pg.fn (n+4) 35 [.val (sc ns),.bor (.lst [.int k])]=.ok (.val (aF 0 g ks ls)) [.val (sc ns),.bor (.lst [.int k'])]:=by
 obtain⟨r,r1,r2,er⟩:=bG n ns k 3 hk (by omega)
 obtain⟨g,hg,hr⟩:∃g:Nat,(g=3\/g=4\/g=5)/\3+r=g:=⟨(3+r).toNat,by omega,by omega⟩
 have lg:(dD g).length=g:=dU (by omega)
 obtain⟨s4,a⟩:=Io (pg.cf (n+3)) (.val (sc ns)) (.bor (.lst [.int (k+1)])) g hg
 obtain⟨bs,k',b1,b2,b3⟩:=Np n ns (k+1) (by omega) (dD g) (.own (.lst (aV (dD g) (zQ g)))) s4
 refine⟨g,zQ g,bs,k',⟨by omega,by omega,by omega,?_,CP g hg,by omega⟩,by omega,b2,?_⟩
 ·rcases hg with rfl|rfl|rfl<;>rfl
 ·have hb:uO=⟨2,5,(.cons (.set 2 (.slc (.lis AAj) .noneE (.op .add AAT (.call 29 (.cons (.var 0) (.cons (.ref 1) AAz)))))) (.cons (.set 3 ABs) (.cons (.for_ (.name 4) (.range1 ABk) U9) (.cons (.ret (.tup (.cons (.tup .nil) (.cons (.bi .tuple (.var 3)) (.cons (.bi .tuple Hc) .nil))))) .nil))))⟩:=by kernel_rfl
  rw[CZ,hb]
  have sl:jB (.lst [.str "p",.str "q",.str "rr",.str "go",.str "abcdef"]) none (some g)=some (.new (.lst (dD g))):=by
   rcases hg with rfl|rfl|rfl<;>rfl
  have fg:fits g=true:=by simp[fits];omega
  have md:zb g=true:=by simp[zb];omega
  have q:Hc.az=none:=rfl
  simp[er,hr,sl,aZ,eX,E.lE,lg,fg,md,items,a,b3,q,aF,hd]
def qd:S:=(.cons (.set 7 AAc) (.cons (.append 5 (.tup (.cons (.var 6) (.cons (.tup (.cons (.idx (.lis AAX) (.var 7)) AAg)) .nil)))) (.cons (.append 4 (.cmp .eq (.idx (.var 4) (.neg AAG)) (.cmp .eq (.var 7) AAd))) (.cons (.set 3 (.var 6)) .nil))))
def Ub xs b:at? (xs++[b]) (-1)=some b:=by
 unfold at? ix?
 have e:(-1+((xs.length:Int)+1)).toNat=xs.length:=by omega
 have e2:(0:Int)<= -1+(xs.length+1):=by omega
 have e3: -1+((xs.length:Int)+1)<xs.length+1:=by omega
 simp[e,e2,e3]
def Ey n ns k(hk:0<=k)s2 s7(h7:dB s7)a x ls l acc(hl:ls.length<=1000)(ha:acc.length<=1000):
  ∃(w:Str)(b:Bool)(t7:Sl),(w="same"\/w="not")/\dB t7/\ex (pg.cf (n+3)) qd [.val (sc ns),.bor (.lst [.int k]),s2,.val a,.own (.lst ((ls++[l]).map .bl)),.own (.lst acc),.val x,s7]
   =.next [.val (sc ns),.bor (.lst [.int (k+1)]),s2,.val x,.own (.lst ((ls++[l]++[b]).map .bl)),.own (.lst (acc++[.tup [x,.tup [.str w,a]]])),.val x,t7]:=by
 obtain⟨r,r1,r2,er⟩:=bG n ns k 2 hk (by omega)
 have fa:fits (acc.length+1)=true:=by simp[fits];omega
 have fb:fits (ls.length+1+1)=true:=by simp[fits];omega
 have al:at? (ls.map D.bl++[.bl l]) (-1)=some _:=Ub _ _
 rcases (by omega:r=0\/r=1)with rfl|rfl
 ·refine⟨"same",l==true,.val (.int 0),.inl rfl,.inr ⟨_,rfl⟩,?_⟩
  rcases h7 with rfl|⟨e,rfl⟩<;>simp[qd,er,aZ,fa,fb,gQ,Dt,al]
 ·refine⟨"not",l==false,.val (.int 1),.inr rfl,.inr ⟨_,rfl⟩,?_⟩
  rcases h7 with rfl|⟨e,rfl⟩<;>simp[qd,er,aZ,fa,fb,gQ,Dt,al]
theorem uG(n:Nat)(ns:List Int)(s2:Sl):∀(xs acc:List D)(k:Int)(s6 s7:Sl)(a:D)(ls:List Bool)(l:Bool),0<=k->dB s6->dB s7->ls.length+xs.length<=1000->acc.length+xs.length<=1000->
  ∃(ks:List D)(bs:List Bool)(k':Int)(t3 t6 t7:Sl),ks.length=xs.length/\bs.length=xs.length/\0<=k'/\(∀d∈ks,∃y∈a::xs,d=.tup [.str "same",y]\/d=.tup [.str "not",y])/\
   cX (.name 6) (ex (pg.cf (n+3)) qd) xs [.val (sc ns),.bor (.lst [.int k]),s2,.val a,.own (.lst ((ls++[l]).map .bl)),.own (.lst acc),s6,s7]=.next [.val (sc ns),.bor (.lst [.int k']),s2,t3,.own (.lst ((ls++[l]++bs).map .bl)),.own (.lst (acc++aV xs ks)),t6,t7]
 |[]=>fun acc k s6 s7 a ls l hk _ _ _ _=>⟨[],[],k,.val a,s6,s7,rfl,rfl,hk,fun d h=>(by cases h),by simp[cX,aV]⟩
 |x::xs=>fun acc k s6 s7 a ls l hk h6 h7 hl ha=>by
  simp only[QBq]at hl ha
  obtain⟨w,b,t,a1,a2,a3⟩:=Ey n ns k hk s2 s7 h7 a x ls l acc (by omega) (by omega)
  obtain⟨ks,bs,k',t3,t6,t7,b1,b2,b3,b4,b5⟩:=uG n ns s2 xs (acc++[.tup [x,.tup [.str w,a]]]) (k+1) (.val x) t x (ls++[l]) b (by omega) (.inr ⟨_,rfl⟩) a2 (by simp;omega) (by simp;omega)
  refine⟨.tup [.str w,a]::ks,b::bs,k',t3,t6,t7,by simp[b1],by simp[b2],b3,fun d hd=>?_,?_⟩
  ·rcases QCq.mp hd with rfl|hd
   ·exact⟨a,QYz,by rcases a1 with rfl|rfl<;>simp⟩
   ·obtain⟨y,hy,e⟩:=b4 d hd
    exact⟨y,QYq _ hy,e⟩
  ·have st:cR (.name 6) x [.val (sc ns),.bor (.lst [.int k]),s2,.val a,.own (.lst ((ls++[l]).map .bl)),.own (.lst acc),s6,s7]=some [.val (sc ns),.bor (.lst [.int k]),s2,.val a,.own (.lst ((ls++[l]).map .bl)),.own (.lst acc),.val x,s7]:=by
    rcases h6 with rfl|⟨e,rfl⟩<;>simp[cR]
   rw[cX,st]
   simp only
   rw[a3,pB,b5]
   simp[aV]
def PL n ns k(hk:0<=k):∃h g ks ls os sts k',cU h g ks ls/\cT h g os sts/\0<=k'/\pg.fn (n+4) 36 [.val (sc ns),.bor (.lst [.int k])]=.ok (.val (.tup [aF h g ks ls,aG os sts])) [.val (sc ns),.bor (.lst [.int k'])]:=by
 obtain⟨r,r1,r2,er⟩:=bG n ns k 4 hk (by omega)
 obtain⟨g,hg,hr⟩:∃g:Nat,(g=1\/g=2\/g=3\/g=4)/\1+r=g:=⟨(1+r).toNat,by omega,by omega⟩
 have lg:(dD g).length=g:=dU (by omega)
 obtain⟨q,q1,q2,eq⟩:=bG n ns (k+1) 2 (by omega) (by omega)
 obtain⟨ks,bs,k',t3,t6,t7,b1,b2,b3,b4,b5⟩:=uG n ns _ (dD g) [] (k+1+1) .un .un _ [] _ (by omega) (.inl rfl) (.inl rfl) (by simp;omega) (by simp;omega)
 obtain⟨z,z1,z2⟩:∃z,at? (dD g) (-1)=some z/\z∈dD g:=by
  rcases hg with rfl|rfl|rfl|rfl
  ·exact⟨.str "p",rfl,by simp[dD]⟩
  ·exact⟨.str "q",rfl,by simp[dD]⟩
  ·exact⟨.str "rr",rfl,by simp[dD]⟩
  ·exact⟨.str "go",rfl,by simp[dD]⟩
 refine⟨1,g,ks,(q==1)::bs,[z],[[(.str "a",1)],[(z,0)]],k',⟨by omega,by omega,by omega,by omega,fun d dm=>?_,by simp[b2,lg];omega⟩,⟨by simpa using z2,by simp,by simp,fun st h=>?_⟩,b3,?_⟩
 ·obtain⟨y,hy,e⟩:=b4 d dm
  have hy':y∈hd 1++dD g:=by simpa[hd]using hy
  rcases e with rfl|rfl
  ·exact .same hy'
  ·exact .not hy'
 ·simp only[QCq,QAz,or_false]at h
  rcases h with rfl|rfl<;>simp[hd]
 ·have hb:qU=⟨2,8,(.cons (.set 2 (.slc (.lis (.cons ABZ (.cons ABY (.cons (.con (.str "rr")) (.cons (.con (.str "go")) .nil))))) .noneE (.op .add AAG (.call 29 (.cons (.var 0) (.cons (.ref 1) AAv)))))) (.cons (.set 3 AAs) (.cons (.set 4 (.lis (.cons ABn .nil))) (.cons (.set 5 ABs) (.cons (.for_ (.name 6) (.var 2) qd) (.cons (.ret (.tup (.cons (.tup (.cons (.tup (.cons AAs .nil)) (.cons ABc (.cons (.bi .tuple (.var 4)) .nil)))) (.cons (.tup (.cons (.tup (.cons (.idx (.var 2) (.neg AAG)) .nil)) (.cons (.tup (.cons (.tup (.cons (.tup (.cons AAs ABe)) .nil)) (.cons (.tup (.cons (.tup (.cons (.idx (.var 2) (.neg AAG)) ABQ)) .nil)) .nil))) .nil))) .nil)))) .nil))))))⟩:=by kernel_rfl
  rw[z6,hb]
  have sl:jB (.lst [.str "p",.str "q",.str "rr",.str "go"]) none (some g)=some (.new (.lst (dD g))):=by
   rcases hg with rfl|rfl|rfl|rfl<;>rfl
  have b5':cX (.name 6) (ex (pg.cf (n+3)) qd) (dD g) [.val (sc ns),.bor (.lst [.int (k+1+1)]),.val (.lst (dD g)),.val (.str "a"),.own (.lst [.bl (q==1)]),.own (.lst []),.un,.un]=.next [.val (sc ns),.bor (.lst [.int k']),.val (.lst (dD g)),t3,.own (.lst (.bl (q==1)::bs.map .bl)),.own (.lst (aV (dD g) ks)),t6,t7]:=by simpa using b5
  simp[er,hr,eq,sl,aZ,eX,E.lE,items,b5',z1,aF,aG,gZ,qG,hd]
end Tx
end
section
open PySem Mini
namespace Tx
def pC:S->S
 |.cons _ t=>t
 |s=>s
def hdS:S->S
 |.cons t _=>t
 |s=>s
def Ak:S:=pC (pC (pC aL.body))
def Jj n ns k(hk:0<=k):∃(kd:D)(s2:Sl),(∀g,cg (hd 2++dD g) 1 kd)/\
  ex (pg.cf (n+3)) aL.body [.val (sc ns),.bor (.lst [.int k]),.un,.un,.un,.un,.un,.un]=ex (pg.cf (n+3)) Ak [.val (sc ns),.bor (.lst [.int (k+1)]),s2,.val kd,.un,.un,.un,.un]:=by
 obtain⟨r,r1,r2,er⟩:=bG n ns k 6 hk (by omega)
 have hb:aL.body=.cons (hdS aL.body) (.cons (hdS (pC aL.body)) (.cons (hdS (pC (pC aL.body))) Ak)):=rfl
 have sb:∀g,([.str "a",.str "b"]:List D).Sublist (hd 2++dD g):=fun g=>List.sublist_append_left _ _
 have at6:=iD
 have hh:∀g,cg (hd 2++dD g) 1 (.tup [.str "held",.tup [.str "same",.str "a"],.str "b",.bl true]):=fun g=>.held (.same (by simp[hd])) (by simp[hd])
 rcases (by omega:r=0\/r=1\/r=2\/r=3\/r=4\/r=5)with rfl|rfl|rfl|rfl|rfl|rfl
 ·refine⟨.tup [.str "both",.tup [.str "a",.str "b"]],.val (.int 0),fun g=>.both (sb g) (by simp) (by simp),?_⟩
  rw[hb];simp[aL,hdS,pC,er,aZ,at?,ix?]
 ·refine⟨.tup [.str "both",.tup [.str "a",.str "b"]],.val (.int 1),fun g=>.both (sb g) (by simp) (by simp),?_⟩
  rw[hb];simp[aL,hdS,pC,er,aZ,at?,ix?]
 ·refine⟨.tup [.str "and",.tup [.str "a",.str "b"]],.val (.int 2),fun g=>.and (sb g) (by simp) (by simp),?_⟩
  rw[hb];simp[aL,hdS,pC,er,aZ,at?,ix?]
 ·refine⟨.tup [.str "or",.tup [.str "a",.str "b"]],.val (.int 3),fun g=>.or (sb g) (by simp) (by simp),?_⟩
  rw[hb];simp[aL,hdS,pC,er,aZ,at?,ix?]
 ·refine⟨_,.val (.int 4),hh,?_⟩
  rw[hb];simp[aL,hdS,pC,er,aZ,at?,ix?]
 ·refine⟨_,.val (.int 5),hh,?_⟩
  rw[hb];simp[aL,hdS,pC,er,aZ,at?,ix?]
def fW:List (List (D×Nat)):=[[(.str "a",1),(.str "b",2)],[(.str "b",3)],[(.str "a",3)],[(.str "p",0)]]
def pN g(h1:1<=g):cT 2 g [.str "p"] fW:=by
 refine⟨?_,by simp[fW],by simp[fW],fun st h=>?_⟩
 ·obtain⟨j,rfl⟩:∃j,g=j+1:=⟨g-1,by omega⟩
  simp[dD]
 ·simp only[fW,QCq,QAz,or_false]at h
  rcases h with rfl|rfl|rfl|rfl<;>simp[hd,fW]
def Dz n ns k(hk:0<=k):∃h g ks ls os sts k',cU h g ks ls/\cT h g os sts/\0<=k'/\pg.fn (n+4) 37 [.val (sc ns),.bor (.lst [.int k])]=.ok (.val (.tup [aF h g ks ls,aG os sts])) [.val (sc ns),.bor (.lst [.int k'])]:=by
 obtain⟨kd,s2,a1,a2⟩:=Jj n ns k hk
 obtain⟨q,q1,q2,eq⟩:=bG n ns (k+1) 2 (by omega) (by omega)
 rcases (by omega:q=0\/q=1)with rfl|rfl
 ·obtain⟨z,z1,z2,ez⟩:=bG n ns (k+1+1) 2 (by omega) (by omega)
  refine⟨2,1,[kd],[z==1,z==1,z==1],[.str "p"],fW,k+1+1+1,⟨by omega,by omega,by omega,rfl,fun d h=>?_,rfl⟩,pN 1 (by omega),by omega,?_⟩
  ·cases QDz.mp h;exact a1 1
  ·rw[iZ,a2]
   simp[Ak,aL,pC,eq,ez,aZ,aF,hd,dD,aV,aG,gZ,qG,fW]
 ·obtain⟨w,w1,w2,ew⟩:=bG n ns (k+1+1) 2 (by omega) (by omega)
  obtain⟨z,z1,z2,ez⟩:=bG n ns (k+1+1+1) 2 (by omega) (by omega)
  rcases (by omega:w=0\/w=1)with rfl|rfl
  ·refine⟨2,2,[kd,.tup [.str "same",.str "p"]],[z==1,z==1,z==1,z==1],[.str "p"],fW,k+1+1+1+1,⟨by omega,by omega,by omega,rfl,fun d h=>?_,rfl⟩,pN 2 (by omega),by omega,?_⟩
   ·simp only[QCq,QAz,or_false]at h
    rcases h with rfl|rfl
    ·exact a1 2
    ·exact .same (by simp[hd,dD])
   ·rw[iZ,a2]
    simp[Ak,aL,pC,eq,ew,ez,aZ,aF,hd,dD,aV,aG,gZ,qG,fW,gQ,Dt]
  ·refine⟨2,2,[kd,.tup [.str "not",.str "p"]],[z==1,z==1,z==1, !(z==1)],[.str "p"],fW,k+1+1+1+1,⟨by omega,by omega,by omega,rfl,fun d h=>?_,rfl⟩,pN 2 (by omega),by omega,?_⟩
   ·simp only[QCq,QAz,or_false]at h
    rcases h with rfl|rfl
    ·exact a1 2
    ·exact .not (by simp[hd,dD])
   ·rw[iZ,a2]
    simp[Ak,aL,pC,eq,ew,ez,aZ,aF,hd,dD,aV,aG,gZ,qG,fW,gQ,Dt]
end Tx
end
section
open PySem Mini
namespace Tx
theorem Fy:∀(gs ks:List D)(i:Nat)(x d:D),gs[i]? =some x->ks.length=gs.length->(aV gs ks).set i (.tup [x,d])=aV gs (ks.set i d)
 |[],_,_=>fun _ _ h _=>by simp at h
 |g::gs,[],_=>fun _ _ _ h=>by simp at h
 |g::gs,k::ks,0=>fun x d h _=>by simp at h;subst h;simp[aV]
 |g::gs,k::ks,i+1=>fun x d h hl=>by simp[aV,Fy gs ks i x d (by simpa using h) (by simpa using hl)]
theorem zip_get:∀(gs ks:List D)(i:Nat),i<gs.length->ks.length=gs.length->∃x d,(aV gs ks)[i]? =some (.tup [x,d])/\gs[i]? =some x
 |[],_,_=>fun h _=>by simp at h
 |g::gs,[],_=>fun _ h=>by simp at h
 |g::gs,k::ks,0=>fun _ _=>⟨g,k,by simp[aV],rfl⟩
 |g::gs,k::ks,i+1=>fun h hl=>by
  obtain⟨x,d,a,b⟩:=zip_get gs ks i (by simpa using h) (by simpa using hl)
  exact⟨x,d,by simp[aV,a],by simpa using b⟩
def HY n ns k(hk:0<=k){ks:List D}(O:cU h g ks ls):∃ks' k',cU h g ks' ls/\0<=k'/\
  pg.fn (n+8) 38 [.val (sc ns),.bor (.lst [.int k]),.val (aF h g ks ls)]=.ok (.val (aF h g ks' ls)) [.val (sc ns),.bor (.lst [.int k']),.val (aF h g ks ls)]:=by
 have lg:=dU O.g5
 have lh:=iw O.h2
 have h2:=O.h2
 have g1:=O.g1
 have g5:=O.g5
 have kl:=O.kl
 have lz:(aV (dD g) ks).length=g:=by rw[Fz (by rw[lg,kl]),lg]
 obtain⟨q,q1,q2,eq⟩:=bG (n+4) ns k g hk (by omega)
 obtain⟨i,rfl⟩:∃i:Nat,q=i:=⟨q.toNat,by omega⟩
 obtain⟨d,k',a1,a2,a3⟩:=yu ns (hd h++dD g) (by simp;omega) (by simp;omega) 1 n (k+1) (by omega)
 simp only[Int.natCast_one,show n+6+1=n+7 from rfl]at a3
 obtain⟨x,y,b1,b2⟩:=zip_get (dD g) ks i (by omega) (by omega)
 refine⟨ks.set i d,k',⟨h2,g1,g5,by simp[kl],fun e he=>?_,O.ll⟩,a2,?_⟩
 ·rcases List.mem_or_eq_of_mem_set he with he|rfl
  ·exact O.kk e he
  ·exact a1
 ·have hb:dN=⟨3,6,.cons (.set 3 (.op .add _ (.bi .tuple (Bh _)))) _⟩:=rfl
  have f:fits ((hd h).length+(dD g).length)=true:=by simp[fits];omega
  have i1:at? (aV (dD g) ks) i=some (.tup [x,y]):=by rw[iD _ _ (by omega),b1]
  have i2:ix? g i=some i:=by simp[ix?];omega
  have q0:∀it,(Bh it).az=none:=fun _=>rfl
  have n0:getD (aF h g ks ls) (.int 0)=some (.tup (hd h)):=by simp[aF]
  have n1:getD (aF h g ks ls) (.int 1)=some (.tup (aV (dD g) ks)):=by simp[aF]
  have n2:getD (aF h g ks ls) (.int 2)=some (.tup (ls.map .bl)):=by simp[aF]
  rw[n8,hb]
  simp[dN,pC,ux (c:=pg.cf (n+7)) (it:=.idx (.var 2) AAG) (σ:=[.val (sc ns),.bor (.lst [.int k]),.val (aF h g ks ls),.un,.un,.un]) (dD g) ks (by omega) (by simp[aF]),q0,f,n0,n1,n2,lz,eq,a3,i1,i2,pI,Fy _ ks i x d b2 (by omega),aZ]
  simp[aF]
def wg h g:cT h g [] [[]]:=⟨by simp,by simp,by simp,fun st h=>by cases QDz.mp h;simp⟩
def W7 g(h3:3<=g):cT 0 g [.str "q"] [[(.str "q",1)],[(.str "q",0)]]:=by
 refine⟨?_,by simp,by simp,fun st h=>?_⟩
 ·obtain⟨j,rfl⟩:∃j,g=j+2:=⟨g-2,by omega⟩
  simp[dD]
 ·simp only[QCq,QAz,or_false]at h
  rcases h with rfl|rfl<;>simp[hd]
def wW:S:=pC (pC (pC (pC (pC bQ.body))))
def Bs:S:=pC wW
def T7 n ns k(hk:0<=k):∃h g ks ls os sts,cU h g ks ls/\cT h g os sts/\pg.fn (n+9) 39 [.val (sc ns),.val (.int k)]=.ok (.val (.tup [aF h g ks ls,aG os sts])) [.val (sc ns),.val (.int k)]:=by
 obtain⟨r,r1,r2,er⟩:=bG (n+5) ns k 8 hk (by omega)
 by_cases c2:r<2
 ·obtain⟨h,g,ks,ls,k1,O,a1,a2⟩:=M5 n ns (k+1) (by omega) 2 (by omega) (by omega)
  obtain⟨os,sts,k2,T,b1,b2⟩:=Q6 (n+4) ns k1 a1 O
  exact⟨h,g,ks,ls,os,sts,O,T,by rw[fK];simp[bQ,er,c2,a2,b2,aZ]⟩
 have c2b:=c2
 by_cases c3:r=2
 ·subst c3
  obtain⟨h,g,ks,ls,k1,O,a1,a2⟩:=M5 n ns (k+1) (by omega) 0 (by omega) (by omega)
  exact⟨h,g,ks,ls,[],[[]],O,wg h g,by rw[fK];simp[bQ,er,a2,aZ,aG,gZ]⟩
 by_cases c4:r=3
 ·subst c4
  obtain⟨g,ks,ls,k1,O,g3,a1,a2⟩:=RD (n+4) ns (k+1) (by omega)
  obtain⟨q,q1,q2,eq⟩:=bG (n+5) ns k1 2 a1 (by omega)
  rcases (by omega:q=1\/q=0)with rfl|rfl
  ·exact⟨0,g,ks,ls,[],[[]],O,wg 0 g,by rw[fK];simp[bQ,er,a2,eq,aZ,aG,gZ]⟩
  ·exact⟨0,g,ks,ls,_,_,O,W7 g g3,by rw[fK];simp[bQ,er,a2,eq,aZ,aG,gZ,qG]⟩
 have e2:(r==2)=false:=by simpa using c3
 have e3:(r==3)=false:=by simpa using c4
 have main:∃h g ks ls os sts k1,cU h g ks ls/\cT h g os sts/\0<=k1/\ex (pg.cf (n+8)) bQ.body [.val (sc ns),.val (.int k),.un,.un,.un,.un]=ex (pg.cf (n+8)) Bs [.val (sc ns),.val (.int k),.own (.lst [.int k1]),.val (.int r),.val (aF h g ks ls),.val (aG os sts)]:=by
  have hb:bQ.body=.cons _ (.cons _ (.cons _ (.cons _ (.cons _ (.cons _ Bs))))):=rfl
  by_cases c6:r<6
  ·obtain⟨h,g,ks,ls,os,sts,k1,O,T,a1,a2⟩:=PL (n+4) ns (k+1) (by omega)
   refine⟨h,g,ks,ls,os,sts,k1,O,T,a1,?_⟩
   rw[hb]
   simp[bQ,hdS,pC,wW,er,c2,e2,e3,c3,c4,c6,a2,aZ,cR,iY,eO]
  ·obtain⟨h,g,ks,ls,os,sts,k1,O,T,a1,a2⟩:=Dz (n+4) ns (k+1) (by omega)
   refine⟨h,g,ks,ls,os,sts,k1,O,T,a1,?_⟩
   rw[hb]
   simp[bQ,hdS,pC,wW,er,c2,e2,e3,c3,c4,c6,a2,aZ,cR,iY,eO]
 obtain⟨h,g,ks,ls,os,sts,k1,O,T,a1,a2⟩:=main
 by_cases c7:r%2=1
 ·obtain⟨q,q1,q2,eq⟩:=bG (n+5) ns k1 2 a1 (by omega)
  rcases (by omega:q=1\/q=0)with rfl|rfl
  ·obtain⟨ks',k2,O',b1,b2⟩:=HY n ns (k1+1) (by omega) O
   refine⟨h,g,ks',ls,os,sts,O',T,?_⟩
   rw[fK,a2]
   simp[Bs,wW,bQ,pC,c7,eq,b2,aZ]
  ·refine⟨h,g,ks,ls,os,sts,O,T,?_⟩
   rw[fK,a2]
   simp[Bs,wW,bQ,pC,c7,eq,aZ]
 ·refine⟨h,g,ks,ls,os,sts,O,T,?_⟩
  have c8:r%2=0:=by omega
  rw[fK,a2]
  simp[Bs,wW,bQ,pC,c8,aZ]
end Tx
end
section
open PySem Mini
namespace Tx
def Vn:E:=.bi .all (.comp 1 (.name 0) (.var 0) AAL ABy)
def Nb:E:=.bi .all (.comp 1 (.name 0) (.var 0) AAL (.call 4 (.cons AAb (.cons AAd ACJ))))
def YJ:E:=.comp 1 (.name 0) (.var 0) AAL AAH
def Aw n(h:cG xs)(nd:xs.Nodup)st(N:Nat)(hs:(st.map (·.1)).Sublist xs)(hn:∀m∈st,m.2<N):
  pg.fn (n+3) 19 [.val (gZ st),.val (.tup xs),.val (.int N)]=.ok (.val (.bl true)) [.val (gZ st),.val (.tup xs),.val (.int N)]:=by
 have ll:=hs.length_le
 have e1:ev (pg.cf (n+2)) Vn [.val (gZ st),.val (.tup xs),.val (.int N)]=.ok (.val (.bl true)) [.val (gZ st),.val (.tup xs),.val (.int N)]:=by
  refine all1 (r:=.val (gZ st)) (by simp) rfl rfl fun x hx=>?_
  obtain⟨m,_,rfl⟩:=QDq.mp hx
  simp[qG,aW (n+1) [m.1,.int m.2] 2 2 (by simp) (by simp)]
 have e2:ev (pg.cf (n+2)) Nb [.val (gZ st),.val (.tup xs),.val (.int N)]=.ok (.val (.bl true)) [.val (gZ st),.val (.tup xs),.val (.int N)]:=by
  refine all1 (r:=.val (gZ st)) (by simp) rfl rfl fun x hx=>?_
  obtain⟨m,hm,rfl⟩:=QDq.mp hx
  have t:pg.fn (n+2) 4 [.val (.int m.2),.val (.int 0),.val (.int (N-1))]=.ok (.val (.bl true)) [.val (.int m.2),.val (.int 0),.val (.int (N-1))]:=by
   rw[qC]
   have:=Int.le_sub_one_of_lt (Int.ofNat_lt.mpr (hn m hm))
   simp[iU,adW,this]
  simp[qG,t]
 have e3:ev (pg.cf (n+2)) YJ [.val (gZ st),.val (.tup xs),.val (.int N)]=.ok (.new (.lst (st.map (·.1)))) [.val (gZ st),.val (.tup xs),.val (.int N)]:=by
  have:=mY (c:=pg.cf (n+2)) (it:=.var 0) (σ:=[.val (gZ st),.val (.tup xs),.val (.int N)]) (el:=.idx (.var 0) AAd) pY (r:=.val (gZ st)) (by simp;rfl) rfl rfl fun y hy=>by
   obtain⟨m,_,rfl⟩:=QDq.mp hy
   simp[qG,pY]
  rw[List.map_map]at this
  exact this
 have hb:uP=⟨3,3,(.cons (.ite (.or (.cons (.not (.call 3 (.cons (.var 0) (.cons AAd ABX)))) (.cons (.not Vn) .nil))) AAQ .nil) (.cons (.ite (.not (.call 9 (.cons (.bi .tuple YJ) (.cons (.var 1) (.cons AAd ABX))))) AAQ .nil) (.cons (.ret Nb) .nil)))⟩:=by kernel_rfl
 rw[Dd,hb]
 have q1:YJ.az=none:=rfl
 have q2:Nb.az=none:=rfl
 have t1':pg.fn _ 3 [.val (gZ st),.val _,.val _]=.ok _ [.val _,.val _,.val _]:=aW (n+1) (st.map qG) 0 xs.length (by omega) (by simpa using ll)
 simp[t1',e1,e3,q1,eG n (.inl rfl) h nd hs 0 xs.length (by omega) (by simpa using ll),e2,q2]
def gl8:pg.gl 8=some (.int 12):=rfl
def xJ:E:=.bi .all (.comp 1 (.name 0) AAr AAL (.call 19 (.cons (.var 0) (.cons (.var 4) (.cons (.bi .len AAe) .nil)))))
section
variable{os:List D}
def cT.sub(T:cT h g os sts):(hd h++os).Sublist (names h g):=(List.Sublist.refl _).append T.ou
def Lj:(dD g).Sublist (names h g):=List.sublist_append_right _ _
def DY n(O:cU h g ks ls)(T:cT h g os sts):pg.fn (n+4) 18 [.val (aF h g ks ls),.val (aG os sts)]=.ok (.val (.bl true)) [.val (aF h g ks ls),.val (aG os sts)]:=by
 have lg:=dU O.g5
 have lh:=iw O.h2
 have h2:=O.h2
 have g5:=O.g5
 have s1:=T.s1
 have s4:=T.s4
 have lo:=T.ou.length_le
 have X:=aU h g
 have Nd:=names_nodup O.h2 O.g1 O.g5
 have t1:pg.fn _ 3 [.val (aG os sts),.val _,.val _]=.ok _ [.val _,.val _,.val _]:=aW (n+2) [.tup os,.tup _] 2 2 (by simp) (by simp)
 have hb:xm=⟨2,4,(.cons (.ite (.not (.call 3 (.cons (.var 1) (.cons AAP ABG)))) AAQ .nil) (.cons (.set 2 (Bh AAb)) (.cons (.ite (.or (.cons (.not (.call 9 (.cons AAa (.cons (.var 2) (.cons AAd (.cons ABk .nil)))))) (.cons (.not (.call 3 (.cons AAr (.cons AAG (.cons (.glob 8) .nil))))) .nil))) AAQ .nil) (.cons (.set 3 (.op .add AAH AAa)) (.cons (.ret xJ) .nil)))))⟩:=by kernel_rfl
 have q:xJ.az=none:=rfl
 have f:fits ((hd h).length+os.length)=true:=by simp[fits];omega
 have n0:getD (aF h g ks ls) (.int 0)=some (.tup (hd h)):=by simp[aF]
 have m0:getD (aG os sts) (.int 0)=some (.tup os):=by simp[aG]
 have m1:getD (aG os sts) (.int 1)=some (.tup (sts.map gZ)):=by simp[aG]
 have e':ev (pg.cf (n+3)) xJ [.val (aF h g ks ls),.val (aG os sts),.val (.lst (dD g)),.val (.tup (hd h++os))]=.ok (.val (.bl true)) [.val (aF h g ks ls),.val (aG os sts),.val (.lst (dD g)),.val (.tup (hd h++os))]:=by
  refine all1 (r:=.val (.tup (sts.map gZ))) (by simp[aG]) rfl rfl fun x hx=>?_
  obtain⟨st,hst,rfl⟩:=QDq.mp hx
  simp[aG,Aw n (fun x hx=>X x (T.sub.subset hx)) (T.sub.nodup Nd) st sts.length (T.mv st hst).1 (T.mv st hst).2]
 rw[Iv,hb]
 simp[t1,ux (c:=pg.cf (n+3)) (it:=.idx (.var 0) AAG) (σ:=[.val (aF h g ks ls),.val (aG os sts),.un,.un]) (dD g) ks (by rw[O.kl,lg]) (by simp[aF]),m0,m1,n0,lg,eG (n+1) (.inr rfl) (fun x hx=>X x (Lj.subset hx)) (Lj.nodup Nd) T.ou 0 g (by omega) (by omega),aW (n+2) (sts.map gZ) 1 12 (by simp;omega) (by simp;omega),gl8,f,e',q]
def rB n(O:cU h g ks ls)(T:cT h g os sts):pg.fn (n+9) 17 [.val (aF h g ks ls),.val (aG os sts)]=.ok (.val (aG os sts)) [.val (aF h g ks ls),.val (aG os sts)]:=by
 rw[sX]
 simp[iC,Ew n O,DY (n+4) O T]
end
end Tx
end
section
open PySem Mini
namespace Tx
def lk(x:D):List (D×Nat)->Option Nat
 |[]=>none
 |m::st=>if dH m.1 x then some m.2 else lk x st
abbrev jm(st:List (D×Nat)):List D:=st.map (·.1)
abbrev xu(st:List (D×Nat)):List D:=st.map fun m=>.int m.2
theorem GR x:∀st,cH x (jm st) (xu st)=(lk x st).map fun j:Nat=>D.int j
 |[]=>rfl
 |m::st=>by
  simp only[Qyz,cH,lk]
  split
  ·rfl
  ·exact GR x st
theorem GX x:∀st,aR x (jm st)=(lk x st).isSome
 |[]=>rfl
 |m::st=>by
  simp only[Qyz,aR,lk,GX x st]
  cases dH m.1 x<;>simp
theorem jN:∀(st:List (D×Nat))(ks vs:List D),cG (ks++jm st)->(ks++jm st).Nodup->dictOf ks vs (st.map qG)=some (ks++jm st,vs++xu st)
 |[]=>fun ks vs _ _=>by simp[dictOf]
 |m::st=>fun ks vs h nd=>by
  obtain⟨s,e⟩:=h m.1 (by simp)
  have no:aR m.1 ks=false:=by
   rw[e]
   have hn:=fun hm=>by
    rw[show jm _=m.1::jm st from rfl,List.nodup_append]at nd
    exact nd.2.2 _ hm _ QYz rfl
   rw[e]at hn
   have hk:=fun x hx=>h x (QWz _ hx)
   clear nd h
   induction ks with
   |nil=>rfl
   |cons y ys ih=>
    obtain⟨q,rfl⟩:=hk y QYz
    have ne:¬q=s:=fun c=>hn (by rw[c];exact QYz)
    simp[aR,dH,ne,ih (fun c=>hn (QYq _ c)) fun x hx=>hk x (QYq _ hx)]
  have r:=jN st (ks++[m.1]) (vs++[.int m.2]) (by simpa using h) (by simpa using nd)
  rw[Qyz,show qG m=.tup [m.1,.int m.2]from rfl,dictOf,if_pos (by rw[e];rfl)]
  simp only[putD,no]
  rw[if_neg (by simp),r]
  simp
def cB(sts:List (List (D×Nat)))(i:Nat):List (D×Nat):=sts.getD i []
end Tx
end
section
open PySem Mini
namespace Tx
def oO n hs gs ks x(hl:ks.length=gs.length)(hf:hs.length+gs.length<=1000):
  pg.fn (n+1) 40 [.val (.tup [.tup hs,.tup (aV gs ks),x])]=.ok (.new (.lst (hs++gs))) [.val (.tup [.tup hs,.tup (aV gs ks),x])]:=
 ((zY n _).trans (n6 n _).symm).trans (fB n hs gs ks x hl hf)
def nF{xs:List D}(h:cG xs)(hn:D.str s∉xs):aR (.str s) xs=false:=by
 induction xs with
 |nil=>rfl
 |cons x xs ih=>
  obtain⟨q,rfl⟩:=h x QYz
  have ne:q≠s:=fun e=>hn (by rw[e];exact QYz)
  simp[aR,dH,ne,ih (fun z hz=>h z (QYq _ hz)) fun hz=>hn (QYq _ hz)]
theorem Ho:∀(xs ys ks vs:List D),ys.length=xs.length->cG xs->cG ks->(ks++xs).Nodup->dictOf ks vs (aV xs ys)=some (ks++xs,vs++ys)
 |[],ys=>fun ks vs hl _ _ _=>by
  have:ys=[]:=by cases ys<;>simp_all
  subst this
  simp[aV,dictOf]
 |x::xs,[]=>fun ks vs hl _ _ _=>by simp at hl
 |x::xs,y::ys=>fun ks vs hl h hk nd=>by
  obtain⟨s,rfl⟩:=h x QYz
  have hn:=fun z=>by
   have:=List.nodup_append.mp nd
   exact this.2.2 _ z _ QYz rfl
  have ih:=Ho xs ys (ks++[.str s]) (vs++[y]) (by simpa using hl) (fun z hz=>h z (QYq _ hz)) (fun z hz=>by
   rcases QXz.mp hz with hz|hz
   ·exact hk z hz
   ·simp at hz;exact⟨s,hz⟩) (by simpa using nd)
  simp only[aV,dictOf,keyOk,if_true,putD,nF hk hn,Qxq,if_false]
  rw[ih]
  simp
def Bo(hl:ys.length=xs.length)(h:cG xs)(nd:xs.Nodup):dictOf [] [] (aV xs ys)=some (xs,ys):=by
 have:=Ho xs ys [] [] hl h (fun z hz=>by cases hz) (by simpa using nd)
 simpa using this
def eQ(xs:List D)(bs:List Bool)(x:D):Bool:=match cH x xs (bs.map .bl)with
 |some (.bl b)=>b
 |_=>false
theorem wF{x:D}:∀{xs:List D}{bs:List Bool},cG xs->bs.length=xs.length->x∈xs->cH x xs (bs.map .bl)=some (.bl (eQ xs bs x))
 |[],_=>fun _ _ hx=>by cases hx
 |y::ys,[]=>fun _ hl _=>by simp at hl
 |y::ys,b::bs=>fun h hl hx=>by
  obtain⟨q,rfl⟩:=h x hx
  obtain⟨s,rfl⟩:=h y QYz
  by_cases e:s=q
  ·subst e
   simp[eQ,cH,dH]
  ·have hx':D.str q∈ys:=by
    rcases QCq.mp hx with z|z
    ·cases z;exact absurd rfl e
    ·exact z
   have l:cH (.str q) (.str s::ys) ((b::bs).map .bl)=cH (.str q) ys (bs.map .bl):=by simp[cH,dH,e]
   have v:eQ (.str s::ys) (b::bs) (.str q)=eQ ys bs (.str q):=by
    unfold eQ
    rw[l]
   rw[l,v]
   exact wF (fun z hz=>h z (QYq _ hz)) (by simpa using hl) hx'
def iy{xs:List D}(h:cG xs)(hl:bs.length=xs.length)(hx:x∈xs):getD (.eE xs (bs.map .bl)) x=some (.bl (eQ xs bs x)):=by
 obtain⟨q,rfl⟩:=h x hx
 exact wF h hl hx
theorem ul:∀(bs:List Bool),aR (.bl false) (bs.map .bl)= !bs.all id
 |[]=>rfl
 |b::bs=>by cases b<;>simp[aR,dH,ul bs]
theorem yz:∀(bs:List Bool),aR (.bl true) (bs.map .bl)=bs.any id
 |[]=>rfl
 |b::bs=>by cases b<;>simp[aR,dH,yz bs]
def uB(bs:List Bool):(bs.map D.bl).all flat=true:=by
 rw[List.all_eq_true]
 intro x hx
 obtain⟨b,_,rfl⟩:=QDq.mp hx
 rfl
def yx b(bs:List Bool):aN .isin (.bl b) (.lst (bs.map .bl))=some (aR (.bl b) (bs.map .bl)):=by
 have o:gr (.bl b) (bs.map .bl)=true:=by
  unfold gr
  rw[uB]
  rfl
 show(if gr _ _ then some _ else none)=_
 rw[o]
 rfl
def MK b(bs:List Bool):aN .notin (.bl b) (.lst (bs.map .bl))=some (!aR (.bl b) (bs.map .bl)):=by
 have o:gr (.bl b) (bs.map .bl)=true:=by
  unfold gr
  rw[uB]
  rfl
 show(if gr _ _ then some _ else none)=_
 rw[o]
 rfl
def wk(bs:List Bool):mV (bs.map D.bl)=true:=by
 induction bs with
 |nil=>rfl
 |cons b bs ih=>simp[mV,nd,ih]
def Em(bs:List Bool):mR (bs.map D.bl)=0:=by
 induction bs with
 |nil=>rfl
 |cons b bs ih=>simp[mR,dep,ih]
def M6(rs:List (List Bool)):mV (rs.map aH)=true:=by
 induction rs with
 |nil=>rfl
 |cons r rs ih=>simp[mV,nd,aH,wk,ih]
def NP(bs:List Bool)(rs:List (List Bool)):∃b,aN .isin (.tup (bs.map .bl)) (.tup (rs.map aH))=some b:=by
 have o:gr (.tup (bs.map .bl)) (rs.map aH)=true:=by
  simp[gr,nd,dep,wk,Em,M6]
 refine⟨aR (.tup (bs.map .bl)) (rs.map aH),?_⟩
 show(if gr _ _ then some _ else none)=_
 rw[o]
 rfl
end Tx
end
section
open PySem Mini
namespace Tx
def tZ:E:=.comp 1 (.name 0) AAb AAL (.idx (.var 3) (.var 0))
def tY:E:=.comp 1 (.name 0) AAb AAL (.idx (.var 2) (.var 0))
noncomputable def qu:Fn:=⟨3,5,(.cons (.set 3 AAH) (.cons (.ite (.cmp .eq (.var 3) AAu) (.cons (.ret ABf) .nil) .nil) (.cons (.ite (.cmp .eq (.var 3) ABj) (.cons (.ret (.not ABf)) .nil) .nil) (.cons (.ite ABx ABi .nil) (.cons (.set 4 (.bi .tuple tZ)) (.cons (.ite (.cmp .eq (.var 3) AAy) ACH .nil) (.cons (.ite (.cmp .eq (.var 3) ABK) ACG .nil) (.cons (.ite ABw ABq .nil) AAl))))))))⟩
def jy:Fg=qu:=rfl
noncomputable def iW:Fn:=⟨3,5,(.cons (.ite (.cmp .eq AAH AAu) (.cons (.ret ABg) .nil) .nil) (.cons (.ite (.cmp .eq AAH ABj) (.cons (.ret (.not ABg)) .nil) .nil) (.cons (.ite (.cmp .eq AAH AAm) AAn .nil) (.cons (.set 4 tY) (.cons (.ite (.cmp .eq AAH ABJ) ABa .nil) (.cons (.ite (.cmp .eq AAH AAy) ABW .nil) (.cons (.ite (.cmp .eq AAH ABK) ABp .nil) (.cons (.ite ABH (.cons (.ret (.var 2)) .nil) .nil) ABz))))))))⟩
def tells_eq:lG=iW:=rfl
section
variable{bs:List Bool}
def Jt n(h:cG xs)(hl:bs.length=xs.length)(hs:ys.Sublist xs)w r s1 s3 s4:
  ev (pg.cf n) tZ [.val (.tup (w:: .tup ys::r)),s1,.val (.eE xs (bs.map .bl)),s3,s4]=.ok (.new (.lst ((ys.map (eQ xs bs)).map .bl))) [.val (.tup (w:: .tup ys::r)),s1,.val (.eE xs (bs.map .bl)),s3,s4]:=by
 have:=mY (c:=pg.cf n) (it:=.idx (.var 0) AAG) (el:=.idx (.var 3) (.var 0)) (σ:=[.val (.tup (w:: .tup ys::r)),s1,.val (.eE xs (bs.map .bl)),s3,s4]) (fun x=>.bl (eQ xs bs x)) (r:=.val (.tup ys)) (τ:=[.val (.tup (w:: .tup ys::r)),s1,.val (.eE xs (bs.map .bl)),s3,s4]) (by simp) rfl rfl fun x hx=>by
  simp[iy h hl (hs.subset hx)]
 rw[tZ,this]
 simp
def Js n(h:cG xs)(hl:bs.length=xs.length)(hs:ys.Sublist xs)w r s2 s3 s4:
  ev (pg.cf n) tY [.val (.tup (w:: .tup ys::r)),.val (.eE xs (bs.map .bl)),s2,s3,s4]=.ok (.new (.lst ((ys.map (eQ xs bs)).map .bl))) [.val (.tup (w:: .tup ys::r)),.val (.eE xs (bs.map .bl)),s2,s3,s4]:=by
 have:=mY (c:=pg.cf n) (it:=.idx (.var 0) AAG) (el:=.idx (.var 2) (.var 0)) (σ:=[.val (.tup (w:: .tup ys::r)),.val (.eE xs (bs.map .bl)),s2,s3,s4]) (fun x=>.bl (eQ xs bs x)) (r:=.val (.tup ys)) (τ:=[.val (.tup (w:: .tup ys::r)),.val (.eE xs (bs.map .bl)),s2,s3,s4]) (by simp) rfl rfl fun x hx=>by
  simp[iy h hl (hs.subset hx)]
 rw[tY,this]
 simp
def oR(h:cG xs)(hl:bs.length=xs.length)(hs:ys.Sublist xs)w r:∃row:List Bool,row.length=ys.length/\
  (∀(n:Nat)(s1 s3 s4:Sl),ev (pg.cf n) tZ [.val (.tup (w:: .tup ys::r)),s1,.val (.eE xs (bs.map .bl)),s3,s4]=.ok (.new (.lst (row.map .bl))) [.val (.tup (w:: .tup ys::r)),s1,.val (.eE xs (bs.map .bl)),s3,s4])/\
  (∀(n:Nat)(s2 s3 s4:Sl),ev (pg.cf n) tY [.val (.tup (w:: .tup ys::r)),.val (.eE xs (bs.map .bl)),s2,s3,s4]=.ok (.new (.lst (row.map .bl))) [.val (.tup (w:: .tup ys::r)),.val (.eE xs (bs.map .bl)),s2,s3,s4]):=
 ⟨ys.map _,by simp,fun n s1 s3 s4=>Jt n h hl hs w r s1 s3 s4,fun n s2 s3 s4=>Js n h hl hs w r s2 s3 s4⟩
def Agree(xs:List D)(bs:List Bool)(i j:Nat)(d:D)(own b:Bool):Prop:=
 pg.fn i 15 [.val d,.val (.bl own),.val (.eE xs (bs.map .bl))]=.ok (.val (.bl b)) [.val d,.val (.bl own),.val (.eE xs (bs.map .bl))]/\
 pg.fn j 41 [.val d,.val (.eE xs (bs.map .bl)),.val (.bl own)]=.ok (.val (.bl b)) [.val d,.val (.eE xs (bs.map .bl)),.val (.bl own)]
def Jv n k:n+1+2*k=n+2*k+1:=Nat.add_right_comm n 1 _
def Ju m k:m+1+k=m+k+1:=Nat.add_right_comm m 1 k
def ae1 n k:n+1+2*(k+1)=n+1+2*k+1+1:=rfl
def KN(h:cG xs)(hl:bs.length=xs.length):∀{k:Nat}{d:D},cg xs k d->∀own:Bool,∃b,∀n m:Nat,Agree xs bs (n+1+2*k) (m+1+k) d own b:=by
 intro k d hk
 have q1:tZ.az=none:=rfl
 have q2:tY.az=none:=rfl
 induction hk with
 | @same k x hx=>
  intro own
  have e:=iy h hl hx
  refine⟨eQ xs bs x,fun n m=>⟨?_,?_⟩⟩
  ·rw[Jv,nC,jy]
   simp[qu,e]
  ·rw[Ju,dW,tells_eq]
   simp[iW,e]
 | @not k x hx=>
  intro own
  have e:=iy h hl hx
  refine⟨!eQ xs bs x,fun n m=>⟨?_,?_⟩⟩
  ·rw[Jv,nC,jy]
   simp[qu,e]
  ·rw[Ju,dW,tells_eq]
   simp[iW,e]
 | @and k ys hs h1 h2=>
  intro own
  obtain⟨row,_,e1,e2⟩:=oR h hl hs (.str "and") []
  refine⟨row.all id,fun n m=>⟨?_,?_⟩⟩
  ·rw[Jv,nC,jy]
   simp[qu,e1,q1,jr row]
  ·rw[Ju,dW,tells_eq]
   simp[iW,e2,q2,MK,ul]
 | @or k ys hs h1 h2=>
  intro own
  obtain⟨row,_,e1,e2⟩:=oR h hl hs (.str "or") []
  refine⟨row.any id,fun n m=>⟨?_,?_⟩⟩
  ·rw[Jv,nC,jy]
   simp[qu,e1,q1,jr row]
  ·rw[Ju,dW,tells_eq]
   simp[iW,e2,q2,yx,yz]
 | @both k ys hs h1 h2=>
  intro own
  obtain⟨row,hr,e1,e2⟩:=oR h hl hs (.str "both") []
  refine⟨row.all id||(own&&row.any id),fun n m=>⟨?_,?_⟩⟩
  ·rw[Jv,nC,jy]
   cases ha:row.all id<;>cases own<;>simp[qu,e1,q1,jr row,ha]
  ·obtain⟨b0,row',rfl⟩:∃b0 row',row=b0::row':=by
    cases row with
    |nil=>simp at hr;omega
    |cons b r=>exact⟨b,r,rfl⟩
   rw[Ju,dW,tells_eq]
   have i1:=yx true (b0::row')
   have i2:=yx false (b0::row')
   rw[yz]at i1
   rw[ul]at i2
   cases ha:(b0::row').all id with
   |true=>
    have hb0:b0=true:=by simp at ha;exact ha.1
    have hn:(b0::row').any id=true:=by simp[hb0]
    rw[ha]at i2
    simp[iW,e2,q2,i1,i2,hb0]
    simp_all
   |false=>
    cases hn:(b0::row').any id with
    |true=>
     rw[hn]at i1
     rw[ha]at i2
     simp only[Qyz]at i1 i2 e2
     simp[iW,e2,q2,i1,i2]
    |false=>
     rw[hn]at i1
     simp[iW,e2,q2,i1,i2,(by simp at hn;exact hn.1)]
     simp_all
 | @table k ys rs hs h1 h2 hr hi=>
  intro own
  obtain⟨row,_,e1,e2⟩:=oR h hl hs (.str "table") [.tup (rs.map aH)]
  obtain⟨b,eb⟩:=NP row rs
  refine⟨b,fun n m=>⟨?_,?_⟩⟩
  ·rw[Jv,nC,jy]
   simp[qu,e1,q1,eb]
  ·rw[Ju,dW,tells_eq]
   simp[iW,e2,q2,eb]
 | @held k d x bb hk hx ih=>
  intro own
  obtain⟨b,ib⟩:=ih own
  have e:=iy h hl hx
  have hh:∀n,pg.fn (n+1+2*k+1) 16 [.val (.tup [.str "held",d,x,.bl bb]),.val (.bl own),.val (.eE xs (bs.map .bl))]=.ok (.val (.bl (if _==bb then b else own))) [.val (.tup [.str "held",d,x,.bl bb]),.val (.bl own),.val (.eE xs (bs.map .bl))]:=fun n=>by
   rw[zU]
   cases hc:((eQ xs bs x==b)==bb)<;>simp[lF,(fun n=>(ib n 0).1),e,hc]
  refine⟨if (eQ xs bs x==b)==bb then b else own,fun n m=>⟨?_,?_⟩⟩
  ·rw[ae1,nC,jy]
   simp[qu,hh]
  ·rw[<-Nat.add_assoc,dW,tells_eq]
   have hx2:(eQ xs bs x==(b==bb))=((eQ xs bs x==b)==bb):=by cases eQ xs bs x<;>cases b<;>cases bb<;>rfl
   cases hc:((eQ xs bs x==b)==bb)<;>rw[hc]at hx2<;>simp[iW,(fun m=>(ib 0 m).2),e,hx2,aZ,b2i]
end
end Tx
end
section
open PySem Mini
namespace Tx
section
def Kr:E:=.comp 2 (.tup [0,1]) AAb AAq (.var 0)
def Kq:E:=.comp 1 (.name 0) AAb AAw AAH
theorem J2(O:cU h g ks ls)(hl:bs.length=(names h g).length):∃zs:List D,zs.Sublist (dD g)/\∀n m:Nat,
  pg.fn (n+4) 14 [.val (aF h g ks ls),.val (aH bs)]=.ok (.new (.lst zs)) [.val (aF h g ks ls),.val (aH bs)]/\
  pg.fn (m+3) 42 [.val (aF h g ks ls),.val (aH bs)]=.ok (.new (.lst zs)) [.val (aF h g ks ls),.val (aH bs)]:=by
 have T:=aU h g
 have lg:=dU O.g5
 have lh:=iw O.h2
 have ag:∀k own,∃b,cg _ 1 k->∀n m,Agree _ bs (n+3) (m+2) k own b:=fun k own=>by
  by_cases hk:cg (names h g) 1 k
  ·obtain⟨b,z⟩:=KN T hl hk own
   exact⟨b,fun _=>z⟩
  ·exact⟨true,fun z=>absurd z hk⟩
 have sk:∃F:D->Bool->Bool,∀k own,cg _ 1 k->∀n m,Agree (names h g) bs (n+3) (m+2) k own (F k own):=
  ⟨fun k own=>Classical.choose (ag k own),fun k own=>Classical.choose_spec (ag k own)⟩
 obtain⟨F,hF⟩:=sk
 let p:D×D->Bool:=fun x=> !(F x.2 (eQ (names h g) bs x.1)==eQ (names h g) bs x.1)
 have mem:∀x∈(dD g).zip ks,x.1∈names h g/\cg _ 1 x.2:=fun x hx=>⟨QVq _ (List.of_mem_zip hx).1,O.kk x.2 (List.of_mem_zip hx).2⟩
 obtain⟨x0,ps,zeq⟩:∃x0 ps,(dD g).zip ks=x0::ps:=by
  cases q:(dD g).zip ks with
  |nil=>
   have:=congrArg List.length q
   rw[List.length_zip,lg,O.kl]at this
   have:=O.g1
   simp at*
   omega
  |cons x ps=>exact⟨x,ps,rfl⟩
 have dz:dictOf [] [] _=some (names h g,bs.map .bl):=Bo (by simpa using hl) T (names_nodup O.h2 O.g1 O.g5)
 refine⟨(((dD g).zip ks).filter p).map (·.1),?_,fun n m=>?_⟩
 ·have s1:((((dD g).zip ks).filter p).map (·.1)).Sublist _:=(List.filter_sublist).map _
  rw[(List.map_fst_zip (by rw[lg,O.kl];exact QVz _))]at s1
  exact s1
 have w1:pg.fn (n+3) 13 [.val (aF h g ks ls)]=.ok (.new (.lst (names h g))) [.val _]:=
  fB (n+2) (hd h) (dD g) ks _ (by rw[O.kl,lg]) (by have:=O.h2;have:=O.g5;omega)
 have w2:pg.fn (m+2) 40 [.val (aF h g ks ls)]=.ok (.new (.lst (names h g))) [.val _]:=
  oO (m+1) (hd h) (dD g) ks _ (by rw[O.kl,lg]) (by have:=O.h2;have:=O.g5;omega)
 have e1:ev (pg.cf (n+3)) Kr [.val (aF h g ks ls),.val (aH bs),.own (.dct (names h g) (bs.map .bl))]=.ok (.new (.lst ((((dD g).zip ks).filter p).map (·.1)))) [.val (aF h g ks ls),.val (aH bs),.val (.eE (names h g) (bs.map .bl))]:=by
  rw[zeq]at mem⊢
  have c0:∀x,x∈x0::ps->∀s:Sl,(s=.own (.dct (names h g) (bs.map .bl))\/s=.val (.eE (names h g) (bs.map .bl)))->ev (pg.cf (n+3)) AAq [.val x.1,.val x.2,.val (aF h g ks ls),.val (aH bs),s]=.ok (.val (.bl (p x))) [.val x.1,.val x.2,.val (aF h g ks ls),.val (aH bs),.val (.eE (names h g) (bs.map .bl))]:=fun x hx s hs=>by
   obtain⟨m1,m2⟩:=mem x hx
   rcases hs with rfl|rfl<;>simp[iy T hl m1,(hF x.2 (eQ (names h g) bs x.1) m2 n m).1,p]
  have it:items (.tup (aV (dD g) ks))=some ((x0::ps).map pairD):=by show some _=some _;rw[dG,zeq]
  exact Y0 (·.1) p (r:=.val _) (by simp[aF]) rfl it (c0 x0 QYz _ (.inl rfl)) (fun x hx=>c0 x (QYq _ hx) _ (.inr rfl)) (fun x _ _=>by simp)
 have e2:ev (pg.cf (m+2)) Kq [.val (aF h g ks ls),.val (aH bs),.own (.dct (names h g) (bs.map .bl))]=.ok (.new (.lst ((((dD g).zip ks).filter p).map (·.1)))) [.val (aF h g ks ls),.val (aH bs),.val (.eE (names h g) (bs.map .bl))]:=by
  rw[zeq]at mem⊢
  let p':D->Bool:=fun d=>match d with|.tup [a,k]=>p (a,k)|_=>false
  let f':D->D:=fun d=>match d with|.tup (a::_)=>a|_=>.non
  have fm:∀xs:List (D×D),((xs.map pairD).filter p').map f'=(xs.filter p).map (·.1):=by
   intro xs
   induction xs with
   |nil=>rfl
   |cons x xs ih=>
    have hp:p' (pairD x)=p x:=rfl
    rw[Qyz,List.filter_cons,List.filter_cons,hp]
    cases p x with
    |true=>simp only[if_true,Qyz,ih];rfl
    |false=>simp only[Qxq,if_false,ih]
  have c0:∀x,x∈x0::ps->∀s:Sl,(s=.own (.dct (names h g) (bs.map .bl))\/s=.val (.eE (names h g) (bs.map .bl)))->ev (pg.cf (m+2)) AAw [.val (pairD x),.val (aF h g ks ls),.val (aH bs),s]=.ok (.val (.bl (p' (pairD x)))) [.val (pairD x),.val (aF h g ks ls),.val (aH bs),.val (.eE (names h g) (bs.map .bl))]:=fun x hx s hs=>by
   obtain⟨m1,m2⟩:=mem x hx
   rcases hs with rfl|rfl<;>simp[iy T hl m1,(hF x.2 (eQ (names h g) bs x.1) m2 n m).2,p',p,pairD]
  have it:items (.tup (aV (dD g) ks))=some (pairD x0::ps.map pairD):=by show some _=some _;rw[dG,zeq];rfl
  have:=Y5 (el:=.idx (.var 0) AAd) (it:=.idx (.var 0) AAG) (σ:=[.val (aF h g ks ls),.val (aH bs),.own (.dct (names h g) (bs.map .bl))]) f' p' (r:=.val _) (by simp[aF]) rfl it (c0 x0 QYz _ (.inl rfl)) (fun y hy=>by
   obtain⟨x,hx,rfl⟩:=QDq.mp hy
   exact c0 x (QYq _ hx) _ (.inr rfl)) (fun y hy _=>by
   rw[<-Qyz]at hy
   obtain⟨x,hx,rfl⟩:=QDq.mp hy
   simp[pairD,f'])
  rw[<-Qyz,fm]at this
  exact this
 refine⟨?_,?_⟩
 ·have hb:j0=⟨2,3,(.cons (.set 2 (.bi .dict (.zip ACN (.var 1)))) (.cons (.ret Kr) .nil))⟩:=by kernel_rfl
  have q:Kr.az=none:=rfl
  have z:bM (aH bs)=some _:=rfl
  rw[q8,hb]
  simp[w1,z,dz,e1,q]
 ·have hb:mZ=⟨2,3,(.cons (.set 2 (.bi .dict (.bi .list (.zip ACM (.var 1))))) (.cons (.ret Kq) .nil))⟩:=by kernel_rfl
  have q:Kq.az=none:=rfl
  have z:bM (aH bs)=some _:=rfl
  rw[vf,hb]
  simp[w2,z,dz,e2,q]
end
end Tx
end
section
open PySem Mini
namespace Tx
structure Wt(h g:Nat)(ks:List D)(ls:List Bool)(W:List Bool->List D):Prop where
 sub:∀bs,bs.length=(names h g).length->(W bs).Sublist (dD g)
 pr:∀bs,bs.length=(names h g).length->∀n,pg.fn (n+4) 14 [.val (aF h g ks ls),.val (aH bs)]=.ok (.new (.lst (W bs))) [.val (aF h g ks ls),.val (aH bs)]
 lw:∀bs,bs.length=(names h g).length->∀n,pg.fn (n+3) 42 [.val (aF h g ks ls),.val (aH bs)]=.ok (.new (.lst (W bs))) [.val (aF h g ks ls),.val (aH bs)]
def aas{ks:List D}(O:cU h g ks ls):∃W,Wt h g ks ls W:=by
 have ag:∀bs:List Bool,∃zs:List D,bs.length=(names h g).length->zs.Sublist _/\∀n m:Nat,pg.fn _ 14 [.val _,.val _]=.ok _ [.val _,.val _]/\pg.fn _ 42 [.val _,.val _]=.ok _ [.val _,.val _]:=fun bs=>by
  by_cases hl:bs.length=(names h g).length
  ·obtain⟨zs,z⟩:=J2 O hl
   exact⟨zs,fun _=>z⟩
  ·exact⟨[],fun z=>absurd z hl⟩
 exact⟨fun bs=>Classical.choose _,fun bs hl=>(Classical.choose_spec (ag bs) hl).1,fun bs hl n=>((Classical.choose_spec (ag bs) hl).2 n 0).1,fun bs hl n=>((Classical.choose_spec (ag bs) hl).2 0 n).2⟩
def pW{xs:List D}(h:cG xs):aR (.str s) xs=true↔D.str s∈xs:=by
 constructor
 ·intro z
  by_cases c:D.str s∈xs
  ·exact c
  ·rw[nF h c]at z;cases z
 ·intro z;exact jM z h
def Ek{W L:List D}(s:W.Sublist L):cG L->L.Nodup->L.filter (fun x=>aR x W)=W:=by
 induction s with
 |slnil=>intro _ _;rfl
 | @cons l₁ l₂ a s ih=>
  intro t nd
  rw[List.nodup_cons]at nd
  obtain⟨q,rfl⟩:=t a QYz
  have t2:=fun x hx=>t x (QYq _ hx)
  rw[List.filter_cons,nF (fun x hx=>t2 x (s.subset hx)) fun z=>nd.1 (s.subset z)]
  exact ih t2 nd.2
 | @cons_cons l₁ l₂ a s ih=>
  intro t nd
  rw[List.nodup_cons]at nd
  obtain⟨q,rfl⟩:=t a QYz
  have t2:=fun x hx=>t x (QYq _ hx)
  have yes:aR (.str q) (D.str q::l₁)=true:=by simp[aR,dH]
  rw[List.filter_cons,yes,if_pos rfl]
  congr 1
  refine Eq.trans (List.filter_congr fun x hx=>?_) (ih t2 nd.2)
  obtain⟨u,rfl⟩:=t2 x hx
  have ne:¬q=u:=fun e=>nd.1 (by rw[e];exact hx)
  simp[aR,dH,ne]
abbrev St:=List Bool×Nat
def aY(s:St):D:=.tup [aH s.1,.int s.2]
section
variable{os:List D}{sts:List (List (D×Nat))}
structure Kg(h g:Nat)(sts:List (List (D×Nat)))(s:St):Prop where
 l:s.1.length=(names h g).length
 j:s.2<sts.length
def kO(h:Nat)(sts:List (List (D×Nat)))(W:List Bool->List D)(s:St):List D:=(hd h).filter (fun x=>(lk x (cB sts s.2)).isSome)++W s.1
def iR h:cG (hd h):=fun x hx=>aU h 0 x (QWz _ hx)
def nY g:cG (dD g):=fun x hx=>aU 0 g x (QVq _ hx)
def nU(hj:j<sts.length):cB sts j∈sts:=by simp[cB,hj]
def sr(hj:j<sts.length):at? (sts.map gZ) (j:Int)=some (gZ (cB sts j)):=by
 rw[iD _ _ (by simpa using hj)]
 simp[cB,hj]
def rZ(Wk:Wt h g ks ls W)(S:Kg h g sts s):(kO h sts W s).Sublist (names h g):=(List.filter_sublist).append (Wk.sub s.1 S.l)
def jA(T:cT h g os sts)(O:cU h g ks ls)(hj:j<sts.length):cG (jm (cB sts j))/\(jm (cB sts j)).Nodup:=by
 have:=(T.mv _ (nU hj)).1
 exact⟨fun x hx=>aU h g x (T.sub.subset (this.subset hx)),this.nodup (T.sub.nodup (names_nodup O.h2 O.g1 O.g5))⟩
def stC:E:=.comp 1 (.name 0) AAH (.cmp .isin (.var 0) (.var 4)) (.var 0)
def zL n(O:cU h g ks ls)(T:cT h g os sts)(Wk:Wt h g ks ls W)(S:Kg h g sts s):
  pg.fn (n+5) 21 [.val (aF h g ks ls),.val (aG os sts),.val (aY s)]=.ok (.new (.lst (kO h sts W s))) [.val (aF h g ks ls),.val (aG os sts),.val (aY s)]:=by
 have K:=jA T O S.j
 have d:=jN (cB sts s.2) [] [] (by simpa using K.1) (by simpa using K.2)
 have e:ev (pg.cf (n+4)) stC [.val (aF h g ks ls),.val (aG os sts),.val (aY s),.own (.dct (jm (cB sts s.2)) (xu (cB sts s.2)))]=.ok (.new (.lst ((hd h).filter fun x=>(lk x (cB sts s.2)).isSome))) [.val (aF h g ks ls),.val (aG os sts),.val (aY s),.own (.dct (jm (cB sts s.2)) (xu (cB sts s.2)))]:=by
  have:=yQ (c:=pg.cf (n+4)) (it:=.idx (.var 0) AAd) (co:=.cmp .isin (.var 0) (.var 4)) (el:=.var 0) (σ:=[.val (aF h g ks ls),.val (aG os sts),.val (aY s),.own (.dct (jm (cB sts s.2)) (xu (cB sts s.2)))]) (τ:=[.val (aF h g ks ls),.val (aG os sts),.val (aY s),.own (.dct (jm (cB sts s.2)) (xu (cB sts s.2)))]) (r:=.val (.tup (hd h))) (fun x=>x) (fun x=>(lk x (cB sts s.2)).isSome) (by simp[aF]) rfl rfl (fun x hx=>by
   obtain⟨q,rfl⟩:=iR h x hx
   have:aN .isin (.str q) (.eE (jm (cB sts s.2)) (xu (cB sts s.2)))=some (lk (.str q) (cB sts s.2)).isSome:=by rw[<-GX];rfl
   simp[this,Ob.d]) (fun x _ _=>by simp)
  rw[List.map_id']at this
  exact this
 have w:=Wk.pr s.1 S.l n
 have t1:getD (aG os sts) (.int 1)=some (.tup (sts.map gZ)):=by simp[aG]
 have s0:getD (aY s) (.int 0)=some (aH s.1):=by simp[aY]
 have s1:getD (aY s) (.int 1)=some (.int s.2):=by simp[aY]
 have st:=sr S.j
 have sl:=(rZ Wk S).length_le
 have nl:=dZ O.h2 O.g5
 have h2:=O.h2
 have g5:=O.g5
 have f:fits (((hd h).filter fun x=>(lk x (cB sts s.2)).isSome).length+(W s.1).length)=true:=by
  simp only[kO,QTq]at sl
  simp[fits]
  omega
 have hb:uM=⟨3,4,(.cons (.set 3 (.bi .dict ACI)) (.cons (.ret (.op .add stC (.call 14 ACP))) .nil))⟩:=by kernel_rfl
 rw[CT,hb]
 simp[t1,s0,s1,st,gZ,d,e,w,f,kO]
end
end Tx
end
section
open PySem Mini
namespace Tx
section
variable{os:List D}
theorem Nj{x:D}:∀{st:List (D×Nat)},cG (jm st)->(∃s,x=.str s)->((lk x st).isSome=true↔x∈jm st)
 |[],_,_=>by simp[lk]
 |m::st,t,⟨s,hs⟩=>by
  subst hs
  rw[<-GX,pW t]
def lsM:E:=.comp 1 (.name 0) ACI (.cmp .isin AAH AAa) AAH
def lsN:E:=.comp 1 (.name 0) ACM (.cmp .isin (.var 0) (.var 4)) (.var 0)
def JD(h:Nat)(st:List (D×Nat)):List D:=(st.filter fun m=>aR m.1 (hd h)).map (·.1)
def lN n(O:cU h g ks ls):pg.fn (n+1) 40 [.val (aF h g ks ls)]=.ok (.new (.lst (names h g))) [.val (aF h g ks ls)]:=
 oO n (hd h) _ ks _ (by rw[O.kl,dU O.g5]) (by rw[iw O.h2,dU O.g5];have:=O.h2;have:=O.g5;omega)
def Ay(O:cU h g ks ls)(hx:x∈hd h):x∉dD g:=fun hs=>by
 have nd:=names_nodup O.h2 O.g1 O.g5
 rw[names,List.nodup_append]at nd
 exact nd.2.2 _ hx _ hs rfl
def K6(O:cU h g ks ls)(T:cT h g os sts)(Wk:Wt h g ks ls W)(S:Kg h g sts s):(names h g).filter (fun x=>aR x (JD h (cB sts s.2)++W s.1))=kO h sts W s:=by
 have K:=jA T O S.j
 have ws:=Wk.sub s.1 S.l
 have tW:=fun x hx=>nY g x (ws.subset hx)
 have iA:cG (JD h _):=fun x hx=>by
  obtain⟨m,hm,rfl⟩:=QDq.mp hx
  exact K.1 m.1 (QTz (List.mem_filter.mp hm).1)
 have tI:cG _:=fun x hx=>by
  rcases QXz.mp hx with z|z
  ·exact iA x z
  ·exact tW x z
 have hI:∀q:Str,D.str q∈JD h (cB sts s.2)↔D.str q∈hd h/\D.str q∈jm _:=fun q=>by
  constructor
  ·intro z
   obtain⟨m,hm,e⟩:=QDq.mp z
   obtain⟨a,b⟩:=List.mem_filter.mp hm
   rw[e]at b
   exact⟨(pW (iR h)).mp b,by rw[<-e];exact QTz a⟩
  ·rintro ⟨a,b⟩
   obtain⟨m,hm,e⟩:=QDq.mp b
   refine QDq.mpr ⟨m,List.mem_filter.mpr ⟨hm,?_⟩,e⟩
   rw[show m.1=D.str q from e]
   exact(pW (iR h)).mpr a
 rw[names,List.filter_append,kO]
 congr 1
 ·refine List.filter_congr fun x hx=>?_
  obtain⟨q,rfl⟩:=iR h x hx
  rw[Bool.eq_iff_iff,pW tI,Nj K.1 ⟨q,rfl⟩,QXz,hI]
  exact⟨fun z=>z.elim (fun a=>a.2) fun a=>absurd (ws.subset a) (Ay O hx),fun z=>.inl ⟨hx,z⟩⟩
 ·refine Eq.trans (List.filter_congr fun x hx=>?_) (Ek ws (nY g) ((List.sublist_append_right (hd h) _).nodup (names_nodup O.h2 O.g1 O.g5)))
  obtain⟨q,rfl⟩:=nY g x hx
  rw[Bool.eq_iff_iff,pW tI,pW tW,QXz,hI]
  exact⟨fun z=>z.elim (fun a=>absurd hx (Ay O a.1)) fun a=>a,.inr⟩
def lD{xs:List D}(t:cG xs):aN .isin (.str q) (.lst xs)=some (aR (.str q) xs)/\aN .isin (.str q) (.tup xs)=some (aR (.str q) xs)/\aN .notin (.str q) (.tup xs)=some (!aR (.str q) xs):=by
 have o:gr (.str q) xs=true:=by unfold gr;rw[jn t];rfl
 refine⟨?_,?_,?_⟩
 ·show(if gr _ xs then some _ else none)=_;rw[o];rfl
 ·show(if gr _ xs then some _ else none)=_;rw[o];rfl
 ·show(if gr _ xs then some _ else none)=_;rw[o];rfl
theorem iz(p:D->Bool):∀st:List (D×Nat),((st.map qG).filter fun d=>match d with|.tup (a::_)=>p a|_=>false).map pY=(st.filter fun m=>p m.1).map (·.1)
 |[]=>rfl
 |m::st=>by
  rw[Qyz,List.filter_cons,List.filter_cons,show(match qG m with|.tup (a::_)=>p a|_=>false)=p m.1 from rfl]
  cases p m.1
  ·exact iz p st
  ·simp only[if_true,Qyz,iz p st];rfl
def yt n(O:cU h g ks ls)(T:cT h g os sts)(Wk:Wt h g ks ls W)(S:Kg h g sts s):
  pg.fn (n+4) 43 [.val (aF h g ks ls),.val (aG os sts),.val (aY s)]=.ok (.new (.lst (kO h sts W s))) [.val (aF h g ks ls),.val (aG os sts),.val (aY s)]:=by
 have K:=jA T O S.j
 have t1:getD (aG os sts) (.int 1)=some (.tup (sts.map gZ)):=by simp[aG]
 have n0:getD (aF h g ks ls) (.int 0)=some (.tup (hd h)):=by simp[aF]
 have s0:getD (aY s) (.int 0)=some (aH s.1):=by simp[aY]
 have s1:getD (aY s) (.int 1)=some (.int s.2):=by simp[aY]
 have st:=sr S.j
 have w:=Wk.lw s.1 S.l n
 have e1:ev (pg.cf (n+3)) lsM [.val (aF h g ks ls),.val (aG os sts),.val (aY s),.un]=.ok (.new (.lst (JD h (cB sts s.2)))) [.val (aF h g ks ls),.val (aG os sts),.val (aY s),.un]:=by
  have:=yQ (c:=pg.cf (n+3)) (it:=.idx AAr AAe) (co:=.cmp .isin AAH AAa) (el:=.idx (.var 0) AAd) (σ:=[.val (aF h g ks ls),.val (aG os sts),.val (aY s),.un]) (τ:=[.val (aF h g ks ls),.val (aG os sts),.val (aY s),.un]) (d:=gZ (cB sts s.2)) (xs:=(cB sts s.2).map qG) (r:=.val (gZ (cB sts s.2))) pY (fun d=>match d with|.tup (a::_)=>aR a (hd h)|_=>false) (by simp[t1,s1,st]) rfl rfl (fun x hx=>by
   obtain⟨m,hm,rfl⟩:=QDq.mp hx
   obtain⟨q,eq⟩:=K.1 m.1 (QTz hm)
   have i:=(lD (q:=q) (iR h)).2.1
   simp[qG,n0,eq,i]) (fun x hx _=>by
   obtain⟨m,hm,rfl⟩:=QDq.mp hx
   simp[qG,pY])
  rw[iz fun a=>aR a (hd h)]at this
  exact this
 have tI:cG (JD h (cB sts s.2)++W s.1):=fun x hx=>by
  rcases QXz.mp hx with z|z
  ·obtain⟨m,hm,rfl⟩:=QDq.mp z
   exact K.1 m.1 (QTz (List.mem_filter.mp hm).1)
  ·exact nY g x ((Wk.sub s.1 S.l).subset z)
 have ln:=lN (n+2) O
 have e2:ev (pg.cf (n+3)) lsN [.val (aF h g ks ls),.val (aG os sts),.val (aY s),.own (.lst (JD h (cB sts s.2)++W s.1))]=.ok (.new (.lst (kO h sts W s))) [.val (aF h g ks ls),.val (aG os sts),.val (aY s),.own (.lst (JD h (cB sts s.2)++W s.1))]:=by
  have:=yQ (c:=pg.cf (n+3)) (it:=.call 40 AAS) (co:=.cmp .isin (.var 0) (.var 4)) (el:=.var 0) (σ:=[.val (aF h g ks ls),.val (aG os sts),.val (aY s),.own (.lst (JD h (cB sts s.2)++W s.1))]) (τ:=[.val (aF h g ks ls),.val (aG os sts),.val (aY s),.own (.lst (JD h (cB sts s.2)++W s.1))]) (d:=.lst (names h g)) (xs:=names h g) (r:=.new (.lst (names h g))) (fun x=>x) (fun x=>aR x (JD h (cB sts s.2)++W s.1)) (by simp[ln]) rfl rfl (fun x hx=>by
   obtain⟨q,rfl⟩:=aU h g x hx
   have i:=(lD (q:=q) tI).1
   simp[i,Ob.d]) (fun x _ _=>by simp)
  rw[List.map_id',K6 O T Wk S]at this
  exact this
 have f:fits ((JD h (cB sts s.2)).length+(W s.1).length)=true:=by
  have a:(JD h (cB sts s.2)).length<=(cB sts s.2).length:=by rw[JD,QAq];exact List.length_filter_le _ _
  have b:=(T.mv _ (nU S.j)).1.length_le
  have c:=(Wk.sub s.1 S.l).length_le
  have d:=T.sub.length_le
  have nl:=dZ (g:=g) O.h2 O.g5
  have h2:=O.h2
  have g5:=O.g5
  have:=dU O.g5
  simp at b
  simp only[QTq]at d
  simp[fits]
  omega
 have hb:qR=⟨3,4,(.cons (.set 3 lsM) (.cons (.set 3 (.op .add (.var 3) (.call 42 ACP))) (.cons (.ret lsN) .nil)))⟩:=by kernel_rfl
 have q:lsN.az=none:=rfl
 rw[zX,hb]
 simp[e1,w,s0,f,Ob.d,e2,q]
end
end Tx
end
section
open PySem Mini
namespace Tx
section
def fY(xs:List D)(bs:List Bool)(x:D):List Bool:=(xs.zip bs).map fun p=>if dH p.1 x then !p.2 else p.2
def uA{bs:List Bool}(hl:bs.length=xs.length)x:(fY xs bs x).length=xs.length:=by simp[fY,hl]
def chF(x:D)(p:D×D):D:=match p.2 with
 |.bl b=>.bl (if dH p.1 x then !b else b)
 |d=>d
theorem Hw x:∀(xs:List D)(bs:List Bool),(xs.zip (bs.map D.bl)).map (chF x)=(fY xs bs x).map .bl
 |[],bs=>by simp[fY]
 |_::_,[]=>by simp[fY]
 |y::xs,b::bs=>by
  have:=Hw x xs bs
  simp only[fY]at this⊢
  simp[chF,this]
def chC:E:=.comp 2 (.tup [0,1]) (.zip ACN (.var 1)) AAL (.ite (.cmp .eq (.var 0) (.var 4)) (.not (.var 1)) (.var 1))
def Ex n(O:cU h g ks ls)(hl:bs.length=(names h g).length)(hx:∃s,x=.str s):
  pg.fn (n+2) 24 [.val (aF h g ks ls),.val (aH bs),.val x]=.ok (.val (aH (fY (names h g) bs x))) [.val (aF h g ks ls),.val (aH bs),.val x]:=by
 obtain⟨q,rfl⟩:=hx
 have w:pg.fn _ 13 [.val (aF h g ks ls)]=.ok (.new (.lst (names h g))) [.val _]:=
  fB n (hd h) _ ks _ (by rw[O.kl,dU O.g5]) (by rw[iw O.h2,dU O.g5];have:=O.h2;have:=O.g5;omega)
 have e:ev (pg.cf (n+1)) chC [.val (aF h g ks ls),.val (aH bs),.val (.str q)]=.ok (.new (.lst ((fY (names h g) bs (.str q)).map .bl))) [.val (aF h g ks ls),.val (aH bs),.val (.str q)]:=by
  have:=VF (c:=pg.cf (n+1)) (it:=.zip ACN (.var 1)) (el:=.ite (.cmp .eq (.var 0) (.var 4)) (.not (.var 1)) (.var 1)) (σ:=[.val (aF h g ks ls),.val (aH bs),.val (.str q)]) (τ:=[.val (aF h g ks ls),.val (aH bs),.val (.str q)]) (r:=.val (.lst (aV (names h g) (bs.map .bl)))) (chF _) (by
    have z:bM (aH bs)=some _:=rfl
    simp[w,z]) rfl (by show some _=some _;rw[dG]) (fun p hp=>by
    obtain⟨u,eu⟩:=aU h g p.1 (List.of_mem_zip hp).1
    obtain⟨b,_,eb⟩:=QDq.mp (List.of_mem_zip hp).2
    rw[<-eb,eu]
    have e1:chF (.str q) p=.bl (if decide (u=q)then !b else b):=by
     unfold chF
     rw[<-eb,eu]
     rfl
    rw[e1]
    cases c:decide (u=q)<;>simp[c])
  rw[Hw]at this
  exact this
 have hb:xn=⟨3,3,(.cons (.ret (.bi .tuple chC)) .nil)⟩:=by kernel_rfl
 have qv:chC.az=none:=rfl
 rw[IK,hb]
 simp[e,qv]
 rfl
theorem vY:∀(L pre:List D),(bN pre.length L.length).map (fun d=>match d with|.int i=>(pre++L).getD i.toNat .non|_=>.non)=L
 |[]=>fun pre=>rfl
 |x::L=>fun pre=>by
  have:=vY L (pre++[x])
  simp only[QTq,QBq,List.length_nil,List.append_assoc,List.cons_append,List.nil_append]at this
  simp only[QBq,bN,Qyz]
  rw[show((pre.length:Int)+1)=((pre.length+(0+1):Nat)) by simp,this]
  simp[List.getD]
def fgC:E:=.comp 1 (.name 0) (.range1 (.bi .len (.var 4))) AAL (.cmp .ne ACO ABr)
theorem vX:∀(n:Nat)(lo:Int)(x:D),x∈bN lo n->∃j:Nat,j<n/\x=.int (lo+j)
 |0=>fun _ _ h=>by cases h
 |n+1=>fun lo x h=>by
  rcases QCq.mp h with rfl|h
  ·exact⟨0,by omega,by simp⟩
  ·obtain⟨j,hj,rfl⟩:=vX n _ x h
   exact⟨j+1,by omega,by congr 1;omega⟩
def TX n(O:cU h g ks ls)T(S:Kg h g sts s)s5 s6 s7:
  ev (pg.cf n) fgC [.val (aF h g ks ls),.val T,.val (aY s),.val (.str q),.own (.lst (names h g)),s5,s6,s7]=.ok (.new (.lst ((fY (names h g) s.1 (.str q)).map .bl))) [.val (aF h g ks ls),.val T,.val (aY s),.val (.str q),.own (.lst (names h g)),s5,s6,s7]:=by
 have nl:=dZ O.h2 O.g5
 have h2:=O.h2
 have g5:=O.g5
 have fl:=uA S.l (.str q)
 have f1:fits (names h g).length=true:=by simp[fits];omega
 have f2:zb (names h g).length=true:=by simp[zb];omega
 have s0:getD (aY s) (.int 0)=some (aH s.1):=by simp[aY]
 have:=mY (c:=pg.cf n) (it:=.range1 (.bi .len (.var 4))) (el:=.cmp .ne ACO ABr) (σ:=[.val (aF h g ks ls),.val T,.val (aY s),.val (.str q),.own (.lst (names h g)),s5,s6,s7]) (τ:=[.val (aF h g ks ls),.val T,.val (aY s),.val (.str q),.own (.lst (names h g)),s5,s6,s7]) (r:=.val (.lst (bN 0 (names h g).length))) (fun d=>match d with|.int i=>([]++(fY (names h g) s.1 (.str q)).map D.bl).getD i.toNat .non|_=>.non) (by simp[f1,f2,Ob.d]) rfl rfl (fun x hx=>by
  obtain⟨j,hj,rfl⟩:=vX _ _ _ hx
  have hb:j<s.1.length:=by rw[S.l];exact hj
  obtain⟨u,eu⟩:=aU h g _ (List.getElem_mem hj)
  have a1:at? (names h g) j=some (.str u):=by rw[iD _ _ hj,QXq hj,eu]
  have a3:getD (aH s.1) (.int j)=some (.bl s.1[j]):=by simpa[aH]using (by rw[iD _ _ (by simpa using hb)];simp[hb])
  have v:([]++(fY (names h g) s.1 (.str q)).map D.bl).getD ((0:Int)+j).toNat .non=.bl (!(s.1[j]==decide (u=q))):=by
   rw[List.nil_append,Int.zero_add,Int.toNat_natCast,List.getD_eq_getElem?_getD,QFz,QXq (by rw[fl];exact hj)]
   have e2:dH (names h g)[j] (.str q)=decide (u=q):=by rw[eu];rfl
   simp only[fY,List.getElem_map,List.getElem_zip,Option.map_some,Option.getD_some,e2]
   cases decide (u=q)<;>cases s.1[j]<;>rfl
  simp only[v]
  simp[s0,a3,a1,Ob.d])
 have fl':((fY (names h g) s.1 (.str q)).map D.bl).length=(names h g).length:=by rw[QAq,fl]
 have rg:=vY ((fY (names h g) s.1 (.str q)).map D.bl) []
 rw[fl']at rg
 rw[show((([]:List D).length):Int)=0 from rfl]at rg
 rw[rg]at this
 exact this
end
end Tx
end
section
open PySem Mini
namespace Tx
section
variable{os:List D}
def yp(h g:Nat)(os:List D)(sts:List (List (D×Nat)))(s:St)(x:D):Option St:=
 if aR x (hd h)||aR x os then(lk x (cB sts s.2)).map fun j=>(fY (names h g) s.1 x,j)else some (fY (names h g) s.1 x,s.2)
def fU:Option St->D
 |none=>.non
 |some s=>aY s
def sdE a(j:Nat):D.tup [aH a,.int j]=aY (a,j):=rfl
def rD(T:cT h g os sts):cG os:=fun x hx=>nY g x (T.ou.subset hx)
theorem Vo{x:D}{N:Nat}:∀{st:List (D×Nat)},(∀m∈st,m.2<N)->∀{j:Nat},lk x st=some j->j<N
 |[],_,_,e=>by cases e
 |m::st,hm,j,e=>by
  simp only[lk]at e
  split at e
  ·cases e;exact hm m QYz
  ·exact Vo (fun q hq=>hm q (QYq _ hq)) e
def XM(T:cT h g os sts)(S:Kg h g sts s)(e:yp h g os sts s x=some s'):Kg h g sts s':=by
 unfold yp at e
 split at e
 ·obtain⟨j,hj,rfl⟩:=QJz.mp e
  exact⟨uA S.l x,Vo (T.mv _ (nU S.j)).2 hj⟩
 ·cases e
  exact⟨uA S.l x,S.j⟩
def Cg n(O:cU h g ks ls)(T:cT h g os sts)(S:Kg h g sts s)q:
  pg.fn (n+1) 22 [.val (aG os sts),.val (aY s),.val (.str q)]=.ok (.val (.bl (aR (.str q) os&& !(lk (.str q) (cB sts s.2)).isSome))) [.val (aG os sts),.val (aY s),.val (.str q)]:=by
 have K:=jA T O S.j
 have t0:getD (aG os sts) (.int 0)=some (.tup os):=by simp[aG]
 have t1:getD (aG os sts) (.int 1)=some (.tup (sts.map gZ)):=by simp[aG]
 have s1:getD (aY s) (.int 1)=some (.int s.2):=by simp[aY]
 have i:=(lD (q:=q) (rD T)).2.1
 have i2:aN .notin (.str q) (.eE (jm (cB sts s.2)) (xu (cB sts s.2)))=some (!(lk (.str q) (cB sts s.2)).isSome):=by rw[<-GX];rfl
 rw[xP]
 cases c:aR _ os<;>rw[c]at i<;>simp[jQ,t0,i,t1,s1,sr S.j,gZ,jN _ [] [] (by simpa using K.1) (by simpa using K.2),Ob.d,i2]
def S7(O:cU h g ks ls)(T:cT h g os sts)(Wk:Wt h g ks ls W)(S:Kg h g sts s)(hx:D.str q∈kO h sts W s):(aR (.str q) os&& !(lk (.str q) (cB sts s.2)).isSome)=true/\yp h g os sts s (.str q)=none\/(aR (.str q) os&& !(lk (.str q) (cB sts s.2)).isSome)=false/\yp h g os sts s (.str q)=some (fY (names h g) s.1 (.str q),(lk (.str q) (cB sts s.2)).getD s.2):=by
 unfold yp
 rcases QXz.mp hx with z|z
 ·obtain⟨z1,z2⟩:=List.mem_filter.mp z
  rw[nF (rD T) fun w=>Ay O z1 (T.ou.subset w),jM z1 (iR h)]
  obtain⟨j,hj⟩:=Option.isSome_iff_exists.mp z2
  rw[hj]
  exact .inr ⟨rfl,rfl⟩
 ·have zr:=(Wk.sub s.1 S.l).subset z
  rw[nF (iR h) fun w=>Ay O w zr]
  cases ho:aR _ os with
  |true=>
   cases hj:lk _ _ with
   |none=>exact .inl ⟨rfl,rfl⟩
   |some j=>exact .inr ⟨rfl,rfl⟩
  |false=>
   have hn:lk (.str q) (cB sts s.2)=none:=by
    cases hj:lk _ _ with
    |none=>rfl
    |some j=>
     rcases QXz.mp ((T.mv _ (nU S.j)).1.subset ((Nj (jA T O S.j).1 ⟨q,rfl⟩).mp (by rw[hj];rfl)))with w|w
     ·exact absurd zr (Ay O w)
     ·rw[jM w (rD T)]at ho;cases ho
   rw[hn]
   exact .inr ⟨rfl,rfl⟩
def Jq n(O:cU h g ks ls)(T:cT h g os sts)(Wk:Wt h g ks ls W)(S:Kg h g sts s)(hx:x∈kO h sts W s):
  pg.fn (n+3) 23 [.val (aF h g ks ls),.val (aG os sts),.val (aY s),.val x]=.ok (.val (fU (yp h g os sts s x))) [.val (aF h g ks ls),.val (aG os sts),.val (aY s),.val x]:=by
 have K:=jA T O S.j
 obtain⟨q,rfl⟩:=aU h g x ((rZ Wk S).subset hx)
 have u:=Cg (n+1) O T S q
 have t1:getD (aG os sts) (.int 1)=some (.tup (sts.map gZ)):=by simp[aG]
 have s0:getD (aY s) (.int 0)=some (aH s.1):=by simp[aY]
 have s1:getD (aY s) (.int 1)=some (.int s.2):=by simp[aY]
 have gt:oX (.eE (jm (cB sts s.2)) (xu (cB sts s.2))) (.str q) (.int s.2)=some (.int ((lk (.str q) (cB sts s.2)).getD s.2)):=by
  show(if keyOk (.str q)then some _ else none)=_
  rw[GR]
  cases lk _ _<;>rfl
 rw[Lz]
 rcases (S7 O T Wk S hx)with ⟨k1,k2⟩|⟨k1,k2⟩
 ·rw[k1]at u
  rw[k2]
  simp[o8,u,fU]
 ·rw[k1]at u
  rw[k2]
  simp[o8,u,t1,s0,s1,sr S.j,gZ,jN _ [] [] (by simpa using K.1) (by simpa using K.2),Ob.d,Ex n O S.l ⟨q,rfl⟩,oU,gt,aZ,fU,sdE]
def ZV:S:=(.cons (.ite (.cmp .eq (.var 6) (.var 3)) (.cons (.ret (.tup (.cons (.var 5) (.cons (.var 7) .nil)))) .nil) .nil) .nil)
theorem Vp(c:Cf)(a b e F:D)(N:Sl){q:Str}:∀(st:List (D×Nat))(s6 s7:Sl),cG (jm st)->dB s6->dB s7->
  (∀j,lk (.str q) st=some j->∃s6' s7',cX (.tup [6,7]) (ex c ZV) (st.map qG) [.val a,.val b,.val e,.val (.str q),N,.val F,s6,s7]=.ret (.val (.tup [F,.int j])) [.val a,.val b,.val e,.val (.str q),N,.val F,s6',s7'])/\
  (lk (.str q) st=none->∃s6' s7',cX (.tup [6,7]) (ex c ZV) (st.map qG) [.val a,.val b,.val e,.val (.str q),N,.val F,s6,s7]=.next [.val a,.val b,.val e,.val (.str q),N,.val F,s6',s7'])
 |[]=>fun s6 s7 _ _ _=>⟨fun j z=>(by cases z),fun _=>⟨s6,s7,rfl⟩⟩
 |m::st=>fun s6 s7 t h6 h7=>by
  obtain⟨u,eu⟩:=t m.1 QYz
  have tt:cR (.tup [6,7]) (qG m) [.val a,.val b,.val e,.val (.str q),N,.val F,s6,s7]=some [.val a,.val b,.val e,.val (.str q),N,.val F,.val m.1,.val (.int m.2)]:=by
   rcases h6 with rfl|⟨d,rfl⟩<;>rcases h7 with rfl|⟨d,rfl⟩<;>simp[cR,iY,eO,qG]
  have ih:=Vp c a b e F N (q:=q) st (.val m.1) (.val (.int m.2)) (fun x hx=>t x (QYq _ hx)) (.inr ⟨_,rfl⟩) (.inr ⟨_,rfl⟩)
  rw[Qyz,cX,tt]
  have e1:lk (.str q) (m::st)=if decide (u=q)then some m.2 else lk (.str q) st:=by rw[lk,eu];rfl
  rw[e1,eu]at*
  by_cases cq:u=q
  ·subst cq
   refine⟨fun j z=>?_,fun z=>by simp at z⟩
   simp at z
   subst z
   exact⟨.val (.str u),.val (.int m.2),by simp[ZV,aZ]⟩
  ·have sk:(ex c ZV [.val a,.val b,.val e,.val (.str q),N,.val F,.val (.str u),.val (.int m.2)])=.next [.val a,.val b,.val e,.val (.str q),N,.val F,.val (.str u),.val (.int m.2)]:=by simp[ZV,cq]
   simp only[sk]
   simp only[cq,decide_false,Qxq,if_false]
   exact ih
theorem DW n(O:cU h g ks ls)(T:cT h g os sts)(S:Kg h g sts s)(hx:∃q,x=.str q):
  pg.fn (n+2) 44 [.val (aF h g ks ls),.val (aG os sts),.val (aY s),.val x]=.ok (.val (fU (yp h g os sts s x))) [.val (aF h g ks ls),.val (aG os sts),.val (aY s),.val x]:=by
 obtain⟨q,rfl⟩:=hx
 have ln:=lN n O
 have n0:getD (aF h g ks ls) (.int 0)=some (.tup (hd h)):=by simp[aF]
 have t0:getD (aG os sts) (.int 0)=some (.tup os):=by simp[aG]
 have t1:getD (aG os sts) (.int 1)=some (.tup (sts.map gZ)):=by simp[aG]
 have s1:getD (aY s) (.int 1)=some (.int s.2):=by simp[aY]
 have st:=sr S.j
 have i1:=(lD (q:=q) (iR h)).2.2
 have i2:=(lD (q:=q) (rD T)).2.2
 have fe:=TX (n+1) O (aG os sts) S (q:=q) .un .un .un
 have lg:=Vp (pg.cf (n+1)) (aF h g ks ls) (aG os sts) (aY s) (aH (fY (names h g) s.1 (.str q))) (.own (.lst (names h g))) (q:=q) _ .un .un (jA T O S.j).1 (.inl rfl) (.inl rfl)
 have it:items (gZ (cB sts s.2))=some _:=rfl
 have rd:D.tup _=aH (fY (names h g) s.1 (.str q)):=rfl
 have hb:xj=⟨4,8,(.cons (.set 4 ACM) (.cons (.set 5 (.bi .tuple fgC)) (.cons (.ite (.and (.cons (.cmp .notin (.var 3) AAH) (.cons (.cmp .notin (.var 3) AAa) .nil))) (.cons (.ret (.tup (.cons (.var 5) (.cons AAe .nil)))) .nil) .nil) (.cons (.for_ (.tup [6,7]) ACI ZV) (.cons ABm .nil)))))⟩:=by kernel_rfl
 have qv:fgC.az=none:=rfl
 rw[Ir,hb]
 unfold yp
 cases c1:aR _ (hd h)with
 |false=>
  cases c2:aR _ os with
  |false=>
   rw[c1]at i1
   rw[c2]at i2
   simp[ln,fe,qv,rd,n0,t0,i1,i2,s1,aZ,fU,sdE]
  |true=>
   rw[c1]at i1
   rw[c2]at i2
   cases hj:lk _ _ with
   |none=>
    obtain⟨s6,s7,e⟩:=lg.2 hj
    simp[ln,fe,qv,rd,n0,t0,i1,i2,t1,s1,st,it,e,fU]
   |some j=>
    obtain⟨s6,s7,e⟩:=lg.1 j hj
    simp[ln,fe,qv,rd,n0,t0,i1,i2,t1,s1,st,it,e,fU,sdE]
 |true=>
  rw[c1]at i1
  cases hj:lk _ _ with
  |none=>
   obtain⟨s6,s7,e⟩:=lg.2 hj
   simp[ln,fe,qv,rd,n0,i1,t1,s1,st,it,e,fU]
  |some j=>
   obtain⟨s6,s7,e⟩:=lg.1 j hj
   simp[ln,fe,qv,rd,n0,i1,t1,s1,st,it,e,fU,sdE]
end
end Tx
end
section
open PySem Mini
namespace Tx
structure Cs where
 h:Nat
 g:Nat
 ks:List D
 ls:List Bool
 os:List D
 sts:List (List (D×Nat))
 W:List Bool->List D
namespace Cs
variable(C:Cs)
structure Ok:Prop where
 o:cU C.h C.g C.ks C.ls
 t:cT C.h C.g C.os C.sts
 w:Wt C.h C.g C.ks C.ls C.W
def n:D:=aF C.h C.g C.ks C.ls
def t:D:=aG C.os C.sts
abbrev nm:List D:=names C.h C.g
abbrev S(s:St):Prop:=Kg C.h C.g C.sts s
def st(s:St):List D:=kO C.h C.sts C.W s
def led(s:St)(x:D):Option St:=yp C.h C.g C.os C.sts s x
end Cs
section
variable{C:Cs}
namespace Cs.Ok
variable(K:C.Ok)
include K
def sub(S:C.S s):(C.st s).Sublist C.nm:=rZ K.w S
def Q0(S:C.S s):cG (C.st s):=fun x hx=>aU C.h C.g x ((K.sub S).subset hx)
def abU{t:St}(S:C.S s)(e:C.led s x=some t):C.S t:=XM K.t S e
def bR m(S:C.S s):pg.fn (m+5) 21 [.val C.n,.val C.t,.val (aY s)]=.ok (.new (.lst (C.st s))) [.val C.n,.val C.t,.val (aY s)]:=zL m K.o K.t K.w S
def Jr m(S:C.S s):pg.fn (m+4) 43 [.val C.n,.val C.t,.val (aY s)]=.ok (.new (.lst (C.st s))) [.val C.n,.val C.t,.val (aY s)]:=yt m K.o K.t K.w S
def gq m(S:C.S s)(hx:x∈C.st s):pg.fn (m+3) 23 [.val C.n,.val C.t,.val (aY s),.val x]=.ok (.val (fU (C.led s x))) [.val C.n,.val C.t,.val (aY s),.val x]:=Jq m K.o K.t K.w S hx
def S8 m(S:C.S s)(hx:∃q,x=.str q):pg.fn (m+2) 44 [.val C.n,.val C.t,.val (aY s),.val x]=.ok (.val (fU (C.led s x))) [.val C.n,.val C.t,.val (aY s),.val x]:=DW m K.o K.t S hx
def checked m:pg.fn (m+9) 17 [.val C.n,.val C.t]=.ok (.val C.t) [.val C.n,.val C.t]:=rB m K.o K.t
end Cs.Ok
def T8 m(ns:List Int)k(hk:0<=k):∃C:Cs,C.Ok/\pg.fn (m+9) 39 [.val (.lst (ns.map .int)),.val (.int k)]=.ok (.val (.tup [C.n,C.t])) [.val (.lst (ns.map .int)),.val (.int k)]:=by
 obtain⟨h,g,ks,ls,os,sts,O,T,e⟩:=T7 m ns k hk
 obtain⟨W,w⟩:=aas O
 exact⟨⟨h,g,ks,ls,os,sts,W⟩,⟨O,T,w⟩,e⟩
def GF:getD C.n (.int 2)=some (aH C.ls):=by simp[Cs.n,aF];rfl
end
def sI(ls:List Bool):St:=(ls,0)
def Li{C:Cs}(K:C.Ok):C.S (sI C.ls):=⟨by rw[dZ K.o.h2 K.o.g5];exact K.o.ll,K.t.s1⟩
end Tx
end
section
open PySem Mini
namespace Tx
theorem yh f:∀n,0<n->gn f n<n
 |0=>fun h=>absurd h (Nat.lt_irrefl 0)
 |n+1=>fun _=>by
  rw[gn]
  split
  ·omega
  ·cases n with
   |zero=>simp[gn]
   |succ n=>have:=yh f (n+1) (by omega);omega
def vP:D->Str
 |.str x=>x
 |_=>""
def iQ(nm:List D)(ss:jf)(tm:Int):jf:=nm.map fun x=>(vP x,(bz (vP x) ss).getD tm)
theorem zy(F:D->Int):∀{nm:List D},cG nm->nR nm (nm.map fun x=>.int (F x))=some (nm.map fun x=>(vP x,F x))
 |[]=>fun _=>rfl
 |x::nm=>fun h=>by
  obtain⟨q,rfl⟩:=h x QYz
  simp[nR,zy F fun y hy=>h y (QYq _ hy),vP]
theorem FT x:∀ss:jf,cH (.str x) (jz ss) (Cq ss)=(bz x ss).map D.int
 |[]=>rfl
 |p::ss=>by
  have:=FT x ss
  simp only[jz,Cq]at this
  simp only[jz,Cq,Qyz,cH,bz,dH]
  by_cases c:p.1=x<;>simp[c,this]
theorem uF(F:D->D):∀(xs ks vs:List D),cG (ks++xs)->(ks++xs).Nodup->dictOf ks vs (xs.map fun x=>.tup [x,F x])=some (ks++xs,vs++xs.map F)
 |[]=>fun ks vs _ _=>by simp[dictOf]
 |x::xs=>fun ks vs h nd=>by
  obtain⟨s,e⟩:=h x (by simp)
  have no:aR x ks=false:=by
   rw[e]
   refine nF (fun y hy=>h y (QWz _ hy)) fun hm=>?_
   rw[List.nodup_append]at nd
   exact nd.2.2 _ hm _ QYz e.symm
  have r:=uF F xs (ks++[x]) (vs++[F x]) (by simpa using h) (by simpa using nd)
  have kk:keyOk x=true:=by rw[e];rfl
  rw[Qyz,dictOf,if_pos kk]
  simp only[putD,no]
  rw[if_neg (by simp),r]
  simp
def swC:E:=.comp 1 (.name 0) (.var 0) AAL (.tup ABR)
def La n ss t(tx:cG xs)(nd:xs.Nodup):
  pg.fn (n+1) 26 [.val (.lst xs),.bor (.dct (jz ss) (Cq ss)),.val (.int t)]=.ok (.new (.dct xs (xs.map fun x=>.int ((bz (vP x) ss).getD t)))) [.val (.lst xs),.bor (.dct (jz ss) (Cq ss)),.val (.int t)]:=by
 have e:=mY (c:=pg.cf n) (it:=.var 0) (el:=.tup ABR) (σ:=[.val (.lst xs),.bor (.dct (jz ss) (Cq ss)),.val (.int t)]) (τ:=[.val (.lst xs),.bor (.dct (jz ss) (Cq ss)),.val (.int t)]) (r:=.val (.lst xs)) (fun x=>.tup [x,.int ((bz (vP x) ss).getD t)]) (by simp) rfl rfl (fun x hx=>by
  obtain⟨q,rfl⟩:=tx x hx
  have g:oX (.eE (jz ss) (Cq ss)) (.str q) (.int t)=some (.int ((bz q ss).getD t)):=by
   show(if keyOk (.str q)then some _ else none)=_
   rw[if_pos (show keyOk _=true from rfl),FT]
   cases bz q ss<;>rfl
  simp[aZ,g,vP,Ob.d])
 have e':ev _ swC [.val _,.bor _,.val _]=_:=e
 have d:=uF (fun x=>.int ((bz (vP x) ss).getD t)) xs [] [] (by simpa using tx) (by simpa using nd)
 have b:b1 .dict (.lst (xs.map fun x=>.tup [x,.int ((bz (vP x) ss).getD t)]))=some (.new (.dct xs (xs.map fun x=>.int ((bz (vP x) ss).getD t)))):=by
  show(dictOf [] [] _).map _=_
  rw[d];rfl
 have q:swC.az=none:=rfl
 have hb:o7=⟨3,3,(.cons (.ret (.bi .dict swC)) .nil)⟩:=by kernel_rfl
 rw[xO,hb]
 simp[q,e',Ob.d,b]
def vM n ss t(tx_:cG xs)(nd:xs.Nodup):sJ (tx.gf (pg.cf (n+1))) xs ss t=some (iQ xs ss t):=by
 have e:sJ (tx.gf (pg.cf (n+1))) xs ss t=M3 (pg.fn _ 26 [.val _,.bor _,.val _]):=rfl
 rw[e,La n ss t tx_ nd]
 exact zy _ tx_
end Tx
end
section
open PySem Mini
namespace Tx
structure Ps where
 cs:List (Int×Str)
 o:Option St
 ss:jf
def jq(cs:List (Int×Str)):List D:=cs.map fun p=>.tup [.int p.1,.str p.2]
def Ps.gs(g:Ps):Gs:=⟨jq g.cs,fU g.o,g.ss⟩
def Cs.J9(C:Cs):Option St->List D
 |some s=>C.st s
 |none=>[]
def Cs.next(C:Cs)(g:Ps)(x:Str):Option St:=g.o.bind fun s=>C.led s (.str x)
def gD(ls ss:jf):Nat:=gn (gY ls ss) ss.length
def gP(ls ss:jf):Str:=((ss[gD ls ss]?).map (·.1)).getD ""
def Cs.stp(C:Cs)(ls:jf)(g:Ps):Ps:=
 ⟨g.cs++[(gY ls g.ss (gD ls g.ss),gP ls g.ss)],C.next g (gP ls g.ss),iQ (C.J9 (C.next g (gP ls g.ss))) (g.ss.filter fun q=>decide (q.1≠gP ls g.ss)) (gY ls g.ss (gD ls g.ss))⟩
def Cs.go(C:Cs)(ls:jf)(k:Nat):Nat->Ps->Ps
 |0,g=>g
 |m+1,g=>if !g.ss.isEmpty&&decide (g.cs.length<k)then C.go ls k m (C.stp ls g)else g
def Cs.ini(C:Cs):Ps:=⟨[],some (sI C.ls),iQ (C.st (sI C.ls)) [] 0⟩
structure Cs.Pk(C:Cs)(g:Ps):Prop where
 o:∀s,g.o=some s->C.S s
 k:jz g.ss=C.J9 g.o
def MT(h:cG nm)ss t:jz (iQ nm ss t)=nm:=by
 simp only[jz,iQ,List.map_map]
 refine(List.map_congr_left fun x hx=>?_).trans (List.map_id nm)
 obtain⟨q,rfl⟩:=h x hx
 rfl
theorem mC{x:Str}{i:Int}:∀{ss:jf},(jz ss).Nodup->(x,i)∈ss->bz x ss=some i
 |[]=>fun _ h=>by cases h
 |p::ss=>fun nd h=>by
  have nd':D.str p.1∉jz ss/\(jz ss).Nodup:=List.nodup_cons.mp nd
  rcases QCq.mp h with e|e
  ·subst e;simp[bz]
  ·have ne:¬p.1=x:=fun z=>nd'.1 (by rw[z];exact QDq.mpr ⟨(x,i),e,rfl⟩)
   simp[bz,ne,mC nd'.2 e]
section
variable{C:Cs}{ls:jf}
def lO(K:C.Ok)(h:∀s,o=some s->C.S s):(C.J9 o).Nodup/\cG (C.J9 o)/\∀x∈C.J9 o,x∈C.nm:=by
 cases o with
 |none=>exact⟨List.nodup_nil,(fun x hx=>by cases hx),(fun x hx=>by cases hx)⟩
 |some s=>exact⟨(K.sub (h s rfl)).nodup (names_nodup K.o.h2 K.o.g1 K.o.g5),K.Q0 (h s rfl),fun x hx=>(K.sub (h s rfl)).subset hx⟩
def Ga(K:C.Ok)(P:C.Pk g):C.Pk (C.stp ls g):=by
 have h:∀s,C.next g (gP ls g.ss)=some s->C.S s:=fun s e=>by
  obtain⟨s0,e0,e1⟩:=QJq.mp e
  exact K.abU (P.o s0 e0) e1
 exact⟨h,MT (lO K h).2.1 _ _⟩
def Oa(K:C.Ok):C.Pk C.ini:=⟨fun s e=>by cases e;exact Li K,MT (K.Q0 (Li K)) _ _⟩
def acS(C:Cs)(ls:jf):Prop:=∀x:Str,D.str x∈C.nm->(bz x ls).isSome=true
def rF{g:Ps}(ne:g.ss≠[]):∃p,g.ss[gD ls g.ss]? =some p/\p∈g.ss/\gP ls g.ss=p.1:=by
 have l:gD ls g.ss<g.ss.length:=yh _ _ (List.length_pos_iff.mpr ne)
 have e:=QXq l
 exact⟨_,e,List.getElem_mem l,by rw[gP,e];rfl⟩
def Rb n(K:C.Ok)(P:C.Pk g)(hl:acS C ls)(ne:g.ss≠[])(hc:g.cs.length<=1000):kY (tx.gf (pg.cf (n+5))) C.n C.t ls g.gs=some (C.stp ls g).gs:=by
 obtain⟨nd,tx_,sub⟩:=lO K P.o
 rw[<-P.k]at nd tx_ sub
 have ok:okT ls g.ss=true:=by
  unfold okT
  rw[List.all_eq_true]
  intro p hp
  rw[mC nd hp,hl p.1 (sub _ (QDq.mpr ⟨p,hp,rfl⟩))]
  simp
 have f1:fits ((jq g.cs).length+1)=true:=by simp[jq,fits];omega
 obtain⟨p,e,hp,en⟩:=rF (ls:=ls) ne
 obtain⟨s,hs⟩:∃s,g.o=some s:=by
  cases q:g.o with
  |some s=>exact⟨s,rfl⟩
  |none=>
   have:=P.k
   rw[q]at this
   exact absurd (List.map_eq_nil_iff.mp this) ne
 have S:=P.o s hs
 have hx:D.str p.1∈C.st s:=by
  have:=P.k
  rw[hs]at this
  rw[show C.st s=jz g.ss from this.symm]
  exact QDq.mpr ⟨p,hp,rfl⟩
 have lt:=K.gq (n+2) S hx
 have nx:C.next g (gP ls g.ss)=C.led s (.str p.1):=by rw[en,Cs.next,hs];rfl
 have P':=Ga (ls:=ls) K P
 have sn:=lO K P'.o
 have nm:yg (tx.gf (pg.cf (n+5))) C.n C.t (fU (C.led s (.str p.1)))=some (C.J9 (C.led s (.str p.1))):=by
  cases q:C.led s (.str p.1)with
  |none=>rfl
  |some s'=>
   have e:yg (tx.gf (pg.cf (n+5))) C.n C.t (fU (some s'))=Jk (pg.fn (n+5) 21 [.val C.n,.val C.t,.val (aY s')]):=rfl
   rw[e,K.bR n (K.abU S q)]
   rfl
 have si:=vM (n+4) (xs:=C.J9 (C.led s (.str p.1))) (g.ss.filter fun q=>decide (q.1≠p.1)) (gY ls g.ss (gD ls g.ss)) (nx▸sn.2.1) (nx▸sn.1)
 unfold kY
 show(if okT ls g.ss&&fits ((jq g.cs).length+1)then match g.ss[gD ls g.ss]? with|none=>none|some p=>_ else none)=_
 have lt':Ce ((tx.gf (pg.cf (n+5))).led [.val C.n,.val C.t,.val g.gs.sd,.val (.str p.1)])=some (fU (C.led s (.str p.1))):=by
  have e:(tx.gf (pg.cf (n+5))).led [.val C.n,.val C.t,.val g.gs.sd,.val (.str p.1)]=pg.fn (n+5) 23 [.val C.n,.val C.t,.val (fU g.o),.val (.str p.1)]:=rfl
  rw[e,hs]
  show Ce (pg.fn (n+2+3) 23 [.val C.n,.val C.t,.val (aY s),.val (.str p.1)])=_
  rw[lt]
  rfl
 rw[ok,f1,e]
 simp only[lt',nm,QHq,Bool.and_self,if_true]
 have si':sJ (tx.gf (pg.cf (n+5))) (C.J9 (C.led s (.str p.1))) (g.gs.ss.filter fun q=>decide (q.1≠p.1)) (gY ls g.gs.ss (gn (gY ls g.gs.ss) g.gs.ss.length))=_:=si
 rw[si']
 have nx2:C.next g p.1=C.led s (.str p.1):=by rw[<-en];exact nx.trans (by rw[en])
 simp only[Option.map_some,Cs.stp,Ps.gs,en,nx2,jq,List.map_append,Qyz,List.map_nil]
 rfl
theorem GQ(n:Nat)(K:C.Ok)(hl:acS C ls){k:Nat}(hk:k<=1000):∀(m:Nat){g:Ps},C.Pk g->k<m+g.cs.length->mX (kY (tx.gf (pg.cf (n+5))) C.n C.t ls) k m g.gs=some (C.go ls k m g).gs\/(m=0)
 |0,_,_,_=>.inr rfl
 |m+1,g,P,h=>by
  refine .inl ?_
  rw[mX,Cs.go]
  have e:decide (((Ps.gs g).cs.length)< (k:Int))=decide (g.cs.length<k):=by
   simp[Ps.gs,jq]
  rw[e]
  show(if !g.ss.isEmpty&&decide _ then _ else _)=_
  cases c:(!g.ss.isEmpty&&decide (g.cs.length<k))with
  |false=>rfl
  |true=>
   simp only[QUq,Bool.not_eq_true',QUz]at c
   have ne:g.ss≠[]:=fun z=>by rw[z]at c;simp at c
   rw[if_pos rfl,Rb n K P hl ne (by omega)]
   show mX _ _ m (C.stp ls g).gs=_
   have hc:(C.stp ls g).cs.length=g.cs.length+1:=by simp[Cs.stp]
   rcases GQ n K hl hk m (Ga (ls:=ls) K P) (by omega)with z|z
   ·rw[z];rfl
   ·omega
def aK(nm:List D)(ws:List Int):jf:=(nm.zip ws).map fun p=>(vP p.1,p.2)
theorem zx:∀{nm:List D}{ws:List Int},cG nm->ws.length=nm.length->nR nm (ws.map .int)=some (aK nm ws)
 |[],[]=>fun _ _=>rfl
 |[],_::_=>fun _ h=>by simp at h
 |_::_,[]=>fun _ h=>by simp at h
 |x::nm,w::ws=>fun h hl=>by
  obtain⟨q,rfl⟩:=h x QYz
  have:=zx (fun y hy=>h y (QYq _ hy)) (by simpa using hl)
  simp[nR,this,aK,vP]
theorem wC:∀{nm:List D}{ws:List Int},cG nm->ws.length=nm.length->∀x:Str,D.str x∈nm->(bz x (aK nm ws)).isSome=true
 |[],_=>fun _ _ x hx=>by cases hx
 |_::_,[]=>fun _ h _ _=>by simp at h
 |y::nm,w::ws=>fun h hl x hx=>by
  obtain⟨q,rfl⟩:=h y QYz
  have:=wC (fun y hy=>h y (QYq _ hy)) (by simpa using hl) x
  simp only[aK,List.zip_cons_cons,Qyz,bz,vP]
  by_cases c:q=x
  ·simp[c]
  ·rw[if_neg c]
   rcases QCq.mp hx with z|z
   ·cases z;exact absurd rfl c
   ·exact this z
def vZ n k a b:pg.fn (n+1) 4 [.val (.int k),.val (.int a),.val (.int b)]=.ok (.val (.bl (decide (a<=k)&&decide (k<=b)))) [.val (.int k),.val (.int a),.val (.int b)]:=by
 rw[qC]
 by_cases c:a<=k<;>simp[iU,c,pR]
def Uh(C:Cs)(ws:List Int):Prop:=ws.length=C.nm.length/\∀w∈ws,1<=w/\w<=99
abbrev iH(ws:List Int):D:=.tup (ws.map .int)
def cwC:E:=.comp 1 (.name 0) (.var 2) AAL (.call 4 ABh)
def PJ n(K:C.Ok)(H:Uh C ws):pg.fn (n+10) 25 [.val C.n,.val C.t,.val (iH ws)]=.ok (.val .non) [.val C.n,.val C.t,.val (iH ws)]:=by
 have ck:=K.checked n
 have ll:C.ls.length=C.nm.length:=by rw[dZ K.o.h2 K.o.g5];exact K.o.ll
 have n2:getD C.n (.int 2)=some (aH C.ls):=GF
 have le:b1 .len (aH C.ls)=some (.val (.int C.nm.length)):=by simp[aH,b1,yo,ll]
 have tu:pg.fn (n+9) 3 [.val (iH ws),.val (.int C.nm.length),.val (.int C.nm.length)]=.ok (.val (.bl true)) [.val (iH ws),.val (.int C.nm.length),.val (.int C.nm.length)]:=by
  rw[sW]
  simp[jR,pR,H.1]
 have e:ev (pg.cf (n+9)) cwC [.val C.n,.val C.t,.val (iH ws),.val (.int C.nm.length)]=.ok (.new (.lst ((ws.map fun _=>true).map .bl))) [.val C.n,.val C.t,.val (iH ws),.val (.int C.nm.length)]:=by
  have:=mY (c:=pg.cf (n+9)) (it:=.var 2) (el:=.call 4 ABh) (σ:=[.val C.n,.val C.t,.val (iH ws),.val (.int C.nm.length)]) (τ:=[.val C.n,.val C.t,.val (iH ws),.val (.int C.nm.length)]) (r:=.val (iH ws)) (fun _=>.bl true) (by simp) rfl rfl (fun x hx=>by
   obtain⟨w,hw,rfl⟩:=QDq.mp hx
   have:=vZ (n+8) w 1 99
   have b:=H.2 w hw
   have g9:pg.gl 9=some (.int 99):=rfl
   simp[this,b.1,b.2,g9])
  rw[List.map_map]at this⊢
  exact this
 have bb:=jr (ws.map fun _=>true)
 have al:(ws.map fun _=>true).all id=true:=by simp
 generalize (ws.map fun _=>true)=row at e bb al
 have q:cwC.az=none:=rfl
 have hb:m7=⟨3,4,(.cons (.expr (.call 17 (.cons (.var 0) AAi))) (.cons (.set 3 (.bi .len AAf)) (.cons (.ite (.or (.cons (.not (.call 3 (.cons (.var 2) (.cons (.var 3) AAg)))) (.cons (.not (.bi .all cwC)) .nil))) ABt .nil) .nil)))⟩:=by kernel_rfl
 rw[vm,hb]
 simp[ck,n2,le,tu,q,e,Ob.d,bb,al]
def O3 n:pg.fn (n+1) 20 [.val C.n]=.ok (.val (aY (sI C.ls))) [.val C.n]:=by
 have n2:getD C.n _=some _:=GF
 rw[vg]
 simp[jd,n2,aZ,aY,sI]
def DR n(K:C.Ok)(H:Uh C ws):Sv (ev (pg.cf (n+10)) tx.mz [.un,.val C.n,.val C.t,.val (iH ws)])=some (aK C.nm ws):=by
 have w:pg.fn _ 13 [.val C.n]=.ok (.new (.lst C.nm)) [.val C.n]:=
  fB (n+9) _ _ C.ks _ (by rw[K.o.kl,dU K.o.g5]) (by rw[iw K.o.h2,dU K.o.g5];have:=K.o.h2;have:=K.o.g5;omega)
 have dz:dictOf [] [] _=some (C.nm,ws.map .int):=Bo (by simpa using H.1) (aU _ _) (names_nodup K.o.h2 K.o.g1 K.o.g5)
 have z:bM (iH ws)=some _:=rfl
 have e:ev (pg.cf (n+10)) tx.mz [.un,.val C.n,.val C.t,.val (iH ws)]=.ok (.new (.dct C.nm (ws.map .int))) [.un,.val C.n,.val C.t,.val (iH ws)]:=by
  simp[tx,w,z,dz,Ob.d]
 rw[e]
 exact zx (aU _ _) H.1
def nH(g:Ps):D:=if g.o.isNone then .str "unasked" else if g.ss.isEmpty then .str "end" else .str "on"
theorem KD n(K:C.Ok)(H:Uh C ws){k:Nat}(hk:k<=200):
  pg.fn (n+11) 47 [.val C.n,.val C.t,.val (iH ws),.val (.int k)]=.ok (.val (.tup [.lst (jq (C.go (aK C.nm ws) k 1000 C.ini).cs),nH (C.go (aK C.nm ws) k 1000 C.ini)])) [.val C.n,.val C.t,.val (iH ws),.val (.int k)]:=by
 rw[RJ]
 have i1:NZ (pg.fn (n+10) 25 [.val C.n,.val C.t,.val (iH ws)])=true:=by rw[PJ n K H];rfl
 have i2:isT (pg.fn (n+10) 4 [.val (.int k),.val (.int 0),.val (.int 200)])=true:=by
  rw[vZ,show(decide ((0:Int)<=k)&&decide ((k:Int)<=200))=true by simp;omega]
  rfl
 have ii:Te tx (pg.cf (n+10)) C.n C.t (iH ws)=some (aK C.nm ws,C.ini.gs):=by
  have S:=Li K
  unfold Te
  have e1:Ce ((pg.cf (n+10)).fn tx.fst [.val C.n])=some (aY (sI C.ls)):=by
   have e:(pg.cf (n+10)).fn tx.fst [.val C.n]=pg.fn (n+10) 20 [.val C.n]:=rfl
   rw[e,O3]
   rfl
  have e2:Jk ((pg.cf (n+10)).fn tx.stp [.val C.n,.val C.t,.val (aY (sI C.ls))])=some (C.st (sI C.ls)):=by
   have e:(pg.cf (n+10)).fn tx.stp [.val C.n,.val C.t,.val (aY (sI C.ls))]=pg.fn (n+5+5) 21 [.val C.n,.val C.t,.val (aY (sI C.ls))]:=rfl
   rw[e,K.bR (n+5) S]
   rfl
  have e3:=vM (n+9) (xs:=C.st (sI C.ls)) [] 0 (K.Q0 S) ((K.sub S).nodup (names_nodup K.o.h2 K.o.g1 K.o.g5))
  simp only[DR n K H,e1,e2,QHq]
  rw[e3]
  rfl
 have lo:=(GQ (ls:=aK C.nm ws) (n+5) K (wC (aU _ _) H.1) (k:=k) (by omega) 1000 (Oa K) (by omega)).resolve_right (by omega)
 have j1:NZ ((pg.cf (n+10)).fn tx.chk [.val C.n,.val C.t,.val (iH ws)])=true:=i1
 have j2:isT ((pg.cf (n+10)).fn tx.isn [.val (.int k),.val (.int 0),.val (.int tx.top)])=true:=i2
 have j3:mX (kY (tx.gf (pg.cf (n+10))) C.n C.t (aK C.nm ws)) k (pg.cf (n+10)).turns C.ini.gs=_:=lo
 rw[eV]
 simp only[j1,j2,ii,j3,QHq,Bool.and_self,if_true]
 have ee:Pa (C.go (aK C.nm ws) k 1000 C.ini).gs=nH (C.go (aK C.nm ws) k 1000 C.ini):=by
  generalize C.go (aK C.nm ws) k 1000 C.ini=g
  unfold Pa nH
  show(if gh (fU g.o)then _ else if g.ss.isEmpty then _ else _)=_
  cases g.o with
  |none=>rfl
  |some s=>rfl
 rw[ee]
 rfl
end
end Tx
end
section
open PySem Mini
namespace Tx
section
variable{C:Cs}
def Ah(t:∀x∈xs,x∈C.nm):mV xs=true/\mR xs=0:=by
 have ok:∀s∈Vl 3 5,WW s=true:=by decide+kernel
 induction xs with
 |nil=>exact⟨rfl,rfl⟩
 |cons x xs ih=>
  have m:=t x QYz
  rw[Cs.nm,oJ]at m
  obtain⟨s,hs,rfl⟩:=QDq.mp m
  have i:=ih fun y hy=>t y (QYq _ hy)
  exact⟨by simp[mV,nd,ok s (GD hs),i.1],by simp[mR,dep,i.2]⟩
end
mutual
theorem yH:∀d:D,nd d=true->dH d d=true
 |.non=>fun _=>rfl
 |.bl b=>fun _=>by cases b<;>rfl
 |.int i=>fun _=>by simp[dH]
 |.str s=>fun _=>by simp[dH]
 |.tup xs=>fun h=>by simpa[dH]using uC xs h
 |.lst xs=>fun h=>by simpa[dH]using uC xs h
 |.eE _ _=>fun h=>by simp[nd]at h
theorem uC:∀xs:List D,mV xs=true->Bk xs xs=true
 |[]=>fun _=>rfl
 |x::xs=>fun h=>by
  simp only[mV,QUq]at h
  simp[Bk,yH x h.1,uC xs h.2]
end
def aco(h:nd d=true/\dep d<=50):aN .eq d d=some true/\aN .ne d d=some false:=by
 have o:j6 d d=true:=by simp[j6,h.1,h.2]
 constructor
 ·show(if j6 d d then some _ else none)=_
  rw[yH _ h.1,o];rfl
 ·show(if j6 d d then some _ else none)=_
  rw[yH _ h.1,o];rfl
end Tx
end
section
open PySem Mini
namespace Tx
def xZ:Option Int->D
 |none=>.non
 |some i=>.int i
theorem wz(x y:Str)(v:D):∀{ks vs:List D},ks.length=vs.length->cG ks->cH (.str y) ks (nZ (.str x) v ks vs)=if y=x/\aR (.str x) ks=true then some v else cH (.str y) ks vs
 |[],[]=>fun _ _=>by simp[cH,nZ,aR]
 |[],_::_=>fun h _=>by simp at h
 |_::_,[]=>fun h _=>by simp at h
 |k::ks,w::vs=>fun h t=>by
  obtain⟨q,rfl⟩:=t k QYz
  have i:=wz x y v (by simpa using h) fun z hz=>t z (QYq _ hz)
  simp only[nZ,cH,aR,dH,i]
  by_cases c:q=y
  ·subst c
   by_cases d:q=x
   ·subst d;simp
   ·simp[d]
  ·by_cases d:q=x
   ·subst d
    have c':¬y=q:=fun z=>c z.symm
    simp[c,c']
   ·simp[c,d]
theorem Am(x y:Str)(v:D):∀{ks vs:List D},ks.length=vs.length->cG ks->aR (.str x) ks=false->cH (.str y) (ks++[.str x]) (vs++[v])=if y=x then some v else cH (.str y) ks vs
 |[],[]=>fun _ _ _=>by
  by_cases c:y=x
  ·subst c;simp[cH,dH]
  ·have c':¬x=y:=fun z=>c z.symm
   simp[cH,dH,c,c']
 |[],_::_=>fun h _ _=>by simp at h
 |_::_,[]=>fun h _ _=>by simp at h
 |k::ks,w::vs=>fun h t n=>by
  obtain⟨q,rfl⟩:=t k QYz
  simp only[aR,dH,Bool.or_eq_false_iff,decide_eq_false_iff_not]at n
  have i:=Am x y v (by simpa using h) (fun z hz=>t z (QYq _ hz)) n.2
  simp only[List.cons_append,cH,dH,i]
  by_cases c:q=y
  ·subst c;simp[n.1]
  ·simp[c]
theorem zR x v:∀{ks vs:List D},ks.length=vs.length->(nZ x v ks vs).length=ks.length
 |[],[]=>fun _=>rfl
 |[],_::_=>fun h=>by simp at h
 |_::_,[]=>fun h=>by simp at h
 |_::ks,_::vs=>fun h=>by simp[nZ,zR x v (by simpa using h)]
theorem wj:∀(l L:List D),l.Nodup->(∀x∈l,x∈L)->l.length<=L.length
 |[]=>fun _ _ _=>QIq _
 |x::l=>fun L nd h=>by
  obtain⟨a,b,rfl⟩:=List.append_of_mem (h x QYz)
  rw[List.nodup_cons]at nd
  have:=wj l (a++b) nd.2 fun y hy=>by
   have ne:y≠x:=fun z=>nd.1 (z▸hy)
   have:=h y (QYq _ hy)
   simp only[QXz,QCq]at this⊢
   rcases this with z|z|z
   ·exact .inl z
   ·exact absurd z ne
   ·exact .inr z
  simp only[QTq,QBq]at this⊢
  omega
structure pq(C:Cs)(ks vs:List D)(L:Str->Option Int):Prop where
 l:ks.length=vs.length
 nd:ks.Nodup
 sub:∀x∈ks,x∈C.nm
 g:∀x,(cH (.str x) ks vs).getD .non=xZ (L x)
section
variable{C:Cs}
theorem Eo(K:C.Ok){ks vs:List D}(d:pq C ks vs L)(hx:D.str x∈C.nm)o:
  ∃ks' vs',pI (.str x) (xZ o) (.dct ks vs)=some (.dct ks' vs')/\pq C ks' vs' (fun y=>if y=x then o else L y):=by
 have tk:=fun z hz=>aU C.h C.g z (d.sub z hz)
 have kl:=wj _ _ d.nd d.sub
 have nl:C.nm.length=C.h+C.g:=dZ K.o.h2 K.o.g5
 have h2:=K.o.h2
 have g5:=K.o.g5
 have f:fits (ks.length+1)=true:=by simp[fits];omega
 have e:pI (.str x) (xZ o) (.dct ks vs)=some (.dct (putD (.str x) (xZ o) ks vs).1 (putD (.str x) (xZ o) ks vs).2):=by
  show(if keyOk _&&fits _ then _ else _)=_
  rw[f]
  rfl
 refine⟨_,_,e,?_⟩
 unfold putD
 cases c:aR _ ks with
 |true=>
  rw[if_pos rfl]
  refine⟨by rw[zR _ _ d.l],d.nd,d.sub,fun y=>?_⟩
  rw[wz x y _ d.l tk,c]
  by_cases z:y=x
  ·simp[z]
  ·simp[z,d.g y]
 |false=>
  rw[if_neg (by decide)]
  have nm:D.str x∉ks:=fun z=>by rw[jM z tk]at c;cases c
  refine⟨by simp[d.l],?_,fun y hy=>?_,fun y=>?_⟩
  ·rw[List.nodup_append]
   exact⟨d.nd,by simp,fun a ha b hb z=>by rw[QDz.mp hb]at z;rw[z]at ha;exact nm ha⟩
  ·rcases QXz.mp hy with z|z
   ·exact d.sub y z
   ·rw[QDz.mp z];exact hx
  ·show(cH _ _ _).getD .non=_
   rw[Am x y _ d.l tk c]
   by_cases z:y=x
   ·simp[z]
   ·simp[z,d.g y]
theorem Bw(f:Nat->Int)(ix:Nat->Int)(ps:List (Int×Int)):∀n,(∀i,i<=n->ps.getD i (0,0)=(f i,ix i))->(∀i j,i<j->j<=n->ix i<ix j)->gj (Y8 ps) n=gn f (n+1)
 |0=>fun _ _=>by simp[gj,gn]
 |n+1=>fun h hi=>by
  have e:=Bw f ix ps n (fun i hi'=>h i (by omega)) fun i j a b=>hi i j a (by omega)
  have lm:=yh f (n+1) (by omega)
  have b:Y8 ps (n+1) (gn f (n+1))=decide (f (n+1)<f (gn f (n+1))):=by
   unfold Y8
   rw[h _ (QVz _),h _ (by omega)]
   have:=hi _ _ lm (QVz _)
   unfold SX
   have n1:¬ix (n+1)<ix (gn f (n+1)):=by omega
   simp[n1]
  show(if Y8 ps _ _ then n+1 else gj _ n)=(if f _<f _ then n+1 else gn f _)
  rw[e,b]
  by_cases c:f (n+1)<f (gn f (n+1))
  ·rw[if_pos c,if_pos (QFq c)]
  ·rw[if_neg c,if_neg fun z=>c (of_decide_eq_true z)]
end
end Tx
end
section
open PySem Mini
namespace Tx
section
variable{C:Cs}
def pq.ext{L L':Str->Option Int}(d:pq C ks vs L)(h:∀x,L x=L' x):pq C ks vs L':=⟨d.l,d.nd,d.sub,fun x=>by rw[<-h x];exact d.g x⟩
def inB:S:=.cons (.ite (.cmp .notin (.var 11) (.var 10)) (.cons (.setIx 6 (.var 11) ABu) .nil) (.cons (.ite (.cmp .lE (.get2 (.var 6) (.var 11) ABu) ABu) (.cons (.setIx 6 (.var 11) (.var 7)) .nil) .nil) .nil)) .nil
def inF(st:List D)(tm:Int)(L:Str->Option Int)(x:Str):Option Int:=if aR (.str x) st then some ((L x).getD tm)else none
theorem Tf n(K:C.Ok)a0 a1 a2 a3 a4 a5 a8 a9 a12 a13(ts:cG st){ks vs:List D}(d:pq C ks vs L)(hq:D.str q∈C.nm):
  ∃ks' vs',pq C ks' vs' (fun y=>if y=q then inF st tm L q else L y)/\
  ex (pg.cf n) inB [a0,a1,a2,a3,a4,a5,.own (.dct ks vs),.val (.int tm),a8,a9,.own (.lst st),.val (.str q),a12,a13]=.next [a0,a1,a2,a3,a4,a5,.own (.dct ks' vs'),.val (.int tm),a8,a9,.own (.lst st),.val (.str q),a12,a13]:=by
 have io:gr (.str q) st=true:=by unfold gr;rw[jn ts];rfl
 have ni:aN .notin (.str q) (.lst st)=some (!aR (.str q) st):=by
  show(if gr _ st then some _ else none)=_
  rw[io]
  rfl
 have g2:oX (.eE ks vs) (.str q) .non=some (xZ (L q)):=by
  show(if keyOk (.str q)then some _ else none)=_
  rw[if_pos (show keyOk _=true from rfl),d.g q]
 cases c:aR _ st with
 |false=>
  rw[c]at ni
  obtain⟨ks',vs',e,d'⟩:=Eo K d hq none
  have e':pI _ .non _=some _:=e
  refine⟨ks',vs',d'.ext fun y=>by simp[inF,c],?_⟩
  simp[inB,ni,e',Ob.d]
 |true=>
  rw[c]at ni
  cases hL:L q with
  |none=>
   rw[hL]at g2
   obtain⟨ks',vs',e,d'⟩:=Eo K d hq (some tm)
   have e':pI _ (.int tm) _=some _:=e
   refine⟨ks',vs',d'.ext fun y=>by simp[inF,c,hL],?_⟩
   have o0:xZ none=.non:=rfl
   have i0:gh .non=true:=rfl
   have id_:oU (some (.eE ks vs))=true:=rfl
   simp[inB,ni,e',Ob.d,g2,o0,i0,id_]
  |some t=>
   rw[hL]at g2
   refine⟨ks,vs,d.ext fun y=>by
    by_cases z:y=q
    ·subst z;simp[inF,c,hL]
    ·simp[z],?_⟩
   have o0:xZ (some t)=.int t:=rfl
   have i0:gh (.int t)=false:=rfl
   have id_:oU (some (.eE ks vs))=true:=rfl
   simp[inB,ni,Ob.d,g2,o0,i0,id_]
theorem Vs(n:Nat)(K:C.Ok)(a0 a1 a2 a3 a4 a5 a8 a9 a12 a13:Sl){st:List D}(ts:cG st){tm:Int}:∀(rest:List D),rest.Nodup->(∀y∈rest,y∈C.nm)->∀{ks vs:List D}{L:Str->Option Int}(BW:Sl),pq C ks vs L->dB BW->
  ∃ks' vs' b11,dB b11/\pq C ks' vs' (fun y=>if aR (.str y) rest then inF st tm L y else L y)/\
  cX (.name 11) (ex (pg.cf n) inB) rest [a0,a1,a2,a3,a4,a5,.own (.dct ks vs),.val (.int tm),a8,a9,.own (.lst st),BW,a12,a13]=.next [a0,a1,a2,a3,a4,a5,.own (.dct ks' vs'),.val (.int tm),a8,a9,.own (.lst st),b11,a12,a13]
 |[],_,_,ks,vs,L,BW,d,h=>⟨ks,vs,BW,h,d.ext fun y=>by simp[aR],rfl⟩
 |x::rest,nd,sub,ks,vs,L,BW,d,h=>by
  rw[List.nodup_cons]at nd
  obtain⟨q,rfl⟩:=aU C.h C.g x (sub x QYz)
  obtain⟨k1,v1,d1,e1⟩:=Tf n K a0 a1 a2 a3 a4 a5 a8 a9 a12 a13 ts (tm:=tm) d (sub _ QYz)
  obtain⟨k2,v2,b11,hb,d2,e2⟩:=Vs n K a0 a1 a2 a3 a4 a5 a8 a9 a12 a13 ts (tm:=tm) rest nd.2 (fun y hy=>sub y (QYq _ hy)) _ d1 (.inr ⟨_,rfl⟩)
  have nq:=nF (fun y hy=>aU C.h C.g y (sub y (QYq _ hy))) nd.1
  refine⟨k2,v2,b11,hb,d2.ext fun y=>?_,?_⟩
  ·by_cases z:y=q
   ·subst z
    simp[nq,aR,dH]
   ·have z':¬q=y:=fun w=>z w.symm
    simp only[aR,dH,z',decide_false,Bool.false_or]
    cases aR _ rest with
    |false=>simp[z]
    |true=>simp[inF,z]
  ·rw[cX]
   have tt:cR (.name 11) (.str q) [a0,a1,a2,a3,a4,a5,.own (.dct ks vs),.val (.int tm),a8,a9,.own (.lst st),BW,a12,a13]=some [a0,a1,a2,a3,a4,a5,.own (.dct ks vs),.val (.int tm),a8,a9,.own (.lst st),.val (.str q),a12,a13]:=by
    rcases h with rfl|⟨d,rfl⟩<;>simp[cR,eO]
   rw[tt]
   simp only[e1]
   exact e2
end
end Tx
end
section
open PySem Mini
namespace Tx
def Zr(ls:jf)(x:Str):Int:=(bz x ls).getD 0
theorem uq x y:∀ss:jf,bz y (ss.filter fun q=>decide (q.1≠x))=if y=x then none else bz y ss
 |[]=>by simp[bz]
 |p::ss=>by
  have i:=uq x y ss
  rw[List.filter_cons]
  by_cases c:p.1=x
  ·subst c
   simp only[ne_eq,not_true,decide_false,Qxq,if_false,i,bz]
   by_cases d:p.1=y
   ·simp[d]
   ·have d':¬y=p.1:=fun z=>d z.symm
    simp[d,d']
  ·simp only[ne_eq,c,not_false_iff,decide_true,if_true,bz,i]
   by_cases d:p.1=y
   ·subst d;simp[c]
   ·simp[d]
theorem Bg x fl tm:∀{xs:List D},cG xs->bz x (iQ xs fl tm)=if aR (.str x) xs then some ((bz x fl).getD tm)else none
 |[]=>fun _=>by simp[iQ,bz,aR]
 |y::xs=>fun t=>by
  obtain⟨q,rfl⟩:=t y QYz
  have i:=Bg x fl tm fun z hz=>t z (QYq _ hz)
  simp only[iQ]at i
  have so:vP (.str q)=q:=rfl
  simp only[iQ,Qyz,bz,so,aR,dH,i]
  by_cases c:q=x
  ·subst c;simp
  ·simp[c]
theorem G9:∀{nm:List D}{ws:List Int},cG nm->ws.length=nm.length->∀{x:Str},D.str x∈nm->(bB (.str x) nm)<ws.length/\ws[bB (.str x) nm]? =some (Zr (aK nm ws) x)/\nm[bB (.str x) nm]? =some (.str x)
 |[],_,_,_,x,hx=>by cases hx
 |_::_,[],_,h,_,_=>by simp at h
 |y::nm,w::ws,h,hl,x,hx=>by
  obtain⟨q,rfl⟩:=h y QYz
  have i:=G9 (fun y hy=>h y (QYq _ hy)) (by simpa using hl) (x:=x)
  simp only[Zr,aK,List.zip_cons_cons,Qyz,bz,vP,bB,dH]
  by_cases c:q=x
  ·simp[c]
  ·have hx':D.str x∈nm:=by
    rcases QCq.mp hx with z|z
    ·cases z;exact absurd rfl c
    ·exact z
   have j:=i hx'
   simp only[c,decide_false,Qxq,if_false,QBq,List.getElem?_cons_succ]
   exact⟨by omega,j.2⟩
def ab9:∀{nm xs:List D},xs.Sublist nm->nm.Nodup->cG nm->∀{i j:Nat}{x y:Str},xs[i]? =some (.str x)->xs[j]? =some (.str y)->i<j->bB (.str x) nm<bB (.str y) nm:=by
 intro nm xs s
 induction s with
 |slnil=>intro _ _ i j x y e;simp at e
 | @cons l₁ l₂ a s ih=>
  intro nd t i j x y ex ey h
  rw[List.nodup_cons]at nd
  obtain⟨q,rfl⟩:=t a QYz
  have mx:=s.subset (QBz ex)
  have my:=s.subset (QBz ey)
  have n1:¬q=x:=fun z=>nd.1 (by rw[z];exact mx)
  have n2:¬q=y:=fun z=>nd.1 (by rw[z];exact my)
  have:=ih nd.2 (fun z hz=>t z (QYq _ hz)) ex ey h
  simp only[bB,dH,n1,n2,decide_false,Qxq,if_false]
  omega
 | @cons_cons l₁ l₂ a s ih=>
  intro nd t i j x y ex ey h
  rw[List.nodup_cons]at nd
  obtain⟨q,rfl⟩:=t a QYz
  cases j with
  |zero=>omega
  |succ j=>
   have ey':l₁[j]? =some (.str y):=by simpa using ey
   have my:=s.subset (QBz ey')
   have n2:¬q=y:=fun z=>nd.1 (by rw[z];exact my)
   cases i with
   |zero=>
    have e:q=x:=by simpa using ex
    subst e
    simp[bB,dH,n2]
   |succ i=>
    have ex':l₁[i]? =some (.str x):=by simpa using ex
    have mx:=s.subset (QBz ex')
    have n1:¬q=x:=fun z=>nd.1 (by rw[z];exact mx)
    have:=ih nd.2 (fun z hz=>t z (QYq _ hz)) ex' ey' (by omega)
    simp only[bB,dH,n1,n2,decide_false,Qxq,if_false]
    omega
section
variable{C:Cs}{ws:List Int}
def Vr(K:C.Ok)(H:Uh C ws)(hx:D.str x∈C.nm):Od (.lst C.nm) (.str x)=some (.val (.int (bB (.str x) C.nm)))/\at? (ws.map D.int) (bB (.str x) C.nm:Int)=some (.int (Zr (aK C.nm ws) x))/\at? C.nm (bB (.str x) C.nm:Int)=some (.str x):=by
 have T:=aU C.h C.g
 obtain⟨a,b,c⟩:=G9 T H.1 hx
 refine⟨?_,?_,?_⟩
 ·show(if flat _&&C.nm.all flat&&aR _ C.nm then _ else _)=_
  rw[jn T,jM hx T]
  rfl
 ·rw[iD _ _ (by simpa using a)]
  simp[b]
 ·rw[iD _ _ (by rw[<-H.1];exact a)]
  exact c
def duC:E:=.comp 1 (.name 0) (.var 10) AAL (.tup AAk)
def qb(C:Cs)(ws:List Int)(p:Str×Int):Int×Int:=(p.2+Zr (aK C.nm ws) p.1,(bB (.str p.1) C.nm:Int))
def jj(p:Int×Int):D:=.tup [.int p.1,.int p.2]
theorem Ac:∀ps:List (Int×Int),pK (ps.map jj)=some ps
 |[]=>rfl
 |p::ps=>by simp[jj,pK,Ac ps]
def TY n(K:C.Ok)(H:Uh C ws)a0 a1 a3 a5 a7 a8 a9 a11 a12 a13{ks vs:List D}(d:pq C ks vs L)(sub:∀x∈jz ss,x∈C.nm)(nd:(jz ss).Nodup)(hL:∀x,D.str x∈C.nm->L x=bz x ss):
  ev (pg.cf n) duC [a0,a1,.val (iH ws),a3,.val (.lst C.nm),a5,.own (.dct ks vs),a7,a8,a9,.val (.lst (jz ss)),a11,a12,a13]=.ok (.new (.lst ((ss.map (qb C ws)).map jj))) [a0,a1,.val (iH ws),a3,.val (.lst C.nm),a5,.own (.dct ks vs),a7,a8,a9,.val (.lst (jz ss)),a11,a12,a13]:=by
 have key:=fun q hq=>sub _ (QDq.mpr ⟨q,hq,rfl⟩)
 have:=mY (c:=pg.cf n) (it:=.var 10) (el:=.tup AAk) (σ:=[a0,a1,.val (iH ws),a3,.val (.lst C.nm),a5,.own (.dct ks vs),a7,a8,a9,.val (.lst (jz ss)),a11,a12,a13]) (τ:=[a0,a1,.val (iH ws),a3,.val (.lst C.nm),a5,.own (.dct ks vs),a7,a8,a9,.val (.lst (jz ss)),a11,a12,a13]) (r:=.val (.lst (jz ss))) (fun x=>jj (qb C ws (vP x,(bz (vP x) ss).getD 0))) (by simp) rfl rfl (fun x hx=>by
  obtain⟨q,hq,rfl⟩:=QDq.mp hx
  have g0:=mC nd hq
  have g:getD (.eE ks vs) (.str q.1)=some (.int q.2):=by
   have h:=d.g q.1
   rw[hL q.1 (key q hq),g0]at h
   show(if keyOk (.str q.1)then cH _ ks vs else none)=_
   rw[if_pos (show keyOk _=true from rfl)]
   cases e:cH _ ks vs with
   |none=>rw[e]at h;cases h
   |some w=>rw[e]at h;simp[xZ]at h;rw[h]
  obtain⟨i1,i2,i3⟩:=Vr K H (key q hq)
  have w:getD (iH ws) (.int _)=some _:=i2
  simp[g,i1,lo,w,Ob.d,aZ,jj,qb,vP,g0])
 have e:(jz ss).map (fun x=>jj (qb C ws (vP x,(bz (vP x) ss).getD 0)))=(ss.map (qb C ws)).map jj:=by
  rw[jz,List.map_map,List.map_map]
  refine List.map_congr_left fun q hq=>?_
  show jj (qb C ws (q.1,(bz q.1 ss).getD 0))=_
  rw[mC nd hq]
  rfl
 rw[e]at this
 exact this
def XD(K:C.Ok){g:Ps}(P:C.Pk g)(hs:g.o=some s)(ne:g.ss≠[]):Ng ((g.ss.map (qb C ws)).map jj)=some (.tup [.int (gY (aK C.nm ws) g.ss (gD (aK C.nm ws) g.ss)),.int (bB (.str (gP (aK C.nm ws) g.ss)) C.nm)]):=by
 have S:=P.o s hs
 have kk:jz g.ss=C.st s:=by have:=P.k;rw[hs]at this;exact this
 have lp:=List.length_pos_iff.mpr ne
 have sl:(jz g.ss).Sublist C.nm:=by rw[kk];exact K.sub S
 have at_:∀i,(h:i<g.ss.length)->(g.ss.map (qb C ws)).getD i (0,0)=(gY (aK C.nm ws) g.ss i,(bB (.str (g.ss[i]).1) C.nm:Int)):=fun i h=>by
  simp[qb,gY,QXq h,Zr]
 have b:=Bw _ (fun i=>((g.ss[i]?).map fun p=>(bB (.str p.1) C.nm)).getD 0) _ (g.ss.length-1) (fun i hi=>by
   have h:i<g.ss.length:=by omega
   rw[at_ i h,QXq h]
   rfl) (fun i j hij hj=>by
   have h1:i<g.ss.length:=by omega
   have h2:j<g.ss.length:=by omega
   rw[QXq h1,QXq h2]
   have u:=ab9 sl (names_nodup K.o.h2 K.o.g1 K.o.g5) (aU C.h C.g) (x:=(g.ss[i]).1) (y:=(g.ss[j]).1) (by simp[jz,h1]) (by simp[jz,h2]) hij
   show((bB (.str (g.ss[i]).1) C.nm:Nat))< ((bB (.str (g.ss[j]).1) C.nm):Int)
   omega)
 have bw:gj (Y8 (g.ss.map (qb C ws))) (g.ss.length-1)=gD (aK C.nm ws) g.ss:=by
  rw[b,gD]
  congr 1
  omega
 obtain⟨p,e,hp,en⟩:=rF ne
 unfold Ng
 rw[Ac]
 show(if ((g.ss.map _).map jj).isEmpty then none else _)=_
 rw[if_neg (by cases hg:g.ss with|nil=>exact absurd hg ne|cons _ _=>simp)]
 rw[QAq,QAq,bw,QFz,QFz,e]
 have du:gY (aK C.nm ws) g.ss (gD (aK C.nm ws) g.ss)=p.2+Zr (aK C.nm ws) p.1:=by
  show(match g.ss[gD _ g.ss]? with|some p=>p.2+(bz p.1 _).getD 0|none=>0)=_
  rw[e]
  rfl
 rw[en,du]
 rfl
end
end Tx
end
section
open PySem Mini
namespace Tx
section
variable{C:Cs}{ws:List Int}
noncomputable def Q3:S:=.cons (.set 10 (.call 43 (.cons (.var 0) (.cons (.var 1) (.cons (.var 5) .nil))))) (.cons (.for_ (.name 11) (.var 4) inB) (.cons (.ite (.cmp .eq (.var 10) ABs) (.cons (.ret (.tup (.cons (.var 8) (.cons (.con (.str "end")) .nil)))) .nil) .nil) (.cons (.ite (.cmp .eq (.bi .len (.var 8)) (.var 3)) ABM .nil) (.cons (.set 12 duC) (.cons (.setT [7,13] (.bi .min (.var 12))) (.cons (.append 8 (.tup (.cons (.var 7) (.cons ABo .nil)))) (.cons (.setIx 6 ABo ABu) (.cons (.set 5 (.call 44 (.cons (.var 0) (.cons (.var 1) (.cons (.var 5) (.cons ABo .nil)))))) (.cons (.ite (.cmp .lE (.var 5) ABu) (.cons (.ret (.tup (.cons (.var 8) (.cons (.con (.str "unasked")) .nil)))) .nil) .nil) .nil)))))))))
def slN(C:Cs)(s:Sl):Prop:=s=.own (.lst C.nm)\/s=.val (.lst C.nm)
def NB(s:Sl):Prop:=s=.un\/(∃d,s=.val d)\/∃o,s=.own o
def Rd_(C:Cs)(g:Ps)(tm:Int)(L:Str->Option Int):Prop:=∃fl,g.ss=iQ (C.J9 g.o) fl tm/\∀x,D.str x∈C.nm->L x=bz x fl
theorem FP(n:Nat)(K:C.Ok)(H:Uh C ws){s:St}(P:C.Pk g)(hs:g.o=some s)(hk:g.cs.length<=k)(kk:k<=1000){ks vs:List D}(d:pq C ks vs L)(R:Rd_ C g tm L){s4 Rp BW s12 Ii:Sl}a9(h4:slN C s4)(h10:NB Rp)(h11:dB BW)(h12:NB s12)(h13:dB Ii):
  ((g.ss=[]\/g.cs.length=k)/\∃ζ,ζ.take 4=[.val C.n,.val C.t,.val (iH ws),.val (.int k)]/\ex (pg.cf (n+4)) Q3 [.val C.n,.val C.t,.val (iH ws),.val (.int k),s4,.val (fU g.o),.own (.dct ks vs),.val (.int tm),.own (.lst (jq g.cs)),a9,Rp,BW,s12,Ii]=.ret (.val (.tup [.lst (jq g.cs),nH g])) ζ)\/
  (g.ss≠[]/\g.cs.length<k/\(((C.stp (aK C.nm ws) g).o=none/\∃ζ,ζ.take 4=[.val C.n,.val C.t,.val (iH ws),.val (.int k)]/\ex (pg.cf (n+4)) Q3 [.val C.n,.val C.t,.val (iH ws),.val (.int k),s4,.val (fU g.o),.own (.dct ks vs),.val (.int tm),.own (.lst (jq g.cs)),a9,Rp,BW,s12,Ii]=.ret (.val (.tup [.lst (jq (C.stp (aK C.nm ws) g).cs),.str "unasked"])) ζ)\/
   ∃s' tm' ks' vs' L' c10 c11 c12 c13,(C.stp (aK C.nm ws) g).o=some s'/\pq C ks' vs' L'/\Rd_ C (C.stp (aK C.nm ws) g) tm' L'/\NB c10/\dB c11/\NB c12/\dB c13/\
    ex (pg.cf (n+4)) Q3 [.val C.n,.val C.t,.val (iH ws),.val (.int k),s4,.val (fU g.o),.own (.dct ks vs),.val (.int tm),.own (.lst (jq g.cs)),a9,Rp,BW,s12,Ii]=.next [.val C.n,.val C.t,.val (iH ws),.val (.int k),.val (.lst C.nm),.val (fU (C.stp (aK C.nm ws) g).o),.own (.dct ks' vs'),.val (.int tm'),.own (.lst (jq (C.stp (aK C.nm ws) g).cs)),a9,c10,c11,c12,c13])):=by
 have S:=P.o s hs
 have kk':jz g.ss=C.st s:=by have:=P.k;rw[hs]at this;exact this
 have st:=K.Jr n S
 have ts:=K.Q0 S
 obtain⟨fl,gs,hfl⟩:=R
 have gs':g.ss=iQ (C.st s) fl tm:=by rw[gs,hs];rfl
 have nmT:=aU C.h C.g
 have nmN:=names_nodup K.o.h2 K.o.g1 K.o.g5
 obtain⟨k1,v1,b11,hb,d1,e1⟩:=Vs (n+4) K (.val C.n) (.val C.t) (.val (iH ws)) (.val (.int k)) (.val (.lst C.nm)) (.val (aY s)) (.own (.lst (jq g.cs))) a9 s12 Ii ts (tm:=tm) C.nm nmN (fun y hy=>hy) BW d h11
 have hL:∀x,D.str x∈C.nm->(if aR (.str x) C.nm then inF (C.st s) tm L x else L x)=bz x g.ss:=fun x hx=>by
  rw[jM hx nmT,if_pos rfl,gs',Bg x fl tm ts,inF,hfl x hx]
 have it:items (.lst C.nm)=some C.nm:=rfl
 have o1:fU (some s)=aY s:=rfl
 have nn:=Ah (C:=C) (xs:=C.st s) fun x hx=>(K.sub S).subset hx
 have dn:(aZ []).bind XJ=some (.new (.lst [])):=rfl
 have le:b1 .len (.lst (jq g.cs))=some (.val (.int g.cs.length)):=by simp[b1,yo,jq]
 have ed:nH g=(if g.o.isNone then .str "unasked" else if g.ss.isEmpty then .str "end" else .str "on"):=rfl
 have z10:∀i σ v,zP i σ v (some Rp)=some (σ.set i v):=fun i σ v=>by rcases h10 with rfl|⟨d,rfl⟩|⟨o,rfl⟩<;>rfl
 have z12:∀i σ v,zP i σ v (some s12)=some (σ.set i v):=fun i σ v=>by rcases h12 with rfl|⟨d,rfl⟩|⟨o,rfl⟩<;>rfl
 have z13:∀i σ v,zP i σ v (some Ii)=some (σ.set i v):=fun i σ v=>by rcases h13 with rfl|⟨d,rfl⟩<;>rfl
 rw[hs]at ed⊢
 cases hss:C.st s with
 |nil=>
  have sse:g.ss=[]:=by rw[hss]at kk';exact List.map_eq_nil_iff.mp kk'
  rw[sse]at ed
  have ed':nH g=.str "end":=ed
  rw[hss]at st e1
  have c6:aN .eq (.lst []) (.lst [])=some true:=rfl
  refine .inl ⟨.inl sse,?_⟩
  rw[ed']
  refine⟨[.val C.n,.val C.t,.val (iH ws),.val (.int k),.val (.lst C.nm),.val (aY s),.own (.dct k1 v1),.val (.int tm),.val (.lst (jq g.cs)),a9,.val (.lst []),b11,s12,Ii],rfl,?_⟩
  generalize iH ws=WS at*
  rcases h4 with rfl|rfl<;>simp[Q3,o1,st,z10,it,e1,dn,c6,Ob.d,aZ]
 |cons y ys=>
  have ne:g.ss≠[]:=fun z=>by rw[z,hss]at kk';cases kk'
  have c6:aN .eq (.lst (C.st s)) (.lst [])=some false:=by
   rw[hss]at nn⊢
   show(if j6 (.lst (y::ys)) (.lst [])then some (dH (.lst (y::ys)) (.lst []))else none)=_
   have o:j6 (.lst (y::ys)) (.lst [])=true:=by
    have n1:=nn.1
    have n2:=nn.2
    simp only[j6,nd,dep,n1,n2]
    simp[mV]
   rw[o]
   rfl
  rw[<-hss]at*
  have ee:g.ss.isEmpty=false:=by simpa using ne
  by_cases hc:g.cs.length=k
  ·have ed':nH g=.str "on":=by rw[ed,ee];rfl
   have c7:aN .eq (.int (g.cs.length:Int)) (.int k)=some true:=by
    rw[hc]
    show(if j6 (.int (k:Int)) (.int k)then some (dH (.int (k:Int)) (.int k))else none)=_
    simp[j6,flat,dH]
   refine .inl ⟨.inr hc,?_⟩
   rw[ed']
   refine⟨[.val C.n,.val C.t,.val (iH ws),.val (.int k),.val (.lst C.nm),.val (aY s),.own (.dct k1 v1),.val (.int tm),.val (.lst (jq g.cs)),a9,.val (.lst (C.st s)),b11,s12,Ii],rfl,?_⟩
   generalize iH ws=WS at*
   rcases h4 with rfl|rfl<;>simp[Q3,o1,st,z10,it,e1,dn,c6,Ob.d,aZ,le,c7]
  ·refine .inr ⟨ne,by omega,?_⟩
   have c7:aN .eq (.int (g.cs.length:Int)) (.int k)=some false:=by
    show(if j6 (.int (g.cs.length:Int)) (.int k)then some (dH (.int (g.cs.length:Int)) (.int k))else none)=_
    have:¬(g.cs.length:Int)=k:=by omega
    simp[j6,flat,dH,this]
   have sub:∀x∈jz g.ss,x∈C.nm:=fun x hx=>by rw[kk']at hx;exact(K.sub S).subset hx
   have ndk:(jz g.ss).Nodup:=by rw[kk'];exact(K.sub S).nodup nmN
   have du:=TY (n+4) K H (.val C.n) (.val C.t) (.val (.int k)) (.val (aY s)) (.val (.int tm)) (.own (.lst (jq g.cs))) a9 b11 s12 Ii d1 (ss:=g.ss) sub ndk hL
   rw[kk']at du
   have mi:=XD (ws:=ws) K P hs ne
   obtain⟨p,e,hp,en⟩:=rF (ls:=aK C.nm ws) ne
   have hxn:D.str p.1∈C.nm:=sub _ (QDq.mpr ⟨p,hp,rfl⟩)
   obtain⟨i1,i2,i3⟩:=Vr K H hxn
   have i3':=i3
   obtain⟨k2,v2,pe,d2⟩:=Eo K d1 hxn none
   have pe':pI (.str p.1) .non (.dct k1 v1)=some (.dct k2 v2):=pe
   have ld:=K.S8 (n+2) S (x:=.str p.1) ⟨p.1,rfl⟩
   have nx:(C.stp (aK C.nm ws) g).o=C.led s (.str p.1):=by
    show C.next g (gP (aK C.nm ws) g.ss)=_
    rw[en,Cs.next,hs]
    rfl
   have ncs:jq (C.stp (aK C.nm ws) g).cs=jq g.cs++[.tup [.int (gY (aK C.nm ws) g.ss (gD (aK C.nm ws) g.ss)),.str p.1]]:=by
    show jq (g.cs++[(gY (aK C.nm ws) g.ss (gD (aK C.nm ws) g.ss),gP (aK C.nm ws) g.ss)])=_
    rw[en]
    simp[jq]
   have R':Rd_ C (C.stp (aK C.nm ws) g) (gY (aK C.nm ws) g.ss (gD (aK C.nm ws) g.ss)) (fun y=>if y=p.1 then none else if aR (.str y) C.nm then inF (C.st s) tm L y else L y):=by
    refine⟨g.ss.filter fun q=>decide (q.1≠p.1),?_,fun x hx=>?_⟩
    ·show iQ (C.J9 (C.next g (gP (aK C.nm ws) g.ss))) (g.ss.filter fun q=>decide (q.1≠gP (aK C.nm ws) g.ss)) _=iQ (C.J9 (C.next g (gP (aK C.nm ws) g.ss))) _ _
     rw[en]
    ·rw[uq]
     by_cases z:x=p.1
     ·simp[z]
     ·rw[if_neg z]
      show(if x=p.1 then none else if aR (.str x) C.nm then inF (C.st s) tm L x else L x)=_
      rw[if_neg z,hL x hx]
   rw[en]at mi
   rw[ncs,nx]
   have b1m:b1 .min (.lst ((g.ss.map (qb C ws)).map jj))=some (.val (.tup [.int (gY (aK C.nm ws) g.ss (gD (aK C.nm ws) g.ss)),.int (bB (.str p.1) C.nm)])):=by
    show(some ((g.ss.map (qb C ws)).map jj)).bind (fun xs=>(Ng xs).map Rv.val)=_
    rw[QHq,mi]
    rfl
   generalize (g.ss.map (qb C ws)).map jj=DU at*
   generalize gY (aK C.nm ws) g.ss (gD (aK C.nm ws) g.ss)=tm' at*
   have f1:fits ((jq g.cs).length+1)=true:=by simp[jq,fits];omega
   have q1:duC.az=none:=rfl
   have isl:gQ (some (.lst (jq g.cs)))=true:=rfl
   generalize hcs:jq g.cs=CSD at*
   generalize iH ws=WS at*
   generalize (bB (.str p.1) C.nm:Int)=IX at*
   cases hc2:C.led s (.str p.1)with
   |none=>
    rw[hc2]at ld
    have o0:fU none=.non:=rfl
    have in0:gh .non=true:=rfl
    refine .inl ⟨rfl,[.val C.n,.val C.t,.val WS,.val (.int k),.val (.lst C.nm),.val .non,.own (.dct k2 v2),.val (.int tm'),.val (.lst (CSD++[.tup [.int tm',.str p.1]])),a9,.val (.lst (C.st s)),b11,.own (.lst DU),.val (.int IX)],rfl,?_⟩
    rcases h4 with rfl|rfl<;>simp[Q3,o1,st,z10,z12,z13,it,e1,dn,c6,Ob.d,aZ,le,c7,q1,du,b1m,cR,iY,isl,i3',f1,Dt,pe',ld,o0,in0]
   |some s'=>
    rw[hc2]at ld
    have o0:fU (some s')=aY s':=rfl
    have in0:gh (aY s')=false:=rfl
    refine .inr ⟨s',tm',k2,v2,_,.val (.lst (C.st s)),b11,.own (.lst DU),.val (.int IX),rfl,d2,R',.inr (.inl ⟨_,rfl⟩),hb,.inr (.inr ⟨_,rfl⟩),.inr ⟨_,rfl⟩,?_⟩
    rcases h4 with rfl|rfl<;>simp[Q3,o1,st,z10,z12,z13,it,e1,dn,c6,Ob.d,aZ,le,c7,q1,du,b1m,cR,iY,isl,i3',f1,Dt,pe',ld,o0,in0]
end
end Tx
end
section
open PySem Mini
namespace Tx
section
variable{C:Cs}{ws:List Int}
theorem yC{k:Nat}{g:Ps}(h:g.ss=[]\/g.cs.length=k):∀M,C.go ls k M g=g
 |0=>rfl
 |M+1=>by
  rw[Cs.go]
  have:(!g.ss.isEmpty&&decide (g.cs.length<k))=false:=by
   rcases h with h|h
   ·rw[h];rfl
   ·rw[h];simp
  rw[this]
  rfl
theorem XH(n:Nat)(K:C.Ok)(H:Uh C ws){k:Nat}(kk:k<=1000):∀(m M:Nat)(g:Ps),g.cs.length+m=k->m<M->C.Pk g->∀(s:St),g.o=some s->∀{tm:Int}{ks vs:List D}{L:Str->Option Int},pq C ks vs L->Rd_ C g tm L->∀(u4 u9 u10 u11 u12 u13:Sl),slN C u4->dB u9->NB u10->dB u11->NB u12->dB u13->
  ∃ζ,ζ.take 4=[.val C.n,.val C.t,.val (iH ws),.val (.int k)]/\cX (.name 9) (ex (pg.cf (n+4)) Q3) (bN g.cs.length (m+1)) [.val C.n,.val C.t,.val (iH ws),.val (.int k),u4,.val (fU g.o),.own (.dct ks vs),.val (.int tm),.own (.lst (jq g.cs)),u9,u10,u11,u12,u13]=.ret (.val (.tup [.lst (jq (C.go (aK C.nm ws) k M g).cs),nH (C.go (aK C.nm ws) k M g)])) ζ:=by
 intro m
 induction m with
 |zero=>
  intro M g hl hM P s hs tm ks vs L d R u4 u9 u10 u11 u12 u13 h4 h9 h10 h11 h12 h13
  rw[bN,cX]
  have tt:cR (.name 9) (.int g.cs.length) [.val C.n,.val C.t,.val (iH ws),.val (.int k),u4,.val (fU g.o),.own (.dct ks vs),.val (.int tm),.own (.lst (jq g.cs)),u9,u10,u11,u12,u13]=some [.val C.n,.val C.t,.val (iH ws),.val (.int k),u4,.val (fU g.o),.own (.dct ks vs),.val (.int tm),.own (.lst (jq g.cs)),.val (.int g.cs.length),u10,u11,u12,u13]:=by
   rcases h9 with rfl|⟨d,rfl⟩<;>simp[cR,eO]
  rw[tt]
  rcases FP n K H P hs (by omega) kk d R (.val (.int g.cs.length)) h4 h10 h11 h12 h13 with ⟨st,ζ,t4,e⟩|⟨_,h,_⟩
  ·rw[yC st]
   exact⟨ζ,t4,by simp only[e];rfl⟩
  ·omega
 |succ m ih=>
  intro M g hl hM P s hs tm ks vs L d R u4 u9 u10 u11 u12 u13 h4 h9 h10 h11 h12 h13
  rw[bN,cX]
  have tt:cR (.name 9) (.int g.cs.length) [.val C.n,.val C.t,.val (iH ws),.val (.int k),u4,.val (fU g.o),.own (.dct ks vs),.val (.int tm),.own (.lst (jq g.cs)),u9,u10,u11,u12,u13]=some [.val C.n,.val C.t,.val (iH ws),.val (.int k),u4,.val (fU g.o),.own (.dct ks vs),.val (.int tm),.own (.lst (jq g.cs)),.val (.int g.cs.length),u10,u11,u12,u13]:=by
   rcases h9 with rfl|⟨d,rfl⟩<;>simp[cR,eO]
  rw[tt]
  obtain⟨M,rfl⟩:∃M',M=M'+1:=⟨M-1,by omega⟩
  rcases FP n K H P hs (by omega) kk d R (.val (.int g.cs.length)) h4 h10 h11 h12 h13 with ⟨st,ζ,t4,e⟩|⟨ne,hlt,st⟩
  ·rw[yC st]
   exact⟨ζ,t4,by simp only[e];rfl⟩
  ·have gg:C.go (aK C.nm ws) k (M+1) g=C.go (aK C.nm ws) k M (C.stp (aK C.nm ws) g):=by
    rw[Cs.go]
    have:(!g.ss.isEmpty&&decide (g.cs.length<k))=true:=by
     have:g.ss.isEmpty=false:=by simpa using ne
     rw[this]
     simpa using hlt
    rw[this,if_pos rfl]
   rw[gg]
   rcases st with ⟨on,ζ,t4,e⟩|⟨s',tm',ks',vs',L',c10,c11,c12,c13,on,d',R',f10,f11,f12,f13,e⟩
   ·have ss0:(C.stp (aK C.nm ws) g).ss=[]:=by
     show iQ (C.J9 (C.next g (gP (aK C.nm ws) g.ss))) _ _=[]
     have on':C.next g (gP (aK C.nm ws) g.ss)=none:=on
     rw[on']
     rfl
    rw[yC (.inl ss0)]
    have ed:nH (C.stp (aK C.nm ws) g)=.str "unasked":=by unfold nH;rw[on];rfl
    rw[ed]
    exact⟨ζ,t4,by simp only[e];rfl⟩
   ·have cl:(C.stp (aK C.nm ws) g).cs.length=g.cs.length+1:=by simp[Cs.stp]
    obtain⟨ζ,t4,z⟩:=ih M (C.stp (aK C.nm ws) g) (by omega) (by omega) (Ga K P) s' on d' R' (.val (.lst C.nm)) (.val (.int g.cs.length)) c10 c11 c12 c13 (.inr rfl) (.inr ⟨_,rfl⟩) f10 f11 f12 f13
    rw[cl]at z
    refine⟨ζ,t4,?_⟩
    simp only[e]
    exact z
def yr n(K:C.Ok)(H:Uh C ws){k:Nat}(kk:k<=200):pg.fn (n+5) 45 [.val C.n,.val C.t,.val (iH ws),.val (.int k)]=.ok (.val (.tup [.lst (jq (C.go (aK C.nm ws) k 1000 C.ini).cs),nH (C.go (aK C.nm ws) k 1000 C.ini)])) [.val C.n,.val C.t,.val (iH ws),.val (.int k)]:=by
 have d0:pq C [] [] (fun _=>none):=⟨rfl,List.nodup_nil,(fun x hx=>by cases hx),fun x=>rfl⟩
 have R0:Rd_ C C.ini 0 (fun _=>none):=⟨[],rfl,fun x _=>rfl⟩
 obtain⟨ζ,t4,z⟩:=XH n K H (k:=k) (by omega) k 1000 C.ini (by show 0+k=k;omega) (by omega) (Oa K) (sI C.ls) rfl d0 R0 _ .un .un .un .un .un (.inl rfl) (.inl rfl) (.inl rfl) (.inl rfl) (.inl rfl) (.inl rfl)
 have z':cX (.name 9) _ (bN 0 (k+1)) [.val C.n,.val C.t,.val (iH ws),.val (.int k),.own (.lst C.nm),.val (aY (sI C.ls)),.own (.dct [] []),.val (.int 0),.own (.lst []),.un,.un,.un,.un,.un]=_:=z
 have ln:pg.fn (n+4) 40 [.val C.n]=.ok (.new (.lst C.nm)) [.val C.n]:=lN (n+3) K.o
 have n2:getD C.n (.int 2)=some (aH C.ls):=GF
 have sd0:D.tup [aH C.ls,.int 0]=aY (sI C.ls):=rfl
 have dn:(aZ []).bind XJ=some (.new (.lst [])):=rfl
 have f1:fits (k+1)=true:=by simp[fits];omega
 have f2:zb (k+1)=true:=by simp[zb];omega
 have tn:((k:Int)+1).toNat=k+1:=by omega
 have it:items (.lst _)=some (bN 0 (k+1)):=rfl
 have hb:qQ=⟨4,14,(.cons (.set 4 ACM) (.cons (.set 5 (.tup (.cons AAf ABQ))) (.cons (.set 6 .emp) (.cons (.set 7 AAd) (.cons (.set 8 ABs) (.cons (.for_ (.name 9) (.range1 (.op .add (.var 3) AAG)) Q3) ABM))))))⟩:=by kernel_rfl
 rw[zV,hb]
 simp[ln,n2,aZ,sd0,dn,f1,f2,tn,it,z',t4]
end
end Tx
end
section
open PySem Mini
namespace Tx
def lwC:E:=.comp 1 (.name 0) (.range1 ABd) AAL (.op .add AAG AAh)
def agb:Qd=⟨1,7,(.cons ABP (.cons AAp (.cons (.set 4 (.bi .tuple lwC)) AAx)))⟩:=rfl
theorem Ly:∀(n:Nat)(lo:Int)(x:D),x∈bN lo n->∃j:Int,lo<=j/\x=.int j
 |0=>fun _ _ h=>by cases h
 |n+1=>fun lo x h=>by
  rcases QCq.mp h with rfl|h
  ·exact⟨lo,Int.le_refl _,rfl⟩
  ·obtain⟨j,hj,e⟩:=Ly n _ x h
   exact⟨j,by omega,e⟩
def zm(K:C.Ok)(ns:List Int)t(ht:0<tpp/\tpp<=99):∃ws:List Int,Uh C ws/\
  ev (pg.cf 39) lwC [.val (.lst (ns.map .int)),.val C.n,.val t,.val (.int tpp),.un,.un,.un]=.ok (.new (.lst (ws.map .int))) [.val (.lst (ns.map .int)),.val C.n,.val t,.val (.int tpp),.un,.un,.un]:=by
 have ex_:∀j:Int,∃r:Int,0<=j->0<=r/\r<tpp/\pg.fn 39 28 [.val _,.val _,.val _]=.ok _ [.val _,.val _,.val _]:=fun j=>by
  by_cases h:0<=j
  ·obtain⟨r,z⟩:=oK 37 ns (1+j) tpp (by omega) ht.1
   exact⟨r,fun _=>z⟩
  ·exact⟨0,fun z=>absurd z h⟩
 obtain⟨F,hF⟩:∃F:Int->Int,∀j,0<=j->0<=F j/\F j<tpp/\pg.fn 39 28 [.val _,.val (.int (1+j)),.val _]=.ok (.val (.int (F j))) [.val _,.val (.int (1+j)),.val _]:=
  ⟨fun j=>Classical.choose _,fun j=>Classical.choose_spec (ex_ j)⟩
 have ll:C.ls.length=C.nm.length:=by rw[dZ K.o.h2 K.o.g5];exact K.o.ll
 have nl:C.nm.length=C.h+C.g:=dZ K.o.h2 K.o.g5
 have h2:=K.o.h2
 have g5:=K.o.g5
 have n2:getD C.n _=some _:=GF
 have le:b1 .len (aH C.ls)=some (.val (.int C.nm.length)):=by simp[aH,b1,yo,ll]
 have f1:fits C.nm.length=true:=by simp[fits];omega
 have f2:zb C.nm.length=true:=by simp[zb];omega
 let f:D->Int:=fun d=>match d with|.int j=>1+F j|_=>1
 refine⟨(bN 0 C.nm.length).map f,⟨by rw[QAq,lR],fun w hw=>?_⟩,?_⟩
 ·obtain⟨x,hx,rfl⟩:=QDq.mp hw
  obtain⟨j,hj,rfl⟩:=Ly _ _ _ hx
  have:=hF j hj
  show 1<=1+F j/\1+F j<=99
  omega
 ·have:=mY (c:=pg.cf 39) (it:=.range1 ABd) (el:=.op .add AAG AAh) (σ:=[.val (.lst (ns.map .int)),.val C.n,.val t,.val (.int tpp),.un,.un,.un]) (τ:=[.val (.lst (ns.map .int)),.val C.n,.val t,.val (.int tpp),.un,.un,.un]) (r:=.val (.lst (bN 0 C.nm.length))) (fun d=>.int (f d)) (by simp[n2,le,f1,f2]) rfl rfl (fun x hx=>by
   obtain⟨j,hj,rfl⟩:=Ly _ _ _ hx
   have:=(hF j hj).2.2
   simp[this,f])
  rw[List.map_map]
  exact this
section
variable{C:Cs}{ls:jf}
theorem Vx(K:C.Ok)(k:Nat):∀(m:Nat)(g:Ps),C.Pk g->(∀p∈g.cs,D.str p.2∈C.nm)->∀p∈(C.go ls k m g).cs,D.str p.2∈C.nm
 |0=>fun _ _ h=>h
 |m+1=>fun g P h=>by
  rw[Cs.go]
  cases c:(!g.ss.isEmpty&&decide (g.cs.length<k))with
  |false=>exact h
  |true=>
   have ne:g.ss≠[]:=fun z=>by rw[z]at c;simp at c
   refine Vx K k m _ (Ga K P) fun p hp=>?_
   rcases QXz.mp hp with z|z
   ·exact h p z
   ·obtain⟨q,e,hq,en⟩:=rF ne
    rw[QDz.mp z]
    rw[en]
    refine(lO K P.o).2.2 _ ?_
    rw[<-P.k]
    exact QDq.mpr ⟨q,hq,rfl⟩
theorem VD:∀{cs:List (Int×Str)},(∀p∈cs,D.str p.2∈C.nm)->mV (jq cs)=true/\mR (jq cs)<=1
 |[]=>fun _=>⟨rfl,by simp[jq,mR]⟩
 |p::cs=>fun h=>by
  have i:=VD fun q hq=>h q (QYq _ hq)
  have a:=(Ah fun x hx=>by rw[QDz.mp hx];exact h p QYz).1
  simp only[jq]at i
  simp only[mV,nd,Bool.and_true]at a
  exact⟨by simp[jq,mV,nd,a,i.1],by simp[jq,mR,dep];omega⟩
def YQ g:nd (nH g)=true/\dep (nH g)=0:=by
 have s:WW (Str.ofString "unasked")=true/\WW (Str.ofString "end")=true/\WW (Str.ofString "on")=true:=by decide+kernel
 unfold nH
 split
 ·exact⟨s.1,rfl⟩
 ·split
  ·exact⟨s.2.1,rfl⟩
  ·exact⟨s.2.2,rfl⟩
end
def math(ns:List Int)(hl:ns.length<=63):∃qs,pg.fn 40 46 [.val (.lst (ns.map .int))]=.ok (.val (.bl true)) qs:=by
 obtain⟨C,K,e'⟩:=T8 30 ns 9 (by omega)
 obtain⟨u,hu0,hu1,e1⟩:=oK 37 ns 0 2 (by omega) (by omega)
 obtain⟨v,hv0,hv1,e2⟩:=oK 37 ns 8 41 (by omega) (by omega)
 obtain⟨k,rfl⟩:∃k:Nat,v=k:=⟨v.toNat,by omega⟩
 obtain⟨tpp,ht,etop⟩:∃tpp:Int,(0<tpp/\tpp<=99)/\at? [.int 4,.int 99] u=some (.int tpp):=by
  have:u=0\/u=1:=by omega
  rcases this with rfl|rfl
  ·exact⟨4,by omega,rfl⟩
  ·exact⟨99,by omega,rfl⟩
 obtain⟨ws,H,ew⟩:=zm K ns C.t ht
 have t1:=KD 28 K H (k:=k) (by omega)
 have t2:=yr 34 K H (k:=k) (by omega)
 have nm:=Vx (ls:=aK C.nm ws) K k 1000 C.ini (Oa K) (fun p hp=>by cases hp)
 generalize C.go (aK C.nm ws) k 1000 C.ini=G at*
 have en:=YQ G
 generalize nH G=ED at*
 have nn:=VD (C:=C) (cs:=G.cs) nm
 have ne:=(aco (d:=.tup [.lst (jq G.cs),ED]) ⟨by simp[nd,mV,nn.1,en.1],by simp[dep,mR,en.2];have:=nn.2;omega⟩).1
 have q1:lwC.az=none:=rfl
 have w1:D.tup (ws.map D.int)=iH ws:=rfl
 rw[show(40:Nat)=39+1 from rfl,abn,agb]
 refine⟨[.val (.lst (ns.map .int))],?_⟩
 generalize iH ws=W at*
 simp[e',cR,iY,eO,e1,aZ,etop,ew,q1,Ob.d,w1,e2,t1,t2,ne,pR]
end Tx
end
namespace Tx
open PySem PySem.W L2 Mini
def cP{K:QQq}{x:Str}{st:Stmt}(m:Value)(f c:Addr)(a:PySem.W.nsIn K mainGlobals x=some (some (.ref f)):=by kernel_rfl)(l:K.lookup f=some (fO x st m c):=by kernel_rfl)(q:PySem.W.codeIn K (.ref c) x=true:=by kernel_rfl):Qv K x st:=Mini.dIn a l q (by unfold PySem.W.keepIn;dsimp only;rw[l];rfl)
def bI:Zc (Ep ds gB dI) tx.mz s90:=⟨_,_,_,_,_,_,_,_,_,_,_,_,_,_,_,_,_,_,_,_,_,_,_,_,_,_,_,_,_,_,_,_,_,_,_,_,rfl,fun _ _=>rfl,by kernel_rfl⟩
def bU:Ze s91:=⟨_,_,_,_,_,_,_,_,_,_,rfl⟩
def bC:Zf s92:=⟨_,_,_,_,_,_,_,_,_,_,_,_,_,_,_,_,_,_,_,_,_,_,_,_,_,_,_,_,_,_,_,_,_,_,_,_,_,_,_,_,_,_,_,_,_,_,_,_,_,_,_,_,_,_,_,_,_,_,_,_,_,_,_,_,_,_,_,_,_,_,rfl,fun _=>⟨_,rfl⟩,rfl,rfl⟩
def bE:Zd s93:=⟨_,_,_,_,_,_,_,_,_,_,_,_,_,_,_,_,_,rfl⟩
def bT:Zb s47:=⟨_,_,_,_,_,_,_,_,_,_,_,_,_,_,_,_,_,_,_,_,_,_,_,_,_,_,_,_,_,_,_,_,_,_,_,_,_,_,_,_,_,_,_,_,rfl,fun _=>⟨_,rfl⟩,fun _=>⟨_,rfl⟩⟩
def gok{P:Params}{mg:QZz}(m1:mg "Going"=some (.ref 292))(m2:mg "min"=none)(m3:mg "list"=none)(m4:mg "len"=none)(m5:∃tu,mg "MOST_CHANGES"=some (.int tx.top tu)):GoK (Kf P) mg (Ep ds gB dI) tx 292 261 268 275 289 s90 s91 s92 s93 s47:=
 ⟨⟨by kernel_rfl,by kernel_rfl,by kernel_rfl,by kernel_rfl⟩,⟨by unfold bh;kernel_rfl,by unfold bh;kernel_rfl,by unfold bh;kernel_rfl,by unfold bh;kernel_rfl,by unfold bh;kernel_rfl,by unfold bh;kernel_rfl⟩,⟨⟨by kernel_rfl,by kernel_rfl,by kernel_rfl⟩,by kernel_rfl,by kernel_rfl,by kernel_rfl⟩,⟨by kernel_rfl,by kernel_rfl,by kernel_rfl,by kernel_rfl⟩,⟨by kernel_rfl,by kernel_rfl,by kernel_rfl⟩,⟨by kernel_rfl,by kernel_rfl,by kernel_rfl⟩,mfk (m:=GJ) (c:=260) (by kernel_rfl) (by kernel_rfl) (fun _ _ _ _ _ _ us hl=>by obtain⟨_,_,_,_,rfl⟩:=vy hl;rfl) (by decide+kernel) (by decide+kernel),mfk (m:=GJ) (c:=267) (by kernel_rfl) (by kernel_rfl) (fun _ _ _ _ _ _ us hl=>by obtain⟨_,_,rfl⟩:=oN hl;rfl) (by decide+kernel) (by decide+kernel),mfk (m:=GJ) (c:=274) (by kernel_rfl) (by kernel_rfl) (fun _ _ _ _ _ _ us hl=>by obtain⟨_,rfl⟩:=rm hl;rfl) (by decide+kernel) (by decide+kernel),mfk (m:=GJ) (c:=288) (by kernel_rfl) (by kernel_rfl) (fun _ _ _ _ _ _ us hl=>by obtain⟨_,rfl⟩:=rm hl;rfl) (by decide+kernel) (by decide+kernel),bI,bU,bC,bE,bT,uU (by decide+kernel),uU (by decide+kernel),uU (by decide+kernel),uU (by decide+kernel),m1,m2,m3,m4,m5⟩
def adX:Zj ds 47 tx:=⟨⟨by decide,_,rfl,rfl,by kernel_rfl⟩,⟨by decide,_,rfl,rfl,by kernel_rfl⟩,⟨by decide,_,rfl,rfl,by kernel_rfl⟩,⟨by decide,_,rfl,rfl,by kernel_rfl⟩,⟨by decide,_,rfl,rfl,by kernel_rfl⟩,⟨by decide,_,rfl,rfl,by kernel_rfl⟩⟩
end Tx
open PySem PySem.W PyProof.Rows
theorem PySem.Challenge.cw_anywait_k11_timed_holds : PySem.Challenge.rw_anywait_k11_timed.Holds := by
 w_on
 refine PySem.W.holds_law Tx.w0w fun said => ?_
 refine PySem.W.holds_open (q := Tx.qV) (loose := Tx.lo) (Xt := fun s => recOk [] s) (XP := fun _ _ => True) (Yf := Hook.obs Tx.Kh) (Ya := Hook.val Tx.Kh) (YP := Hook.says Tx.Kh) (N := 6048) Tx.hl (Hook.of Tx.Kh) (Hook.keeps Tx.Kh) (fun _ _ => trivial) (fun _ _ _ _ _ => trivial) (by rfl) (by rfl) (by rfl) (fun s e => recFacts_of e) (by rfl) said (by decide +kernel) ⟨rfl, rfl, rfl, rfl, rfl, by decide +kernel⟩ ?hw ?hc
 case hw => w_witness2
 case hc =>
  refine Mini.HJ (p := Tx.pg) (L := 46) (y := "_law_script") (l := PySem.Challenge.rw_anywait_k11_timed) rfl rfl (fun w h Y => PySem.W.kIn_of Y) Tx.math ?qF
  intro w mg fa h KX G hmg
  refine Mini.Qh (dL := Tx.d46) (dt := Tx.d47) (dI := Tx.dI) (T := Tx.tx) KX G hmg rfl rfl rfl Tx.bd Tx.scp Tx.HS ?qA ?qB ?qZ rfl rfl rfl (by kernel_rfl) (by kernel_rfl) (Tx.gok (PySem.W.mg_of KX G (by kernel_rfl)) (PySem.W.mg_none_of KX G (by kernel_rfl)) (PySem.W.mg_none_of KX G (by kernel_rfl)) (PySem.W.mg_none_of KX G (by kernel_rfl)) ⟨502, PySem.W.mg_of KX G (by kernel_rfl)⟩) Tx.adX rfl rfl
  case qA =>
   show Mini.AllIn _ Tx.nms
   exact ⟨Tx.cP Tx.lY 90 89, Tx.cP Tx.lY 95 94, Tx.cP Tx.lY 100 99, Tx.cP Tx.lY 107 106, Tx.cP Tx.lY 114 113, Tx.cP Tx.lY 119 118, Tx.cP Tx.lY 124 123, Tx.cP Tx.lY 129 128, Tx.cP Tx.lY 136 135, Tx.cP Tx.lY 141 140, Tx.cP Tx.lY 146 145, Tx.cP Tx.lY 153 152, Tx.cP Tx.lY 160 159, Tx.cP Tx.lY 165 164, Tx.cP Tx.lY 170 169, Tx.cP Tx.lY 175 174, Tx.cP Tx.lY 182 181, Tx.cP Tx.ZQ 189 188, Tx.cP Tx.ZQ 194 193, Tx.cP Tx.ZQ 199 198, Tx.cP Tx.QF 206 205, Tx.cP Tx.QF 211 210, Tx.cP Tx.QF 218 217, Tx.cP Tx.QF 225 224, Tx.cP Tx.QF 230 229, Tx.cP Tx.GJ 242 241, Tx.cP Tx.GJ 247 246, Tx.cP Tx.jw 303 302, Tx.cP Tx.jw 310 309, Tx.cP Tx.jw 317 316, Tx.cP Tx.jw 324 323, Tx.cP Tx.jw 329 328, Tx.cP Tx.jw 336 335, Tx.cP Tx.jw 341 340, Tx.cP Tx.jw 346 345, Tx.cP Tx.jw 351 350, Tx.cP Tx.jw 358 357, Tx.cP Tx.jw 365 364, Tx.cP Tx.jw 370 369, Tx.cP Tx.jw 377 376, Tx.cP Tx.jw 382 381, Tx.cP Tx.jw 387 386, Tx.cP Tx.jw 392 391, Tx.cP Tx.jw 397 396, Tx.cP Tx.jw 402 401, Tx.cP Tx.jw 407 406, Tx.cP Tx.jw 412 411, Tx.cP Tx.GJ 237 236, trivial⟩
  case qB => exact ⟨.v (u := .str "abcdefghijklmnopqrstuvwxyz" 280) (by kernel_rfl) (by decide +kernel), .v (u := .int 6 282) (by kernel_rfl) (by decide +kernel), .t (a := 83) (o := Tx.o83) (by kernel_rfl) (by kernel_rfl) (by decide +kernel), .v (u := .int 3 299) (by kernel_rfl) (by decide +kernel), .v (u := .int 5 301) (by kernel_rfl) (by decide +kernel), .v (u := .int 4 303) (by kernel_rfl) (by decide +kernel), .v (u := .int 8 305) (by kernel_rfl) (by decide +kernel), .v (u := .int 3 307) (by kernel_rfl) (by decide +kernel), .v (u := .int 12 435) (by kernel_rfl) (by decide +kernel), .v (u := .int 99 500) (by kernel_rfl) (by decide +kernel), .v (u := .int 200 502) (by kernel_rfl) (by decide +kernel), trivial⟩
  case qZ => exact ⟨by kernel_rfl, by kernel_rfl, by kernel_rfl, by kernel_rfl, by kernel_rfl, by kernel_rfl, by kernel_rfl, by kernel_rfl, by kernel_rfl, by kernel_rfl, by kernel_rfl, by kernel_rfl, by kernel_rfl, by kernel_rfl, by kernel_rfl, trivial⟩