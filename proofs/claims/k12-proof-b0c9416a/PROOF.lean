import PyProof.Rows.All
import Wide.All
import OpenK.AllK
import Wide.FinOn
import PySem.Syntax
import Lean
import PyProof.EqAt
import PyProof.EqKinds
import PyProof.TupleCall
import KE.KDictList
import KE.KSortAsk
import PyProof.ListMulAny
import PyProof.FactsAll.tuple_2
import PyProof.NeData
import PyProof.P3In
import KE.KSortTup
import PyProof.DictUpdate
import PyProof.DictCopy
import PyProof.CompFree
import KE.KMinKey
import KE.KBoundM
import KE.KSuperObj
import PyProof.Rows.CallKwBuiltin
import PySem.Challenge.RW_anywait_k12_whole_timed_waits
set_option linter.all false
set_option Elab.async false
set_option maxRecDepth 100000
set_option maxHeartbeats 0
set_option compiler.extract_closed false
set_option bootstrap.genMatcherCode false
abbrev QQq:=PySem.W.Frag
abbrev QQz:=List (PySem.Addr×PySem.Obj)
abbrev QZq:=PySem.Value→PySem.Shared→Prop
abbrev QZz:=PySem.Str→Option PySem.Value
def QJq:=@Option.bind_eq_some_iff
def QJz:=@Option.map_eq_some_iff
def QYq:=@List.mem_cons_of_mem
def QYz:=@List.mem_cons_self
def QXq:=@List.getElem?_eq_getElem
def QXz:=@List.mem_append
def QWq:=@PySem.Heap.get?_push_of_some
def QWz:=@List.mem_append_left
def QVq:=@List.mem_append_right
def QVz:=@Nat.le_refl
def QUq:=@Bool.and_eq_true
def QUz:=@decide_eq_true_eq
def QTq:=@List.length_append
def QTz:=@PySem.wpAny_bind
def QKq:=@PySem.wpAny_pure
def QKz:=@PySem.wpAny_mono
def QGq:=@PySem.wpAny_field
def QGz:=@PySem.wpAny_holding
def Qqq:=@PySem.Heap.lt_size
def Qqz:=@PySem.Heap.get?_push_size
def Qzq:=@PySem.wpAny_call_entry
def Qzz:=@PySem.wpAny_newObj_type
def Qjq:=@Bool.false_ne_true
def Qjz:=@List.size_toArray
def Qyq:=@List.map_cons
def Qyz:=@Bool.false_eq_true
def Qxq:=@List.getElem?_set_ne
def Qxz:=@List.getElem?_set_self
def Qwq:=@List.getElem?_append_left
def Qwz:=@Nat.lt_of_lt_of_le
def Qvq:=@Nat.ne_of_lt
def Qvz:=@List.length_map
def QAq:=@List.not_mem_nil
def QAz:=@List.length_cons
def QBq:=@List.mem_of_getElem?
def QBz:=@List.mem_cons
def QCq:=@List.getElem?_eq_some_iff
def QCz:=@List.mem_map
def QDq:=@List.mem_singleton
def QDz:=@Option.some.inj
def QEq:=@decide_eq_false
def QEz:=@List.getElem?_map
def QFq:=@Option.bind_some
def QFz:=@List.lookup_cons
def QHq:=@Nat.zero_le
def QHz:=@List.getElem?_append_right
noncomputable section
section
namespace L2
open PySem
noncomputable def dF(s:Stmt):Arguments:=match s with
 |.FunctionDef _ a _ _ _ _ _ _ _ _=>a
 |_=>{posonlyargs:=[],args:=[],vararg:=none,kwonlyargs:=[],kw_defaults:=[],kwarg:=none,defaults:=[]}
def cF(s:Stmt):List Stmt:=match s with
 |.FunctionDef _ _ b _ _ _ _ _ _ _=>b
 |_=>[]
noncomputable def aq(s:Stmt):Scope:=match s with
 |.FunctionDef _ _ _ _ _ _ sc _ _ _=>sc
 |_=>{kind:=.function,names:=[],isGenerator:=false,isCoroutine:=false}
end L2
end
section
namespace Tx
open PySem PySem.W L2 PyProof.Rows
theorem w0w:PySem.Challenge.rw_anywait_k12_whole_timed_waits.wellSaid=true:=by kernel_rfl
noncomputable def top(i:Nat):Stmt:=PySem.Challenge.pw_anywait_k12_whole_timed_waits.main.body.getD i (.Pass ⟨0,0,0,0⟩)
abbrev s0:Stmt:=top 16
abbrev s1:Stmt:=top 17
abbrev s2:Stmt:=top 18
abbrev s3:Stmt:=top 19
abbrev s4:Stmt:=top 20
abbrev s5:Stmt:=top 21
abbrev s6:Stmt:=top 22
abbrev s7:Stmt:=top 23
abbrev s8:Stmt:=top 24
abbrev s9:Stmt:=top 25
abbrev s10:Stmt:=top 26
abbrev s11:Stmt:=top 27
abbrev s12:Stmt:=top 28
abbrev s13:Stmt:=top 29
abbrev s14:Stmt:=top 30
abbrev s15:Stmt:=top 31
abbrev s16:Stmt:=top 32
abbrev s17:Stmt:=top 35
abbrev s18:Stmt:=top 36
abbrev s19:Stmt:=top 37
abbrev s20:Stmt:=top 39
abbrev s21:Stmt:=top 40
abbrev s22:Stmt:=top 41
abbrev s23:Stmt:=top 42
abbrev s24:Stmt:=top 43
abbrev s25:Stmt:=top 44
abbrev s26:Stmt:=top 49
abbrev s27:Stmt:=top 50
abbrev s28:Stmt:=top 53
abbrev s29:Stmt:=top 54
abbrev s30:Stmt:=top 55
abbrev s31:Stmt:=top 56
abbrev s32:Stmt:=top 57
abbrev s33:Stmt:=top 58
abbrev s34:Stmt:=top 59
abbrev s35:Stmt:=top 60
abbrev s36:Stmt:=top 61
abbrev s37:Stmt:=top 62
abbrev s38:Stmt:=top 63
abbrev s39:Stmt:=top 64
abbrev s40:Stmt:=top 65
abbrev s41:Stmt:=top 66
abbrev s42:Stmt:=top 70
abbrev s43:Stmt:=top 71
abbrev s44:Stmt:=top 48
noncomputable def top2(j:Nat):Stmt:=match top 51 with|.ClassDef _ _ _ b _ _ _ _ _ _ _=>b.getD j (.Pass ⟨0,0,0,0⟩)|s=>s
abbrev s90:Stmt:=top2 0
abbrev s91:Stmt:=top2 1
abbrev s92:Stmt:=top2 2
abbrev s93:Stmt:=top2 4
def gE(P:Params)(x:Str)(i:Nat)(v:Value):DictEntry:=⟨PyData.keyHash P x,.str x i,v⟩
noncomputable def fO(x:Str)(st:Stmt)(m:Value)(c:Addr):Obj:=⟨.type "function",none,.func (PySem.W.fnOf x x (dF st) (cF st) (aq st) .none .none .none m none (.ref c) .none), #[]⟩
noncomputable def fQ0(x q:Str)(st:Stmt)(m:Value)(c:Addr):Obj:=⟨.type "function",none,.func (PySem.W.fnOf x q (dF st) (cF st) (aq st) .none .none .none m none (.ref c) .none), #[]⟩
noncomputable def cQ(x y:Str)(a:Nat)(l n:Int)(r s:Nat)(u v:Value)(t:Nat)(q:Int)(z:Nat):Obj:=⟨.type "code",none,.fields #[.str x a,.str y (a+1),.str "/claim/cut.py" (a+2),.int l 0,.int n 0,.int 0 0,.int 0 0,.int 3 0,.ref r,.bool true,.int 181 0,.ref s,.none,u,v,.ref t,.int q 0,.int l 0,.str "/claim/cut.py" z], #[]⟩
noncomputable def cO(x:Str)(a:Nat)(l n:Int)(r s:Nat)(u v:Value)(t:Nat)(q:Int)(z:Nat):Obj:=⟨.type "code",none,.fields #[.str x a,.str x (a+1),.str "/claim/cut.py" (a+2),.int l 0,.int n 0,.int 0 0,.int 0 0,.int 3 0,.ref r,.bool true,.int 181 0,.ref s,.none,u,v,.ref t,.int q 0,.int l 0,.str "/claim/cut.py" z], #[]⟩
def lW:Value:=.str "anywait.nets" 278
def Js:Value:=.str "anywait.stands" 457
def Zf:Value:=.str "anywait.talks" 433
def Fw:Value:=.str "anywait.waits" 507
def mO:Value:=.str "law_anywait_k12_whole_timed_waits" 604
noncomputable def o83:Obj:=⟨.type "tuple",none,.seq #[.str "input" 284,.str "gate" 285,.str "start" 286,.str "out" 287,.str "state" 288,.str "same" 289,.str "not" 290,.str "and" 291,.str "or" 292,.str "both" 293,.str "held" 294,.str "table" 295,.str "on" 296,.str "off" 297], #[]⟩
noncomputable def Kf(P:Params):QQq:=[(3,⟨.type "dict",none,.dict #[gE P "__name__" 165 (.str "law_anywait_k12_whole_timed_waits" 604),gE P "__doc__" 166 .none,gE P "__package__" 167 .none,gE P "__loader__" 168 (.builtin "__main__.__loader__#opaque"),gE P "__spec__" 169 .none,gE P "__annotations__" 170 (.ref 6),gE P "__builtins__" 171 (.ref 4),gE P "__file__" 173 (.str "/claim/cut.py" 172),gE P "__cached__" 174 .none,gE P "_wall" 193 (.ref 21),gE P "WaitError" 213 (.ref 31),gE P "NoNet" 229 (.ref 44),gE P "NoTalk" 245 (.ref 56),gE P "NoWaits" 261 (.ref 68),gE P "NoNumber" 277 (.ref 80),gE P "LETTERS" 281 (.str "abcdefghijklmnopqrstuvwxyz" 280),gE P "LONGEST_NAME" 283 (.int 6 282),gE P "WORDS" 298 (.ref 83),gE P "MOST_INPUTS" 300 (.int 3 299),gE P "MOST_GATES" 302 (.int 5 301),gE P "MOST_WIRES" 304 (.int 4 303),gE P "MOST_TABLE_WIRES" 306 (.int 8 305),gE P "DEEPEST_HELD" 308 (.int 3 307),gE P "checked" 315 (.ref 90),gE P "is_net" 321 (.ref 95),gE P "has_parts" 327 (.ref 100),gE P "is_tuple" 336 (.ref 107),gE P "is_number" 345 (.ref 114),gE P "is_name" 351 (.ref 119),gE P "are_unlike" 357 (.ref 124),gE P "is_row" 363 (.ref 129),gE P "is_wire" 371 (.ref 136),gE P "are_wires" 377 (.ref 141),gE P "are_rows" 383 (.ref 146),gE P "is_kind" 394 (.ref 153),gE P "is_held" 403 (.ref 160),gE P "wire_names" 409 (.ref 165),gE P "waiting_gates" 415 (.ref 170),gE P "told" 421 (.ref 175),gE P "told_held" 432 (.ref 182),gE P "MOST_STATES" 436 (.int 12 435),gE P "checked_talk" 444 (.ref 189),gE P "is_talk" 450 (.ref 194),gE P "is_state" 456 (.ref 199),gE P "steps" 467 (.ref 206),gE P "first_stand" 474 (.ref 213),gE P "steps_at" 480 (.ref 218),gE P "is_unasked" 489 (.ref 225),gE P "led_to" 500 (.ref 232),gE P "changed" 506 (.ref 237),gE P "LONGEST_WAIT" 510 (.int 99 509),gE P "MOST_CHANGES" 512 (.int 200 511),gE P "timed" 523 (.ref 244),gE P "check_waits" 529 (.ref 249),gE P "since_when" 535 (.ref 254),gE P "Going" 603 (.ref 299),gE P "_law_cell_at" 613 (.ref 310),gE P "_law_mixed" 623 (.ref 317),gE P "_law_next" 632 (.ref 324),gE P "_law_some" 644 (.ref 331),gE P "_law_table" 650 (.ref 336),gE P "_law_kind" 662 (.ref 343),gE P "_law_net" 668 (.ref 348),gE P "_law_talk" 674 (.ref 353),gE P "_law_ring" 680 (.ref 358),gE P "_law_chain" 694 (.ref 365),gE P "_law_meeting" 708 (.ref 372),gE P "_law_spoilt_kind" 714 (.ref 377),gE P "_law_case" 726 (.ref 384),gE P "_law_names" 732 (.ref 389),gE P "_law_tells" 738 (.ref 394),gE P "_law_waiting" 744 (.ref 399),gE P "_law_steps" 750 (.ref 404),gE P "_law_led" 756 (.ref 409),gE P "law" 762 (.ref 414)] 75, #[]⟩),
 (90,fO "checked" s0 lW 89),
 (89,cO "checked" 309 24 1 84 85 (.ref 86) (.ref 87) 88 313 314),
 (95,fO "is_net" s1 lW 94),
 (94,cO "is_net" 316 28 1 91 92 .none .none 93 319 320),
 (100,fO "has_parts" s2 lW 99),
 (99,cO "has_parts" 322 35 1 96 97 .none .none 98 325 326),
 (107,fO "is_tuple" s3 lW 106),
 (106,cO "is_tuple" 328 39 3 101 102 (.ref 103) (.ref 104) 105 334 335),
 (114,fO "is_number" s4 lW 113),
 (113,cO "is_number" 337 41 3 108 109 (.ref 110) (.ref 111) 112 343 344),
 (119,fO "is_name" s5 lW 118),
 (118,cO "is_name" 346 43 1 115 116 .none .none 117 349 350),
 (124,fO "are_unlike" s6 lW 123),
 (123,cO "are_unlike" 352 47 1 120 121 .none .none 122 355 356),
 (129,fO "is_row" s7 lW 128),
 (128,cO "is_row" 358 49 2 125 126 .none .none 127 361 362),
 (136,fO "is_wire" s8 lW 135),
 (135,cO "is_wire" 364 51 2 130 131 (.ref 132) (.ref 133) 134 369 370),
 (141,fO "are_wires" s9 lW 140),
 (140,cO "are_wires" 372 53 4 137 138 .none .none 139 375 376),
 (146,fO "are_rows" s10 lW 145),
 (145,cO "are_rows" 378 57 2 142 143 .none .none 144 381 382),
 (153,fO "is_kind" s11 lW 152),
 (152,cO "is_kind" 384 61 3 147 148 (.ref 149) (.ref 150) 151 392 393),
 (160,fO "is_held" s12 lW 159),
 (159,cO "is_held" 395 77 3 154 155 (.ref 156) (.ref 157) 158 401 402),
 (165,fO "wire_names" s13 lW 164),
 (164,cO "wire_names" 404 79 1 161 162 .none .none 163 407 408),
 (170,fO "waiting_gates" s14 lW 169),
 (169,cO "waiting_gates" 410 81 2 166 167 .none .none 168 413 414),
 (175,fO "told" s15 lW 174),
 (174,cO "told" 416 84 3 171 172 .none .none 173 419 420),
 (182,fO "told_held" s16 lW 181),
 (181,cO "told_held" 422 100 3 176 177 (.ref 178) (.ref 179) 180 430 431),
 (189,fO "checked_talk" s17 Zf 188),
 (188,cO "checked_talk" 437 106 2 183 184 (.ref 185) (.ref 186) 187 442 443),
 (194,fO "is_talk" s18 Zf 193),
 (193,cO "is_talk" 445 110 2 190 191 .none .none 192 448 449),
 (199,fO "is_state" s19 Zf 198),
 (198,cO "is_state" 451 118 3 195 196 .none .none 197 454 455),
 (206,fO "steps" s20 Js 205),
 (205,cO "steps" 459 125 3 200 201 (.ref 202) (.ref 203) 204 465 466),
 (213,fO "first_stand" s21 Js 212),
 (212,cO "first_stand" 468 127 1 207 208 (.ref 209) (.ref 210) 211 472 473),
 (218,fO "steps_at" s22 Js 217),
 (217,cO "steps_at" 475 129 3 214 215 .none .none 216 478 479),
 (225,fO "is_unasked" s23 Js 224),
 (224,cO "is_unasked" 481 132 3 219 220 (.ref 221) (.ref 222) 223 487 488),
 (232,fO "led_to" s24 Js 231),
 (231,cO "led_to" 490 134 4 226 227 (.ref 228) (.ref 229) 230 498 499),
 (237,fO "changed" s25 Js 236),
 (236,cO "changed" 501 139 3 233 234 .none .none 235 504 505),
 (249,fO "check_waits" s26 Fw 248),
 (248,cO "check_waits" 524 152 3 245 246 .none .none 247 527 528),
 (254,fO "since_when" s27 Fw 253),
 (253,cO "since_when" 530 157 3 250 251 .none .none 252 533 534),
 (310,fO "_law_cell_at" s28 mO 309),
 (309,cO "_law_cell_at" 606 189 2 304 305 (.ref 306) (.ref 307) 308 611 612),
 (317,fO "_law_mixed" s29 mO 316),
 (316,cO "_law_mixed" 614 195 3 311 312 (.ref 313) (.ref 314) 315 621 622),
 (324,fO "_law_next" s30 mO 323),
 (323,cO "_law_next" 624 198 3 318 319 (.ref 320) (.ref 321) 322 630 631),
 (331,fO "_law_some" s31 mO 330),
 (330,cO "_law_some" 633 201 5 325 326 (.ref 327) (.ref 328) 329 642 643),
 (336,fO "_law_table" s32 mO 335),
 (335,cO "_law_table" 645 206 3 332 333 .none .none 334 648 649),
 (343,fO "_law_kind" s33 mO 342),
 (342,cO "_law_kind" 651 212 4 337 338 (.ref 339) (.ref 340) 341 660 661),
 (348,fO "_law_net" s34 mO 347),
 (347,cO "_law_net" 663 222 4 344 345 .none .none 346 666 667),
 (353,fO "_law_talk" s35 mO 352),
 (352,cO "_law_talk" 669 228 4 349 350 .none .none 351 672 673),
 (358,fO "_law_ring" s36 mO 357),
 (357,cO "_law_ring" 675 236 2 354 355 .none .none 356 678 679),
 (365,fO "_law_chain" s37 mO 364),
 (364,cO "_law_chain" 681 242 2 359 360 (.ref 361) (.ref 362) 363 692 693),
 (372,fO "_law_meeting" s38 mO 371),
 (371,cO "_law_meeting" 695 253 2 366 367 (.ref 368) (.ref 369) 370 706 707),
 (377,fO "_law_spoilt_kind" s39 mO 376),
 (376,cO "_law_spoilt_kind" 709 267 3 373 374 .none .none 375 712 713),
 (384,fO "_law_case" s40 mO 383),
 (383,cO "_law_case" 715 273 2 378 379 (.ref 380) (.ref 381) 382 724 725),
 (389,fO "_law_names" s41 mO 388),
 (388,cO "_law_names" 727 293 1 385 386 .none .none 387 730 731),
 (409,fO "_law_led" s42 mO 408),
 (408,cO "_law_led" 751 320 4 405 406 .none .none 407 754 755),
 (414,fO "law" s43 mO 413),
 (413,cO "law" 757 329 1 410 411 .none .none 412 760 761),
 (244,fO "timed" s44 Fw 243),
 (243,cO "timed" 513 144 4 238 239 (.ref 240) (.ref 241) 242 521 522),
 (299,⟨.type "type",none,.cls {name:="Going",bases:=[.type "object"],mro:=[.ref 299,.type "object"],ns:=298,qualname:="Going"}, #[none,none,some (.str "Going" 536),some (.str "Going" 544),some (.builtin "object.__new__"),some (.bool true)]⟩),
 (298,⟨.type "dict",none,.dict #[gE P "__module__" 543 (.str "anywait.waits" 507),gE P "__firstlineno__" 547 (.int 159 546),gE P "__init__" 557 (.ref 268),gE P "due" 565 (.ref 275),gE P "change" 575 (.ref 282),gE P "still" 582 (.ref 289),gE P "ending" 589 (.ref 296),gE P "__static_attributes__" 596 (.ref 297),gE P "__dict__" 598 (.ref 300),gE P "__weakref__" 600 (.ref 301),gE P "__doc__" 601 .none] 4, #[]⟩),
 (268,fQ0 "__init__" "Going.__init__" s90 Fw 267),
 (267,cQ "__init__" "Going.__init__" 548 161 4 262 263 (.ref 264) (.ref 265) 266 555 556),
 (275,fQ0 "due" "Going.due" s91 Fw 274),
 (274,cQ "due" "Going.due" 558 169 2 269 270 (.ref 271) (.ref 272) 273 563 564),
 (282,fQ0 "change" "Going.change" s92 Fw 281),
 (281,cQ "change" "Going.change" 566 172 1 276 277 (.ref 278) (.ref 279) 280 573 574),
 (296,fQ0 "ending" "Going.ending" s93 Fw 295),
 (295,cQ "ending" "Going.ending" 583 184 1 290 291 (.ref 292) (.ref 293) 294 587 588),
 (83,o83)]
noncomputable def Ka:List Addr:=[3,90,89,95,94,100,99,107,106,114,113,119,118,124,123,129,128,136,135,141,140,146,145,153,152,160,159,165,164,170,169,175,174,182,181,189,188,194,193,199,198,206,205,213,212,218,217,225,224,232,231,237,236,249,248,254,253,310,309,317,316,324,323,331,330,336,335,343,342,348,347,353,352,358,357,365,364,372,371,377,376,384,383,389,388,409,408,414,413,244,243,299,298,268,267,275,274,282,281,296,295,83]
def Ke(P:Params):Ka=(Kf P).map (·.1):=rfl
abbrev Kh:PySem.W.Hook:=PySem.W.kHook Kf Ka Ke
noncomputable def lo:List Str:="_wall"::"__name__"::"WaitError"::"NoNet"::"NoTalk"::"NoWaits"::"NoNumber"::"LETTERS"::"LONGEST_NAME"::"WORDS"::"MOST_INPUTS"::"MOST_GATES"::"MOST_WIRES"::"MOST_TABLE_WIRES"::"DEEPEST_HELD"::"checked"::"is_net"::"has_parts"::"is_tuple"::"is_number"::"is_name"::"are_unlike"::"is_row"::"is_wire"::"are_wires"::"are_rows"::"is_kind"::"is_held"::"wire_names"::"waiting_gates"::"told"::"told_held"::"MOST_STATES"::"checked_talk"::"is_talk"::"is_state"::"steps"::"first_stand"::"steps_at"::"is_unasked"::"led_to"::"changed"::"LONGEST_WAIT"::"MOST_CHANGES"::"timed"::"check_waits"::"since_when"::"Going"::"_law_cell_at"::"_law_mixed"::"_law_next"::"_law_some"::"_law_table"::"_law_kind"::"_law_net"::"_law_talk"::"_law_ring"::"_law_chain"::"_law_meeting"::"_law_spoilt_kind"::"_law_case"::"_law_names"::"_law_tells"::"_law_waiting"::"_law_steps"::"_law_led"::[]
def qV:Program:=view PySem.Challenge.pw_anywait_k12_whole_timed_waits [71]
def hl:LeftO PySem.Challenge.pw_anywait_k12_whole_timed_waits qV lo (fun s=>recOk [] s) (Hook.obs Kh) (Hook.val Kh) 6058:=fun w=>by
 rw[PySem.W.Fast.te4187177175401517315,PySem.W.Fast.te5923862056798008813,PySem.W.Fast.te14364793385576792824]
 kernel_rfl
end Tx
end
section
namespace L2
open PySem PySem.Spec PyProof.Rows
abbrev Key:=Sum Int Str
def vZ:Key->Value->Bool
 |.inl k,v=>Value.isInt k v
 |.inr x,v=>Value.isStrOf x v
def aeR(w:World):Key->Int
 |.inl k=>hashInt k
 |.inr x=>hashStr w x
theorem bZ:∀{k:Key}{v:Value},vZ k v=true->(∃i t,k=Sum.inl i/\v=Value.int i t)\/(∃x t,k=Sum.inr x/\v=Value.str x t)
 |.inl i,v,h=>by
  obtain⟨t,e⟩:=Value.isInt_shape h
  exact .inl ⟨i,t,rfl,e⟩
 |.inr x,v,h=>by
  obtain⟨t,e⟩:=Value.isStrOf_shape h
  exact .inr ⟨x,t,rfl,e⟩
def Io i t:vZ (.inl i) (.int i t)=true:=by simp[vZ,Value.isInt]
def Im x t:vZ (.inr x) (.str x t)=true:=by simp[vZ,Value.isStrOf]
def Xi a b:decide ((Sum.inl a:Key)=Sum.inl b)=(a==b):=by
 by_cases e:a=b
 ·subst e;simp
 ·rw[QEq (fun q=>e (Sum.inl.inj q))]
  exact(beq_eq_false_iff_ne.mpr e).symm
def Xg a b:decide ((Sum.inr a:Key)=Sum.inr b)=decide (a=b):=by
 by_cases e:a=b
 ·subst e;simp
 ·rw[QEq (fun q=>e (Sum.inr.inj q)),QEq e]
def Xh a b:decide ((Sum.inl a:Key)=Sum.inr b)=false:=QEq (fun q=>nomatch q)
def CJ a b:decide ((Sum.inr a:Key)=Sum.inl b)=false:=QEq (fun q=>nomatch q)
noncomputable def cA(prog:Program)(w:World):PySem.KeyKind prog w Key where
 is:=vZ
 hash:=aeR w
 inj:=fun v a b ha hb=>by
  rcases bZ ha with ⟨i,t,rfl,rfl⟩|⟨x,t,rfl,rfl⟩
  ·rcases bZ hb with ⟨j,u,rfl,e⟩|⟨y,u,rfl,e⟩
   ·injection e with e1 _;rw[e1]
   ·exact nomatch e
  ·rcases bZ hb with ⟨j,u,rfl,e⟩|⟨y,u,rfl,e⟩
   ·exact nomatch e
   ·injection e with e1 _;rw[e1]
 byValue:=fun k v h=>by
  rcases bZ h with ⟨i,t,rfl,rfl⟩|⟨x,t,rfl,rfl⟩<;>rfl
 pyHash:=fun hv h=>by
  rcases bZ hv with ⟨i,t,rfl,rfl⟩|⟨x,t,rfl,rfl⟩
  ·exact wpAny_pyHash_int h
  ·exact wpAny_pyHash_str h
 eqBool:=fun hu hv h=>by
  rcases bZ hu with ⟨i,t,rfl,rfl⟩|⟨x,t,rfl,rfl⟩
  ·rcases bZ hv with ⟨j,u,rfl,rfl⟩|⟨y,u,rfl,rfl⟩
   ·rw[Xi]at h;exact wpAny_eqBool_int h
   ·rw[Xh]at h;exact SeqAt.EqAt.int_str i t y u _ _ _ _ h
  ·rcases bZ hv with ⟨j,u,rfl,rfl⟩|⟨y,u,rfl,rfl⟩
   ·rw[CJ]at h;exact SeqAt.EqAt.str_int x t j u _ _ _ _ h
   ·rw[Xg]at h;exact wpAny_eqBool_str h
 «strs»:=fun k x t v h=>by
  rcases bZ h with ⟨i,u,rfl,e⟩|⟨y,u,rfl,e⟩
  ·exact nomatch e
  ·injection e with e1 _
   subst e1
   cases v<;>rfl
def zM prog w i t:(cA prog w).is (.inl i) (.int i t)=true:=Io i t
def zL prog w x t:(cA prog w).is (.inr x) (.str x t)=true:=Im x t
inductive V where
 |non|bl (b:Bool)|int (i:Int)|str (x:Str)|byt (b:Array UInt8)|flt (b:UInt64)|ref (a:Addr)|ty (n:String)
 deriving DecidableEq
noncomputable def RelV:V->Value->Prop
 |.non,u=>u=Value.none
 |.bl b,u=>u=Value.bool b
 |.int i,u=>∃t,u=Value.int i t
 |.str x,u=>∃t,u=Value.str x t
 |.byt b,u=>∃t,u=Value.bytes b t
 |.flt b,u=>∃t,u=Value.float b t
 |.ref a,u=>u=Value.ref a
 |.ty n,u=>u=Value.type n
abbrev Vals:List V->List Value->Prop:=Paired RelV
theorem Vals.length{us:List Value}(r:Vals xs us):xs.length=us.length:=Paired.length r
theorem Vals.get:∀{xs:List V}{us:List Value}{i:Nat}{x:V},Vals xs us->xs[i]? =some x->∃u,us[i]? =some u/\RelV x u
 |_,_,_,_,.nil=>fun e=>by simp at e
 |_,_,0,_,.cons r _=>fun e=>by simp at e;subst e;exact⟨_,rfl,r⟩
 |_,_,i+1,x,.cons _ t=>fun e=>by
  obtain⟨u,h1,h2⟩:=Vals.get t (by simpa using e)
  exact⟨u,by simpa using h1,h2⟩
theorem Vals.set{u:Value}(r:RelV x u):∀{xs:List V}{us:List Value}(i:Nat),Vals xs us->Vals (xs.set i x) (us.set i u)
 |_,_,_,.nil=>.nil
 |_,_,0,.cons _ t=>.cons r t
 |_,_,i+1,.cons q t=>.cons q (Vals.set r i t)
theorem Vals.append:∀{xs ys:List V}{us ws:List Value},Vals xs us->Vals ys ws->Vals (xs++ys) (us++ws)
 |_,_,_,_,.nil=>fun s=>s
 |_,_,_,_,.cons r t=>fun s=>.cons r (Vals.append t s)
theorem Vals.take:∀{xs:List V}{us:List Value}(n:Nat),Vals xs us->Vals (xs.take n) (us.take n)
 |_,_,0,_=>.nil
 |_,_,_+1,.nil=>.nil
 |_,_,n+1,.cons r t=>.cons r (Vals.take n t)
theorem Vals.drop:∀{xs:List V}{us:List Value}(n:Nat),Vals xs us->Vals (xs.drop n) (us.drop n)
 |_,_,0,r=>r
 |_,_,_+1,.nil=>.nil
 |_,_,n+1,.cons _ t=>Vals.drop n t
def jn:Option V->Option Value->Prop
 |some v,some u=>RelV v u
 |none,none=>True
 |_,_=>False
noncomputable def KV{κ:Type}:List (κ×V)->List (κ×Value)->Prop:=Paired fun(p:κ×V)(q:κ×Value)=>p.1=q.1/\RelV p.2 q.2
def kV:Key->V
 |.inl i=>.int i
 |.inr x=>.str x
abbrev SK:=List Bool×Int
abbrev SV:=SK×Addr×V
def bh(b:Bool):Int:=reduceHash (if b then 1 else 0)
noncomputable def stH(k:SK):Int:=reduceHash (Builtin.Tuple.tupleHashOf [reduceHash (Builtin.Tuple.tupleHashOf (k.1.map bh)),hashInt k.2])
abbrev PSV:SV->SK×Addr×Value->Prop:=fun p q=>p.1=q.1/\p.2.1=q.2.1/\RelV p.2.2 q.2.2
inductive HO where
 |lst (xs:List V)
 |tup (xs:List V)
 |dK (kvs:List (Key×V))|dT (kvs:List (List Key×V))|dS (xs:List SV)
 |set (S:Int->Bool) (n:Nat)
 |ins (C dx:Addr) (fs:List (Str×V))
 |own (x:Addr)
 |xd (fs:List (Str×V))
 |met (f x:Addr)
 |rng (lo hi:Int)
 |frz (o:Obj) (u:HO)
 |tbl (ps:Array Value)
 |ext (φ:Heap->Prop)
abbrev Hp:=Addr->Option HO
def upd(H:Hp)(a:Addr)(o:HO):Hp:=fun b=>if b=a then some o else H b
def aB{a:Addr}:upd H a o a=some o:=by unfold upd;rw[if_pos rfl]
def au{a b:Addr}(h:b≠a):upd H a o b=H b:=by unfold upd;rw[if_neg h]
def abl{H:Hp}{o u:HO}(h:H a=some o)(h':H b=some u)(d:o≠u):a≠b:=by
 intro e;subst e;rw[h]at h';exact d (QDz h')
def ir{H:Hp}{o:HO}(h:H a=some o)(h':H b=none):a≠b:=by
 intro e;subst e;rw[h]at h';cases h'
def TupOk(h:Heap)(a:Addr)(items:Array Value):Prop:=∃o,h.get? a=some o/\o.cls=.type "tuple"/\o.dict=none/\∃n,o.data=.seq items n
def TupOk.is{a:Addr}(x:TupOk h a items):IsTup h a items:=let ⟨o,e,c,_,d⟩:=x;⟨o,e,c,d⟩
def TupOk.new(h:Heap)items:TupOk (h.push {cls:=.type "tuple",data:=.seq items}) h.objs.size items:=⟨_,Qqz _ rfl,rfl,rfl,_,rfl⟩
section
variable(P:Program)(w:World)
noncomputable def dg(H:Hp)(h:Heap)(a:Addr):HO->Prop
 |.lst xs=>xs.length<=sizeLine/\∃(its:List Value)(n:Nat),Vals xs its/\h.get? a=some {cls:=.type "list",data:=.seq its.toArray n}
 |.tup xs=>xs.length<=sizeLine/\∃its:List Value,Vals xs its/\TupOk h a its.toArray
 |.dK kvs=>kvs.length<=sizeLine/\(a==sysModules)=false/\∃vs,KV kvs vs/\h.DictOf (cA P w) a vs
 |.dT kvs=>kvs.length<=sizeLine/\(a==sysModules)=false/\∃xs:List (List Key×Addr×Value),
   Paired (fun(p:List Key×V)(q:List Key×Addr×Value)=>p.1=q.1/\H q.2.1=some (.tup (p.1.map kV))/\RelV p.2 q.2.2) kvs xs/\
   ∃o es ep,h.get? a=some o/\o.ExactDict/\o.data=.dict es ep/\es.toList=xs.map (entryOfKey (tupleKind (cA P w)))/\(xs.map (·.1)).Nodup
 |.dS xs=>xs.length<=sizeLine/\(a==sysModules)=false/\(xs.map (·.1)).Nodup/\∃(ys:List (SK×Addr×Value))(o:Obj)(es:Array DictEntry)(ep:Nat),Paired PSV xs ys/\h.get? a=some o/\o.ExactDict/\o.data=.dict es ep/\es.toList=ys.map fun y=>⟨stH y.1,.ref y.2.1,y.2.2⟩
 |.set S n=>h.SetOf (intKind P w) a S n
 |.ins C dx fs=>H dx=some (.own a)/\fs.length<=1000/\dx≠a/\h.get? a=some (PySem.W.instObj C dx)/\
   ∃mA,h.Ns1 dx mA/\(∀f,jn (fs.lookup f) (mA f))/\PySem.Within mA (fs.map (·.1))
 |.own _=>∃o,h.get? a=some o
 |.xd fs=>∃mA,h.Ns1 a mA/\∀f,jn (fs.lookup f) (mA f)
 |.rng lo hi=>∃t u v,h.get? a=some {cls:=.type "range",data:=.fields #[.int lo t,.int hi u,.int 1 v]}
 |.frz o u=>h.get? a=some o/\dg H h a u
 |.tbl ps=>h.get? a=some {cls:=.none,data:=.fields ps}
 |.met f x=>h.get? a=some (PySem.W.methodObj (.ref f) (.ref x))
 |.ext φ=>φ h/\(∃o,h.get? a=some o)/\∀h1 h2:Heap,φ h1->(∀o,h1.get? a=some o->h2.get? a=some o)->φ h2
def nJ(H:Hp)(h:Heap):Prop:=∀a o,H a=some o->dg P w H h a o
end
section
variable{P:Program}{w:World}{H H':Hp}{h h':Heap}{a:Addr}{o:HO}
theorem dg.lt(x:dg P w H h a o):a<h.objs.size:=by
 cases o with
 |lst xs=>obtain⟨_,_,_,_,e⟩:=x;exact Qqq e
 |tup xs=>obtain⟨_,_,_,p⟩:=x;exact p.is.lt
 |dK kvs=>obtain⟨_,_,_,_,o,_,_,e,_⟩:=x;exact Qqq e
 |dT kvs=>obtain⟨_,_,_,_,o,_,_,e,_⟩:=x;exact Qqq e
 |dS xs=>obtain⟨_,_,_,_,o,_,_,_,e,_⟩:=x;exact Qqq e
 |set S n=>obtain⟨o,_,_,_,e,_⟩:=x;exact Qqq e
 |ins C dx fs=>obtain⟨_,_,_,e,_⟩:=x;exact Qqq e
 |own y=>obtain⟨_,e⟩:=x;exact Qqq e
 |xd fs=>obtain⟨_,⟨_,_,_,e,_⟩,_⟩:=x;exact Qqq e
 |rng lo hi=>obtain⟨_,_,_,e⟩:=x;exact Qqq e
 |frz ob u=>obtain⟨e,_⟩:=x;exact Qqq e
 |tbl ps=>exact Qqq (x)
 |met f y=>exact Qqq (x)
 |ext φ=>obtain⟨_,⟨_,e⟩,_⟩:=x;exact Qqq e
theorem Paired.W8{α β:Type}{F G:α->β->Prop}:∀{l₁:List α}{l₂:List β},Paired F l₁ l₂->(∀a b,F a b->G a b)->Paired G l₁ l₂
 |_,_,.nil=>fun _=>.nil
 |_,_,.cons r t=>fun f=>.cons (f _ _ r) (Paired.W8 t f)
theorem dg.stay(x:dg P w H h a o)(k:∀b u,(b=a\/H b=some (.own a))->h.get? b=some u->h'.get? b=some u)
  (ho:∀b,H b=some (.own a)->H' b=some (.own a))(ht:∀b xs,H b=some (.tup xs)->H' b=some (.tup xs)):dg P w H' h' a o:=by
 induction o with
 |lst xs=>obtain⟨z,its,n,r,e⟩:=x;exact⟨z,its,n,r,k _ _ (.inl rfl) e⟩
 |tup xs=>obtain⟨z,its,r,ob,e,c⟩:=x;exact⟨z,its,r,ob,k _ _ (.inl rfl) e,c⟩
 |dK kvs=>obtain⟨z,y,vs,r,ob,es,ep,e,c⟩:=x;exact⟨z,y,vs,r,ob,es,ep,k _ _ (.inl rfl) e,c⟩
 |dT kvs=>
  obtain⟨z,y,xs,r,ob,es,ep,e,c⟩:=x
  exact⟨z,y,xs,Paired.W8 r fun p q z=>⟨z.1,ht _ _ z.2.1,z.2.2⟩,ob,es,ep,k _ _ (.inl rfl) e,c⟩
 |dS xs=>obtain⟨z,y,nd,ys,ob,es,ep,pr,e,c⟩:=x;exact⟨z,y,nd,ys,ob,es,ep,pr,k _ _ (.inl rfl) e,c⟩
 |set S n=>obtain⟨ob,es,ep,t,e,c⟩:=x;exact⟨ob,es,ep,t,k _ _ (.inl rfl) e,c⟩
 |ins C dx fs=>
  obtain⟨d,z,ne,e,mA,⟨od,es,ep,e2,c⟩,r⟩:=x
  exact⟨ho _ d,z,ne,k _ _ (.inl rfl) e,mA,⟨od,es,ep,k _ _ (.inr d) e2,c⟩,r⟩
 |own y=>obtain⟨ob,e⟩:=x;exact⟨ob,k _ _ (.inl rfl) e⟩
 |xd fs=>obtain⟨mA,⟨od,es,ep,e,c⟩,r⟩:=x;exact⟨mA,⟨od,es,ep,k _ _ (.inl rfl) e,c⟩,r⟩
 |rng lo hi=>obtain⟨t,u,v,e⟩:=x;exact⟨t,u,v,k _ _ (.inl rfl) e⟩
 |frz ob u ih=>obtain⟨e,q⟩:=x;exact⟨k _ _ (.inl rfl) e,ih q⟩
 |tbl ps=>
  exact k a _ (.inl rfl) x
 |met f y=>
  exact k a _ (.inl rfl) x
 |ext φ=>obtain⟨p,⟨o,e⟩,st⟩:=x;exact⟨st _ _ p fun o q=>k _ _ (.inl rfl) q,⟨o,k _ _ (.inl rfl) e⟩,st⟩
theorem nJ.lt(x:nJ P w H h)(e:H a=some o):a<h.objs.size:=(x a o e).lt
def nJ.fresh(x:nJ P w H h)(e:h.objs.size<=a):H a=none:=by
 cases q:H a with
 |none=>rfl
 |some u=>exact absurd (Qwz (x.lt q) e) (Nat.lt_irrefl _)
def nJ.kept(x:nJ P w H h)(k:∀b u,h.get? b=some u->h'.get? b=some u):nJ P w H h':=fun a o e=>
 (x a o e).stay (fun b u _ q=>k b u q) (fun _ q=>q) fun _ _ q=>q
def nJ.laid(x:nJ P w H h)(k:∀b u,h.get? b=some u->h'.get? b=some u)(hp:h.objs.size<=a)(new:dg P w (upd H a o) h' a o):nJ P w (upd H a o) h':=fun b u e=>by
 have hn:=x.fresh hp
 by_cases hb:b=a
 ·subst hb;rw[aB]at e;cases e;exact new
 ·rw[au hb]at e
  exact(x b u e).stay (fun c v _ q=>k c v q) (fun c q=>by rw[au (ir q hn)];exact q) fun c xs q=>by rw[au (ir q hn)];exact q
end
def Rd(H:Hp)(a:Addr)(u:HO):Prop:=H a=some u\/∃o,H a=some (.frz o u)
def Rd.ok{w:World}{h:Heap}{u:HO}(r:Rd H a u)(x:nJ P w H h):dg P w H h a u:=by
 rcases r with r|⟨o,r⟩
 ·exact x a u r
 ·obtain⟨_,q⟩:=x a _ r
  exact q
noncomputable def Mut:Option HO->Prop
 |some (.lst _)=>True
 |some (.dK _)=>True
 |some (.dT _)=>True
 |some (.dS _)=>True
 |some (.set _ _)=>True
 |some (.ins _ _ _)=>True
 |some (.ext _)=>True
 |_=>False
section
variable{P:Program}{w:World}{H:Hp}{h h':Heap}{x e:Addr}{o':HO}
def nJ.write(ok:nJ P w H h)(mu:Mut (H x))(he:e=x\/H e=some (.own x))(k:∀b u,b≠e->h.get? b=some u->h'.get? b=some u)(heo:∃u,h'.get? e=some u)
  (new:dg P w (upd H x o') h' x o'):nJ P w (upd H x o') h':=fun b u q=>by
 have nown:∀c y,H c=some (.own y)->c≠x:=fun c y r z=>by subst z;rw[r]at mu;exact mu
 by_cases hb:b=x
 ·subst hb;rw[aB]at q;cases q;exact new
 ·rw[au hb]at q
  by_cases hbe:b=e
  ·have q':H b=some (.own x):=by
    rcases he with z|z
    ·exact absurd (hbe.trans z) hb
    ·rw[hbe];exact z
   rw[q]at q';cases q'
   obtain⟨v,hv⟩:=heo
   exact⟨v,by rw[hbe];exact hv⟩
  ·refine(ok b u q).stay (fun c v hc r=>k c v ?_ r) (fun c r=>by rw[au (nown c b r)];exact r) fun c xs r=>by rw[au ((fun c xs r z=>by subst z;rw[r]at mu;exact mu) c xs r)];exact r
   rcases hc with rfl|hc
   ·exact hbe
   ·rintro rfl
    rcases he with z|z
    ·exact nown c b hc z
    ·rw[hc]at z;cases z;exact hb rfl
end
structure Un(fs ex:List Addr)(H H':Hp)(h h':Heap):Prop where
 keep:∀b o,h.get? b=some o->H b=none->b∉fs->b∉ex->h'.get? b=some o
 slot:∀b o,h.get? b=some o->H b=none->b∈fs->b∉ex->∃sl,h'.get? b=some {o with slots:=sl}
 free:∀b o,h.get? b=some o->H b=none->b∉ex->H' b=none
 there:∀b o,h.get? b=some o->b∉ex->∃o',h'.get? b=some o'
 tups:∀b xs,H b=some (.tup xs)->H' b=some (.tup xs)
 frzs:∀b o u,H b=some (.frz o u)->H' b=some (.frz o u)
 tbls:∀b ps,H b=some (.tbl ps)->∃more,H' b=some (.tbl (ps++more))
section
variable{fs fs' ex ex':List Addr}{H H1 H2:Hp}{h h1 h2 h':Heap}{a x e:Addr}{o:HO}
def Un.any(u:Un fs ex H H1 h h1){ob:Obj}(q:h.get? b=some ob)(n:H b=none)(hx:b∉ex):∃sl,h1.get? b=some {ob with slots:=sl}:=by
 by_cases hb:b∈fs
 ·exact u.slot b ob q n hb hx
 ·exact⟨ob.slots,u.keep b ob q n hb hx⟩
def Un.kept(k:∀b u,h.get? b=some u->h'.get? b=some u):Un fs ex H H h h':=
 ⟨fun b ob q _ _ _=>k b ob q,fun b ob q _ _ _=>⟨ob.slots,k b ob q⟩,fun _ _ _ n _=>n,fun b ob q _=>⟨ob,k b ob q⟩,fun _ _ q=>q,fun _ _ _ q=>q,fun _ ps q=>⟨#[],by rw[q];simp⟩⟩
def Un.refl:Un fs ex H H h h:=Un.kept fun _ _ q=>q
theorem Un.laid(k:∀b u,h.get? b=some u->h'.get? b=some u)(hp:h.objs.size<=a)(hn:H a=none):Un fs ex H (upd H a o) h h' where
 keep:=fun b u q _ _ _=>k b u q
 slot:=fun b u q _ _ _=>⟨u.slots,k b u q⟩
 free:=fun b u q n _=>by rw[au (Qvq (Qwz (Qqq q) hp))];exact n
 there:=fun b u q _=>⟨u,k b u q⟩
 tups:=fun b xs q=>by rw[au (ir q hn)];exact q
 frzs:=fun b u xs q=>by rw[au (ir q hn)];exact q
 tbls:=fun b ps q=>⟨#[],by rw[au (ir q hn),q];simp⟩
def Un.write(mu:Mut (H x))(he:e=x\/H e=some (.own x))(k:∀b u,b≠e->h.get? b=some u->h'.get? b=some u)(heo:∃u,h'.get? e=some u):Un fs ex H (upd H x o) h h':=by
 have hx:∀b,H b=none->b≠x:=fun b n z=>by subst z;rw[n]at mu;exact mu
 have hb:∀b,H b=none->b≠e:=fun b n z=>by
  subst z
  rcases he with r|r
  ·exact hx b n r
  ·rw[n]at r;cases r
 have hm:∀b u,H b=some u->¬Mut (some u)->b≠x:=fun b u q nm z=>by subst z;rw[q]at mu;exact nm mu
 refine⟨fun b u q n _ _=>k b u (hb b n) q,fun b u q n _ _=>⟨u.slots,k b u (hb b n) q⟩,fun b u q n _=>by rw[au (hx b n)];exact n,fun b u q _=>?_,
  fun b xs q=>by rw[au (hm b _ q fun z=>z)];exact q,fun b u xs q=>by rw[au (hm b _ q fun z=>z)];exact q,fun b ps q=>⟨#[],by rw[au (hm b _ q fun z=>z),q];simp⟩⟩
 by_cases hbe:b=e
 ·subst hbe;exact heo
 ·exact⟨u,k b u hbe q⟩
end
def trk(h:Heap)(H:Hp):List Addr:=(List.range h.objs.size).filter fun a=>(H a).isSome
def Iw(h:Heap)(H:Hp):Heap:=PySem.W.hideAll h (trk h H)
def Iv h H:(Iw h H).objs.size=h.objs.size:=PySem.W.hideAll_size _ _
def MF{H:Hp}{o:Obj}(e:h.get? b=some o)(n:H b=none):(Iw h H).get? b=some o:=
 PySem.W.hideAll_get _ e fun hm=>by
  have q:=(List.mem_filter.mp hm).2
  rw[n]at q;simp at q
def Rr{H:Hp}{o:Obj}(e:(Iw h H).get? b=some o):h.get? b=some o/\H b=none:=by
 have e':=PySem.W.of_hideAll _ e
 refine⟨e',?_⟩
 cases q:H b with
 |none=>rfl
 |some x=>
  have z:(Iw h H).get? b=none:=PySem.W.hideAll_none _ (List.mem_filter.mpr ⟨List.mem_range.mpr (Qqq e'),by simp[q]⟩)
  rw[z]at e;cases e
noncomputable def Tf(g h:Heap)(L:Addr):List (Addr×Obj):=(List.range h.objs.size).filterMap fun a=>if a=L\/(g.get? a).isSome=true then none else(h.get? a).map fun o=>(a,o)
def rest(g h:Heap)(L d:Addr):List (Addr×Obj):=(Tf g h L).filter fun p=>decide (p.1≠d)
structure Mod(K:QQq)(mg:QZz)(base:Heap):Prop where
 kin:K.In base
 glob:base.Ns mainGlobals mg
 blt:∃mb,base.Ns builtinsNs mb/\∀x:Str,x≠"__name__"->mb x=bootBuiltins x
 nolimit:base.NoLimit
structure Cx where
 prog:Program
 w:World
 K:QQq
 mg:Str->Option Value
 base:Heap
 A:Around
 N:List Str
 s₀:Shared
 H₀:Hp
 env:Env
 outer:List Env
 stack:List Env
 ex:List Addr
 fn:Str->Bool
 calm:Bool
 pn:List (Addr×Obj)
 xe:Value->Shared->Prop
def frs(l:List Env):List Addr:=l.filterMap (·.frame)
abbrev Cx.fs(X:Cx):List Addr:=frs X.outer
def Jo(sc:Scope)(x:Str):Prop:=sc.names.lookup x=some .local\/sc.names.lookup x=some .cell\/sc.names.lookup x=some .free
def Loc(sc:Scope)(x:Str):Prop:=sc.names.lookup x=some .local\/sc.names.lookup x=some .cell
def Look(env:Env)(h:Heap)(m:QZz)(x:Str)(u:Value):Prop:=
 (env.kindOf x=some .local/\m x=some u)\/((env.kindOf x=some .cell\/env.kindOf x=some .free)/\∃c,env.cells.lookup x=some c/\h.IsCell c (some u))
structure Cx.Ok(X:Cx):Prop where
 mod:Mod X.K X.mg X.base
 kind:X.env.scope.kind=.function
 glob:X.env.globals=mainGlobals
 blt:X.env.builtins=builtinsNs
 above:X.s₀.heap.objs.size<=X.env.locals
 inj:∀x y c,X.env.cells.lookup x=some c->X.env.cells.lookup y=some c->x=y
 has:∀x,(X.env.kindOf x=some .cell\/X.env.kindOf x=some .free)->∃c,X.env.cells.lookup x=some c
 cab:∀x c,X.fn x=true->X.env.cells.lookup x=some c->X.s₀.heap.objs.size<=c
 hd:X.calm=true->X.A.handled=none
 frames:X.A.frames=some X.stack
 stk:X.stack=X.outer\/(X.stack=X.env::X.outer/\X.env.frame=some X.env.locals)
 exf:∀b∈X.ex,b≠X.env.locals/\∀x c,X.env.cells.lookup x=some c->c≠b
 bs:∀b o,X.base.get? b=some o->X.s₀.heap.get? b=some o/\X.H₀ b=none
 bsz:X.base.objs.size<=X.s₀.heap.objs.size
 noex:∀b o,X.base.get? b=some o->b∉X.ex
 exfs:∀b∈X.ex,b∉X.fs
 mJ:X.s₀.heap.FunFrames X.base X.outer
 frf:∀b∈X.fs,X.H₀ b=none
structure Inv(X:Cx)(γ:QQz)(σ:List (Option V))(H:Hp)(s:Shared):Prop where
 ok:X.Ok
 os:s.os=X.s₀.os
 bare:AllBare s.gens
 base:Un X.fs X.ex X.H₀ H X.s₀.heap s.heap
 loc:∃m,s.heap.Ns X.env.locals m/\∀(i:Nat)(x:Str)(v:V),X.N[i]? =some x->σ[i]? =some (some v)->Jo X.env.scope x->∃u,RelV v u/\Look X.env s.heap m x u
 cell:∀x c,X.env.cells.lookup x=some c->∃v,s.heap.IsCell c v
 free:H X.env.locals=none
 freeC:∀x c,X.env.cells.lookup x=some c->H c=none
 pin:∀p∈X.pn++γ,s.heap.get? p.1=some p.2/\H p.1=none/\p.1≠X.env.locals/\p.1∉X.fs/\∀v,p.2.data≠ .cell v
 hok:nJ X.prog X.w H s.heap
 len:σ.length=X.N.length
section
variable{X:Cx}{γ:QQz}{σ:List (Option V)}{H H':Hp}{s:Shared}{h':Heap}
def Cx.Ok.aeJ(ok:X.Ok){o:Obj}(e:X.base.get? b=some o):b∉X.fs:=fun hb=>by
 have:=(ok.mJ.mem hb).1
 rw[e]at this;cases this
theorem Inv.bs(I:Inv X γ σ H s):∀b o,X.base.get? b=some o->s.heap.get? b=some o/\H b=none:=fun b o e=>
 ⟨I.base.keep b o (I.ok.bs b o e).1 (I.ok.bs b o e).2 (I.ok.aeJ e) (I.ok.noex b o e),I.base.free b o (I.ok.bs b o e).1 (I.ok.bs b o e).2 (I.ok.noex b o e)⟩
def Inv.bk(I:Inv X γ σ H s):∀b o,X.base.get? b=some o->s.heap.get? b=some o:=fun b o e=>(I.bs b o e).1
theorem Inv.mod(I:Inv X γ σ H s):Mod X.K X.mg X.base:=I.ok.mod
def Inv.zT(I:Inv X γ σ H s):X.K.In s.heap:=I.ok.mod.kin.keeps I.bk
theorem Inv.lt(I:Inv X γ σ H s):X.env.locals<s.heap.objs.size:=let ⟨_,hn,_⟩:=I.loc;hn.lt
def Inv.sz(I:Inv X γ σ H s):X.s₀.heap.objs.size<=s.heap.objs.size:=Nat.le_trans I.ok.above (Nat.le_of_lt I.lt)
def Inv.aeI(I:Inv X γ σ H s){a:Addr}(h:s.heap.objs.size<=a):a∉X.fs:=fun hb=>by
 obtain⟨_,o,ho,_⟩:=I.ok.mJ.mem hb
 exact absurd (Qwz (Qqq ho) (Nat.le_trans I.sz h)) (Nat.lt_irrefl _)
def Inv.Yu(I:Inv X γ σ H s):∀x c,X.env.cells.lookup x=some c->c≠X.env.locals:=fun x c e z=>by
 obtain⟨v,o,ho,hd⟩:=I.cell x c e
 obtain⟨m,⟨o',es,ep,ho',hd',_⟩,_⟩:=I.loc
 rw[z,ho']at ho;cases ho;rw[hd']at hd;cases hd
theorem Inv.mJ(I:Inv X γ σ H s):s.heap.FunFrames X.base X.outer:=by
 have all:∀l,(∀b∈frs l,b∈X.fs)->X.s₀.heap.FunFrames X.base l->s.heap.FunFrames X.base l:=by
  intro l
  induction l with
  |nil=>intro _ _;trivial
  |cons env r ih=>
   intro hs hl
   obtain⟨hk,⟨L,o,hf,hn,ho,hd⟩,hr⟩:=hl
   have hL:=hs L (by unfold frs;rw[List.filterMap_cons,hf];exact QYz)
   obtain⟨sl,e⟩:=I.base.slot L o ho (I.ok.frf L hL) hL fun z=>I.ok.exfs L z hL
   exact⟨hk,⟨L,_,hf,hn,e,hd⟩,ih (fun b hb=>hs b (by unfold frs;rw[List.filterMap_cons,hf];exact QYq _ hb)) hr⟩
 exact all X.outer (fun _ hb=>hb) I.ok.mJ
theorem Inv.stack(I:Inv X γ σ H s):s.heap.FunFrames X.base X.stack:=by
 rcases I.ok.stk with e|⟨e,hf⟩
 ·rw[e];exact I.mJ
 ·rw[e]
  obtain⟨m,hn,_⟩:=I.loc
  exact .cons (by rw[I.ok.kind];decide) hf hn (Heap.get?_none_of_le (Nat.le_trans I.ok.bsz I.ok.above)) I.mJ
def Inv.Bo(I:Inv X γ σ H s):∀b∈frs X.stack,b∈X.env.locals::X.fs:=fun b hb=>by
 rcases I.ok.stk with e|⟨e,hf⟩
 ·rw[e]at hb;exact QYq _ hb
 ·rw[e]at hb
  unfold frs at hb
  rw[List.filterMap_cons,hf]at hb
  exact hb
def Inv.El(I:Inv X γ σ H s):∀b∈frs X.stack,H b=none:=fun b hb=>by
 rcases QBz.mp (I.Bo b hb)with e|hb
 ·rw[e];exact I.free
 ·obtain⟨_,o,ho,_⟩:=I.ok.mJ.mem hb
  exact I.base.free b o ho (I.ok.frf b hb) fun z=>I.ok.exfs b z hb
def Inv.step{t':Nat}{ch:List Addr}(I:Inv X γ σ H s)
  (hch:∀b∈ch,(b∈X.ex\/X.s₀.heap.objs.size<=b)/\b≠X.env.locals/\(∀x c,X.env.cells.lookup x=some c->c≠b)/\∀p∈X.pn++γ,p.1≠b)
  (keep:∀b o,b≠X.env.locals->b∉X.fs->b∉ch->s.heap.get? b=some o->H b=none->h'.get? b=some o)
  (slot:∀b o,b≠X.env.locals->b∈X.fs->b∉ch->s.heap.get? b=some o->H b=none->∃sl,h'.get? b=some {o with slots:=sl})(free:∀b o,b∉ch->s.heap.get? b=some o->H b=none->H' b=none)
  (there:∀b o,b∉ch->s.heap.get? b=some o->∃o',h'.get? b=some o')
  (tups:∀b xs,H b=some (.tup xs)->H' b=some (.tup xs))(frzs:∀b o u,H b=some (.frz o u)->H' b=some (.frz o u))(tbls:∀b ps,H b=some (.tbl ps)->∃more,H' b=some (.tbl (ps++more)))
  (ns:∀m,s.heap.Ns X.env.locals m->h'.Ns X.env.locals m)(hok:nJ X.prog X.w H' h')(hg:AllBare g'):
  Inv X γ σ H' {s with heap:=h',gens:=g',drawn:=d',toks:=t'}:=by
 have neL:∀b o,X.s₀.heap.get? b=some o->b≠X.env.locals:=fun b o e=>Qvq (Qwz (Qqq e) I.ok.above)
 have neC:∀b o,X.s₀.heap.get? b=some o->b∉X.ex->b∉ch:=fun b o e hx hb=>by
  rcases (hch b hb).1 with z|z
  ·exact hx z
  ·exact absurd (Qwz (Qqq e) z) (Nat.lt_irrefl _)
 have cellK:∀x c,X.env.cells.lookup x=some c->∀v,s.heap.IsCell c v->h'.IsCell c v:=fun x c e v⟨o,ho,hd⟩=>by
  have nch:=fun z=>(hch c z).2.2.1 x c e rfl
  by_cases hc:c∈X.fs
  ·obtain⟨sl,q⟩:=slot c o (I.Yu x c e) hc nch ho (I.freeC x c e)
   exact⟨_,q,hd⟩
  ·exact⟨o,keep c o (I.Yu x c e) hc nch ho (I.freeC x c e),hd⟩
 refine⟨I.ok,I.os,hg,⟨fun b o e n hb hx=>?_,fun b o e n hb hx=>?_,fun b o e n hx=>?_,fun b o e hx=>?_,fun b xs e=>tups b xs (I.base.tups b xs e),fun b o xs e=>frzs b o xs (I.base.frzs b o xs e),fun b ps e=>?_⟩,?_,fun x c e=>?_,?_,fun x c e=>?_,fun p hp=>?_,hok,I.len⟩
 ·exact keep b o (neL b o e) hb (neC b o e hx) (I.base.keep b o e n hb hx) (I.base.free b o e n hx)
 ·obtain⟨sl,e1⟩:=I.base.slot b o e n hb hx
  obtain⟨sl',e2⟩:=slot b _ (neL b o e) hb (neC b o e hx) e1 (I.base.free b o e n hx)
  exact⟨sl',e2⟩
 ·obtain⟨o',e1⟩:=I.base.there b o e hx
  exact free b o' (neC b o e hx) e1 (I.base.free b o e n hx)
 ·obtain⟨o',e1⟩:=I.base.there b o e hx
  exact there b o' (neC b o e hx) e1
 ·obtain⟨m1,e1⟩:=I.base.tbls b ps e
  obtain⟨m2,e2⟩:=tbls b _ e1
  exact⟨m1++m2,by rw[e2,Array.append_assoc]⟩
 ·obtain⟨m,hn,hl⟩:=I.loc
  refine⟨m,ns m hn,fun i x v e1 e2 e3=>?_⟩
  obtain⟨u,r,l⟩:=hl i x v e1 e2 e3
  refine⟨u,r,?_⟩
  rcases l with l|⟨k,c,e,z⟩
  ·exact .inl l
  ·exact .inr ⟨k,c,e,cellK x c e _ z⟩
 ·obtain⟨v,z⟩:=I.cell x c e
  exact⟨v,cellK x c e v z⟩
 ·obtain⟨m,⟨o,_,_,ho,_⟩,_⟩:=I.loc
  exact free _ o (fun z=>(hch _ z).2.1 rfl) ho I.free
 ·obtain⟨v,o,ho,hd⟩:=I.cell x c e
  exact free c o (fun z=>(hch c z).2.2.1 x c e rfl) ho (I.freeC x c e)
 ·obtain⟨e,n,ne,nf,d⟩:=I.pin p hp
  have nch:=fun z=>(hch p.1 z).2.2.2 p hp rfl
  exact⟨keep p.1 p.2 ne nf nch e n,free p.1 p.2 nch e n,ne,nf,d⟩
def Inv.un(I:Inv X γ σ H s)(u:Un X.fs [] H H' s.heap h')(hok:nJ X.prog X.w H' h'):Inv X γ σ H' {s with heap:=h',toks:=t'}:=by
 obtain⟨m,⟨o,es,ep,ho,r⟩,_⟩:=id I.loc
 obtain⟨sl,hL⟩:=u.any ho I.free (by simp)
 exact I.step (ch:=[]) (fun _ z=>nomatch z) (fun b o _ hb _ e n=>u.keep b o e n hb (by simp)) (fun b o _ hb _ e n=>u.slot b o e n hb (by simp)) (fun b o _ e n=>u.free b o e n (by simp)) (fun b o _ e=>u.there b o e (by simp)) u.tups u.frzs u.tbls (fun m' hm=>by
  obtain⟨o',es',ep',ho',r'⟩:=hm
  rw[ho]at ho';cases ho'
  exact⟨_,es',ep',hL,r'⟩) hok I.bare
def Inv.call{t':Nat}{ch:List Addr}(I:Inv X γ σ H s)(u:Un (frs X.stack) ch H H' s.heap h')(hok:nJ X.prog X.w H' h')(hg:AllBare g')
  (hch:∀b∈ch,(b∈X.ex\/X.s₀.heap.objs.size<=b)/\b≠X.env.locals/\(∀x c,X.env.cells.lookup x=some c->c≠b)/\∀p∈X.pn++γ,p.1≠b):
  Inv X γ σ H' {s with heap:=h',gens:=g',drawn:=d',toks:=t'}:=by
 obtain⟨m,⟨o,es,ep,ho,r⟩,_⟩:=id I.loc
 obtain⟨sl,hL⟩:=u.any ho I.free fun z=>(hch _ z).2.1 rfl
 exact I.step hch (fun b o hL hb hc e n=>u.keep b o e n (fun z=>(QBz.mp (I.Bo b z)).elim hL hb) hc) (fun b o _ _ hc e n=>u.any e n hc) (fun b o hc e n=>u.free b o e n hc) (fun b o hc e=>u.there b o e hc) u.tups u.frzs u.tbls (fun m' hm=>by
  obtain⟨o',es',ep',ho',r'⟩:=hm
  rw[ho]at ho';cases ho'
  exact⟨_,es',ep',hL,r'⟩) hok hg
def Inv.turned{it:Addr}(I:Inv X γ σ H s)(k:∀b o,b≠it->s.heap.get? b=some o->h'.get? b=some o)(hn:H it=none)(hL:it≠X.env.locals)
  (h1:it∈X.ex\/X.s₀.heap.objs.size<=it)(h2:∀x c,X.env.cells.lookup x=some c->c≠it)(h3:∀p∈X.pn++γ,p.1≠it):Inv X γ σ H {s with heap:=h',toks:=t'}:=by
 have nit:∀b u,H b=some u->b≠it:=fun b u e z=>by rw[z,hn]at e;cases e
 refine I.step (ch:=[it]) (fun b hb=>?_) (fun b o _ _ hc e _=>k b o (fun z=>hc (by simp[z])) e) (fun b o _ _ hc e _=>⟨o.slots,k b o (fun z=>hc (by simp[z])) e⟩) (fun _ _ _ _ n=>n)
  (fun b o hc e=>⟨o,k b o (fun z=>hc (by simp[z])) e⟩) (fun _ _ e=>e) (fun _ _ _ e=>e) (fun b ps e=>⟨#[],by rw[e];simp⟩) (fun m hm=>?_) (fun b u e=>?_) I.bare
 ·have e:b=it:=by simpa using hb
  subst e
  exact⟨h1,hL,h2,h3⟩
 ·obtain⟨o,es,ep,ho,r⟩:=hm
  exact⟨o,es,ep,k _ o (Ne.symm hL) ho,r⟩
 ·refine(I.hok b u e).stay (fun c v hc q=>k c v ?_ q) (fun _ q=>q) fun _ _ q=>q
  rcases hc with z|z
  ·rw[z];exact nit b u e
  ·exact nit c _ z
def Inv.tok(I:Inv X γ σ H s)t:Inv X γ σ H {s with toks:=t}:=I.un Un.refl I.hok
theorem Inv.kept(I:Inv X γ σ H s)(k:∀b u,s.heap.get? b=some u->h'.get? b=some u):Inv X γ σ H {s with heap:=h',toks:=t'}:=I.un (Un.kept k) (I.hok.kept k)
theorem Inv.laid{a:Addr}{o:HO}(I:Inv X γ σ H s)(k:∀b u,s.heap.get? b=some u->h'.get? b=some u)(hp:s.heap.objs.size<=a)(new:dg X.prog X.w (upd H a o) h' a o):
  Inv X γ σ (upd H a o) {s with heap:=h',toks:=t'}:=I.un (Un.laid k hp (I.hok.fresh hp)) (I.hok.laid k hp new)
theorem Inv.write{o:HO}(I:Inv X γ σ H s)(mu:Mut (H x))(he:e=x\/H e=some (.own x))(k:∀b u,b≠e->s.heap.get? b=some u->h'.get? b=some u)(heo:∃u,h'.get? e=some u)
  (new:dg X.prog X.w (upd H x o) h' x o):Inv X γ σ (upd H x o) {s with heap:=h',toks:=t'}:=I.un (Un.write mu he k heo) (I.hok.write mu he k heo new)
def Inv.xx(I:Inv X γ σ H s)(h:∀p∈ω,s.heap.get? p.1=some p.2/\H p.1=none/\p.1≠X.env.locals/\p.1∉X.fs/\∀v,p.2.data≠ .cell v):Inv X ω σ H s:=
 ⟨I.ok,I.os,I.bare,I.base,I.loc,I.cell,I.free,I.freeC,fun p hp=>(QXz.mp hp).elim (fun z=>I.pin p (QWz _ z)) (h p),I.hok,I.len⟩
def zK{N:List Str}(hN:N.Nodup){i j:Nat}(a:N[i]? =some x)(b:N[j]? =some x):i=j:=by
 obtain⟨h1,e1⟩:=QCq.mp a
 obtain⟨h2,e2⟩:=QCq.mp b
 exact(List.getElem_inj hN).mp (e1.trans e2.symm)
def vm{A:Around}{i:Nat}{v:V}{u:Value}(I:Inv X γ σ H s)(hN:X.N.Nodup)(hi:X.N[i]? =some x)(hx:Loc X.env.scope x)(r:RelV v u)
  (h:∀s',Inv X γ (σ.set i (some v)) H s'->(∃a,Heap.SameBut a s.heap s'.heap/\(a=X.env.locals\/X.env.cells.lookup x=some a))->Q () s')(hf:X.fn x=true\/X.env.scope.names.lookup x=some .local:=by first|exact .inl rfl|exact .inr rfl|assumption):wpAny M A (storeName X.env x u) Q E s:=by
 obtain⟨m,hn,hl⟩:=id I.loc
 have hiσ:i<σ.length:=by rw[I.len];exact(QCq.mp hi).1
 have Yu:=I.Yu
 have tracked:∀{a:Addr}{h':Heap},(∃o,s.heap.get? a=some o/\H a=none)->Heap.SameBut a s.heap h'->nJ X.prog X.w H h':=fun{a h'}ha hs b ob e=>by
  obtain⟨_,_,hfree⟩:=ha
  refine(I.hok b ob e).stay (fun c w' hc q=>(hs.2 c ?_).trans q) (fun _ q=>q) fun _ _ q=>q
  rintro rfl
  rcases hc with rfl|hc
  ·rw[hfree]at e;cases e
  ·rw[hfree]at hc;cases hc
 rcases hx with hk|hk
 ·refine wpAny_storeName_local hk hn (fun h' hn' hs=>?_) (by rw[I.ok.kind];rfl)
  obtain⟨oL,_,_,hoL,_⟩:=id hn
  refine h _ ⟨I.ok,I.os,I.bare,⟨fun b o e n hb hx=>?_,fun b o e n hb hx=>?_,I.base.free,fun b o e hx=>?_,I.base.tups,I.base.frzs,I.base.tbls⟩,⟨_,hn',fun j y v' e1 e2 e3=>?_⟩,fun y c e=>?_,I.free,I.freeC,fun p hp=>?_,tracked ⟨oL,hoL,I.free⟩ hs,by simpa using I.len⟩ ⟨_,hs,.inl rfl⟩
  ·exact(hs.2 b (Qvq (Qwz (Qqq e) I.ok.above))).trans (I.base.keep b o e n hb hx)
  ·obtain⟨sl,e1⟩:=I.base.slot b o e n hb hx
   exact⟨sl,(hs.2 b (Qvq (Qwz (Qqq e) I.ok.above))).trans e1⟩
  ·obtain⟨o',e1⟩:=I.base.there b o e hx
   exact⟨o',(hs.2 b (Qvq (Qwz (Qqq e) I.ok.above))).trans e1⟩
  ·by_cases hj:j=i
   ·subst hj
    rw[hi]at e1;cases e1
    rw[Qxz hiσ]at e2
    cases e2
    exact⟨u,r,.inl ⟨hk,by simp⟩⟩
   ·rw[Qxq (Ne.symm hj)]at e2
    obtain⟨u',r',q⟩:=hl j y v' e1 e2 e3
    refine⟨u',r',?_⟩
    rcases q with ⟨k,e⟩|⟨k,c,e,z⟩
    ·refine .inl ⟨k,?_⟩
     have:y≠x:=fun e=>hj (zK hN e1 (e▸hi))
     simp[this,e]
    ·exact .inr ⟨k,c,e,z.sameBut hs (Yu y c e)⟩
  ·obtain⟨w',z⟩:=I.cell y c e
   exact⟨w',z.sameBut hs (Yu y c e)⟩
  ·obtain⟨e,n,ne,nf,d⟩:=I.pin p hp
   exact⟨(hs.2 p.1 ne).trans e,n,ne,nf,d⟩
 ·have hfn:X.fn x=true:=by
   rcases hf with z|z
   ·exact z
   ·rw[z]at hk;cases hk
  obtain⟨c,hc⟩:=I.ok.has x (.inl hk)
  obtain⟨w',z⟩:=I.cell x c hc
  refine wpAny_storeName_cell I.ok.kind hk hc z (fun h' hc' hs=>?_)
  obtain⟨oc,hoc,hocd⟩:=id z
  refine h {s with heap:=h'} ⟨I.ok,I.os,I.bare,⟨fun b o e n hb hx=>?_,fun b o e n hb hx=>?_,I.base.free,fun b o e hx=>?_,I.base.tups,I.base.frzs,I.base.tbls⟩,⟨m,hn.sameBut hs (Ne.symm (Yu x c hc)),fun j y v' e1 e2 e3=>?_⟩,fun y c' e=>?_,I.free,I.freeC,fun p hp=>?_,tracked ⟨oc,hoc,I.freeC x c hc⟩ hs,by simpa using I.len⟩ ⟨c,hs,.inr hc⟩
  ·exact(hs.2 b (Qvq (Qwz (Qqq e) (I.ok.cab x c hfn hc)))).trans (I.base.keep b o e n hb hx)
  ·obtain⟨sl,e1⟩:=I.base.slot b o e n hb hx
   exact⟨sl,(hs.2 b (Qvq (Qwz (Qqq e) (I.ok.cab x c hfn hc)))).trans e1⟩
  ·obtain⟨o',e1⟩:=I.base.there b o e hx
   exact⟨o',(hs.2 b (Qvq (Qwz (Qqq e) (I.ok.cab x c hfn hc)))).trans e1⟩
  ·by_cases hj:j=i
   ·subst hj
    rw[hi]at e1;cases e1
    rw[Qxz hiσ]at e2
    cases e2
    exact⟨u,r,.inr ⟨.inl hk,c,hc,hc'⟩⟩
   ·rw[Qxq (Ne.symm hj)]at e2
    obtain⟨u',r',q⟩:=hl j y v' e1 e2 e3
    refine⟨u',r',?_⟩
    rcases q with q|⟨k,c',e,z'⟩
    ·exact .inl q
    ·refine .inr ⟨k,c',e,z'.sameBut hs ?_⟩
     rintro rfl
     exact hj (zK hN e1 (I.ok.inj _ _ _ e hc▸hi))
  ·by_cases hcc:c'=c
   ·subst hcc;exact⟨_,hc'⟩
   ·obtain⟨w2,z2⟩:=I.cell y c' e
    exact⟨w2,z2.sameBut hs hcc⟩
  ·obtain⟨e,n,ne,nf,d⟩:=I.pin p hp
   refine⟨(hs.2 p.1 ?_).trans e,n,ne,nf,d⟩
   intro q
   rw[q,hoc]at e
   exact d w' (by rw[<- (QDz e)];exact hocd)
def za{A:Around}{i:Nat}{v:V}{u:Value}(I:Inv X γ σ H s)(hN:X.N.Nodup)(hi:X.N[i]? =some x)(hx:Loc X.env.scope x)(r:RelV v u)
  (h:∀s',Inv X γ (σ.set i (some v)) H s'->Q () s')(hf:X.fn x=true\/X.env.scope.names.lookup x=some .local:=by first|exact .inl rfl|exact .inr rfl|assumption):wpAny M A (storeName X.env x u) Q E s:=
 vm I hN hi hx r (fun s' I' _=>h s' I') hf
def Inv.call'{ch:List Addr}(I:Inv X γ σ H s)(ho:s'.os=s.os)(u:Un (frs X.stack) ch H H' s.heap s'.heap)(hok:nJ X.prog X.w H' s'.heap)(hg:AllBare s'.gens)
  (hch:∀b∈ch,(b∈X.ex\/X.s₀.heap.objs.size<=b)/\b≠X.env.locals/\(∀x c,X.env.cells.lookup x=some c->c≠b)/\∀p∈X.pn++γ,p.1≠b):Inv X γ σ H' s':=by
 obtain⟨h',g',d',t',o'⟩:=s'
 subst ho
 exact I.call u hok hg hch
end
abbrev XK:=Value->Option Addr->Hp->Prop
abbrev St:=List (Option V)
abbrev VK:=V->Hp->Prop
abbrev TE:=St->Hp->VK->Prop
abbrev TT:=St->Hp->(Bool->Hp->Prop)->Prop
abbrev TA:=St->Hp->(List V->Hp->Prop)->Prop
structure Ends where
 nx:St->Hp->Prop
 rt:VK
 bk:St->Hp->Prop:=fun _ _=>False
 ct:St->Hp->Prop:=fun _ _=>False
abbrev TS:=Ends->St->Hp->Prop
def EP(X:Cx)(γ:QQz)(σ:St)(Q:VK)(u:Value)(s':Shared):Prop:=∃v H',Inv X γ σ H' s'/\RelV v u/\Q v H'
def TP(X:Cx)(γ:QQz)(σ:St)(Q:Bool->Hp->Prop)(b:Bool)(s':Shared):Prop:=∃H',Inv X γ σ H' s'/\Q b H'
def AP(X:Cx)(γ:QQz)(σ:St)(Q:List V->Hp->Prop)(us:List Value)(s':Shared):Prop:=∃vs H',Inv X γ σ H' s'/\Vals vs us/\Q vs H'
def SP(X:Cx)(γ:QQz)(D:Ends)(f:Flow)(s':Shared):Prop:=
 match f with
 |.next=>∃ζ H',Inv X γ ζ H' s'/\D.nx ζ H'
 |.brk=>∃ζ H',Inv X γ ζ H' s'/\D.bk ζ H'
 |.cont=>∃ζ H',Inv X γ ζ H' s'/\D.ct ζ H'
 |.ret u=>∃v ζ H',Inv X γ ζ H' s'/\RelV v u/\D.rt v H'
def PE(X:Cx)(e:Expr)(t:TE):Prop:=
 ∀(γ:QQz)(s:Shared)(σ:St)(H:Hp)(Q:VK),Inv X γ σ H s->t σ H Q->wpAny (model X.prog X.w) X.A (eval e X.env) (EP X γ σ Q) X.xe s
def PT(X:Cx)(e:Expr)(t:TT):Prop:=
 ∀(γ:QQz)(s:Shared)(σ:St)(H:Hp)(Q:Bool->Hp->Prop),Inv X γ σ H s->t σ H Q->wpAny (model X.prog X.w) X.A (isTrue e X.env (eval e X.env)) (TP X γ σ Q) X.xe s
def PW(X:Cx)(e:Expr)(t:TT):Prop:=
 ∀(whole:Sem Value)(γ:QQz)(s:Shared)(σ:St)(H:Hp)(Q:Bool->Hp->Prop),Inv X γ σ H s->t σ H Q->wpAny (model X.prog X.w) X.A (isTrue e X.env whole) (TP X γ σ Q) X.xe s
def PW.pt{e:Expr}(h:PW X e t):PT X e t:=h _
def PA(X:Cx)(es:List Expr)(t:TA):Prop:=
 ∀(pos:Pos)(γ:QQz)(s:Shared)(σ:St)(H:Hp)(Q:List V->Hp->Prop),Inv X γ σ H s->t σ H Q->wpAny (model X.prog X.w) X.A (spliced (backTo pos (starEach es X.env))) (AP X γ σ Q) X.xe s
def PS(X:Cx)(st:Stmt)(t:TS):Prop:=
 ∀(γ:QQz)(s:Shared)(σ:St)(H:Hp)(D:Ends),Inv X γ σ H s->t D σ H->wpAny (model X.prog X.w) X.A (exec st X.env) (SP X γ D) X.xe s
def uZ(X:Cx)(st:List Stmt)(t:TS):Prop:=
 ∀(γ:QQz)(s:Shared)(σ:St)(H:Hp)(D:Ends),Inv X γ σ H s->t D σ H->wpAny (model X.prog X.w) X.A (execs st X.env) (SP X γ D) X.xe s
def cj{t:Sem α}{Q Q':α->Shared->Prop}{A:Around}{s:Shared}(h:wpAny M A t Q E s)(hQ:∀a s,Q a s->Q' a s):wpAny M A t Q' E s:=QKz h hQ fun _ _ x=>x
section
variable{X:Cx}
def bin{ta tb:TE}(ha:PE X a ta)(hb:PE X b tb){s:Shared}{σ:St}{R:V->V->Hp->Prop}(I:Inv X γ σ H s)(h:ta σ H fun x H1=>tb σ H1 fun y H2=>R x y H2)
{Q:α->Shared->Prop} {f:Value->Value->Sem α}
  (hf:∀v u s2 x y H2,Inv X γ σ H2 s2->RelV x v->RelV y u->R x y H2->wpAny (model X.prog X.w) X.A (f v u) Q X.xe s2):
  wpAny (model X.prog X.w) X.A (eval a X.env) (fun v θ=>wpAny (model X.prog X.w) X.A (eval b X.env) (fun u Δ=>wpAny (model X.prog X.w) X.A (f v u) Q X.xe Δ) X.xe θ) X.xe s:=by
 refine cj (ha γ s σ H _ I h) fun v s1⟨x,H1,I1,r1,q1⟩=>?_
 refine cj (hb γ s1 σ H1 _ I1 q1) fun u s2⟨y,H2,I2,r2,q2⟩=>?_
 exact hf v u s2 x y H2 I2 r1 r2 q2
def aY(i:Nat):TE:=fun σ H Q=>∃v,σ[i]? =some (some v)/\Q v H
def tC(v:V):TE:=fun _ H Q=>Q v H
def cZ{x:Str}{pos:Pos}(hN:X.N[i]? =some x)(hv:Jo X.env.scope x)(hd:(x==("__debug__":Str))=false:=by decide)(hcd:(x==("__classdict__":Str))=false:=by decide):PE X (.Name x pos) (aY i):=by
 intro γ s σ H Q I h
 obtain⟨v,e,h⟩:=h
 obtain⟨m,hn,hl⟩:=I.loc
 obtain⟨u,r,l⟩:=hl i x v hN e hv
 have fin:EP X γ σ Q u s:=⟨v,H,I,r,h⟩
 rcases l with ⟨hk,hm⟩|⟨hk,c,hc,hcell⟩
 ·exact wpAny_Name (wpAny_loadName_local I.ok.kind hk hn hm fin) hd
 ·rcases hk with hk|hk
  ·exact wpAny_Name (wpAny_loadName_cell I.ok.kind hk hc hcell fin) hd
  ·exact wpAny_Name (wpAny_loadName_free I.ok.kind hk hc hcell fin hcd) hd
def Cg{i j pos}:PE X (.Constant (.int i) j pos) (tC (.int i)):=fun _ _ _ H _ I h=>wpAny_Constant_int ⟨.int i,H,I.tok _,⟨_,rfl⟩,h⟩
def aa6{b j pos}:PE X (.Constant (.bool b) j pos) (tC (.bl b)):=fun _ _ _ H _ I h=>Constant_bool ⟨.bl b,H,I,rfl,h⟩
def Cd{j pos}:PE X (.Constant .none j pos) (tC .non):=fun _ _ _ H _ I h=>Constant_none ⟨.non,H,I,rfl,h⟩
def xF{x j pos}:PE X (.Constant (.str x) j pos) (tC (.str x)):=fun _ _ _ H _ I h=>Calls.Constant_str ⟨.str x,H,I.tok _,⟨_,rfl⟩,h⟩
def Gl(X:Cx)(x:Str):Prop:=X.env.kindOf x=some .globalImplicit
def xV{γ:QQz}{σ:St}{x:Str}{pos:Pos}(I:Inv X γ σ H s)(hg:Gl X x)(hm:X.mg x=some u)(h:Q u s)
  (hd:(x==("__debug__":Str))=false:=by decide):wpAny (model X.prog X.w) X.A (eval (.Name x pos) X.env) Q E s:=
 Calls.Name_function_global I.ok.kind hg (Calls.loadGlobal_global (by rw[I.ok.glob];exact I.mod.glob.keeps I.bk) hm h) hd
def jC{E:QZq}{s:Shared}{σ:St}{x:Str}{pos:Pos}(I:Inv X γ σ H s)(hg:Gl X x)(hm:X.mg x=none)(hv:bootBuiltins x=some u)(h:Q u s)
  (hn:x≠"__name__":=by decide)(hd:(x==("__debug__":Str))=false:=by decide):wpAny (model X.prog X.w) X.A (eval (.Name x pos) X.env) Q E s:=by
 obtain⟨mb,h1,h2⟩:=I.mod.blt
 exact Calls.Name_function_global I.ok.kind hg (Calls.loadGlobal_builtin (by rw[I.ok.glob];exact I.mod.glob.keeps I.bk) hm (by rw[I.ok.blt];exact h1.keeps I.bk) ((h2 x hn).trans hv) h) hd
def Ff{v:V}{pos:Pos}(hg:Gl X x)(hm:X.mg x=some u)(r:RelV v u)(hd:(x==("__debug__":Str))=false:=by decide):PE X (.Name x pos) (tC v):=
 fun _ _ _ H _ I h=>xV I hg hm ⟨v,H,I,r,h⟩ hd
def Rf{v:V}{pos:Pos}(hg:Gl X x)(hm:X.mg x=none)(hv:bootBuiltins x=some u)(r:RelV v u)(hn:x≠"__name__":=by decide)(hd:(x==("__debug__":Str))=false:=by decide):PE X (.Name x pos) (tC v):=
 fun _ _ _ H _ I h=>jC I hg hm hv ⟨v,H,I,r,h⟩ hn hd
noncomputable def t2I(ta tb:TE)(k:Int->Int->Hp->Prop):St->Hp->Prop:=fun σ H=>ta σ H fun x H1=>tb σ H1 fun y H2=>∃i j,x=.int i/\y=.int j/\k i j H2
def adS(ta tb:TE):TE:=fun σ H Q=>t2I ta tb (fun i j H2=>Q (.int (i+j)) H2) σ H
variable{a b:Expr}{ta tb:TE}{pos:Pos}
def WL(ha:PE X a ta)(hb:PE X b tb):PE X (.BinOp a .Add b pos) (adS ta tb):=by
 intro γ s σ H Q I h
 refine wpAny_BinOp (bin ha hb I h fun v u s2 x y H2 I2 rx ry q=>?_)
 obtain⟨i,j,rfl,rfl,q⟩:=q
 obtain⟨t,rfl⟩:=rx
 obtain⟨t',rfl⟩:=ry
 exact add_int ⟨.int _,H2,I2.tok _,⟨_,rfl⟩,q⟩
def PC(X:Cx)(op:CmpOp)(a b:Expr)(t:TE):Prop:=
 ∀(γ:QQz)(s:Shared)(σ:St)(H:Hp)(Q:VK),Inv X γ σ H s->t σ H Q->
  wpAny (model X.prog X.w) X.A (eval a X.env) (fun v θ=>wpAny (model X.prog X.w) X.A (eval b X.env) (fun u Δ=>wpAny (model X.prog X.w) X.A (compareOp op v u) (EP X γ σ Q) X.xe Δ) X.xe θ) X.xe s
def Lh(b:Expr){op:CmpOp}(h:op≠ .In)(h2:op≠ .NotIn):behindInMarks op b=false:=by
 have e1:(op==CmpOp.In)=false:=by cases op<;>first|rfl|exact absurd rfl h
 have e2:(op==CmpOp.NotIn)=false:=by cases op<;>first|rfl|exact absurd rfl h2
 cases b<;>simp[behindInMarks,e1,e2]
noncomputable def aap(p:Int->Int->Bool)(ta tb:TE):TE:=fun σ H Q=>t2I ta tb (fun i j H2=>Q (.bl (p i j)) H2) σ H
abbrev tLt:TE->TE->TE:=aap fun i j=>decide (i<j)
def WM{op:CmpOp}{p:Int->Int->Bool}(ha:PE X a ta)(hb:PE X b tb)
  (rule:∀(i j:Int)(t u:Tok)(Q:QZq)(s:Shared),Q (.bool (p i j)) s->wpAny (model X.prog X.w) X.A (compareOp op (.int i t) (.int j u)) Q X.xe s):PC X op a b (aap p ta tb):=by
 intro γ s σ H Q I h
 refine bin ha hb I h fun v u s2 x y H2 I2 rx ry q=>?_
 obtain⟨i,j,rfl,rfl,q⟩:=q
 obtain⟨t,rfl⟩:=rx
 obtain⟨t',rfl⟩:=ry
 exact rule i j t t' _ s2 ⟨.bl _,H2,I2,rfl,q⟩
def aa7(ha:PE X a ta)(hb:PE X b tb):PC X .Lt a b (tLt ta tb):=WM ha hb fun _ _ _ _ _ _ h=>lt_int h
def tB(t:TE):TT:=fun σ H Q=>t σ H fun x H1=>∃c,x=.bl c/\Q c H1
def Wu{op:CmpOp}{t:TE}(h:PC X op a b t)(h1:behindInMarks op b=false:=by first|exact Lh _ (by decide) (by decide)|rfl):PT X (.Compare a [op] [b] pos) (tB t):=by
 intro γ s σ H Q I hw
 refine wpAny_isTrue_Compare1 (cj (h γ s σ H _ I hw) fun v s1 h1=>cj h1 fun u s2 h2=>cj h2 fun c s3⟨x,H1,I1,r1,q1⟩=>?_) h1
 obtain⟨d,rfl,q⟩:=q1
 cases r1
 exact wpAny_truthy_bool ⟨H1,I1,q⟩
variable{tA tB':TT}{rest:List Expr}
def aas(t u:TT):TT:=fun σ H Q=>t σ H fun c H1=>if c=true then u σ H1 Q else Q false H1
def tOr(t u:TT):TT:=fun σ H Q=>t σ H fun c H1=>if c=true then Q true H1 else u σ H1 Q
def aal(t:TT):TT:=fun σ H Q=>t σ H fun c H1=>Q (!c) H1
def EY(ha:PT X a tA):PW X (.BoolOp .And [a] pos) tA:=by
 intro wh γ s σ H Q I h
 refine isTrue_and (cj (ha γ s σ H Q I h) fun c s1 e=>?_)
 cases c with
 |true=>exact isTrue_and_nil e
 |false=>exact e
def Wr(ha:PT X a tA):PW X (.BoolOp .Or [a] pos) tA:=by
 intro wh γ s σ H Q I h
 refine isTrue_or (cj (ha γ s σ H Q I h) fun c s1 e=>?_)
 cases c with
 |false=>exact isTrue_or_nil e
 |true=>exact e
def KJ(ha:PT X a tA)(hb:PW X (.BoolOp .And (b::rest) pos) tB'):PW X (.BoolOp .And (a::b::rest) pos) (aas tA tB'):=by
 intro wh γ s σ H Q I h
 refine isTrue_and (cj (ha γ s σ H _ I h) fun c s1⟨H1,I1,q1⟩=>?_)
 cases c with
 |true=>exact hb wh γ s1 σ H1 Q I1 q1
 |false=>exact⟨H1,I1,q1⟩
def aa1(ha:PT X a tA)(hb:PW X (.BoolOp .Or (b::rest) pos) tB'):PW X (.BoolOp .Or (a::b::rest) pos) (tOr tA tB'):=by
 intro wh γ s σ H Q I h
 refine isTrue_or (cj (ha γ s σ H _ I h) fun c s1⟨H1,I1,q1⟩=>?_)
 cases c with
 |true=>exact⟨H1,I1,q1⟩
 |false=>exact hb wh γ s1 σ H1 Q I1 q1
def KN(ha:PT X a tA):PT X (.UnaryOp .Not a pos) (aal tA):=by
 intro γ s σ H Q I h
 exact isTrue_not (ha γ s σ H _ I h)
noncomputable def aar(ta tb:TE):TE:=fun σ H Q=>ta σ H fun x H1=>∃c,x=.bl c/\if c=true then tb σ H1 Q else Q (.bl false) H1
noncomputable def adM(ta tb:TE):TE:=fun σ H Q=>ta σ H fun x H1=>∃c,x=.bl c/\if c=true then Q (.bl true) H1 else tb σ H1 Q
def K6{op}(h:PE X a t):PE X (.BoolOp op [a] pos) t:=fun γ s σ H Q I hw=>BoolOp_one (h γ s σ H Q I hw)
def WK(ha:PE X a ta)(hb:PE X (.BoolOp .And (b::rest) pos) tb):PE X (.BoolOp .And (a::b::rest) pos) (aar ta tb):=by
 intro γ s σ H Q I h
 refine BoolOp_and (cj (ha γ s σ H _ I h) fun v s1⟨x,H1,I1,r1,q1⟩=>?_)
 obtain⟨c,rfl,q1⟩:=q1
 cases r1
 refine wpAny_truthy_bool ?_
 cases c with
 |true=>exact hb γ s1 σ H1 Q I1 q1
 |false=>exact⟨.bl false,H1,I1,rfl,q1⟩
def aa4(ha:PE X a ta)(hb:PE X (.BoolOp .Or (b::rest) pos) tb):PE X (.BoolOp .Or (a::b::rest) pos) (adM ta tb):=by
 intro γ s σ H Q I h
 refine BoolOp_or (cj (ha γ s σ H _ I h) fun v s1⟨x,H1,I1,r1,q1⟩=>?_)
 obtain⟨c,rfl,q1⟩:=q1
 cases r1
 refine wpAny_truthy_bool ?_
 cases c with
 |false=>exact hb γ s1 σ H1 Q I1 q1
 |true=>exact⟨.bl true,H1,I1,rfl,q1⟩
noncomputable def tIf(t:TT)(ta tb:TE):TE:=fun σ H Q=>t σ H fun c H1=>if c=true then ta σ H1 Q else tb σ H1 Q
def sY(hc:PT X c tA)(ha:PE X a ta)(hb:PE X b tb):PE X (.IfExp c a b pos) (tIf tA ta tb):=by
 intro γ s σ H Q I h
 refine wpAny_IfExp (cj (hc γ s σ H _ I h) fun d s1⟨H1,I1,q1⟩=>?_)
 cases d with
 |true=>exact ha γ s1 σ H1 Q I1 q1
 |false=>exact hb γ s1 σ H1 Q I1 q1
end
def lG(K:QQq)(H:Hp)(a:Addr)(xs:List V):Prop:=
 Rd H a (.lst xs)\/
  ∃(o:Obj)(its:Array Value)(n:Nat),K.lookup a=some o/\o.cls=.type "list"/\o.dict=none/\o.data=.seq its n/\its.size<=sizeLine/\Vals xs its.toList
def j5(K:QQq)(H:Hp)(a:Addr)(xs:List V):Prop:=
 Rd H a (.tup xs)\/
  ∃(o:Obj)(its:Array Value)(n:Nat),K.lookup a=some o/\o.cls=.type "tuple"/\o.dict=none/\o.data=.seq its n/\its.size<=sizeLine/\Vals xs its.toList
noncomputable def af6:Value->Option V
 |.none=>some .non
 |.bool b=>some (.bl b)
 |.int i _=>some (.int i)
 |.str x _=>some (.str x)
 |.bytes b _=>some (.byt b)
 |.float b _=>some (.flt b)
 |.ref a=>some (.ref a)
 |.type n=>some (.ty n)
 |_=>none
def RelV.abs{u:Value}(r:RelV x u):af6 u=some x:=by
 cases x with
 |non=>cases r;rfl
 |bl _=>cases r;rfl
 |int _=>obtain⟨t,rfl⟩:=r;rfl
 |str _=>obtain⟨t,rfl⟩:=r;rfl
 |byt _=>obtain⟨t,rfl⟩:=r;rfl
 |flt _=>obtain⟨t,rfl⟩:=r;rfl
 |ref _=>cases r;rfl
 |ty _=>cases r;rfl
def RelV.inj{x y:V}{u:Value}(r:RelV x u)(q:RelV y u):x=y:=QDz (r.abs.symm.trans q.abs)
theorem Vals.inj:∀{xs ys:List V}{us:List Value},Vals xs us->Vals ys us->xs=ys
 |_,_,_,.nil,.nil=>rfl
 |_,_,_,.cons r t,.cons r' t'=>by rw[r.inj r',Vals.inj t t']
section
variable{X:Cx}{γ:QQz}{σ:St}{H:Hp}{s:Shared}{a:Addr}{xs ys:List V}
def Inv.list(I:Inv X γ σ H s)(h:lG X.K H a xs):∃its:List Value,Vals xs its/\PlainL s.heap a its.toArray/\xs.length<=sizeLine:=by
 rcases h with h|⟨o,its,n,hk,hc,hd,hs,hz,r⟩
 ·obtain⟨z,its,n,r,e⟩:=h.ok I.hok
  exact⟨its,r,⟨_,n,e,rfl,rfl,rfl⟩,z⟩
 ·refine⟨its.toList,r,⟨o,n,I.zT a o hk,hc,hd,by simpa using hs⟩,?_⟩
  have e:=r.length
  simp only[Array.length_toList]at e
  omega
def Inv.Bh(I:Inv X γ σ H s)(h:j5 X.K H a xs):∃its:List Value,Vals xs its/\TupOk s.heap a its.toArray/\xs.length<=sizeLine:=by
 rcases h with h|⟨o,its,n,hk,hc,hn,hs,hz,r⟩
 ·obtain⟨z,its,r,p⟩:=h.ok I.hok
  exact⟨its,r,p,z⟩
 ·refine⟨its.toList,r,⟨o,I.zT a o hk,hc,hn,n,by simpa using hs⟩,?_⟩
  have e:=r.length
  simp only[Array.length_toList]at e
  omega
def Inv.tuple(I:Inv X γ σ H s)(h:j5 X.K H a xs):∃its:List Value,Vals xs its/\IsTup s.heap a its.toArray/\xs.length<=sizeLine:=by
 obtain⟨its,r,p,z⟩:=I.Bh h
 exact⟨its,r,p.is,z⟩
def Inv.zO(I:Inv X γ σ H s)(h:lG X.K H a xs)(h':lG X.K H a ys):xs=ys:=by
 obtain⟨its,r,⟨o,n,e,_,_,d⟩,_⟩:=I.list h
 obtain⟨its',r',⟨o',n',e',_,_,d'⟩,_⟩:=I.list h'
 rw[e]at e';cases e'
 rw[d]at d'
 injection d' with d1 _
 have:its=its':=by simpa using congrArg Array.toList d1
 subst this
 exact r.inj r'
def Inv.vf(I:Inv X γ σ H s)(h:j5 X.K H a xs)(h':j5 X.K H a ys):xs=ys:=by
 obtain⟨its,r,⟨o,e,_,n,d⟩,_⟩:=I.tuple h
 obtain⟨its',r',⟨o',e',_,n',d'⟩,_⟩:=I.tuple h'
 rw[e]at e';cases e'
 rw[d]at d'
 injection d' with d1 _
 have:its=its':=by simpa using congrArg Array.toList d1
 subst this
 exact r.inj r'
end
abbrev Cx.wish(X:Cx)(E:QZq):Cx:={X with xe:=E}
abbrev Cx.qU(X:Cx):Cx:=X.wish fun _ _=>False
theorem Cx.Ok.wish{X:Cx}(ok:X.Ok)E:(X.wish E).Ok:=
 ⟨ok.mod,ok.kind,ok.glob,ok.blt,ok.above,ok.inj,ok.has,ok.cab,ok.hd,ok.frames,ok.stk,ok.exf,ok.bs,ok.bsz,ok.noex,ok.exfs,ok.mJ,ok.frf⟩
def Cx.Ok.j6{X:Cx}(ok:(X.wish E).Ok):X.Ok:=
 ⟨ok.mod,ok.kind,ok.glob,ok.blt,ok.above,ok.inj,ok.has,ok.cab,ok.hd,ok.frames,ok.stk,ok.exf,ok.bs,ok.bsz,ok.noex,ok.exfs,ok.mJ,ok.frf⟩
section
variable{X:Cx}{γ:QQz}{σ:St}{H:Hp}{s:Shared}{E:QZq}
theorem Inv.wish(I:Inv X γ σ H s)E:Inv (X.wish E) γ σ H s:=⟨I.ok.wish E,I.os,I.bare,I.base,I.loc,I.cell,I.free,I.freeC,I.pin,I.hok,I.len⟩
theorem Inv.j6(I:Inv (X.wish E) γ σ H s):Inv X γ σ H s:=⟨I.ok.j6,I.os,I.bare,I.base,I.loc,I.cell,I.free,I.freeC,I.pin,I.hok,I.len⟩
theorem SP.j6{f:Flow}(h:SP (X.wish E) γ D f s'):SP X γ D f s':=by
 cases f with
 |next=>obtain⟨ζ,H',I,q⟩:=h;exact⟨ζ,H',I.j6,q⟩
 |brk=>obtain⟨ζ,H',I,q⟩:=h;exact⟨ζ,H',I.j6,q⟩
 |cont=>obtain⟨ζ,H',I,q⟩:=h;exact⟨ζ,H',I.j6,q⟩
 |ret u=>obtain⟨v,ζ,H',I,r,q⟩:=h;exact⟨v,ζ,H',I.j6,r,q⟩
theorem uZ.qU{st:List Stmt}(h:uZ X.qU st t):uZ X st t:=fun γ s σ H D I hw=>
 QKz (h γ s σ H D (I.wish _) hw) (fun _ _ q=>q.j6) fun _ _ z=>False.elim z
end
section
variable{X:Cx}{st:Stmt}{rest:List Stmt}{t u:TS}{e:Expr}{te:TE}{pos:Pos}
def Ub:TS:=fun D σ H=>D.nx σ H
def j9(t u:TS):TS:=fun D σ H=>t {D with nx:=u D} σ H
def xu:uZ X [] Ub:=fun _ _ σ H _ I h=>wpAny_execs_nil ⟨σ,H,I,h⟩
def bY(h1:PS X st t)(h2:uZ X rest u):uZ X (st::rest) (j9 t u):=by
 intro γ s σ H D I h
 refine wpAny_execs_cons (cj (h1 γ s σ H {D with nx:=u D} I h) fun f s1 q=>?_)
 cases f with
 |next=>
  obtain⟨ζ,H',I',q⟩:=q
  exact h2 γ s1 ζ H' D I' q
 |ret v=>exact q
 |brk=>exact q
 |cont=>exact q
def jA(h1:PS X st t):uZ X [st] t:=by
 intro γ s σ H D I h
 refine wpAny_execs_cons (cj (h1 γ s σ H D I h) fun f s1 q=>?_)
 cases f with
 |next=>exact wpAny_execs_nil q
 |ret v=>exact q
 |brk=>exact q
 |cont=>exact q
def Inv.quiet{σ:St}{H:Hp}(I:Inv X γ σ H s):interactive X.env=false:=by simp[interactive,I.ok.kind]
def qd(te:TE):TS:=fun D σ H=>te σ H fun _ H1=>D.nx σ H1
def lQ(he:PE X e te)(hs:swapsWith e none pos.line X.env=pure false:=by rfl):PS X (.Expr e pos) (qd te):=by
 intro γ s σ H D I h
 exact wpAny_Expr_any (cj (he γ s σ H _ I h) fun v s1⟨x,H1,I1,r1,q1⟩=>⟨σ,H1,I1,q1⟩) I.quiet hs
def Ql(te:TE):TS:=fun D σ H=>te σ H D.rt
def iT(he:PE X e te):PS X (.Return (some e) pos) (Ql te):=by
 intro γ s σ H D I h
 exact wpAny_Return_some (cj (he γ s σ H _ I h) fun v s1⟨x,H1,I1,r1,q1⟩=>⟨x,σ,H1,I1,r1,q1⟩)
def aai:TS:=fun D _ H=>D.rt .non H
def Q0:PS X (.Return none pos) aai:=fun _ _ σ H _ I h=>wpAny_Return_none ⟨.non,σ,H,I,rfl,h⟩
def aam(c:TT)(t u:TS):TS:=fun D σ H=>c σ H fun b H1=>if b=true then t D σ H1 else u D σ H1
def KR{a b:List Stmt}(hc:PT X c tc)(ha:uZ X a t)(hb:uZ X b u):PS X (.If c a b pos) (aam tc t u):=by
 intro γ s σ H D I h
 refine wpAny_If (cj (hc γ s σ H _ I h) fun d s1⟨H1,I1,q1⟩=>?_)
 cases d with
 |true=>exact ha γ s1 σ H1 D I1 q1
 |false=>exact hb γ s1 σ H1 D I1 q1
end
abbrev TG:=V->St->Hp->(St->Hp->Prop)->Prop
abbrev YJ:=List V->St->Hp->(St->Hp->Prop)->Prop
def PG(X:Cx)(target:Expr)(t:TG):Prop:=
 ∀(γ:QQz)(s:Shared)(σ:St)(H:Hp)(v:V)(u:Value)(Q:St->Hp->Prop),Inv X γ σ H s->RelV v u->t v σ H Q->
  wpAny (model X.prog X.w) X.A (assign target X.env u) (fun _ s'=>∃ζ H',Inv X γ ζ H' s'/\Q ζ H') X.xe s
def PGs(X:Cx)(ts:List Expr)(t:YJ):Prop:=
 ∀(γ:QQz)(s:Shared)(σ:St)(H:Hp)(vs:List V)(us:List Value)(Q:St->Hp->Prop),Inv X γ σ H s->Vals vs us->t vs σ H Q->
  wpAny (model X.prog X.w) X.A (assignInOrder ((assignEach ts X.env).map (·.2)) us) (fun _ s'=>∃ζ H',Inv X γ ζ H' s'/\Q ζ H') X.xe s
abbrev aci:=V->V->V->Hp->(Hp->Prop)->Prop
def Tp(X:Cx)(t:aci):Prop:=
 ∀(γ:QQz)(s:Shared)(σ:St)(H:Hp)(o i v:V)(ov iv u:Value)(Q:Hp->Prop),Inv X γ σ H s->RelV o ov->RelV i iv->RelV v u->t o i v H Q->
  wpAny (model X.prog X.w) X.A (setItem ov iv u) (fun _ s'=>∃H',Inv X γ σ H' s'/\Q H') X.xe s
section
variable{X:Cx}{pos:Pos}
def oU(i:Nat):TG:=fun v σ H Q=>Q (σ.set i (some v)) H
def Q7{x:Str}(hN:X.N.Nodup)(hi:X.N[i]? =some x)(hx:Loc X.env.scope x)(hf:X.fn x=true\/X.env.scope.names.lookup x=some .local:=by first|exact .inl rfl|exact .inr rfl|assumption):PG X (.Name x pos) (oU i):=by
 intro γ s σ H v u Q I r h
 exact wpAny_assign_Name (za I hN hi hx r (fun s' I'=>⟨_,H,I',h⟩) hf)
def afx:YJ:=fun vs σ H Q=>vs=[]/\Q σ H
def abQ(t:TG)(u:YJ):YJ:=fun vs σ H Q=>∃v r,vs=v::r/\t v σ H fun ζ H'=>u r ζ H' Q
def Q6:PGs X [] afx:=by
 intro γ s σ H vs us Q I r h
 obtain⟨e,h⟩:=h
 subst e
 cases r
 exact assignInOrder_nil ⟨σ,H,I,h⟩
theorem K3{es:List Expr}{u:YJ}(h1:PG X e t)(h2:PGs X es u)
  (hs:(assignEach (e::es) X.env).map (·.2)=assign e X.env::(assignEach es X.env).map (·.2):=by rfl):PGs X (e::es) (abQ t u):=by
 intro γ s σ H vs us Q I r h
 obtain⟨v,vr,e1,h⟩:=h
 subst e1
 cases r with
 |cons r rr=>
  rw[hs]
  exact assignInOrder_cons (cj (h1 γ s σ H _ _ _ I r h) fun _ s1⟨ξ,H1,I1,q1⟩=>h2 γ s1 ξ H1 _ _ Q I1 rr q1)
noncomputable def afv(K:QQq)(n:Nat)(t:YJ):TG:=fun v σ H Q=>∃a xs,v=.ref a/\j5 K H a xs/\xs.length=n/\t xs σ H Q
def Wy{k:Nat}{t:YJ}(hc:X.calm=true)(h:PGs X es t)
  (hn:(assignEach es X.env).length=n:=by rfl)(hst:(assignEach es X.env).findIdx? (·.1)=none:=by rfl):PG X (.Tuple es k pos) (afv X.K n t):=by
 intro γ s σ H v u Q I r hw
 obtain⟨a,xs,e1,hq,hl,hw⟩:=hw
 subst e1
 cases r
 obtain⟨its,rv,ht,hz⟩:=I.tuple hq
 exact assign_Tuple_tuple (I.ok.hd hc) ht (by simp[hn,<-hl,rv.length]) hst fun h' hx=>h γ _ σ H xs _ Q (I.kept (t':=s.toks) fun b o e=>hx b o (Qvq (Qqq e)) e) (by simpa using rv) hw
noncomputable def afw(to ti:TE)(t:aci):TG:=fun v σ H Q=>to σ H fun o H1=>ti σ H1 fun i H2=>t o i v H2 fun H3=>Q σ H3
def Wz{to ti:TE}(ho:PE X o to)(hi:PE X i ti)(hs:Tp X t)
  (ha:∀v,assign (.Subscript o i pos) X.env v=(do
   let ov<-holding [v] (eval o X.env)
   let iv<-holding [v,ov] (eval i X.env)
   standAt pos
   holding [v,ov,iv] (setItem ov iv v)
   release [v,ov,iv] []):=by intro _;rfl):PG X (.Subscript o i pos) (afw to ti t):=by
 intro γ s σ H v u Q I r h
 refine QTz (QGz (cj (ho γ s σ H _ I h) fun ov s1⟨x,H1,I1,r1,q1⟩=>?_))
 exact QTz (QGz (cj (hi γ s1 σ H1 _ I1 q1) fun iv s2⟨y,H2,I2,r2,q2⟩=>QTz (wpAny_standAt (QTz (QGz (cj (hs γ s2 σ H2 x y v ov iv u _ I2 r1 r2 r q2) fun _ s3⟨H3,I3,q3⟩=>wpAny_release ⟨σ,H3,I3,q3⟩))))))
def wY(te:TE)(g:TG):TS:=fun D σ H=>te σ H fun x H1=>g x σ H1 D.nx
def KY{te:TE}(he:PE X e te)(hg:PG X tg g)(hs:swapsWithSole [tg] e pos.line X.env=pure false:=by rfl)(hw:swappedStores [tg] e X.env=pure none:=by rfl)
  (h1:(assignEach [tg] X.env).map (·.2)=[assign tg X.env]:=by rfl):PS X (.Assign [tg] e pos) (wY te g):=by
 intro γ s σ H D I h
 refine wpAny_Assign_stores (cj (he γ s σ H _ I h) fun v s1⟨x,H1,I1,r1,q1⟩=>?_) hs hw
 rw[h1]
 exact cj (hg γ s1 σ H1 x v _ I1 r1 q1) fun _ s2 q=>q
def sU{x:Str}{te:TE}(hN:X.N.Nodup)(hi:X.N[i]? =some x)(hx:Loc X.env.scope x)(he:PE X e te)(hs:swapsWith e (some (.Name x pos')) pos.line X.env=pure false:=by rfl)(hf:X.fn x=true\/X.env.scope.names.lookup x=some .local:=by first|exact .inl rfl|exact .inr rfl|assumption):
  PS X (.Assign [.Name x pos'] e pos) (wY te (oU i)):=by
 intro γ s σ H D I h
 exact wpAny_Assign_Name (cj (he γ s σ H _ I h) fun v s1⟨y,H1,I1,r1,q1⟩=>za I1 hN hi hx r1 (fun s2 I2=>⟨_,H1,I2,q1⟩) hf) hs
end
section
variable{X:Cx}{pos:Pos}
noncomputable def JS(c:TT)(tb:TS):TS:=fun D σ H=>∃W:Nat->St->Hp->Prop,(∃m,W m σ H)/\∀m σ H,W m σ H->
 c σ H fun b H1=>if b=true then∃N:St->Hp->Prop,(∀ζ H',N ζ H'->∃m',m'<m/\W m' ζ H')/\tb {D with nx:=N,ct:=N,bk:=D.nx} σ H1 else D.nx σ H1
def zB{body:List Stmt}{tb:TS}(hp:PassesOwn (model X.prog X.w) X.A X.env X.xe)(hc:PT X c tc)(hb:uZ X body tb):PS X (.While c body [] pos) (JS tc tb):=by
 intro γ s σ H D I h
 obtain⟨W,⟨m0,w0⟩,turn⟩:=h
 refine wpAny_While (codeAny_whileLoop (fun n s'=>∃ζ H',Inv X γ ζ H' s'/\W n ζ H') ?_ m0 ⟨σ,H,I,w0⟩)
 rintro n s1 ⟨ξ,H1,I1,w1⟩
 refine wpAny_passesOwn hp (cj (hc γ s1 ξ H1 _ I1 (turn n ξ H1 w1)) fun b s2⟨H2,I2,q2⟩=>?_)
 cases b with
 |true=>
  obtain⟨N,hN,q2⟩:=q2
  refine wpAny_passesOwn hp (cj (hb γ s2 ξ H2 _ I2 q2) fun f s3 q3=>?_)
  cases f with
  |next=>
   obtain⟨σ3,H3,I3,n3⟩:=q3
   obtain⟨m',hm,w3⟩:=hN σ3 H3 n3
   exact⟨m',hm,σ3,H3,I3,w3⟩
  |cont=>
   obtain⟨σ3,H3,I3,n3⟩:=q3
   obtain⟨m',hm,w3⟩:=hN σ3 H3 n3
   exact⟨m',hm,σ3,H3,I3,w3⟩
  |brk=>exact q3
  |ret v=>exact q3
 |false=>
  exact wpAny_execs_nil ⟨ξ,H2,I2,q2⟩
end
structure It where
 go:Nat->Hp->Prop
 yld:Nat->Hp->V->Hp->Prop
 stop:Nat->Hp->Prop
def eE(X:Cx)(γ:QQz)(H:Hp)(b:Addr):Prop:=
 H b=none/\b≠X.env.locals/\b∉X.fs/\(b∈X.ex\/X.s₀.heap.objs.size<=b)/\(∀x c,X.env.cells.lookup x=some c->c≠b)/\∀p∈X.pn++γ,p.1≠b
def Inv.uW{X:Cx}{σ:St}{H H':Hp}{b:Addr}(I:Inv X γ σ H s)(hb:s.heap.objs.size<=b)(hn:H' b=none):eE X γ H' b:=by
 refine⟨hn,Nat.ne_of_gt (Qwz I.lt hb),I.aeI hb,.inr (Nat.le_trans I.sz hb),fun x c e z=>?_,fun p hp z=>?_⟩
 ·obtain⟨v,q⟩:=I.cell x c e
  exact absurd (Qwz q.lt (by rw[z];exact hb)) (Nat.lt_irrefl _)
 ·exact absurd (Qwz (Qqq (I.pin p hp).1) (by rw[z];exact hb)) (Nat.lt_irrefl _)
structure Turn(P:Program)(w:World)(K:QQq)(tg:Expr)(J:It)(fp:List Addr)(it:Addr)(tn:Nat->Heap->Prop):Prop where
 mem:it∈fp
 obj:∀i h,tn i h->∀b∈fp,∃o,h.get? b=some o/\∀v,o.data≠ .cell v
 keep:∀i h h',tn i h->(∀b∈fp,∀o,h.get? b=some o->h'.get? b=some o)->tn i h'
 item:∀(X:Cx),X.prog=P->X.w=w->X.K=K->X.calm=true->∀(i:Nat)(γ:QQz)(s:Shared)(σ:St)(H:Hp)(E:QZq),Inv X γ σ H s->(∀b∈fp,eE X γ H b)->tn i s.heap->J.go i H->
  wpAny (model P w) X.A (pyNext (.ref it)) (fun r s1=>∃u,r=some u/\
   wpAny (model P w) X.A (letOwnedTupleGo tg (.ref it) u) (fun _ s2=>∃x H',Inv X γ σ H' s2/\RelV x u/\J.yld i H x H'/\tn (i+1) s2.heap/\∀b∈fp,H' b=none) E s1) E s
 done:∀(X:Cx),X.prog=P->X.w=w->X.K=K->X.calm=true->∀(i:Nat)(γ:QQz)(s:Shared)(σ:St)(H:Hp)(E:QZq),Inv X γ σ H s->(∀b∈fp,eE X γ H b)->tn i s.heap->J.stop i H->
  wpAny (model P w) X.A (pyNext (.ref it)) (fun r s1=>r=none/\Inv X γ σ H s1) E s
 self:∀(A:Around)(i:Nat)(s:Shared)(Q:QZq)(E:QZq),tn i s.heap->Q (.ref it) s->wpAny (model P w) A (pyIter (.ref it)) Q E s
abbrev TI:=St->Hp->(It->Hp->Prop)->Prop
def PIE(X:Cx)(γ:QQz)(σ:St)(tg:Expr)(R:It->Hp->Prop)(itv:Value)(s2:Shared):Prop:=
 ∃(it:Addr)(fp:List Addr)(tn:Nat->Heap->Prop)(J:It)(H':Hp),itv=.ref it/\Inv X γ σ H' s2/\Turn X.prog X.w X.K tg J fp it tn/\tn 0 s2.heap/\(∀b∈fp,eE X γ H' b)/\R J H'
def PI(X:Cx)(tg iter:Expr)(wi:TI):Prop:=
 ∀(γ:QQz)(s:Shared)(σ:St)(H:Hp)(R:It->Hp->Prop),Inv X γ σ H s->wi σ H R->
  wpAny (model X.prog X.w) X.A (eval iter X.env) (fun v s1=>wpAny (model X.prog X.w) X.A (pyIter v) (PIE X γ σ tg R) X.xe s1) X.xe s
def zZ {A : Around} {s : Shared} {it : Addr} {o : Obj} {vs : Array Value} (ho : s.heap.get? it = some o) (hc : o.cls = .type n) (hd : o.data = .fields vs)
    (hn : ["enumerate", "zip", "dict_itemiterator", "dict_reverseitemiterator", "odict_iterator", "itertools.zip_longest", "itertools.pairwise"].contains n = false) (hQ : Q () s) : wpAny M A (letOwnedTupleGo tg (.ref it) u) Q E s := by
  cases tg <;> first
    | exact QKq hQ
    | (cases u <;> first
        | exact QKq hQ
        | (refine QTz (wpAny_load ho ?_)
           rw [hc, hd]
           show wpAny M A (if _ = true then _ else _) Q E s
           rw [if_neg (by intro h; rw [hn, Bool.false_and] at h; cases h)]
           exact QKq hQ))
noncomputable def Itl(K:QQq)(a:Addr):It:=
 ⟨fun i H=>∃xs x,lG K H a xs/\xs[i]? =some x,fun i H x H'=>H'=H/\∀xs,lG K H a xs->xs[i]? =some x,fun i H=>∃xs,lG K H a xs/\xs.length<=i⟩
noncomputable def Itt(K:QQq)(a:Addr):It:=
 ⟨fun i H=>∃xs x,j5 K H a xs/\xs[i]? =some x,fun i H x H'=>H'=H/\∀xs,j5 K H a xs->xs[i]? =some x,fun i H=>∃xs,j5 K H a xs/\xs.length<=i⟩
noncomputable def Itr(lo:Int)(n:Nat):It:=⟨fun i _=>i<n,fun i H x H'=>H'=H/\x=.int (lo+i),fun i _=>n<=i⟩
theorem o7{w:World}{K:QQq}a it:Turn P w K tg (Itl K a) [it] it (fun i h=>h.IsListIter it a i) where
 mem:=by simp
 obj:=fun i h st b hb=>by
  have e:b=it:=by simpa using hb
  subst e
  obtain⟨o,e,c,d⟩:=st
  exact⟨o,e,fun v z=>by rw[d]at z;cases z⟩
 keep:=fun i h h' st k=>st.at fun o e=>k it (by simp) o e
 item:=by
  intro X hP hw hK hc i γ s σ H E I hf st hg
  subst hP hw hK
  obtain⟨xs,x,hq,hx⟩:=hg
  obtain⟨its,rv,p,hz⟩:=I.list hq
  obtain⟨u,hu,ru⟩:=rv.get hx
  obtain⟨f0,f1,f2,f3,f4,f5⟩:=hf it (by simp)
  refine wpAny_pyNext_list_item st p.isList (by simpa using hu) fun h' st' sb=>?_
  obtain⟨o,e,c,d⟩:=id st'
  exact⟨u,rfl,zZ e c d (by decide) ⟨x,H,I.turned (t':=s.toks) (fun b o hb e=>(sb.2 b hb).trans e) f0 f1 f3 f4 f5,ru,⟨rfl,fun ys hy=>by rw[I.zO hy hq];exact hx⟩,st',fun b hb=>(hf b hb).1⟩⟩
 done:=by
  intro X hP hw hK hc i γ s σ H E I hf st hg
  subst hP hw hK
  obtain⟨xs,hq,hx⟩:=hg
  obtain⟨its,rv,p,hz⟩:=I.list hq
  obtain⟨f0,f1,f2,f3,f4,f5⟩:=hf it (by simp)
  have hl:=rv.length
  exact wpAny_pyNext_list_end (I.ok.hd hc) st p.isList (by simp;omega) fun h' eb=>⟨rfl,I.turned (fun b o hb e=>eb b o hb e) f0 f1 f3 f4 f5⟩
 self:=fun _ _ _ _ _ st h=>wpAny_pyIter_listiter st h
theorem Bf{w:World}{K:QQq}a it:Turn P w K tg (Itt K a) [it] it (fun i h=>h.IsTupleIter it a i) where
 mem:=by simp
 obj:=fun i h st b hb=>by
  have e:b=it:=by simpa using hb
  subst e
  obtain⟨o,e,c,d⟩:=st
  exact⟨o,e,fun v z=>by rw[d]at z;cases z⟩
 keep:=fun i h h' st k=>st.at fun o e=>k it (by simp) o e
 item:=by
  intro X hP hw hK hc i γ s σ H E I hf st hg
  subst hP hw hK
  obtain⟨xs,x,hq,hx⟩:=hg
  obtain⟨its,rv,p,hz⟩:=I.tuple hq
  obtain⟨u,hu,ru⟩:=rv.get hx
  obtain⟨f0,f1,f2,f3,f4,f5⟩:=hf it (by simp)
  refine wpAny_pyNext_tuple_item st (p) (by simpa using hu) fun h' st' sb=>?_
  obtain⟨o,e,c,d⟩:=id st'
  exact⟨u,rfl,zZ e c d (by decide) ⟨x,H,I.turned (t':=s.toks) (fun b o hb e=>(sb.2 b hb).trans e) f0 f1 f3 f4 f5,ru,⟨rfl,fun ys hy=>by rw[I.vf hy hq];exact hx⟩,st',fun b hb=>(hf b hb).1⟩⟩
 done:=by
  intro X hP hw hK hc i γ s σ H E I hf st hg
  subst hP hw hK
  obtain⟨xs,hq,hx⟩:=hg
  obtain⟨its,rv,p,hz⟩:=I.tuple hq
  obtain⟨f0,f1,f2,f3,f4,f5⟩:=hf it (by simp)
  have hl:=rv.length
  exact wpAny_pyNext_tuple_end (I.ok.hd hc) st (p) (by simp;omega) fun h' eb=>⟨rfl,I.turned (fun b o hb e=>eb b o hb e) f0 f1 f3 f4 f5⟩
 self:=fun _ _ _ _ _ st h=>wpAny_pyIter_tupleiter st h
theorem Bg{w:World}{K:QQq}it lo n:Turn P w K tg (Itr lo n) [it] it (fun i h=>IsRangeIter h it (lo+(i:Nat)*1) ((n:Int)- (i:Nat)) 1) where
 mem:=by simp
 obj:=fun i h st b hb=>by
  have e:b=it:=by simpa using hb
  subst e
  exact⟨_,st,fun v z=>by
   cases z⟩
 keep:=fun i h h' st k=>k it (by simp) _ st
 item:=by
  intro X hP hw hK hc i γ s σ H E I hf st hg
  subst hP hw hK
  obtain⟨f0,f1,f2,f3,f4,f5⟩:=hf it (by simp)
  refine(Walks.range (prog:=X.prog) (w:=X.w) (I.ok.hd hc) it lo 1 n).item i s _ _ hg st fun v h' tk hv st' kk=>?_
  obtain⟨t,rfl⟩:=hv
  refine⟨_,rfl,zZ st' rfl rfl (by decide) ⟨.int _,H,(I.turned (fun b o hb e=>kk b o (by simpa using hb) e) f0 f1 f3 f4 f5),⟨t,?_⟩,⟨rfl,rfl⟩,st',fun b hb=>(hf b hb).1⟩⟩
  rw[Int.mul_one]
 done:=by
  intro X hP hw hK hc i γ s σ H E I hf st hg
  obtain⟨f0,f1,f2,f3,f4,f5⟩:=hf it (by simp)
  exact wpAny_pyNext_range_end (I.ok.hd hc) st (by have:n<=i:=hg;omega) fun h' eb=>⟨rfl,I.turned (fun b o hb e=>eb b o hb e) f0 f1 f3 f4 f5⟩
 self:=fun _ _ _ _ _ st h=>wpAny_pyIter_rangeiter st h
section
variable{X:Cx}{tg:Expr}
def Ks{σ:St}{H:Hp}{R:It->Hp->Prop}{lo hi:Int}{tk:Nat}(I:Inv X γ σ H s)(h1: -(2 ^62)<=lo)(h2:lo<2 ^62)(h3: -(2 ^62)<=hi)(h4:hi<2 ^62)
  (q:R (Itr lo (hi-lo).toNat) H):wpAny (model X.prog X.w) X.A (pyIter (.ref s.heap.objs.size)) (PIE X γ σ tg R) E {s with heap:=s.heap.push {cls:=.type "range",data:=.fields #[.int lo t,.int hi u,.int 1 v]},toks:=tk}:=by
 refine wpAny_pyIter_range (IsRange.new ..) (small_one h1 h2 h3 h4) ?_
 have I1:Inv X γ σ H {s with heap:=s.heap.push {cls:=.type "range",data:=.fields #[.int lo t,.int hi u,.int 1 v]},toks:=tk}:=I.kept fun b o e=>QWq _ e
 refine⟨(s.heap.push {cls:=.type "range",data:=.fields #[.int lo t,.int hi u,.int 1 v]}).objs.size,[(s.heap.push {cls:=.type "range",data:=.fields #[.int lo t,.int hi u,.int 1 v]}).objs.size],_,_,H,rfl,
  I1.kept fun b o e=>QWq _ e,Bg _ lo (hi-lo).toNat,?_,fun b hb=>?_,q⟩
 ·have e1:lo+((0:Nat))*1=lo:=by simp
  have e2:(((hi-lo).toNat:Nat))- ((0:Nat))=Builtin.Range.rangeSize lo hi 1:=by rw[rangeSize_one];split<;>omega
  rw[e1,e2]
  exact Qqz _ rfl
 ·have e:b=(s.heap.push {cls:=.type "range",data:=.fields #[.int lo t,.int hi u,.int 1 v]}).objs.size:=by simpa using hb
  subst e
  exact I1.uW (QVz _) (I1.hok.fresh (QVz _))
noncomputable def abI(ta:TA):TI:=fun σ H R=>ta σ H fun vs H1=>∃j:Int,vs=[.int j]/\ -(2 ^62)<=j/\j<2 ^62/\R (Itr 0 j.toNat) H1
def HB{ta:TA}(hg:Gl X "range")(hm:X.mg "range"=none)(ha:PA X [a] ta)(hs:starEach [a] X.env=[(false,eval a X.env)]:=by rfl):PI X tg (.Call (.Name "range" p) [a] [] pos) (abI ta):=by
 intro γ s σ H R I h
 refine Call_ (jC I hg hm boot_range (PyProof.Rows.callWith_type1 (cj (ha pos γ s σ H _ I h) fun us s1⟨vs,H1,I1,r1,q1⟩=>?_) hs rfl))
 obtain⟨j,e,q1,q2,q⟩:=q1
 subst e
 cases r1 with
 |cons r rr=>
  cases rr
  obtain⟨t,rfl⟩:=r
  exact call_range_1 (Ks I1 (by omega) (by omega) q1 q2 (by simpa using q))
noncomputable def adP(wi:TI)(g:TG)(tb:TS):TS:=fun D σ H=>wi σ H fun J H1=>∃W:Nat->Nat->St->Hp->Prop,(∃m,W 0 m σ H1)/\∀i m σ H,W i m σ H->
 (J.stop i H/\D.nx σ H)\/(J.go i H/\∃N:St->Hp->Prop,(∀ζ H',N ζ H'->∃m',m'<m/\W (i+1) m' ζ H')/\∀x H',J.yld i H x H'->g x σ H' fun υ H2=>tb {D with nx:=N,ct:=N,bk:=D.nx} υ H2)
noncomputable def sW(fp:List Addr)(h:Heap):List (Addr×Obj):=fp.filterMap fun b=>(h.get? b).map fun o=>(b,o)
def jB{h:Heap}{o:Obj}(hb:b∈fp)(e:h.get? b=some o):(b,o)∈sW fp h:=List.mem_filterMap.mpr ⟨b,hb,by rw[e];rfl⟩
def HN{h:Heap}(hp:p∈sW fp h):p.1∈fp/\h.get? p.1=some p.2:=by
 obtain⟨b,hb,e⟩:=List.mem_filterMap.mp hp
 cases q:h.get? b with
 |none=>rw[q]at e;cases e
 |some o=>
  rw[q]at e
  have e':=QDz e
  subst e'
  exact⟨hb,q⟩
def Inv.pinned{σ:St}{s:Shared}(I:Inv X γ σ H s)(hf:∀b∈fp,eE X γ H b)(ho:∀b∈fp,∃o,s.heap.get? b=some o/\∀v,o.data≠ .cell v):Inv X (γ++sW fp s.heap) σ H s:=
 I.xx fun p hp=>(QXz.mp hp).elim (fun z=>I.pin p (QVq _ z)) fun z=>by
  obtain⟨hb,e⟩:=HN z
  obtain⟨f0,f1,f2,_⟩:=hf p.1 hb
  obtain⟨o,e',d⟩:=ho p.1 hb
  rw[e]at e';cases e'
  exact⟨e,f0,f1,f2,d⟩
def Inv.dJ{σ:St}{H:Hp}(I:Inv X (γ++pl) σ H s):Inv X γ σ H s:=I.xx fun p hp=>I.pin p (QVq _ (QWz _ hp))
theorem Ww{body:List Stmt}{g:TG}{pos:Pos}(hp:PassesOwn (model X.prog X.w) X.A X.env X.xe)(hc:X.calm=true)(hi:PI X tg iter wi)(hg:PG X tg g)(hb:uZ X body tb)
  (hs:∀x,foldedSetIterable iter X.env x=pure x:=by intro _;rfl):PS X (.For tg iter body [] pos) (adP wi g tb):=by
 intro γ s σ H D I h
 refine wpAny_For (cj (hi γ s σ H _ I h) fun v s1 h1=>cj h1 fun itv s2 h2=>?_) hs
 obtain⟨it,fp,tn,J,H2,e,I2,T,st2,f2,W,⟨m0,w0⟩,turn⟩:=h2
 subst e
 have stat:∀{H':Hp},(∀b∈fp,H' b=none)->∀b∈fp,eE X γ H' b:=fun hn b hb=>⟨hn b hb,(f2 b hb).2⟩
 refine codeAny_forLoop_any (fun n s'=>∃i ζ H',Inv X γ ζ H' s'/\tn i s'.heap/\(∀b∈fp,H' b=none)/\W i n ζ H') ?_ m0 ⟨0,σ,H2,I2,st2,fun b hb=>(f2 b hb).1,w0⟩
 rintro n s3 ⟨i,σ3,H3,I3,st3,fr3,w3⟩
 rcases turn i n σ3 H3 w3 with ⟨stop,qn⟩|⟨go,N,hN,step⟩
 ·refine wpAny_passesOwn hp (cj (T.done X rfl rfl rfl hc i γ s3 σ3 H3 X.xe I3 (stat fr3) st3 stop) fun r s4⟨hr,I4⟩=>?_)
  subst hr
  exact wpAny_execs_nil ⟨σ3,H3,I4,qn⟩
 ·refine wpAny_passesOwn hp (cj (T.item X rfl rfl rfl hc i γ s3 σ3 H3 X.xe I3 (stat fr3) st3 go) fun r s4⟨u,hr,h4⟩=>?_)
  subst hr
  refine wpAny_passesOwn hp (cj h4 fun _ s5⟨x,H5,I5,r5,y5,st5,fr5⟩=>?_)
  refine wpAny_passesOwn hp (cj (hg _ s5 σ3 H5 x u _ (I5.pinned (stat fr5) (T.obj _ _ st5)) r5 (step x H5 y5)) fun _ s6⟨σ6,H6,I6,q6⟩=>?_)
  refine wpAny_passesOwn hp (cj (hb _ s6 σ6 H6 _ I6 q6) fun f s7 q7=>?_)
  have again:∀{σ7:St}{H7:Hp},Inv X _ σ7 H7 s7->N σ7 H7->∃m,m<n/\∃i ζ H',Inv X γ ζ H' s7/\tn i s7.heap/\(∀b∈fp,H' b=none)/\W i m ζ H':=fun{σ7 H7}I7 n7=>by
   obtain⟨m',hm,w7⟩:=hN σ7 H7 n7
   refine⟨m',hm,i+1,σ7,H7,I7.dJ,T.keep _ _ _ st5 fun b hb o e=>(I7.pin (b,o) (QVq _ (QVq _ (jB hb e)))).1,fun b hb=>?_,w7⟩
   obtain⟨o,e,d⟩:=T.obj _ _ st5 b hb
   exact(I7.pin (b,o) (QVq _ (QVq _ (jB hb e)))).2.1
  cases f with
  |next=>obtain⟨σ7,H7,I7,n7⟩:=q7;exact again I7 n7
  |cont=>obtain⟨σ7,H7,I7,n7⟩:=q7;exact again I7 n7
  |brk=>obtain⟨σ7,H7,I7,q7⟩:=q7;exact⟨σ7,H7,I7.dJ,q7⟩
  |ret v=>obtain⟨x7,σ7,H7,I7,r7,q7⟩:=q7;exact⟨x7,σ7,H7,I7.dJ,r7,q7⟩
end
abbrev R2:=V->V->Hp->VK->Prop
def gZ(X:Cx)(f:Value->Value->Sem Value)(r:R2):Prop:=
 ∀(γ:QQz)(s:Shared)(σ:St)(H:Hp)(x y:V)(v u:Value)(Q:VK),Inv X γ σ H s->RelV x v->RelV y u->r x y H Q->
  wpAny (model X.prog X.w) X.A (f v u) (EP X γ σ Q) X.xe s
def UnR(X:Cx)(f:Value->Sem Value)(r:V->Hp->VK->Prop):Prop:=
 ∀(γ:QQz)(s:Shared)(σ:St)(H:Hp)(x:V)(v:Value)(Q:VK),Inv X γ σ H s->RelV x v->r x H Q->
  wpAny (model X.prog X.w) X.A (f v) (EP X γ σ Q) X.xe s
def gP(X:Cx)(f:Value)(r:List V->Hp->VK->Prop):Prop:=
 ∀(γ:QQz)(s:Shared)(σ:St)(H:Hp)(xs:List V)(us:List Value)(Q:VK),Inv X γ σ H s->Vals xs us->r xs H Q->
  wpAny (model X.prog X.w) X.A (call f us) (EP X γ σ Q) X.xe s
def af9(X:Cx)(r:V->Hp->(Bool->Hp->Prop)->Prop):Prop:=
 ∀(γ:QQz)(s:Shared)(σ:St)(H:Hp)(x:V)(v:Value)(Q:Bool->Hp->Prop),Inv X γ σ H s->RelV x v->r x H Q->
  wpAny (model X.prog X.w) X.A (truthy v) (TP X γ σ Q) X.xe s
def Ua(r:R2)(ta tb:TE):TE:=fun σ H Q=>ta σ H fun x H1=>tb σ H1 fun y H2=>r x y H2 Q
def tUn(r:V->Hp->VK->Prop)(ta:TE):TE:=fun σ H Q=>ta σ H fun x H1=>r x H1 Q
noncomputable def rI(C:Int->Int->Prop)(g:Int->Int->V):R2:=fun x y H Q=>∃i j,x=.int i/\y=.int j/\C i j/\Q (g i j) H
def KH(g:Int->Int->V):R2:=fun x y H Q=>∃i j,x=.int i/\y=.int j/\Q (g i j) H
def rU(g:Int->V):V->Hp->VK->Prop:=fun x H Q=>∃i,x=.int i/\Q (g i) H
section
variable{X:Cx}{a b c:Expr}{ta tb tc:TE}{pos:Pos}
def Yw(ha:PE X a ta)(hb:PE X b tb){s:Shared}{σ:St}{R:V->V->Hp->Prop}(I:Inv X γ σ H s)
  (h:ta σ H fun x H1=>tb σ H1 fun y H2=>R x y H2){f:Value->Value->Sem Value}
  (hf:∀v u s2 x y H2,Inv X γ σ H2 s2->RelV x v->RelV y u->R x y H2->wpAny (model X.prog X.w) X.A (f v u) Q X.xe s2):
  wpAny (model X.prog X.w) X.A (eval a X.env) (fun v θ=>wpAny (model X.prog X.w) X.A (eval b X.env) (fun u Δ=>wpAny (model X.prog X.w) X.A (f v u) Q X.xe Δ) X.xe θ) X.xe s:=by
 exact cj (ha γ s σ H _ I h) fun v s1⟨x,H1,I1,r1,q1⟩=>cj (hb γ s1 σ H1 _ I1 q1) fun u s2⟨y,H2,I2,r2,q2⟩=>hf v u s2 x y H2 I2 r1 r2 q2
def vK{r:R2}(ho:gZ X (binaryOp op) r)(ha:PE X a ta)(hb:PE X b tb):PE X (.BinOp a op b pos) (Ua r ta tb):=by
 intro γ s σ H Q I h
 exact wpAny_BinOp (Yw ha hb I h fun v u s2 x y H2 I2 rx ry q=>ho γ s2 σ H2 x y v u Q I2 rx ry q)
def aa3{r:V->Hp->VK->Prop}(ho:UnR X (unaryOp op) r)(ha:PE X a ta):PE X (.UnaryOp op a pos) (tUn r ta):=by
 intro γ s σ H Q I h
 exact UnaryOp_ (cj (ha γ s σ H _ I h) fun v s1⟨x,H1,I1,r1,q1⟩=>ho γ s1 σ H1 x v Q I1 r1 q1)
def opI{C:Int->Int->Prop}{g:Int->Int->Int}
  (rule:∀(i j:Int)(t u:Tok)(s:Shared)(Q:QZq)(E:QZq),C i j->Q (.int (g i j) s.toks) {s with toks:=s.toks+1}->wpAny (model X.prog X.w) X.A (f (.int i t) (.int j u)) Q E s):
  gZ X f (rI C fun i j=>.int (g i j)):=by
 intro γ s σ H x y v u Q I rx ry h
 obtain⟨i,j,rfl,rfl,hc,q⟩:=h
 obtain⟨t,rfl⟩:=rx
 obtain⟨t',rfl⟩:=ry
 exact rule i j t t' s _ _ hc ⟨.int _,H,I.tok _,⟨_,rfl⟩,q⟩
def abg{g:Int->Int->Int}
  (rule:∀(i j:Int)(t u:Tok)(s:Shared)(Q:QZq)(E:QZq),Q (.int (g i j) s.toks) {s with toks:=s.toks+1}->wpAny (model X.prog X.w) X.A (f (.int i t) (.int j u)) Q E s):
  gZ X f (KH fun i j=>.int (g i j)):=by
 intro γ s σ H x y v u Q I rx ry h
 obtain⟨i,j,rfl,rfl,q⟩:=h
 obtain⟨t,rfl⟩:=rx
 obtain⟨t',rfl⟩:=ry
 exact rule i j t t' s _ _ ⟨.int _,H,I.tok _,⟨_,rfl⟩,q⟩
def Rq{g:Int->Int->Bool}
  (rule:∀(i j:Int)(t u:Tok)(s:Shared)(Q:QZq)(E:QZq),Q (.bool (g i j)) s->wpAny (model X.prog X.w) X.A (f (.int i t) (.int j u)) Q E s):
  gZ X f (KH fun i j=>.bl (g i j)):=by
 intro γ s σ H x y v u Q I rx ry h
 obtain⟨i,j,rfl,rfl,q⟩:=h
 obtain⟨t,rfl⟩:=rx
 obtain⟨t',rfl⟩:=ry
 exact rule i j t t' s _ _ ⟨.bl _,H,I,rfl,q⟩
def acv(i j:Int):Prop:=0<j/\j<1073741824
def acu(i j:Int):Prop:=0<=j/\j<=1000000/\i.natAbs<2 ^64
def Tt(i j:Int):Prop:=(-(2 ^64)<i/\i<2 ^64)\/(-(2 ^64)<j/\j<2 ^64)
def Tt.ok(h:Tt i j):IntMulOk i j:=by
 rcases h with ⟨h1,h2⟩|⟨h1,h2⟩
 ·exact .of_left (intBits_le_64 h1 h2)
 ·exact .of_right (intBits_le_64 h1 h2)
def W3:gZ X (binaryOp .Add) (KH fun i j=>.int (i+j)):=abg fun _ _ _ _ _ _ _ q=>add_int q
def WP:gZ X (binaryOp .Sub) (KH fun i j=>.int (i-j)):=abg fun _ _ _ _ _ _ _ q=>sub_int q
def WT:gZ X (binaryOp .Mult) (rI Tt fun i j=>.int (i*j)):=opI fun _ _ _ _ _ _ _ hc q=>mul_int q hc.ok
def Rk:gZ X (binaryOp .FloorDiv) (rI acv fun i j=>.int (i/j)):=opI fun i j _ _ _ _ _ hc q=>by
 have h1:=hc.1
 have h2:=hc.2
 exact floordiv_int (by omega) (by rw[Int.fdiv_eq_ediv_of_nonneg i (by omega)];exact q) (.inl (PyProof.noPylong_small (by omega)))
def WW:gZ X (binaryOp .Mod) (rI (fun _ j=>0<j) fun i j=>.int (i%j)):=opI fun i j _ _ _ _ _ hc q=>by
 have h1:=hc
 exact mod_int' (by omega) (by rw[Int.fmod_eq_emod_of_nonneg i (by omega)];exact q)
def WQ:gZ X (binaryOp .Pow) (rI acu fun i j=>.int (i ^j.toNat)):=opI fun _ _ _ _ _ _ _ hc q=>pow_int_small hc.1 hc.2.1 hc.2.2 q
def unI{g:Int->Int}
  (rule:∀(i:Int)(t:Tok)(s:Shared)(Q:QZq)(E:QZq),Q (.int (g i) s.toks) {s with toks:=s.toks+1}->wpAny (model X.prog X.w) X.A (f (.int i t)) Q E s):
  UnR X f (rU fun i=>.int (g i)):=by
 intro γ s σ H x v Q I rx h
 obtain⟨i,rfl,q⟩:=h
 obtain⟨t,rfl⟩:=rx
 exact rule i t s _ _ ⟨.int (g i),H,I.tok _,⟨_,rfl⟩,q⟩
def VG:UnR X (unaryOp .USub) (rU fun i=>.int (-i)):=unI fun _ _ _ _ _ q=>neg_int q
end
noncomputable def QB:V->V->Bool
 |.non,.non=>true|.non,.int _=>true|.int _,.non=>true|.non,.bl _=>true|.bl _,.non=>true|.non,.str _=>true|.str _,.non=>true
 |.int _,.int _=>true|.bl _,.bl _=>true|.str _,.str _=>true|.byt _,.byt _=>true
 |.int _,.str _=>true|.str _,.int _=>true|.bl _,.str _=>true|.str _,.bl _=>true
 |_,_=>false
def rEq:R2:=fun x y H Q=>QB x y=true/\Q (.bl (decide (x=y))) H
def rNe:R2:=fun x y H Q=>QB x y=true/\Q (.bl (!decide (x=y))) H
def Gv:decide (V.int i=V.int j)=(i==j):=by
 rw[Bool.eq_iff_iff]
 simp
def NQ:decide (V.bl i=V.bl j)=(i==j):=by
 rw[Bool.eq_iff_iff]
 simp
def Gu:decide (V.str i=V.str j)=(i==j):=by
 rw[Bool.eq_iff_iff]
 simp
def Gw:decide (V.byt i=V.byt j)=(i.toList==j.toList):=by
 rw[Bool.eq_iff_iff]
 cases i
 cases j
 simp
section
variable{X:Cx}{a b c:Expr}{ta tb tc:TE}{pos:Pos}
def bw{σ:St}{H:Hp}{Q:VK}(I:Inv X γ σ H s)(q:Q (.bl k) H)(e:k=k'):EP X γ σ Q (.bool k') s:=by
 subst e
 exact⟨.bl k,H,I,rfl,q⟩
def abe:gZ X (compareOp .Eq) rEq:=by
 intro γ s σ H x y v u Q I rx ry h
 obtain⟨hs,q⟩:=h
 cases x with
 |non=>
  cases rx
  cases y with
  |non=>cases ry;exact PySem.EqNone.eq_none_none (bw I q (by simp))
  |bl j=>cases ry;exact PySem.EqNone.eq_none_bool (bw I q (by simp))
  |int j=>obtain⟨t',rfl⟩:=ry;exact PySem.EqNone.eq_none_int (bw I q (by simp))
  |str j=>obtain⟨t',rfl⟩:=ry;exact PySem.EqNone.eq_none_str (bw I q (by simp))
  |_=>exact absurd (hs) Qjq
 |bl i=>
  cases rx
  cases y with
  |non=>cases ry;exact PySem.EqNone.eq_bool_none (bw I q (by simp))
  |bl j=>cases ry;exact eq_bool (bw I q NQ)
  |str j=>obtain⟨t',rfl⟩:=ry;exact PySem.EqMixed.eq_bool_str (bw I q (by simp))
  |_=>exact absurd (hs) Qjq
 |int i=>
  obtain⟨t,rfl⟩:=rx
  cases y with
  |non=>cases ry;exact PySem.EqNone.eq_int_none (bw I q (by simp))
  |int j=>obtain⟨t',rfl⟩:=ry;exact eq_int (bw I q Gv)
  |str j=>obtain⟨t',rfl⟩:=ry;exact PySem.EqMixed.eq_int_str (bw I q (by simp))
  |_=>exact absurd (hs) Qjq
 |str i=>
  obtain⟨t,rfl⟩:=rx
  cases y with
  |non=>cases ry;exact PySem.EqNone.eq_str_none (bw I q (by simp))
  |bl j=>cases ry;exact PySem.EqMixed.eq_str_bool (bw I q (by simp))
  |int j=>obtain⟨t',rfl⟩:=ry;exact PySem.EqMixed.eq_str_int (bw I q (by simp))
  |str j=>obtain⟨t',rfl⟩:=ry;exact eq_str (bw I q Gu)
  |_=>exact absurd (hs) Qjq
 |byt i=>
  obtain⟨t,rfl⟩:=rx
  cases y with
  |byt j=>obtain⟨t',rfl⟩:=ry;exact PySem.W.eq_bytes (bw I q Gw)
  |_=>exact absurd (hs) Qjq
 |_=>cases y<;>exact absurd (hs) Qjq
def aa8:gZ X (compareOp .NotEq) rNe:=by
 intro γ s σ H x y v u Q I rx ry h
 obtain⟨hs,q⟩:=h
 cases x with
 |non=>
  cases rx
  cases y with
  |non=>cases ry;exact PySem.EqNone.ne_none_none (bw I q (by simp))
  |bl j=>cases ry;exact PySem.EqNone.ne_none_bool (bw I q (by simp))
  |int j=>obtain⟨t',rfl⟩:=ry;exact PySem.EqNone.ne_none_int (bw I q (by simp))
  |str j=>obtain⟨t',rfl⟩:=ry;exact PySem.EqNone.ne_none_str (bw I q (by simp))
  |_=>exact absurd (hs) Qjq
 |bl i=>
  cases rx
  cases y with
  |non=>cases ry;exact PySem.EqNone.ne_bool_none (bw I q (by simp))
  |bl j=>cases ry;exact ne_bool (bw I q (congrArg not NQ))
  |str j=>obtain⟨t',rfl⟩:=ry;exact PySem.EqMixed.ne_bool_str (bw I q (by simp))
  |_=>exact absurd (hs) Qjq
 |int i=>
  obtain⟨t,rfl⟩:=rx
  cases y with
  |non=>cases ry;exact PySem.EqNone.ne_int_none (bw I q (by simp))
  |int j=>obtain⟨t',rfl⟩:=ry;exact ne_int (bw I q (congrArg not Gv))
  |str j=>obtain⟨t',rfl⟩:=ry;exact PySem.EqMixed.ne_int_str (bw I q (by simp))
  |_=>exact absurd (hs) Qjq
 |str i=>
  obtain⟨t,rfl⟩:=rx
  cases y with
  |non=>cases ry;exact PySem.EqNone.ne_str_none (bw I q (by simp))
  |bl j=>cases ry;exact PySem.EqMixed.ne_str_bool (bw I q (by simp))
  |int j=>obtain⟨t',rfl⟩:=ry;exact PySem.EqMixed.ne_str_int (bw I q (by simp))
  |str j=>obtain⟨t',rfl⟩:=ry;exact ne_str (bw I q (congrArg not Gu))
  |_=>exact absurd (hs) Qjq
 |byt i=>
  obtain⟨t,rfl⟩:=rx
  cases y with
  |byt j=>obtain⟨t',rfl⟩:=ry;exact PySem.W.ne_bytes (bw I q (congrArg not Gw))
  |_=>exact absurd (hs) Qjq
 |_=>cases y<;>exact absurd (hs) Qjq
def aa9:gZ X (compareOp .Lt) (KH fun i j=>.bl (decide (i<j))):=Rq fun _ _ _ _ _ _ _ q=>lt_int q
def aba:gZ X (compareOp .LtE) (KH fun i j=>.bl (decide (i<=j))):=Rq fun _ _ _ _ _ _ _ q=>le_int q
def abb:gZ X (compareOp .Gt) (KH fun i j=>.bl (decide (j<i))):=Rq fun _ _ _ _ _ _ _ q=>gt_int q
def abd:gZ X (compareOp .GtE) (KH fun i j=>.bl (decide (j<=i))):=Rq fun _ _ _ _ _ _ _ q=>ge_int q
def HF:gZ X (compareOp .In) (fun x y H Q=>∃i j,x=.str i/\y=.str j/\Q (.bl (!(Builtin.Str.occurrences j i 0 j.length 1).isEmpty)) H):=by
 intro γ s σ H x y v u Q I rx ry h
 obtain⟨i,j,rfl,rfl,q⟩:=h
 obtain⟨t,rfl⟩:=rx
 obtain⟨t',rfl⟩:=ry
 exact in_str (bw I q rfl)
def Cj:gZ X (compareOp .Is) (fun x y H Q=>y=.non/\Q (.bl (decide (x=.non))) H):=by
 intro γ s σ H x y v u Q I rx ry h
 obtain⟨rfl,q⟩:=h
 cases ry
 refine is_none_gen (bw I q ?_)
 cases x<;>first
  |(cases rx;rfl)
  |(obtain⟨t,rfl⟩:=rx;rfl)
def Ri:gZ X (compareOp .IsNot) (fun x y H Q=>y=.non/\Q (.bl (!decide (x=.non))) H):=by
 intro γ s σ H x y v u Q I rx ry h
 obtain⟨rfl,q⟩:=h
 cases ry
 refine isnot_none_gen (bw I q ?_)
 cases x<;>first
  |(cases rx;rfl)
  |(obtain⟨t,rfl⟩:=rx;rfl)
def gZ.or{f:Value->Value->Sem Value}{r r':R2}(h:gZ X f r)(h':gZ X f r'):gZ X f (fun x y H Q=>r x y H Q\/r' x y H Q):=by
 intro γ s σ H x y v u Q I rx ry q
 rcases q with q|q
 ·exact h γ s σ H x y v u Q I rx ry q
 ·exact h' γ s σ H x y v u Q I rx ry q
def Rc{r:R2}(ho:gZ X (compareOp op) r)(ha:PE X a ta)(hb:PE X b tb)(hm:behindInMarks op b=false):PE X (.Compare a [op] [b] pos) (Ua r ta tb):=by
 intro γ s σ H Q I h
 exact wpAny_Compare1 (Yw ha hb I h fun v u s2 x y H2 I2 rx ry q=>ho γ s2 σ H2 x y v u Q I2 rx ry q) hm
def Ei(t:TE):TT:=fun σ H Q=>t σ H fun x H'=>∃k,x=.bl k/\Q k H'
def xr{r:R2}(ho:gZ X (compareOp op) r)(ha:PE X a ta)(hb:PE X b tb)(hm:behindInMarks op b=false):PT X (.Compare a [op] [b] pos) (Ei (Ua r ta tb)):=by
 intro γ s σ H Q I h
 refine wpAny_isTrue_Compare1 (cj (ha γ s σ H _ I h) fun v s1⟨x,H1,I1,r1,q1⟩=>cj (hb γ s1 σ H1 _ I1 q1) fun u s2⟨y,H2,I2,r2,q2⟩=>
  cj (ho γ s2 σ H2 x y v u _ I2 r1 r2 q2) fun c s3⟨z,H3,I3,r3,k,e,q3⟩=>?_) hm
 subst e
 cases r3
 exact wpAny_truthy_bool ⟨H3,I3,q3⟩
noncomputable def Bl(r r':R2)(ta tb tc:TE):TE:=fun σ H Q=>ta σ H fun x H1=>tb σ H1 fun y H2=>r x y H2 fun z H3=>∃k,z=.bl k/\
 (if k=true then tc σ H3 fun w' H4=>r' y w' H4 Q else Q (.bl false) H3)
theorem Lb{r r':R2}(ho:gZ X (compareOp op) r)(ho':gZ X (compareOp op') r')(ha:PE X a ta)(hb:PE X b tb)(hc:PE X c tc)
  (hm:lastMarks [op,op'] [b,c]=false:=by with_unfolding_all rfl):PE X (.Compare a [op,op'] [b,c] pos) (Bl r r' ta tb tc):=by
 intro γ s σ H Q I h
 refine Compare_chain (cj (ha γ s σ H _ I h) fun v s1⟨x,H1,I1,r1,q1⟩=>chain_link (cj (hb γ s1 σ H1 _ I1 q1) fun u s2⟨y,H2,I2,r2,q2⟩=>
  cj (ho γ s2 σ H2 x y v u _ I2 r1 r2 q2) fun d s3⟨z,H3,I3,r3,k,e,q3⟩=>?_)) hm
 subst e
 cases r3
 refine wpAny_truthy_bool ?_
 cases k with
 |false=>exact ite_ff ⟨.bl false,H3,I3,rfl,q3⟩
 |true=>exact ite_tt (chain_last (cj (hc γ s3 σ H3 _ I3 q3) fun w' s4⟨z',H4,I4,r4,q4⟩=>ho' γ s4 σ H4 y z' u w' Q I4 r2 r4 q4))
theorem KQ{r r':R2}(ho:gZ X (compareOp op) r)(ho':gZ X (compareOp op') r')(ha:PE X a ta)(hb:PE X b tb)(hc:PE X c tc)
  (hm:lastMarks [op,op'] [b,c]=false:=by with_unfolding_all rfl):PT X (.Compare a [op,op'] [b,c] pos) (Ei (Bl r r' ta tb tc)):=by
 intro γ s σ H Q I h
 refine isTrue_chain (cj (ha γ s σ H _ I h) fun v s1⟨x,H1,I1,r1,q1⟩=>test_link (cj (hb γ s1 σ H1 _ I1 q1) fun u s2⟨y,H2,I2,r2,q2⟩=>
  cj (ho γ s2 σ H2 x y v u _ I2 r1 r2 q2) fun d s3⟨z,H3,I3,r3,k,e,q3⟩=>?_)) hm
 subst e
 cases r3
 refine wpAny_truthy_bool ?_
 cases k with
 |false=>
  obtain⟨k',e',q'⟩:=q3
  cases e'
  exact ite_ff ⟨H3,I3,q'⟩
 |true=>
  refine ite_tt (test_last (cj (hc γ s3 σ H3 _ I3 q3) fun w' s4⟨z',H4,I4,r4,q4⟩=>cj (ho' γ s4 σ H4 y z' u w' _ I4 r2 r4 q4) fun d' s5⟨z2,H5,I5,r5,k2,e2,q5⟩=>?_))
  subst e2
  cases r5
  exact wpAny_truthy_bool ⟨H5,I5,q5⟩
def DW(K:QQq)(x:V)(H:Hp)(k:Bool):Prop:=
 match x with
 |.non=>k=false
 |.bl b=>k=b
 |.int i=>k=(i !=0)
 |.str y=>y.length<=sizeLine/\k=((y.length:Int) !=0)
 |.byt y=>y.size<=sizeLine/\k=((y.size:Int) !=0)
 |.ref p=>(∃xs,lG K H p xs/\k= !xs.isEmpty)\/(∃xs,j5 K H p xs/\k= !xs.isEmpty)\/∃kvs,H p=some (.dK kvs)/\k= !kvs.isEmpty
 |_=>False
def CP{kvs:List (κ×V)}{vs:List (κ×Value)}(r:KV kvs vs):(!vs.isEmpty)= !kvs.isEmpty:=by
 cases r<;>rfl
def tX{its:List Value}(r:Vals xs its):(!its.toArray.isEmpty)= !xs.isEmpty:=by
 cases r<;>simp
def xR:(sizeLine:Nat)<2 ^63:=by rw[sizeLine_eq];decide
def JK:af9 X (fun x H Q=>∃k,DW X.K x H k/\Q k H):=by
 intro γ s σ H x v Q I rx h
 obtain⟨k,e,q⟩:=h
 have hs:=sizeLine_eq
 cases x with
 |non=>
  cases rx
  subst e
  exact truthy_none ⟨H,I,q⟩
 |bl b=>
  cases rx
  subst e
  exact wpAny_truthy_bool ⟨H,I,q⟩
 |int i=>
  obtain⟨t,rfl⟩:=rx
  subst e
  exact PySem.P.truthy_int ⟨H,I,q⟩
 |str y=>
  obtain⟨t,rfl⟩:=rx
  obtain⟨hy,e'⟩:y.length<=sizeLine/\k=((y.length:Int) !=0):=e
  subst e'
  exact PySem.P.truthy_str (by omega) ⟨H,I.tok _,q⟩
 |byt y=>
  obtain⟨t,rfl⟩:=rx
  obtain⟨hy,e'⟩:y.size<=sizeLine/\k=((y.size:Int) !=0):=e
  subst e'
  exact PySem.W.truthy_bytes (by omega) ⟨H,I.tok _,q⟩
 |ref p=>
  cases rx
  have e':=e
  rcases e' with ⟨xs,hx,e'⟩|⟨xs,hx,e'⟩|⟨kvs,hx,e'⟩
  ·subst e'
   obtain⟨its,r,pl,hz⟩:=I.list hx
   have hlen:=r.length
   exact wpAny_truthy_list pl.isList (by simp only[Qjz];omega) ⟨H,I.tok _,by rw[tX r];exact q⟩
  ·subst e'
   obtain⟨its,r,pl,hz⟩:=I.tuple hx
   have hlen:=r.length
   exact truthy_tuple pl (by simp only[Qjz];omega) ⟨H,I.tok _,by rw[tX r];exact q⟩
  ·subst e'
   obtain⟨hz,hS,vs,r,m⟩:kvs.length<=sizeLine/\(p==sysModules)=false/\∃vs,KV kvs vs/\s.heap.DictOf _ p vs:=I.hok p _ hx
   have hlen:=Paired.length r
   exact wpAny_truthy_dict hS m (by omega) ⟨H,I.tok _,by rw[CP r];exact q⟩
 |_=>exact(e).elim
def n8(ha:PE X a ta)(he:∀whole,isTrue a X.env whole=(do let v<-whole;standAt a.pos;holding [v] (truthy v))):
  PT X a (fun σ H Q=>ta σ H fun x H'=>∃k,DW X.K x H' k/\Q k H'):=by
 intro γ s σ H Q I h
 exact isTrue_plain (cj (ha γ s σ H _ I h) fun v s1⟨x,H1,I1,r1,q1⟩=>JK γ s1 σ H1 x v Q I1 r1 q1) (he _)
def vals1{us:List Value}(r:Vals [x] us):∃u,us=[u]/\RelV x u:=by
 cases r with
 |cons r1 r2=>cases r2;exact⟨_,rfl,r1⟩
def Jh:gP X (.type "int") (fun xs H Q=>(∃i,xs=[.int i]/\Q (.int i) H)\/∃k,xs=[.bl k]/\Q (.int (if k then 1 else 0)) H):=by
 intro γ s σ H xs us Q I r h
 rcases h with ⟨i,rfl,q⟩|⟨k,rfl,q⟩
 ·obtain⟨u,rfl,t,rfl⟩:=vals1 r
  exact call_int_int ⟨.int i,H,I,⟨_,rfl⟩,q⟩
 ·obtain⟨u,rfl,r1⟩:=vals1 r
  cases r1
  exact call_int_bool ⟨.int _,H,I.tok _,⟨_,rfl⟩,q⟩
def Tq(K:QQq)(x:V)(H:Hp)(n:Nat):Prop:=
 match x with
 |.str y=>y.length<=sizeLine/\n=y.length
 |.byt y=>y.size<=sizeLine/\n=y.size
 |.ref p=>(∃xs,lG K H p xs/\n=xs.length)\/∃xs,j5 K H p xs/\n=xs.length
 |_=>False
def Ai:gP X (.builtin "len") (fun xs H Q=>∃x n,xs=[x]/\Tq X.K x H n/\Q (.int n) H):=by
 intro γ s σ H xs us Q I r h
 obtain⟨x,n,rfl,e,q⟩:=h
 obtain⟨u,rfl,rx⟩:=vals1 r
 have hs:=sizeLine_eq
 cases x with
 |str y=>
  obtain⟨t,rfl⟩:=rx
  obtain⟨hy,e'⟩:y.length<=sizeLine/\n=y.length:=e
  subst e'
  exact len_str (by omega) ⟨.int _,H,I.tok _,⟨_,rfl⟩,q⟩
 |byt y=>
  obtain⟨t,rfl⟩:=rx
  obtain⟨hy,e'⟩:y.size<=sizeLine/\n=y.size:=e
  subst e'
  exact PySem.W.len_bytes (by omega) ⟨.int _,H,I.tok _,⟨_,rfl⟩,q⟩
 |ref p=>
  cases rx
  have e':=e
  rcases e' with ⟨xs,hx,e'⟩|⟨xs,hx,e'⟩
  ·subst e'
   obtain⟨its,r',pl,hz⟩:=I.list hx
   have hlen:=r'.length
   exact Calls.call_len_list pl.isList (by simp only[Qjz];omega) ⟨.int xs.length,H,I.tok _,⟨_,by simp only[Qjz];rw[hlen]⟩,q⟩
  ·subst e'
   obtain⟨its,r',pl,hz⟩:=I.tuple hx
   have hlen:=r'.length
   exact len_tuple pl (by simp only[Qjz];omega) ⟨.int xs.length,H,I.tok _,⟨_,by simp only[Qjz];rw[hlen]⟩,q⟩
 |_=>exact(e).elim
end
structure DX(h:Heap)(x dx C:Addr)(mA:QZz):Prop where
 obj:h.get? x=some (PySem.W.instObj C dx)
 ns:h.Ns1 dx mA
 ne:dx≠x
def Ia{h:Heap}{dx:Addr}{mA:QZz}(n:h.Ns1 dx mA):∃od,h.get? dx=some od/\∀name,PySem.W.lookIn name od=some (mA name):=by
 obtain⟨o,es,ep,ho,hd,hk,_,hm⟩:=n
 refine⟨o,ho,fun name=>?_⟩
 have e:=hm name
 unfold nsFind findBy at e
 rw[<-Array.find?_toList]at e
 unfold PySem.W.lookIn
 rw[hd]
 dsimp only
 split
 ·rename_i y q
  rw[q]at e
  exact congrArg some e
 ·rename_i q
  rw[q]at e
  have a:es.toList.any (·.refKey)=false:=by
   rw[List.any_eq_false]
   intro y hy
   obtain⟨z,t,hkey⟩:=hk y (Array.mem_toList_iff.mp hy)
   simp[DictEntry.refKey,hkey]
  have a':¬es.toList.any (·.refKey)=true:=by rw[a];exact Qjq
  rw[if_neg a']
  exact congrArg some e
def DX.look{h:Heap}{x dx C:Addr}{mA:QZz}(I:DX h x dx C mA):∃od,PySem.W.InstAt h x (PySem.W.instObj C dx) C (some od)/\∀name,PySem.W.lookIn name od=some (mA name):=
 let ⟨od,ho,hl⟩:=Ia I.ns
 ⟨od,⟨I.obj,rfl,rfl,ho⟩,hl⟩
section
variable{prog:Program}{w:World}{A:Around}{E:QZq}{s:Shared}{K:QQq}{x dx C f:Addr}{mA:QZz}{name:Str}{v:Value}
def R7{expr:Bool}{Q:QZq}(X:K.In s.heap)(I:DX s.heap x dx C mA)(hg:PySem.W.plainGet K C name=true)(hh:PySem.W.hasDictIn K C=true)
  (ha:PySem.W.findIn K (.ref C) name=some none)(hv:mA name=some v)(hv':PySem.W.handedIn v=true)(h:Q v {s with toks:=s.toks+1}):
  wpAny (model prog w) A (getAttr (.ref x) name expr) Q E s:=by
 obtain⟨od,J,hl⟩:=I.look
 exact PySem.W.get_value X J (PySem.W.plainGet_of hg).1 (PySem.W.findObj_own hh ha rfl (by rw[hl,hv])) hv' h
def M8{pl:Sem Bool}{Q:Value×List Value->Shared->Prop}(X:K.In s.heap)(I:DX s.heap x dx C mA)(hg:PySem.W.plainGet K C name=true)
  (hf:PySem.W.findIn K (.ref C) name=some (some (.ref f)))(ht:PySem.W.isFn K (.ref f)=true)(hv:mA name=none)(h:Q (.ref f,[.ref x]) s):
  wpAny (model prog w) A (getMethod (.ref x) name pl) Q E s:=by
 obtain⟨od,J,hl⟩:=I.look
 exact PySem.W.method_fn X J (PySem.W.plainGet_of hg).1 (PySem.W.plainGet_of hg).2 hf (beq_iff_eq.mp ht) (by show(PySem.W.lookIn name od).map (·.isSome)=some false;rw[hl,hv];rfl) h
def Qv{ns:List Str}{Q:Unit->Shared->Prop}(X:K.In s.heap)(I:DX s.heap x dx C mA)
  (hs:PySem.W.findIn K (.ref C) "__setattr__"=some (some (.builtin "object.__setattr__")))(hp:PySem.W.plainOver K C=true)(ht:PySem.W.takerIn K C name=some none)(hh:PySem.W.hasDictIn K C=true)
  (hw:PySem.Within mA ns)(hsz:ns.length<=sizeLine)
  (h:∀h',DX h' x dx C (fun y=>if y=name then some v else mA y)->Heap.SameBut dx s.heap h'->Q () {s with heap:=h',toks:=s.toks+2}):
  wpAny (model prog w) A (setAttr (.ref x) name v) Q E s:=by
 obtain⟨od,J,hl⟩:=I.look
 refine PySem.W.set_plain X J hs (PySem.W.osa_open (s:={s with toks:=s.toks+1}) (r:=none) X J hp ht fun b=>?_)
 obtain⟨cd,hc,hd'⟩:=PySem.W.any_some hh
 have hx:s.heap.get? x=some ⟨.ref C,some dx,.plain, #[]⟩:=I.obj
 refine QTz (QKq (QTz (QTz (wpAny_loadPart hx (QTz (PySem.W.Looks.here (s:={s with toks:=s.toks+1}) (PySem.W.looks_clsIn X hc) ?_))))))
 rw[hd']
 refine QKq (a:=some dx) (QTz (QKq (QTz ?_)))
 refine wpAny_nsSet1 (s:={s with toks:=s.toks+1}) I.ns fun h' hn2 hs2=>?_
 obtain⟨oD,esD,epD,hoD,hdD,hcD⟩:=hn2.count (PySem.Within.cons name v hw)
 refine QTz (wpAny_lookBehind hoD (by rw[hdD];exact pastItsLine_dict (Nat.le_trans hcD (by rw[QAz];omega))) ?_)
 exact QKq (h _ ⟨(hs2.2 _ (Ne.symm I.ne)).trans I.obj,hn2,I.ne⟩ hs2)
def LK{R:Result->Shared->Prop}{vs:List Value}{kw:List (Str×Value)}(X:K.In s.heap)(hm:PySem.W.makesIn K C=true)
  (hi:PySem.W.findIn K (.ref C) "__init__"=some (some (.ref f)))(hf:PySem.W.typeIn K (.ref f)=some (.type "function"))
  (h:codeAny (model prog w) (A.under (.builtin "type.__call__" ⟨.ref C::vs,kw⟩)) (.call (.ref f) ⟨.ref (s.heap.objs.size+1)::vs,kw⟩) (PySem.W.InitBack (s.heap.objs.size+1) R)
   {s with heap:=(s.heap.push PySem.W.emptyDict).push (PySem.W.instObj C s.heap.objs.size)}):
  codeAny (model prog w) A (.call (.ref C) ⟨vs,kw⟩) R s:=by
 obtain⟨hh,g,d,t,os⟩:=s
 exact PySem.W.make_core (PySem.W.makes_of X hm) (PySem.W.looks_findIn X hi) (fun self=>PySem.W.bind_fn X self hf) (.inl rfl) h
end
noncomputable def jz(f:Str)(v:V):List (Str×V)->List (Str×V)
 |[]=>[(f,v)]
 |(g,x)::r=>if g=f then(g,v)::r else(g,x)::jz f v r
theorem ql(f g:Str)(v:V):∀fs:List (Str×V),(jz f v fs).lookup g=if g=f then some v else fs.lookup g
 |[]=>by
  show List.lookup g [(f,v)]=_
  by_cases h:g=f
  ·have hb:(g==f)=true:=beq_iff_eq.mpr h
   simp only[List.lookup,hb,if_pos h]
  ·have hb:(g==f)=false:=beq_eq_false_iff_ne.mpr h
   simp only[List.lookup,hb,if_neg h]
 |(k,x)::r=>by
  have ih:=ql f g v r
  rw[show jz f v ((k,x)::r)=(if k=f then(k,v)::r else(k,x)::jz f v r)from rfl]
  by_cases hk:k=f
  ·rw[if_pos hk]
   by_cases h:g=k
   ·have hb:(g==k)=true:=beq_iff_eq.mpr h
    simp only[List.lookup,hb,if_pos (h.trans hk)]
   ·have hb:(g==k)=false:=beq_eq_false_iff_ne.mpr h
    simp only[List.lookup,hb,if_neg (fun e:g=f=>h (e.trans hk.symm))]
  ·rw[if_neg hk]
   by_cases h:g=k
   ·have hb:(g==k)=true:=beq_iff_eq.mpr h
    simp only[List.lookup,hb,if_neg (fun e:g=f=>hk (h.symm.trans e))]
   ·have hb:(g==k)=false:=beq_eq_false_iff_ne.mpr h
    simp only[List.lookup,hb]
    exact ih
theorem pI(f:Str)(v:V):∀fs:List (Str×V),f∈(jz f v fs).map (·.1)/\∀g,g∈fs.map (·.1)->g∈(jz f v fs).map (·.1)
 |[]=>⟨by simp[jz],fun g h=>by simp at h⟩
 |(k,x)::r=>by
  obtain⟨i1,i2⟩:=pI f v r
  rw[show jz f v ((k,x)::r)=(if k=f then(k,v)::r else(k,x)::jz f v r)from rfl]
  by_cases hk:k=f
  ·rw[if_pos hk]
   subst hk
   exact⟨by simp,fun g h=>by simpa using h⟩
  ·rw[if_neg hk]
   refine⟨?_,fun g h=>?_⟩
   ·rw[Qyq]
    exact QYq _ i1
   ·rw[Qyq]at h⊢
    rcases QBz.mp h with e|e
    ·exact QBz.mpr (.inl e)
    ·exact QYq _ (i2 g e)
theorem qt(f:Str)(v:V):∀fs:List (Str×V),(jz f v fs).length<=fs.length+1
 |[]=>by simp[jz]
 |(k,x)::r=>by
  have ih:=qt f v r
  rw[show jz f v ((k,x)::r)=(if k=f then(k,v)::r else(k,x)::jz f v r)from rfl]
  by_cases hk:k=f
  ·rw[if_pos hk,QAz,QAz];omega
  ·rw[if_neg hk,QAz,QAz];omega
def jn.some_of{o:Option Value}(r:jn (some v) o):∃u,o=some u/\RelV v u:=by
 cases o with
 |none=>exact(r).elim
 |some u=>exact⟨u,rfl,r⟩
def jn.none_of{o:Option Value}(r:jn none o):o=none:=by
 cases o with
 |none=>rfl
 |some u=>exact(show False from r).elim
def Iz{v:V}{u:Value}(r:RelV v u):PySem.W.handedIn u=true:=by
 cases v with
 |non=>cases (show u=Value.none from r);rfl
 |bl b=>cases (show u=Value.bool b from r);rfl
 |int i=>obtain⟨t,e⟩:=(show∃t,u=Value.int i t from r);cases e;rfl
 |str x=>obtain⟨t,e⟩:=(show∃t,u=Value.str x t from r);cases e;rfl
 |byt b=>obtain⟨t,e⟩:=(show∃t,u=Value.bytes b t from r);cases e;rfl
 |flt b=>obtain⟨t,e⟩:=(show∃t,u=Value.float b t from r);cases e;rfl
 |ref a=>cases (show u=Value.ref a from r);rfl
 |ty n=>cases (show u=Value.type n from r);rfl
section
variable{P:Program}{w:World}{H H':Hp}{h h':Heap}{a C dx:Addr}{fs fs':List (Str×V)}
def qW(hok:nJ P w H h)(e:H a=some (.ins C dx fs)):∃mA,DX h a dx C mA/\(∀f,jn (fs.lookup f) (mA f))/\PySem.Within mA (fs.map (·.1))/\fs.length<=1000/\H dx=some (.own a):=by
 obtain⟨d,z,ne,ob,mA,n,r,q⟩:=(show dg P w H h a (.ins C dx fs)from hok a _ e)
 exact⟨mA,⟨ob,n,ne⟩,r,q,z,d⟩
end
structure pX(K:QQq)(C:Addr):Prop where
 pg:PySem.W.plainGet K C Str.empty=true
 hd:PySem.W.hasDictIn K C=true
 po:PySem.W.plainOver K C=true
 sa:PySem.W.findIn K (.ref C) "__setattr__"=some (some (.builtin "object.__setattr__"))
def pX.get{K:QQq}{C:Addr}(c:pX K C)(f:Str):PySem.W.plainGet K C f=true:=c.pg
def bf(K:QQq)(C:Addr)(f:Str):Prop:=PySem.W.findIn K (.ref C) f=some none
def bf.taker{K:QQq}{C:Addr}{f:Str}(n:bf K C f):PySem.W.takerIn K C f=some none:=by
 unfold PySem.W.takerIn
 rw[show PySem.W.findIn K (.ref C) f=some none from n]
 rfl
structure Meth(K:QQq)(C:Addr)(m:Str)(f:Addr):Prop where
 at_:PySem.W.findIn K (.ref C) m=some (some (.ref f))
 fn:PySem.W.isFn K (.ref f)=true
 kp:PySem.W.keepIn K (.ref f)=true
section
variable{X:Cx}{γ:QQz}{σ:St}{H:Hp}{s:Shared}{a C dx:Addr}{fs:List (Str×V)}{f:Str}{v:V}{A:Around}{E:QZq}
def CV{b:Bool}{Q:QZq}(I:Inv X γ σ H s)(e:H a=some (.ins C dx fs))(c:pX X.K C)(n:bf X.K C f)(l:fs.lookup f=some v)
  (h:∀u s',Inv X γ σ H s'->RelV v u->Q u s'):wpAny (model X.prog X.w) A (getAttr (.ref a) f b) Q E s:=by
 obtain⟨mA,O,r,_,_,_⟩:=qW I.hok e
 obtain⟨u,hu,ru⟩:=jn.some_of (v:=v) (o:=mA f) (by rw[<-l];exact r f)
 exact R7 I.zT O (c.get f) c.hd n hu (Iz ru) (h u _ (I.tok _) ru)
def ud{m:Str}{g:Addr}{pl:Sem Bool}{Q:Value×List Value->Shared->Prop}(I:Inv X γ σ H s)(e:H a=some (.ins C dx fs))(c:pX X.K C)(k:Meth X.K C m g)(l:fs.lookup m=none)
  (h:Q (.ref g,[.ref a]) s):wpAny (model X.prog X.w) A (getMethod (.ref a) m pl) Q E s:=by
 obtain⟨mA,O,r,_,_,_⟩:=qW I.hok e
 have hn:mA m=none:=jn.none_of (by rw[<-l];exact r m)
 exact M8 I.zT O (c.get m) k.at_ k.fn hn h
def Br{y:V}{u:Value}{Q:Unit->Shared->Prop}(I:Inv X γ σ H s)(e:H a=some (.ins C dx fs))(c:pX X.K C)(n:bf X.K C f)(hl:fs.length<1000)(ry:RelV y u)
  (h:∀s',Inv X γ σ (upd H a (.ins C dx (jz f y fs))) s'->Q () s'):wpAny (model X.prog X.w) A (setAttr (.ref a) f u) Q E s:=by
 obtain⟨mA,O,r,wi,_,ho⟩:=qW I.hok e
 have hz:(fs.map (·.1)).length<=sizeLine:=by rw[Qvz,sizeLine_eq];omega
 refine Qv I.zT O c.sa c.po n.taker c.hd wi hz fun h' O' sb=>h _ ?_
 have hd:∃o,h'.get? dx=some o:=let ⟨o,_,_,e',_⟩:=O'.ns;⟨o,e'⟩
 refine I.write (x:=a) (e:=dx) (by rw[e];exact True.intro) (.inr ho) (fun b q hb z=>(sb.2 b hb).trans z) hd ?_
 refine⟨by rw[au O.ne];exact ho,?_,O.ne,O'.obj,_,O'.ns,fun g=>?_,fun g hg=>?_⟩
 ·have:=qt f y fs;omega
 ·show jn ((jz f y fs).lookup g) (if g=f then some u else mA g)
  rw[ql]
  by_cases q:g=f
  ·rw[if_pos q,if_pos q];exact ry
  ·rw[if_neg q,if_neg q];exact r g
 ·by_cases q:g=f
  ·rw[q];exact(pI f y fs).1
  ·refine(pI f y fs).2 g (wi g fun z=>hg ?_)
   show(if g=f then some u else mA g)=none
   rw[if_neg q];exact z
def Inv.made(I:Inv X γ σ H s):Inv X γ σ (upd (upd H s.heap.objs.size (.own (s.heap.objs.size+1))) (s.heap.objs.size+1) (.ins C s.heap.objs.size []))
  {s with heap:=(s.heap.push PySem.W.emptyDict).push (PySem.W.instObj C s.heap.objs.size)}:=by
 have e1:(s.heap.push PySem.W.emptyDict).get? s.heap.objs.size=some PySem.W.emptyDict:=Qqz s.heap rfl
 have e2:((s.heap.push PySem.W.emptyDict).push (PySem.W.instObj C s.heap.objs.size)).get? (s.heap.objs.size+1)=some (PySem.W.instObj C s.heap.objs.size):=by
  have:=Qqz (s.heap.push PySem.W.emptyDict) (o:=PySem.W.instObj C s.heap.objs.size) rfl
  rwa[Heap.size_push]at this
 have e3:(s.heap.push PySem.W.emptyDict).Ns s.heap.objs.size (fun _=>none):=⟨PySem.W.emptyDict, #[],_,e1,rfl,(fun e he=>absurd he (by simp)),fun _=>rfl⟩
 have I1:=I.laid (a:=s.heap.objs.size) (o:=.own (s.heap.objs.size+1)) (h':=s.heap.push PySem.W.emptyDict) (t':=s.toks) (fun b u q=>QWq _ q) (QVz _) ⟨_,e1⟩
 refine I1.laid (a:=s.heap.objs.size+1) (o:=.ins C s.heap.objs.size []) (t':=s.toks) (fun b u q=>QWq _ q) (Nat.le_of_eq (Heap.size_push _ _)) ?_
 have ne:s.heap.objs.size≠s.heap.objs.size+1:=Qvq (Nat.lt_succ_self _)
 refine⟨by rw[au ne,aB],QHq _,ne,e2,fun _=>none,(Heap.Ns1.of_empty e3).at fun o q=>QWq _ q,fun _=>True.intro,fun y hy=>absurd rfl hy⟩
def GJ{prog:Program}{w:World}{env:Env}{e:Expr}{f:Str}{pos:Pos}{s:Shared}{Q:QZq}(hb:attributeBase e f env (eval e env)=eval e env)
  (h:wpAny (model prog w) A (eval e env) (fun o θ=>wpAny (model prog w) A (getAttr o f true) Q E θ) E s):wpAny (model prog w) A (eval (.Attribute e f pos) env) Q E s:=
 Attribute_any_ h (by rw[arm_eval_Attribute,hb])
end
noncomputable def VP(K:QQq)(ta:TE)(f:Str):TE:=fun σ H Q=>ta σ H fun x H1=>∃a C dx fs v,x=.ref a/\H1 a=some (.ins C dx fs)/\pX K C/\bf K C f/\fs.lookup f=some v/\Q v H1
noncomputable def mV(K:QQq)(ta tv:TE)(f:Str):TS:=fun D σ H=>tv σ H fun y H1=>ta σ H1 fun x H2=>∃a C dx fs,x=.ref a/\H2 a=some (.ins C dx fs)/\pX K C/\bf K C f/\fs.length<1000/\
 D.nx σ (upd H2 a (.ins C dx (jz f y fs)))
section
variable{X:Cx}{o e value:Expr}{f:Str}{pos pos' tpos:Pos}{ta tv:TE}
def m7(he:PE X e ta)(hb:attributeBase e f X.env (eval e X.env)=eval e X.env):PE X (.Attribute e f pos) (VP X.K ta f):=by
 intro γ s σ H Q I h
 refine GJ hb (cj (he γ s σ H _ I h) fun u s1⟨x,H1,I1,rx,a,C,dx,fs,v,ex,ea,c,n,l,q⟩=>?_)
 subst ex
 obtain rfl:u=Value.ref a:=rx
 exact CV I1 ea c n l fun u' s2 I2 ru=>⟨v,H1,I2,ru,q⟩
def kE(ha:PE X o ta)(hv:PE X value tv)(hs:swapsWith value (some (.Attribute o f pos')) pos.line X.env=pure false):PS X (.Assign [.Attribute o f pos'] value pos) (mV X.K ta tv f):=by
 intro γ s σ H D I h
 refine plainObj_wpAny_Assign_Attribute (cj (hv γ s σ H _ I h) fun u s1⟨y,H1,I1,ry,q⟩=>cj (ha γ s1 σ H1 _ I1 q) fun ov s2⟨x,H2,I2,rx,a,C,dx,fs,ex,ea,c,n,l,q2⟩=>?_) hs
 subst ex
 obtain rfl:ov=Value.ref a:=rx
 exact Br I2 ea c n l ry fun s3 I3=>⟨σ,_,I3,q2⟩
end
section
variable{X:Cx}{γ:QQz}{σ:St}{H:Hp}{s:Shared}{A:Around}{E:QZq}{Q:QZq}{c:Value}{b:Bool}
end
structure dH(k:Nat)(A:Around):Prop where
 hd:A.handled=none
 dp:A.depth+3*k+5<recursionLimit
 un:A.units+16*k+200<cLine
def dH.mono{A:Around}(r:dH k A)(h:j<=k):dH j A:=⟨r.hd,by have:=r.dp;omega,by have:=r.un;omega⟩
theorem dH.deeper{A:Around}(r:dH (k+1) A)env:dH k (A.deeper env):=
 ⟨r.hd,by have:=r.dp;show A.depth+1+3*k+5<_;omega,by have:=r.un;show A.units+3+16*k+200<_;omega⟩
theorem dH.in1{k:Nat}{A:Around}(r:dH (k+1) A):dH k A.in1:=
 ⟨r.hd,by have:=r.dp;show A.depth+3*k+5<_;omega,by have:=r.un;show A.units+1+16*k+200<_;omega⟩
def Cw{A:Around}{C:Addr}{us:List Value}{kw:List (Str×Value)}:(A.under (.builtin "type.__call__" ⟨.ref C::us,kw⟩)).depth=A.depth+1:=by
 first|rfl|simp[Around.under,Code.weight,Code.isCreation,Code.isGuard,Code.isCaller,Code.frames,Code.isFrame,guardIds]
def Cv{A:Around}{C:Addr}{us:List Value}{kw:List (Str×Value)}:(A.under (.builtin "type.__call__" ⟨.ref C::us,kw⟩)).units=A.units+1:=by
 first|rfl|simp[Around.under,Code.cUnits,Code.frames,Code.isFrame]
def dH.make{k:Nat}{A:Around}(r:dH (k+1) A)(C:Addr)(us:List Value)(kw:List (Str×Value)):dH k (A.under (.builtin "type.__call__" ⟨.ref C::us,kw⟩)):=
 ⟨r.hd,by have:=r.dp;rw[Cw];omega,by have:=r.un;rw[Cv];omega⟩
theorem dH.depth{A:Around}(r:dH k A):A.depth<recursionLimit:=by have:=r.dp;omega
theorem dH.units{k:Nat}{A:Around}(r:dH k A):A.units+64<cLine:=by have:=r.un;omega
def cW:TA:=fun _ H Q=>Q [] H
def aH(ta:TE)(tr:TA):TA:=fun σ H Q=>ta σ H fun x H1=>tr σ H1 fun xs H2=>Q (x::xs) H2
section
variable{X:Cx}{e:Expr}{es:List Expr}{te:TE}{t:TA}{pos:Pos}
def bM:PA X [] cW:=fun _ _ _ _ H Q I h=>Calls.spliced_nil ⟨[],H,I,.nil,h⟩
def aC(ha:PE X e te)(hr:PA X es t)(hs:starEach (e::es) X.env=(false,eval e X.env)::starEach es X.env:=by rfl):PA X (e::es) (aH te t):=by
 intro pos γ s σ H Q I h
 rw[hs]
 exact Calls.spliced_cons (cj (ha γ s σ H _ I h) fun u s1⟨x,H1,I1,r1,q1⟩=>cj (hr pos γ s1 σ H1 _ I1 q1) fun us s2⟨xs,H2,I2,r2,q2⟩=>⟨x::xs,H2,I2,.cons r1 r2,q2⟩)
noncomputable def JT(t:TA):TE:=fun σ H Q=>t σ H fun xs H1=>xs.length<=sizeLine/\∀p,H1 p=none->Q (.ref p) (upd H1 p (.tup xs))
noncomputable def JZ(t:TA):TE:=fun σ H Q=>t σ H fun xs H1=>xs.length<=sizeLine/\∀p,H1 p=none->Q (.ref p) (upd H1 p (.lst xs))
def Ca{x1}(h:PA X es t):PE X (.Tuple es x1 pos) (JT t):=by
 intro γ s σ H Q I hq
 refine wpAny_Tuple_spliced (cj (h pos γ s σ H _ I hq) fun us s1⟨xs,H1,I1,r,z,q⟩=>⟨by rw[<-r.length];exact z,?_⟩)
 refine⟨.ref s1.heap.objs.size,upd H1 s1.heap.objs.size _,I1.laid (fun b u e=>QWq _ e) (QVz _) ?_,rfl,q _ (I1.hok.fresh (QVz _))⟩
 exact⟨z,us,r,TupOk.new _ _⟩
def Ce(h:PA X es t):PE X (.List es pos) (JZ t):=by
 intro γ s σ H Q I hq
 refine wpAny_List_spliced (cj (h pos γ s σ H _ I hq) fun us s1⟨xs,H1,I1,r,z,q⟩=>⟨by rw[<-r.length];exact z,?_⟩)
 refine⟨.ref s1.heap.objs.size,upd H1 s1.heap.objs.size _,I1.laid (fun b u e=>QWq _ e) (QVz _) ?_,rfl,q _ (I1.hok.fresh (QVz _))⟩
 exact⟨z,us,0,r,Qqz _ rfl⟩
end
abbrev Sp:=List V->Hp->VK->XK->Prop
abbrev Jr:=List Env->Hp->Shared->XK->Value->Shared->Prop
structure yD(P:Program)(w:World)(K:QQq)(mg:QZz)(base:Heap)(A:Around)(outer:List Env)(s:Shared)(H:Hp):Prop where
 frames:A.frames=some outer
 mod:Mod K mg base
 bs:∀b o,base.get? b=some o->s.heap.get? b=some o/\H b=none
 bsz:base.objs.size<=s.heap.objs.size
 mJ:s.heap.FunFrames base outer
 frf:∀b∈frs outer,H b=none
 hok:nJ P w H s.heap
 bare:AllBare s.gens
def CE(outer:List Env)(P:Program)(w:World)(H:Hp)(s:Shared)(Q:VK)(u:Value)(s':Shared):Prop:=
 ∃v H',s'.os=s.os/\AllBare s'.gens/\Un (frs outer) [] H H' s.heap s'.heap/\nJ P w H' s'.heap/\RelV v u/\Q v H'
def CR(CX:Jr)(outer:List Env)(P:Program)(w:World)(H:Hp)(s:Shared)(Q:VK)(E:XK)(r:Result)(s':Shared):Prop:=
 match r with
 |.ok (.ret u)=>CE outer P w H s Q u s'
 |.ok _=>False
 |.error e=>CX outer H s E e s'
structure cD(P:Program)(w:World)(K:QQq)(mg:QZz)(base:Heap)(CX:Jr)(k:Nat)(f:Addr)(fd:FuncData)(ps:List Str)(sp:Sp):Prop where
 len:∀vs H Q E,sp vs H Q E->vs.length=ps.length
 run:∀(A:Around)(outer:List Env)(s:Shared)(H:Hp)(args:Args)(us:List Value)(vs:List V)(Q:VK)(E:XK),dH k A->yD P w K mg base A outer s H->BindsTo s fd args (ps.zip us)->Vals vs us->sp vs H Q E->
  codeAny (model P w) A (.call (.ref f) args) (CR CX outer P w H s Q E) s
theorem cD.mono{w:World}{K:QQq}{base:Heap}{CX:Jr}{f:Addr}{ps:List Str}(F:cD P w K mg base CX j f fd ps sp)(h:j<=k):
  cD P w K mg base CX k f fd ps sp:=⟨F.len,fun A outer s H args us vs Q E hr=>F.run A outer s H args us vs Q E (hr.mono h)⟩
def cD.imp{w:World}{K:QQq}{base:Heap}{k:Nat}{f:Addr}{ps:List Str}(F:cD P w K mg base CX k f fd ps sp)
  (h:∀vs H Q E,sp' vs H Q E->sp vs H Q E):cD P w K mg base CX k f fd ps sp':=
 ⟨fun vs H Q E q=>F.len vs H Q E (h _ _ _ _ q),fun A outer s H args us vs Q E hr he hb hv hs=>F.run A outer s H args us vs Q E hr he hb hv (h _ _ _ _ hs)⟩
def yD.make{P:Program}{w:World}{K:QQq}{mg:QZz}{base:Heap}{A:Around}{outer:List Env}{s:Shared}{H:Hp}(e:yD P w K mg base A outer s H)(C:Addr)(us:List Value)(kw:List (Str×Value)):
  yD P w K mg base (A.under (.builtin "type.__call__" ⟨.ref C::us,kw⟩)) outer s H:=⟨by first|exact e.frames|(simpa[Around.under,Code.envs,Code.isFrame,pushEnvs]using e.frames),e.mod,e.bs,e.bsz,e.mJ,e.frf,e.hok,e.bare⟩
theorem yD.in1{P:Program}{w:World}{K:QQq}{mg:QZz}{base:Heap}{A:Around}{outer:List Env}{s:Shared}{H:Hp}(e:yD P w K mg base A outer s H):
  yD P w K mg base A.in1 outer s H:=⟨e.frames,e.mod,e.bs,e.bsz,e.mJ,e.frf,e.hok,e.bare⟩
section
variable{X:Cx}{γ:QQz}{σ:St}{H:Hp}{s s':Shared}
def Inv.env0(I:Inv X γ σ H s):yD X.prog X.w X.K X.mg X.base X.A X.stack s H:=
 ⟨I.ok.frames,I.ok.mod,I.bs,Nat.le_trans I.ok.bsz I.sz,I.stack,I.El,I.hok,I.bare⟩
def Inv.after{u:Value}(I:Inv X γ σ H s)(h:CE X.stack X.prog X.w H s Q u s'):EP X γ σ Q u s':=by
 obtain⟨v,H',os,bare,un,hok,r,q⟩:=h
 obtain⟨hh,g,d,t,os'⟩:=s'
 obtain rfl:os'=s.os:=os
 exact⟨v,H',I.call un hok bare (fun b z=>absurd z (by simp)),r,q⟩
end
noncomputable def ie(sp:Sp)(dvs:List V)(E:XK)(t:TA):TE:=fun σ H Q=>t σ H fun vs H1=>sp (vs++dvs) H1 Q E
noncomputable def qb(C:Addr)(m:Str)(sp:Sp)(dvs:List V)(E:XK)(ta:TE)(t:TA):TE:=fun σ H Q=>ta σ H fun x H1=>∃a dx fs,x=.ref a/\H1 a=some (.ins C dx fs)/\fs.lookup m=none/\
 t σ H1 fun vs H2=>sp (x::(vs++dvs)) H2 Q E
noncomputable def Uc(C:Addr)(sp:Sp)(dvs:List V)(E:XK)(t:TA):TE:=fun σ H Q=>t σ H fun vs H1=>∀x dx,H1 x=none->H1 dx=none->dx≠x->
 sp (.ref x::(vs++dvs)) (upd (upd H1 dx (.own x)) x (.ins C dx [])) (fun v H2=>v=.non/\Q (.ref x) H2) E
def Binds(K:QQq)(fd:FuncData)(ps:List Str)(ds:List Value):Prop:=
 ∀(s:Shared)(us:List Value),K.In s.heap->(us++ds).length=ps.length->BindsTo s fd ⟨us,[]⟩ (ps.zip (us++ds))
def Binds.all{K:QQq}{fd:FuncData}(h:∀us:List Value,us.length=ps.length->bindArgs fd ⟨us,[]⟩=pure (ps.zip us)):Binds K fd ps []:=fun s us _ hl=>by
 rw[List.append_nil]at hl⊢
 exact .of_eq (h us hl)
def lH(CX:Jr)(X:Cx)(E:XK):Prop:=∀(γ:QQz)(σ:St)(H:Hp)(s:Shared)(e:Value)(s':Shared),Inv X γ σ H s->CX X.stack H s E e s'->X.xe e s'
section
variable{X:Cx}{CX:Jr}{k:Nat}{f C:Addr}{fd:FuncData}{ps:List Str}{sp:Sp}{dvs:List V}{ds:List Value}{E:XK}{x m:Str}{p pos apos:Pos}{e o:Expr}{es:List Expr}{ta:TE}{t:TA}
theorem Bs{σ:St}{H:Hp}{Q:VK}{vs:List V}(F:cD X.prog X.w X.K X.mg X.base CX k f fd ps sp)(hr:dH k X.A)(hb:Binds X.K fd ps ds)(hd:Vals dvs ds)(hx:lH CX X E)
  (I:Inv X γ σ H s)(r:Vals vs us)(h:sp (vs++dvs) H Q E):wpAny (model X.prog X.w) X.A (call (.ref f) us) (EP X γ σ Q) X.xe s:=by
 have r2:=r.append hd
 refine wpAny_call (codeAny_mono (F.run X.A X.stack s H ⟨us,[]⟩ _ _ Q E hr I.env0 (hb s us I.zT (by rw[<-r2.length];exact F.len _ _ _ _ h)) r2 h) fun r s' hq=>?_)
 cases r with
 |error e=>exact hx γ σ H s e s' I hq
 |ok fl=>
  cases fl with
  |ret u=>exact I.after hq
  |next=>exact False.elim hq
  |brk=>exact False.elim hq
  |cont=>exact False.elim hq
def gQ(F:cD X.prog X.w X.K X.mg X.base CX k f fd ps sp)(hr:dH k X.A)(hg:Gl X x)(hm:X.mg x=some (.ref f))(hk:PySem.W.keepIn X.K (.ref f)=true)(hb:Binds X.K fd ps ds)(hd:Vals dvs ds)(hx:lH CX X E)
  (ha:PA X (e::es) t)(hdb:(x==("__debug__":Str))=false:=by decide)(he:starEach (e::es) X.env=(false,eval e X.env)::starEach es X.env:=by rfl)(hpl:(backTo pos (starEach es X.env)).any (·.1)=false:=by rfl):
  PE X (.Call (.Name x p) (e::es) [] pos) (ie sp dvs E t):=by
 intro γ s σ H Q I h
 exact wpAny_Call_Name_kw (xV I hg hm (PySem.W.callWith_K I.ok.mod.kin hk (cj (ha pos γ s σ H _ I h) fun us s1⟨vs,H1,I1,r,q⟩=>⟨I1.zT,Bs F hr hb hd hx I1 r q⟩) he hpl) hdb)
def Ra{pl:Sem Bool}(he:PE X o ta)(c:pX X.K C)(hm:Meth X.K C m f)(F:cD X.prog X.w X.K X.mg X.base CX k f fd ps sp)(hr:dH k X.A)(hb:Binds X.K fd ps ds)(hd:Vals dvs ds)(hx:lH CX X E)(ha:PA X (e::es) t)
  (hst:starEach (e::es) X.env=(false,eval e X.env)::starEach es X.env:=by rfl)(hpl:(backTo pos (starEach es X.env)).any (·.1)=false:=by rfl)
  (ht:eval (.Call (.Attribute o m apos) (e::es) [] pos) X.env=(do
   let ov<-eval o X.env
   standAt apos.atName
   let (f,first)<-holding [ov] (getMethod ov m pl)
   callWith pos f first (backTo pos (starEach (e::es) X.env)) (backToKw pos (keywordEach [] X.env))):=by rfl):
  PE X (.Call (.Attribute o m apos) (e::es) [] pos) (qb C m sp dvs E ta t):=by
 intro γ s σ H Q I h
 refine PySem.W.methodCall_KW (pl:=pl) (cj (he γ s σ H _ I h) fun u s1⟨x,H1,I1,rx,a,dx,fs,ex,ea,l,q⟩=>?_) ht
 subst ex
 obtain rfl:u=Value.ref a:=rx
 refine ud I1 ea c hm l ?_
 refine PySem.W.callWith_K (first:=[.ref a]) (h₀:=X.base) I.ok.mod.kin hm.kp (cj (ha pos γ s1 σ H1 _ I1 q) fun us s2⟨vs,H2,I2,r,q2⟩=>⟨I2.zT,?_⟩) hst hpl
 exact Bs (us:=.ref a::us) (vs:=.ref a::vs) F hr hb hd hx I2 (.cons rfl r) q2
def zE{pl:Sem Bool}(he:PE X o ta)(c:pX X.K C)(hm:Meth X.K C m f)(F:cD X.prog X.w X.K X.mg X.base CX k f fd ps sp)(hr:dH k X.A)(hb:Binds X.K fd ps ds)(hd:Vals dvs ds)(hx:lH CX X E)
  (ht:eval (.Call (.Attribute o m apos) [] [] pos) X.env=(do
   let ov<-eval o X.env
   standAt apos.atName
   let (f,first)<-holding [ov] (getMethod ov m pl)
   callWith pos f first (backTo pos (starEach [] X.env)) (backToKw pos (keywordEach [] X.env))):=by rfl):
  PE X (.Call (.Attribute o m apos) [] [] pos) (qb C m sp dvs E ta cW):=by
 intro γ s σ H Q I h
 refine PySem.W.methodCall_KW (pl:=pl) (cj (he γ s σ H _ I h) fun u s1⟨x,H1,I1,rx,a,dx,fs,ex,ea,l,q⟩=>?_) ht
 subst ex
 obtain rfl:u=Value.ref a:=rx
 refine ud I1 ea c hm l ?_
 exact PySem.W.callWith_K0 (first:=[.ref a]) I1.zT hm.kp (Bs (us:=[.ref a]) (vs:=[.ref a]) F hr hb hd hx I1 (.cons rfl .nil) q)
structure Mk(K:QQq)(C f:Addr):Prop where
 makes:PySem.W.makesIn K C=true
 init:PySem.W.findIn K (.ref C) "__init__"=some (some (.ref f))
 fn:PySem.W.isFn K (.ref f)=true
 kp:PySem.W.keepIn K (.ref C)=true
theorem Kl{γ:QQz}{σ:St}{H:Hp}{s:Shared}{Q:VK}{us:List Value}{vs:List V}(M:Mk X.K C f)(F:cD X.prog X.w X.K X.mg X.base CX k f fd ps sp)(hr:dH (k+1) X.A)(hb:Binds X.K fd ps ds)(hd:Vals dvs ds)
  (hx:lH CX X E)(I:Inv X γ σ H s)(r:Vals vs us)
  (h:∀x dx,H x=none->H dx=none->dx≠x->sp (.ref x::(vs++dvs)) (upd (upd H dx (.own x)) x (.ins C dx [])) (fun v H2=>v=.non/\Q (.ref x) H2) E):
  wpAny (model X.prog X.w) X.A (call (.ref C) us) (EP X γ σ Q) X.xe s:=by
 have hq:=h (s.heap.objs.size+1) s.heap.objs.size (I.hok.fresh (Nat.le_succ _)) (I.hok.fresh (QVz _)) (Qvq (Nat.lt_succ_self _))
 have I2:=Inv.made (C:=C) I
 have r2:Vals (V.ref (s.heap.objs.size+1)::(vs++dvs)) (Value.ref (s.heap.objs.size+1)::(us++ds)):=.cons rfl (r.append hd)
 have hl:(Value.ref (s.heap.objs.size+1)::us++ds).length=ps.length:=by
  have e:=r2.length
  rw[F.len _ _ _ _ hq]at e
  exact e.symm
 refine wpAny_call (LK (f:=f) I.zT M.makes M.init (beq_iff_eq.mp M.fn) (codeAny_mono (F.run _ X.stack _ _ ⟨Value.ref (s.heap.objs.size+1)::us,[]⟩ (Value.ref (s.heap.objs.size+1)::(us++ds)) _ _ E (hr.make C us [])
  (I2.env0.make C us []) (hb _ (Value.ref (s.heap.objs.size+1)::us) I2.zT hl) r2 hq) fun r s' hq'=>?_))
 cases r with
 |error e=>exact hx γ σ _ _ e s' I2 hq'
 |ok fl=>
  cases fl with
  |ret u=>
   obtain⟨v,H',I3,rv,ev,q3⟩:=I2.after hq'
   subst ev
   exact⟨rv,⟨V.ref (s.heap.objs.size+1),H',I3,rfl,q3⟩⟩
  |next=>exact False.elim hq'
  |brk=>exact False.elim hq'
  |cont=>exact False.elim hq'
def Rb(M:Mk X.K C f)(F:cD X.prog X.w X.K X.mg X.base CX k f fd ps sp)(hr:dH (k+1) X.A)(hg:Gl X x)(hm:X.mg x=some (.ref C))(hb:Binds X.K fd ps ds)(hd:Vals dvs ds)(hx:lH CX X E)
  (ha:PA X (e::es) t)(hdb:(x==("__debug__":Str))=false:=by decide)(he:starEach (e::es) X.env=(false,eval e X.env)::starEach es X.env:=by rfl)(hpl:(backTo pos (starEach es X.env)).any (·.1)=false:=by rfl):
  PE X (.Call (.Name x p) (e::es) [] pos) (Uc C sp dvs E t):=by
 intro γ s σ H Q I h
 refine wpAny_Call_Name_kw (xV I hg hm ?_ hdb)
 refine PySem.W.callWith_K (h₀:=X.base) I.ok.mod.kin M.kp (cj (ha pos γ s σ H _ I h) fun us s1⟨vs,H1,I1,r,q⟩=>⟨I1.zT,?_⟩) he hpl
 exact Kl M F hr hb hd hx I1 r q
end
def PK(X:Cx)(kws:List Keyword)(t:TA):Prop:=
 ∀(pos:Pos)(γ:QQz)(s:Shared)(σ:St)(H:Hp)(Q:List V->Hp->Prop),Inv X γ σ H s->t σ H Q->wpAny (model X.prog X.w) X.A (evalAll ((backToKw pos (keywordEach kws X.env)).map (·.2))) (AP X γ σ Q) X.xe s
section
variable{X:Cx}{CX:Jr}{k:Nat}{f C:Addr}{fd:FuncData}{ps ks:List Str}{sp:Sp}{E:XK}{x m:Str}{p pos apos kpos:Pos}{e o:Expr}{es:List Expr}{kws:List Keyword}{te ta:TE}{t tk:TA}{nm:Option Str}
def Wx:PK X [] cW:=fun _ _ _ _ H Q I h=>wpAny_evalAll_nil ⟨[],H,I,.nil,h⟩
def Q5(ha:PE X e te)(hr:PK X kws t):PK X (⟨nm,e,kpos⟩::kws) (aH te t):=by
 intro pos γ s σ H Q I h
 show wpAny _ _ (evalAll ((do let v<-eval e X.env;standAt pos;pure v)::(backToKw pos (keywordEach kws X.env)).map (·.2))) _ _ s
 refine wpAny_evalAll_cons (QTz (cj (ha γ s σ H _ I h) fun u s1⟨x,H1,I1,r1,q1⟩=>QTz (wpAny_standAt (QKq ?_))))
 exact cj (hr pos γ s1 σ H1 _ I1 q1) fun us s2⟨xs,H2,I2,r2,q2⟩=>⟨x::xs,H2,I2,.cons r1 r2,q2⟩
variable{g:List Value->List Value->List Value}{gV:List V->List V->List V}
end
structure eF(N P:List Str)(sc:Scope):Prop where
 kind:sc.kind=.function
 co:sc.isCoroutine=false
 gen:sc.isGenerator=false
 nd:N.Nodup
 pre:N.take P.length=P
 par:∀x∈P,sc.names.lookup x=some .local\/sc.names.lookup x=some .cell
 nofree:∀y∈sc.names,y.2≠ .free
theorem wK{kindOf:Str->Option NameKind}:∀{binds:List (Str×Value)}{m:QZz},(∀v,(x,v)∉binds)->bindL kindOf binds m x=m x
 |[],_,_=>rfl
 |(n,v)::r,m,h=>by
  unfold bindL
  rw[wK fun w hw=>h w (QYq _ hw)]
  split
  ·have:x≠n:=by rintro rfl;exact h v QYz
   simp[this]
  ·rfl
theorem wM{kindOf:Str->Option NameKind}:∀{binds:List (Str×Value)}{m:QZz},(∀v,(x,v)∉binds)->bindC kindOf binds m x=m x
 |[],_,_=>rfl
 |(n,v)::r,m,h=>by
  unfold bindC
  rw[wM fun w hw=>h w (QYq _ hw)]
  split
  ·rfl
  ·have:x≠n:=by rintro rfl;exact h v QYz
   simp[this]
theorem wL{kindOf:Str->Option NameKind}{x:Str}{v:Value}:∀{P:List Str}{vs:List Value}{i:Nat}{m:QZz},P.Nodup->P[i]? =some x->vs[i]? =some v->kindOf x=some .local->
  bindL kindOf (P.zip vs) m x=some v
 |[],_,_,_,_,h,_,_=>by simp at h
 |_::_,[],_,_,_,_,h,_=>by simp at h
 |p::P,w::vs,0,m,nd,h1,h2,hk=>by
  simp at h1 h2;subst h1;subst h2
  show bindL kindOf ((p,w)::P.zip vs) m p=_
  unfold bindL
  rw[wK fun v hv=>(List.nodup_cons.mp nd).1 (List.of_mem_zip hv).1,if_pos hk]
  simp
 |p::P,w::vs,i+1,m,nd,h1,h2,hk=>by
  unfold bindL
  exact wL (List.nodup_cons.mp nd).2 (by simpa using h1) (by simpa using h2) hk
theorem wN{kindOf:Str->Option NameKind}{x:Str}{v:Value}:∀{P:List Str}{vs:List Value}{i:Nat}{m:QZz},P.Nodup->P[i]? =some x->vs[i]? =some v->kindOf x≠some .local->
  bindC kindOf (P.zip vs) m x=some v
 |[],_,_,_,_,h,_,_=>by simp at h
 |_::_,[],_,_,_,_,h,_=>by simp at h
 |p::P,w::vs,0,m,nd,h1,h2,hk=>by
  simp at h1 h2;subst h1;subst h2
  show bindC kindOf ((p,w)::P.zip vs) m p=_
  unfold bindC
  rw[wM fun v hv=>(List.nodup_cons.mp nd).1 (List.of_mem_zip hv).1,if_neg hk]
  simp
 |p::P,w::vs,i+1,m,nd,h1,h2,hk=>by
  unfold bindC
  exact wN (List.nodup_cons.mp nd).2 (by simpa using h1) (by simpa using h2) hk
def start(N:List Str)(vs:List V):St:=vs.map some++List.replicate (N.length-vs.length) none
noncomputable def gD(CX:Jr)(P:Program)(w:World)(K:QQq)(mg:QZz)(base:Heap)(N:List Str)(qual:Str)(scope:Scope)(f:Addr)(cd:Value)(A:Around)(outer:List Env)(s:Shared)(H:Hp)(E:XK):Cx where
 prog:=P
 w:=w
 K:=K
 mg:=mg
 base:=base
 A:=A.deeper (envOfC qual scope s.heap.objs.size f cd)
 N:=N
 s₀:=s
 H₀:=H
 env:=envOfC qual scope s.heap.objs.size f cd
 outer:=outer
 stack:=envOfC qual scope s.heap.objs.size f cd::outer
 ex:=[]
 calm:=true
 fn:=fun _=>true
 pn:=[]
 xe:=fun e s'=>wpAny (model P w) (A.deeper (envOfC qual scope s.heap.objs.size f cd)) (leaving (envOfC qual scope s.heap.objs.size f cd) e) (fun _ s''=>CX outer H s E e s'') (fun e' s''=>CX outer H s E e' s'') s'
def Ag{sc:Scope}{n:Nat}(h:sc.names.lookup x=some .cell):∃c,(cellsFrom n sc.names []).lookup x=some c:=by
 exact Option.isSome_iff_exists.mp (PySem.W.cellsFrom_some sc.names n [] (.inl h))
def Iu{CX:Jr}{w:World}{K:QQq}{base:Heap}{qual:Str}{f:Addr}{A:Around}{s s1:Shared}{E:XK}
  (S:eF N ps scope)(hd:A.handled=none)(e0:yD P w K mg base A outer s H)(hl:vs.length=ps.length)(r:Vals vs us)
  (x:InCallC s s.heap.objs.size (bindL (envOfC qual scope s.heap.objs.size f cd).kindOf (ps.zip us) fun _=>none) (cellsFrom (s.heap.objs.size+1) scope.names []) (bindC (envOfC qual scope s.heap.objs.size f cd).kindOf (ps.zip us) fun _=>none) s1):
  Inv (gD CX P w K mg base N qual scope f cd A outer s H E) [] (start N vs) H s1:=by
 have hpl:ps.length<=N.length:=by have:=congrArg List.length S.pre;rw[List.length_take]at this;omega
 obtain⟨h1,tk,rfl,hk⟩:=x.done
 have noA:∀b:Addr,b∉(gD CX P w K mg base N qual scope f cd A outer s H E).ex:=fun b z=>absurd (show b∈([])from z) (by simp)
 refine⟨⟨e0.mod,S.kind,rfl,rfl,QVz _,fun y z c h1 h2=>?_,fun y hy=>?_,fun y c _ h=>?_,fun _=>hd,Around.frames_deeper e0.frames,.inr ⟨rfl,rfl⟩,fun b z=>absurd z (noA b),e0.bs,e0.bsz,fun b _ _=>noA b,fun b z=>absurd z (noA b),e0.mJ,e0.frf⟩,
  rfl,e0.bare,Un.kept hk,⟨_,x.toInCall.ns,fun i y v h1 h2 h3=>?_⟩,fun y c h=>⟨_,x.cell y c h⟩,e0.hok.fresh (QVz _),fun y c h=>?_,fun p hp=>absurd (show p∈([])from hp) (by simp),e0.hok.kept hk,?_⟩
 ·exact name_of_addr x.apart (PySem.mem_of_lookup h1) (PySem.mem_of_lookup h2)
 ·have hy:=hy
  rcases hy with hy|hy
  ·exact Ag hy
  ·exact absurd rfl (S.nofree _ (PySem.mem_of_lookup hy))
 ·exact Nat.le_of_lt (x.above y c (PySem.mem_of_lookup h))
 ·have hi:i<vs.length:=by
   unfold start at h2
   by_cases hi:i<vs.length
   ·exact hi
   ·rw[QHz (by simpa using hi)]at h2
    rw[List.getElem?_replicate]at h2
    split at h2<;>cases h2
  have ha:vs[i]? =some v:=by
   unfold start at h2
   rw[Qwq (by simpa using hi),QEz]at h2
   cases e:vs[i]? with
   |none=>rw[e]at h2;cases h2
   |some a=>rw[e]at h2;cases h2;rfl
  obtain⟨u,hu,rv⟩:=r.get ha
  have hp:ps[i]? =some y:=by
   rw[<-S.pre,List.getElem?_take_of_lt (by omega)];exact h1
  have ndP:ps.Nodup:=by rw[<-S.pre];exact S.nd.sublist (List.take_sublist _ _)
  refine⟨u,rv,?_⟩
  rcases S.par y (QBq hp)with k|k
  ·exact .inl ⟨k,wL ndP hp hu k⟩
  ·obtain⟨c,e⟩:=Ag k
   refine .inr ⟨.inl k,c,e,?_⟩
   have q:=x.cell y c e
   rw[wN ndP hp hu (by show scope.names.lookup y≠_;rw[k];decide)]at q
   exact q
 ·exact e0.hok.fresh (Nat.le_of_lt (x.above y c (PySem.mem_of_lookup h)))
 ·unfold start
  show _=N.length
  rw[QTq,Qvz,List.length_replicate]
  omega
def abR{CX:Jr}{w:World}{K:QQq}{base:Heap}{k:Nat}{name qual:Str}{body:List Stmt}{dV kV doc pm cdv ct oc:Value}
{N ps:List Str} (lk:K.lookup f=some ⟨oc,od,.func (PySem.W.fnOf name qual params body scope dV kV doc pm an cdv ct),osl⟩) (hcd:PySem.W.codeIn K cdv qual=true) (S:eF N ps scope)
  (len:∀vs H Q E,sp vs H Q E->vs.length=ps.length)
  (hbody:∀(A:Around)(outer:List Env)(s:Shared)(H:Hp)(vs:List V)(Q:VK)(E:XK),dH k (A.deeper (envOfC qual scope s.heap.objs.size f cdv))->sp vs H Q E->
   ∃t,uZ (gD CX P w K mg base N qual scope f cdv A outer s H E) body t/\t {nx:=fun _ H'=>Q .non H',rt:=Q} (start N vs) H):
  cD P w K mg base CX (k+1) f (PySem.W.fnOf name qual params body scope dV kV doc pm an cdv ct) ps sp:=by
 refine⟨len,fun A outer s H args us vs Q E hr e0 hb r hsp=>?_⟩
 have hl:=len _ _ _ _ hsp
 have KX:=e0.mod.kin.keeps fun b o e=>(e0.bs b o e).1
 have lim:=e0.mod.nolimit.keeps fun b o e=>(e0.bs b o e).1
 have hkind:∀y∈ps.zip us,scope.names.lookup y.1=some .local\/(scope.names.lookup y.1=some .cell/\((cellsFrom (s.heap.objs.size+1) scope.names []).lookup y.1).isSome=true):=fun⟨n,v⟩hy=>by
  rcases S.par n (List.of_mem_zip hy).1 with q|q
  ·exact .inl q
  ·exact .inr ⟨q,PySem.W.cellsFrom_some _ _ _ (.inl q)⟩
 refine codeAny_call_function hr.depth (KX _ _ lk) rfl S.co S.gen rfl (PySem.W.codeRec_of KX hcd) (hb _ _ _ _ ?_)
 refine wpAny_newFunctionEnv_cells S.kind hkind fun env he s1 x=>?_
 subst he
 refine⟨lim.keeps x.toInCall.keep,codeAny_func ?_⟩
 obtain⟨t,ht,hq⟩:=hbody A outer s H vs Q E (hr.deeper _) hsp
 have I:Inv (gD CX P w K mg base N qual scope f cdv A outer s H E) [] _ H s1:=Iu S hr.hd e0 hl r x
 refine QKz (ht [] s1 _ H _ I hq) (fun fl s' hs=>?_) fun e s' hs=>hs
 have fin:∀{ζ:St}{H':Hp}{v:V}{u:Value},Inv (gD CX P w K mg base N qual scope f cdv A outer s H E) [] ζ H' s'->RelV v u->Q v H'->CE outer P w H s Q u s':=
  fun{ζ H' v u}J rv q=>⟨v,H',J.os,J.bare,J.base,J.hok,rv,q⟩
 cases fl with
 |ret u=>
  obtain⟨v,ζ,H',J,rv,q⟩:=hs
  exact fin J rv q
 |next=>
  obtain⟨ζ,H',J,q⟩:=hs
  exact fin (v:=V.non) J rfl q
 |brk=>
  obtain⟨_,_,_,q⟩:=hs
  exact False.elim q
 |cont=>
  obtain⟨_,_,_,q⟩:=hs
  exact False.elim q
section
variable{X:Cx}{x:Str}{p pos:Pos}{e:Expr}{es:List Expr}{t:TA}{id T:String}{r:List V->Hp->VK->Prop}
def tCB(r:List V->Hp->VK->Prop)(t:TA):TE:=fun σ H Q=>t σ H fun vs H1=>r vs H1 Q
def oA(hc:gP X (.builtin id) r)(hg:Gl X x)(hm:X.mg x=none)(hv:bootBuiltins x=some (.builtin id))(ha:PA X (e::es) t)(hn:x≠"__name__":=by decide)(hdb:(x==("__debug__":Str))=false:=by decide)
  (he:starEach (e::es) X.env=(false,eval e X.env)::starEach es X.env:=by rfl)(hpl:(backTo pos (starEach es X.env)).any (·.1)=false:=by rfl):PE X (.Call (.Name x p) (e::es) [] pos) (tCB r t):=by
 intro γ s σ H Q I h
 exact wpAny_Call_Name_kw (jC I hg hm hv (PyProof.Rows.callWith_builtin1 (cj (ha pos γ s σ H _ I h) fun us s1⟨vs,H1,I1,r1,q1⟩=>hc γ s1 σ H1 vs us Q I1 r1 q1) he hpl) hn hdb)
def lR(hc:gP X (.type T) r)(hg:Gl X x)(hm:X.mg x=none)(hv:bootBuiltins x=some (.type T))(ha:PA X (e::es) t)(hn:x≠"__name__":=by decide)(hdb:(x==("__debug__":Str))=false:=by decide)
  (he:starEach (e::es) X.env=(false,eval e X.env)::starEach es X.env:=by rfl)(hpl:(backTo pos (starEach es X.env)).any (·.1)=false:=by rfl):PE X (.Call (.Name x p) (e::es) [] pos) (tCB r t):=by
 intro γ s σ H Q I h
 exact wpAny_Call_Name_kw (jC I hg hm hv (PyProof.Rows.callWith_type1 (cj (ha pos γ s σ H _ I h) fun us s1⟨vs,H1,I1,r1,q1⟩=>hc γ s1 σ H1 vs us Q I1 r1 q1) he hpl) hn hdb)
end
end L2
namespace HT
open PySem PyProof.Rows
section
open PySem.SeqAt
open PySem.AutoSeq1 (wpAny_loadPart')
open PySem.MeetsSeq PySem.MeetsSeq2 PySem.MeetsSeq3
end
section
variable{prog:Program}{w:World}{A:Around}{E:QZq}{s:Shared}
def SN{vs ws:List Value}(ht:IsTup s.heap t vs.toArray)(hb:IsTup s.heap b ws.toArray)(hv:vs≠[])
  (h1:ws=[]->Q (.ref t) s)(h2:ws≠[]->Q (.ref s.heap.objs.size) {s with heap:=s.heap.push {cls:=.type "tuple",data:=.seq (vs++ws).toArray}})
  (hsz:vs.length+ws.length<=sizeLine):wpAny (model prog w) A (binaryOp .Add (.ref t) (.ref b)) Q E s:=by
 obtain⟨⟨cls,dd,data,sl⟩,ho,hc,n,hd⟩:=id ht
 obtain⟨⟨cls2,dd2,data2,sl2⟩,ho2,hc2,n2,hd2⟩:=id hb
 subst hc hd hc2 hd2
 have e:vs.toArray++ws.toArray=(vs++ws).toArray:=by simp
 by_cases hw:ws=[]
 ·exact concat_meets ⟨_,ho,rfl⟩ ⟨_,ho2,rfl⟩ noFill_tuple_add seq_tuple_add PySem.F.slot_tuple_add PySem.F.entry_tuple_add (PySem.F.args_tuple_add_2 _ _)
   (tuple_addW1 t b vs.toArray ws.toArray n n2 dd dd2 sl sl2 (by simpa using hv) (by simp[hw])) ⟨ho,ho2,h1 hw⟩
 ·refine concat_meets ⟨_,ho,rfl⟩ ⟨_,ho2,rfl⟩ noFill_tuple_add seq_tuple_add PySem.F.slot_tuple_add PySem.F.entry_tuple_add (PySem.F.args_tuple_add_2 _ _)
   (tuple_addW2 t b vs.toArray ws.toArray n n2 dd dd2 sl sl2 (by simpa using hv) (by simpa using hw) (by rw[Qjz,Qjz];exact hsz)) ⟨ho,ho2,?_⟩
  rw[e]
  exact h2 hw
noncomputable def gG(n d:Nat):Option Int->Nat
 |none=>d
 |some v=>if v<0 then(v+(n:Int)).toNat else min v.toNat n
def nY n d:gG n d none=d:=rfl
def adY n d(hd:d<=n)o:gG n d o<=n:=by
 cases o with
 |none=>exact hd
 |some v=>
  show(if v<0 then(v+n).toNat else min v.toNat n)<=n
  by_cases hv:v<0
  ·rw[if_pos hv];omega
  ·rw[if_neg hv];exact Nat.min_le_right _ _
def Gz v(n d:Nat):(if v<0 then max (v+(n:Int)) 0 else min v (n:Int))=((gG n d (some v):Nat):Int):=by
 show(if v<0 then max (v+n) 0 else min v n)=(((if v<0 then(v+(n:Int)).toNat else min v.toNat n):Nat))
 by_cases hv:v<0
 ·simp only[if_pos hv];omega
 ·simp only[if_neg hv];omega
def DR lo hi(n:Nat):Builtin.Slice.sliceAdjust lo hi 1 (n:Int)=(((gG n 0 lo:Nat):Int),((gG n n hi:Nat):Int)):=by
 have h1:¬(1<0):=by omega
 unfold Builtin.Slice.sliceAdjust
 refine Prod.ext ?_ ?_
 ·cases lo with
  |none=>rfl
  |some v=>exact Gz v n 0
 ·cases hi with
  |none=>rfl
  |some v=>exact Gz v n n
def BZ(i j:Nat):Builtin.Slice.slicePlaces (i:Int) (j:Int) 1=j-i:=by
 unfold Builtin.Slice.slicePlaces
 split<;>omega
def rZ{o:Option Int}(p:IsPart v o)(h:Q o s):wpAny (model prog w) A (Builtin.Slice.slicePartIndex v) Q E s:=by
 cases p with
 |none=>exact slicePart_none h
 |int i t=>exact slicePart_int h
def jd{sl:Addr}{lo hi:Option Int}{n:Nat}(hs:s.heap.IsSliceOf sl vl vu .none)(pl:IsPart vl lo)(pu:IsPart vu hi)
  (h:Q (((gG n 0 lo:Nat):Int),1,gG n n hi-gG n 0 lo) s):wpAny (model prog w) A (Builtin.Slice.sliceApplied (.ref sl) (pure (n:Int))) Q E s:=by
 obtain⟨os,hos,hcs,hds⟩:=id hs
 refine QTz (QTz (QGq hos hds rfl (QTz (QGq hos hds rfl (QTz (QGq hos hds rfl (QKq ?_)))))))
 refine QTz (slicePart_none ?_)
 refine QTz (rZ pl (QTz (rZ pu (QTz (QKq ?_)))))
 show wpAny _ _ (match Builtin.Slice.sliceAdjust lo hi 1 n with|(lo,hi)=>pure (lo,(1:Int),Builtin.Slice.slicePlaces lo hi 1)) _ _ s
 rw[DR lo hi n]
 show wpAny _ _ (pure ((gG n 0 lo:Int),1,Builtin.Slice.slicePlaces ((gG n 0 lo:Nat)) ((gG n n hi:Nat)) 1)) _ _ s
 rw[BZ]
 exact QKq h
def K1(xs:Array Value)(i k:Nat):((List.range k).filterMap fun(m:Nat)=>xs[((i:Int)+(m:Int)*1).toNat]?).toArray=((xs.toList.drop i).take k).toArray:=by
 have e:(fun(m:Nat)=>xs[(i+(m:Int)*1).toNat]?)=fun m=>xs[i+m]? :=by
  funext m
  have:(i+(m:Int)*1).toNat=i+m:=by omega
  rw[this]
 rw[e]
 have:=pick_run xs i k
 rw[List.filterMap_map]at this
 have e2:((fun x=>xs[x]?)∘fun x=>i+x)=fun m=>xs[i+m]? :=rfl
 rw[e2]at this
 rw[this]
theorem oO{t sl:Addr}{vl vu:Value}{lo hi:Option Int}(ht:IsTup s.heap t items)(hs:s.heap.IsSliceOf sl vl vu .none)(pl:IsPart vl lo)(pu:IsPart vu hi)
  (hw:¬(gG items.size 0 lo=0/\gG items.size items.size hi=items.size))
  (h:Q (.ref s.heap.objs.size) {s with heap:=s.heap.push {cls:=.type "tuple",data:=.seq ((items.toList.drop (gG items.size 0 lo)).take (gG items.size items.size hi-gG items.size 0 lo)).toArray}})
  (hsz:items.size<=sizeLine):wpAny (model prog w) A (getItem (.ref t) (.ref sl)) Q E s:=by
 have htake:sizeOk (.seq ((items.toList.drop (gG items.size 0 lo)).take (gG items.size items.size hi-gG items.size 0 lo)).toArray):=by
  show((items.toList.drop _).take _).toArray.size<=sizeLine
  rw[Qjz,List.length_take,List.length_drop,Array.length_toList]
  omega
 obtain⟨os,hos,hcs,hds⟩:=id hs
 unfold getItem
 try with_reducible refine QGz ?_
 first|refine QTz _|skip
 refine QTz (wpAny_sequenceKey ht.typeIs (by decide) ?_)
 refine QTz (wpAny_callSpecial?_slot ht.typeIs PyProof.Rows.slot_tuple_getitem
  (Qzq PyProof.Rows.slot_tuple_getitem ht.typeIs entry_tuple_getitem ?_ (args_tuple_getitem _ _)))
 show wpAny _ _ (Builtin.Tuple.tupleItemsOf _>>=_) _ _ s
 refine QTz (tupleItemsOf_ ht ?_)
 refine QTz (wpAny_typeOf ⟨os,hos,hcs⟩ ?_)
 refine QTz (jd hs pl pu ?_)
 have hno:¬((((gG items.size 0 lo):Int)==0&&(1:Int)==1&&(gG items.size items.size hi-gG items.size 0 lo)==items.size)=true):=by
  intro q
  rw[QUq,QUq]at q
  have q1:=eq_of_beq q.1.1
  have q2:=eq_of_beq q.2
  exact hw ⟨by omega,by omega⟩
 show wpAny _ _ (if (((gG items.size 0 lo):Int)==0&&1==1&&_==items.size)=true then _ else _) _ _ s
 rw[if_neg hno,K1]
 first
  |exact QTz (Qzz (QKq ⟨_,rfl,QKq h⟩) htake)
  |exact QTz _
  |exact QTz (QTz _)
  |exact QTz (QTz _)
end
end HT
namespace L2
open PySem PySem.Spec PyProof.Rows
abbrev TO:=St->Hp->(Option Int->Hp->Prop)->Prop
def PO(X:Cx)(e:Option Expr)(t:TO):Prop:=
 ∀(γ:QQz)(s:Shared)(σ:St)(H:Hp)(Q:Option Int->Hp->Prop),Inv X γ σ H s->t σ H Q->
  wpAny (model X.prog X.w) X.A (evalPart e X.env) (fun u s'=>∃o H',Inv X γ σ H' s'/\IsPart u o/\Q o H') X.xe s
def Qm:TO:=fun _ H Q=>Q none H
def aaj(t:TE):TO:=fun σ H Q=>t σ H fun x H1=>∃i,x=.int i/\Q (some i) H1
section
variable{X:Cx}{e:Expr}{te:TE}{lo hi:Option Expr}{tl th:TO}{pos p2:Pos}
def Q4:PO X none Qm:=by
 intro γ s σ H Q I h
 exact QKq ⟨none,H,I,.none,h⟩
def Q3(h:PE X e te):PO X (some e) (aaj te):=by
 intro γ s σ H Q I hw
 refine cj (h γ s σ H _ I hw) fun u s1⟨x,H1,I1,r1,q1⟩=>?_
 obtain⟨i,rfl,q⟩:=q1
 obtain⟨t,rfl⟩:=r1
 exact⟨some i,H1,I1,.int i t,q⟩
def Ti(X:Cx)(r:V->Option Int->Option Int->Hp->VK->Prop):Prop:=
 ∀(γ:QQz)(s:Shared)(σ:St)(H:Hp)(x:V)(v vl vu:Value)(lo hi:Option Int)(sl:Addr)(Q:VK),Inv X γ σ H s->RelV x v->s.heap.IsSliceOf sl vl vu .none->IsPart vl lo->IsPart vu hi->r x lo hi H Q->
  ∃T id,typeLookup (.type T) "__getitem__"=pure (some (.builtin id))/\s.TypeIs v T/\wpAny (model X.prog X.w) X.A (getItem v (.ref sl)) (EP X γ σ Q) X.xe s
def Ti.or{r r':V->Option Int->Option Int->Hp->VK->Prop}(h:Ti X r)(h':Ti X r'):Ti X (fun x lo hi H Q=>r x lo hi H Q\/r' x lo hi H Q):=by
 intro γ s σ H x v vl vu lo hi sl Q I rx hs pl pu q
 rcases q with q|q
 ·exact h γ s σ H x v vl vu lo hi sl Q I rx hs pl pu q
 ·exact h' γ s σ H x v vl vu lo hi sl Q I rx hs pl pu q
noncomputable def tSl(r:V->Option Int->Option Int->Hp->VK->Prop)(te:TE)(tl th:TO):TE:=fun σ H Q=>te σ H fun x H1=>tl σ H1 fun l H2=>th σ H2 fun u H3=>r x l u H3 Q
def K5(hr:Ti X r)(he:PE X e te)(hl:PO X lo tl)(hu:PO X hi th):PE X (.Subscript e (.Slice lo hi none p2) pos) (tSl r te tl th):=by
 intro γ s σ H Q I h
 refine Subscript_ (cj (he γ s σ H _ I h) fun v s1⟨x,H1,I1,r1,q1⟩=>?_)
 refine wpAny_Slice (cj (hl γ s1 σ H1 _ I1 q1) fun vl s2⟨l,H2,I2,pl,q2⟩=>cj (hu γ s2 σ H2 _ I2 q2) fun vu s3⟨u,H3,I3,pu,q3⟩=>?_)
 refine QKq ?_
 obtain⟨T,id,hT,ht,hg⟩:=hr γ {s3 with heap:=s3.heap.push {cls:=.type "slice",data:=.fields #[vl,vu,.none]}} σ H3 x v vl vu l u s3.heap.objs.size Q (I3.kept fun b ob q=>QWq _ q) r1 (Heap.IsSliceOf.new ..) pl pu q3
 exact tail_any ht hT hg (by with_unfolding_all rfl)
noncomputable def yp(xs:List V)(lo hi:Option Int):List V:=(xs.drop (HT.gG xs.length 0 lo)).take (HT.gG xs.length xs.length hi-HT.gG xs.length 0 lo)
def qC xs lo hi:(yp xs lo hi).length<=xs.length:=by
 unfold yp
 rw[List.length_take,List.length_drop]
 omega
noncomputable def aaS(K:QQq):V->Option Int->Option Int->Hp->VK->Prop:=fun x lo hi H Q=>∃a xs,x=.ref a/\j5 K H a xs/\
 ¬(HT.gG xs.length 0 lo=0/\HT.gG xs.length xs.length hi=xs.length)/\∀p,H p=none->Q (.ref p) (upd H p (.tup (yp xs lo hi)))
def Wc:Ti X (aaS X.K):=by
 intro γ s σ H x v vl vu lo hi sl Q I rx hs pl pu h
 obtain⟨a,xs,rfl,hx,hw,q⟩:=h
 cases rx
 obtain⟨its,r,ht,hz⟩:=I.tuple hx
 have hlen:its.toArray.size=xs.length:=by rw[Qjz];exact r.length.symm
 refine⟨"tuple",_,PyProof.Rows.slot_tuple_getitem.lookup,ht.typeIs,?_⟩
 refine HT.oO ht hs pl pu (by rw[hlen];exact hw) ?_ (by rw[hlen];exact hz)
 rw[hlen]
 refine⟨.ref s.heap.objs.size,_,I.laid (fun b ob q=>QWq _ q) (QVz _) ?_,rfl,q _ (I.hok.fresh (QVz _))⟩
 exact⟨Nat.le_trans (qC xs lo hi) hz,_,(r.drop _).take _,TupOk.new _ _⟩
noncomputable def aa0(K:QQq):R2:=fun x y H Q=>∃a b xs ys,x=.ref a/\y=.ref b/\j5 K H a xs/\j5 K H b ys/\xs≠[]/\xs.length+ys.length<=sizeLine/\
 (ys=[]->Q (.ref a) H)/\(ys≠[]->∀p,H p=none->Q (.ref p) (upd H p (.tup (xs++ys))))
def Vals.bQ{us:List Value}(r:Vals xs us):us=[]↔xs=[]:=by
 cases r with
 |nil=>simp
 |cons _ _=>simp
def Rm:gZ X (binaryOp .Add) (aa0 X.K):=by
 intro γ s σ H x y v u Q I rx ry h
 obtain⟨a,b,xs,ys,rfl,rfl,ha,hb,hx,hz,q1,q2⟩:=h
 cases rx
 cases ry
 obtain⟨its,r1,p1,_⟩:=I.tuple ha
 obtain⟨its2,r2,p2,_⟩:=I.tuple hb
 refine HT.SN p1 p2 (fun z=>hx (r1.bQ.mp z)) (fun z=>⟨.ref a,H,I,rfl,q1 (r2.bQ.mp z)⟩) (fun z=>?_) (by rw[<-r1.length,<-r2.length];exact hz)
 refine⟨.ref s.heap.objs.size,_,I.laid (fun b ob q=>QWq _ q) (QVz _) ?_,rfl,q2 (fun w=>z (r2.bQ.mpr w)) _ (I.hok.fresh (QVz _))⟩
 exact⟨by rw[QTq];exact hz,_,r1.append r2,TupOk.new _ _⟩
end
noncomputable def RV(n:Nat)(i:Int):Option Nat:=if 0<=i then(if i<n then some i.toNat else none)else if-(n:Int)<=i then some (i+n).toNat else none
def YD{α:Type}(xs:List α)(i:Int):Option α:=(RV xs.length i).bind fun j=>xs[j]?
def Gi{i:Int}(h:RV n i=some j):seqIndex? i n=some j/\j<n/\ -(n:Int)<=i/\i<n:=by
 unfold RV at h
 by_cases h0:0<=i
 ·rw[if_pos h0]at h
  by_cases h1:i<n
  ·rw[if_pos h1]at h
   have e:=QDz h
   exact⟨by rw[seqIndex_of h0 h1,e],by omega,by omega,h1⟩
  ·rw[if_neg h1]at h;cases h
 ·rw[if_neg h0]at h
  by_cases h1: -n<=i
  ·rw[if_pos h1]at h
   have e:=QDz h
   exact⟨by rw[seqIndex_neg (by omega) h1,e],by omega,h1,by omega⟩
  ·rw[if_neg h1]at h;cases h
def yz{xs:List α}{v:α}(h:YD xs i=some v):∃j,seqIndex? i xs.length=some j/\xs[j]? =some v/\j<xs.length/\ -(xs.length:Int)<=i/\i<xs.length:=by
 unfold YD at h
 cases e:RV xs.length i with
 |none=>rw[e]at h;cases h
 |some j=>
  rw[e]at h
  obtain⟨h1,h2,h3,h4⟩:=Gi e
  exact⟨j,h1,h,h2,h3,h4⟩
def yC(b:Expr):Prop:=∀o i,subscripted b false o i=operate [o,i] (getItem o i)
def O9(X:Cx)(r:R2):Prop:=
 ∀(value slice:Expr)(γ:QQz)(s:Shared)(σ:St)(H:Hp)(x y:V)(v u:Value)(Q:VK),Inv X γ σ H s->RelV x v->RelV y u->r x y H Q->
  subscripted slice false v u=operate [v,u] (getItem v u)->wpAny (model X.prog X.w) X.A (subscriptTail value slice v u) (EP X γ σ Q) X.xe s
def ZW(X:Cx)(id:String)(r:V->List V->Hp->VK->Prop):Prop:=
 ∀(γ:QQz)(s:Shared)(σ:St)(H:Hp)(x:V)(xs:List V)(v:Value)(us:List Value)(Q:VK),Inv X γ σ H s->RelV x v->Vals xs us->r x xs H Q->
  wpAny (model X.prog X.w) X.A (call (.builtin id) (v::us)) (EP X γ σ Q) X.xe s
section
variable{X:Cx}{a b:Expr}{ta tb:TE}{pos:Pos}
def O9.or{r r':R2}(h:O9 X r)(h':O9 X r'):O9 X (fun x y H Q=>r x y H Q\/r' x y H Q):=by
 intro value slice γ s σ H x y v u Q I rx ry q hs
 rcases q with q|q
 ·exact h value slice γ s σ H x y v u Q I rx ry q hs
 ·exact h' value slice γ s σ H x y v u Q I rx ry q hs
def Uv(hr:O9 X r)(ha:PE X a ta)(hb:PE X b tb)(hs:yC b):PE X (.Subscript a b pos) (Ua r ta tb):=by
 intro γ s σ H Q I h
 exact Subscript_ (Yw ha hb I h fun v u s2 x y H2 I2 rx ry q=>hr a b γ s2 σ H2 x y v u Q I2 rx ry q (hs _ _))
noncomputable def Wo(K:QQq):R2:=fun x y H Q=>∃p xs i v,x=.ref p/\y=.int i/\lG K H p xs/\YD xs i=some v/\Q v H
noncomputable def Wn(K:QQq):R2:=fun x y H Q=>∃p xs i v,x=.ref p/\y=.int i/\j5 K H p xs/\YD xs i=some v/\Q v H
noncomputable def aaW:R2:=fun x y H Q=>∃z i c,x=.str z/\y=.int i/\z.length<=sizeLine/\YD z.cps.toList i=some c/\Q (.str ⟨#[c]⟩) H
def Gh:O9 X (Wo X.K):=by
 intro value slice γ s σ H x y v u Q I rx ry h hs
 obtain⟨p,xs,i,z,rfl,rfl,hq,he,q⟩:=h
 cases rx
 obtain⟨t,rfl⟩:=ry
 obtain⟨its,r,pl,hz⟩:=I.list hq
 obtain⟨j,h1,h2,h3,h4,h5⟩:=yz he
 obtain⟨w,ew,rw'⟩:=r.get h2
 have hl:=r.length
 have hn:=xR
 have fin:EP X γ σ Q w s:=⟨z,H,I,rw',q⟩
 by_cases h0:0<=i
 ·have hj:i.toNat=j:=by
   rw[seqIndex_of h0 h5]at h1
   exact QDz h1
  exact item_listR pl.isList h0 (by omega) (by rw[hj];simpa using ew) fin hs
 ·have hj:(i+its.toArray.size).toNat=j:=by
   rw[seqIndex_neg (by omega) h4]at h1
   rw[Qjz,<-hl]
   exact QDz h1
  exact subscriptTail_builtinR pl.isList.typeIs slot_list_getitem.lookup
   (wpAny_getItem_list_neg pl.isList (by omega) (by rw[Qjz]<;>omega) (by omega) (by rw[hj];simpa using ew) ⟨rfl,fin⟩) hs
def Mj:O9 X (Wn X.K):=by
 intro value slice γ s σ H x y v u Q I rx ry h hs
 obtain⟨p,xs,i,z,rfl,rfl,hq,he,q⟩:=h
 cases rx
 obtain⟨t,rfl⟩:=ry
 obtain⟨its,r,pl,hz⟩:=I.tuple hq
 obtain⟨j,h1,h2,h3,h4,h5⟩:=yz he
 obtain⟨w,ew,rw'⟩:=r.get h2
 have hn:=xR
 exact subscriptTail_builtinR pl.typeIs slot_tuple_getitem.lookup
  (getItem_tuple pl (by omega) (by omega) (by rw[Qjz,<-r.length];exact h1) (by simpa using ew) ⟨rfl,⟨z,H,I,rw',q⟩⟩) hs
def Xm:O9 X aaW:=by
 intro value slice γ s σ H x y v u Q I rx ry h hs
 obtain⟨z,i,c,rfl,rfl,hz,he,q⟩:=h
 obtain⟨t,rfl⟩:=rx
 obtain⟨t',rfl⟩:=ry
 obtain⟨j,h1,h2,h3,h4,h5⟩:=yz he
 have hl:z.cps.toList.length=z.length:=by simp[Str.length]
 rw[hl]at h1 h4 h5
 have hn:=xR
 exact tail_any (typeIs_str s z t) slot_str_getitem.lookup (getItem_str (c:=c) (by
  have e1:decide (i< -(2 ^63:Int))=false:=QEq (by omega)
  have e2:decide (i>=2 ^63)=false:=QEq (by omega)
  rw[e1,e2,Bool.or_false]) (by rw[h1];simpa using h2) ⟨.str ⟨#[c]⟩,H,I.tok _,⟨_,rfl⟩,q⟩) hs
def rIx(K:QQq):R2:=fun x y H Q=>Wo K x y H Q\/Wn K x y H Q\/aaW x y H Q
def Ml:O9 X (rIx X.K):=Gh.or (Mj.or Xm)
def Cu(its:List Value)n j u:Obj.mapSeq (·.setIfInBounds j u) {cls:=.type "list",data:=.seq its.toArray n}={cls:=.type "list",data:=.seq (its.set j u).toArray n}:=by
 simp[Obj.mapSeq]
theorem Inv.lst{γ:QQz}{σ:St}{H:Hp}{s:Shared}{p:Addr}{xs:List V}(I:Inv X γ σ H s)(h:H p=some (.lst xs)):
  ∃(its:List Value)(n:Nat),Vals xs its/\s.heap.get? p=some {cls:=.type "list",data:=.seq its.toArray n}/\xs.length<=sizeLine:=by
 obtain⟨z,its,n,r,e⟩:=I.hok p _ h
 exact⟨its,n,r,e,z⟩
def Inv.Xa{σ:St}{H:Hp}{p:Addr}{its its':List Value}{n n':Nat}(I:Inv X γ σ H s)(h:H p=some (.lst xs))
  (ho:s.heap.get? p=some {cls:=.type "list",data:=.seq its.toArray n})(hf:f {cls:=.type "list",data:=.seq its.toArray n}={cls:=.type "list",data:=.seq its'.toArray n'})(r:Vals ys its')(hz:ys.length<=sizeLine)t:
  Inv X γ σ (upd H p (.lst ys)) {s with heap:=s.heap.update p f,toks:=t}:=by
 have e:(s.heap.update p f).get? p=some {cls:=.type "list",data:=.seq its'.toArray n'}:=by
  rw[Heap.get?_update_self f ho (by rw[hf]<;>rfl),hf]
 refine I.write (by rw[h];trivial) (.inl rfl) (fun b u hb q=>(Heap.get?_update_other _ _ (Ne.symm hb)).trans q) ⟨_,e⟩ ?_
 exact⟨hz,its',n',r,e⟩
noncomputable def Uo:V->V->V->Hp->(Hp->Prop)->Prop:=fun o i v H Q=>∃p xs k j,o=.ref p/\i=.int k/\H p=some (.lst xs)/\RV xs.length k=some j/\Q (upd H p (.lst (xs.set j v)))
def set_list:Tp X Uo:=by
 intro γ s σ H o i v ov iv u Q I ro ri rv h
 obtain⟨p,xs,k,j,rfl,rfl,hp,hj,q⟩:=h
 cases ro
 obtain⟨t,rfl⟩:=ri
 obtain⟨its,n,r,ho,hz⟩:=I.lst hp
 obtain⟨h1,h2,h3,h4⟩:=Gi hj
 have hl:=r.length
 have hn:=xR
 have I':=
  I.Xa hp ho (Cu its n j u) (r.set rv j) (by rw[List.length_set];exact hz) s.toks
 by_cases h0:0<=k
 ·have hk:k.toNat=j:=by
   rw[seqIndex_of h0 h4]at h1
   exact QDz h1
  exact PySem.W.ki_setAt ho h0 (by omega) (by rw[Qjz,<-hl];exact h4) (by rw[hk];exact⟨_,I',q⟩)
 ·have hk:(k+its.toArray.size).toNat=j:=by
   rw[seqIndex_neg (by omega) h3]at h1
   rw[Qjz,<-hl]
   exact QDz h1
  exact PySem.W.ki_setBack ho (by omega) (by rw[Qjz,<-hl];exact h3) (by omega) (by rw[hk];exact⟨_,I',q⟩)
def xf lo hi n:(sliceBounds lo hi none n).1=((HT.gG n 0 lo:Nat):Int)/\(sliceBounds lo hi none n).2.1=((HT.gG n n hi:Nat):Int)/\(sliceBounds lo hi none n).2.2=1:=by
 refine⟨?_,?_,rfl⟩
 ·cases lo with
  |none=>simp[sliceBounds,HT.gG]
  |some i=>
   simp only[sliceBounds,HT.gG,Option.getD_none,show 1>0 by decide,if_true]
   by_cases h:i<0
   ·simp only[h,if_true]<;>omega
   ·simp only[h,if_false]<;>omega
 ·cases hi with
  |none=>simp[sliceBounds,HT.gG]
  |some i=>
   simp only[sliceBounds,HT.gG,Option.getD_none,show 1>0 by decide,if_true]
   by_cases h:i<0
   ·simp only[h,if_true]<;>omega
   ·simp only[h,if_false]<;>omega
def uM(its:List Value)lo hi:slicePick its.toArray lo hi none=((its.drop (HT.gG its.length 0 lo)).take (HT.gG its.length its.length hi-HT.gG its.length 0 lo)).toArray:=by
 obtain⟨h1,h2,h3⟩:=xf lo hi its.toArray.size
 unfold slicePick
 rw[h1,h2,h3]
 simp only[sliceRange_one,pick_run,Qjz]<;>rfl
noncomputable def aaT(K:QQq):V->Option Int->Option Int->Hp->VK->Prop:=fun x lo hi H Q=>∃a xs,x=.ref a/\lG K H a xs/\∀p,H p=none->Q (.ref p) (upd H p (.lst (yp xs lo hi)))
def Qt:Ti X (aaT X.K):=by
 intro γ s σ H x v vl vu lo hi sl Q I rx hs pl pu h
 obtain⟨a,xs,rfl,hx,q⟩:=h
 cases rx
 obtain⟨its,r,ht,hz⟩:=I.list hx
 have hlen:=r.length
 refine⟨"list",_,slot_list_getitem.lookup,ht.isList.typeIs,?_⟩
 refine wpAny_getItem_list_slice ht.isList hs pl pu .none (by simp) ?_ (by rw[Qjz]<;>omega)
 rw[uM,<-hlen]
 refine⟨.ref s.heap.objs.size,_,I.laid (fun b ob q=>QWq _ q) (QVz _) ?_,rfl,q _ (I.hok.fresh (QVz _))⟩
 exact⟨Nat.le_trans (qC xs lo hi) hz,_,0,(r.drop _).take _,Qqz _ rfl⟩
def jk:V->Bool
 |.non=>true
 |.bl _=>true
 |.int _=>true
 |.str _=>true
 |_=>false
noncomputable def Jt:V->V->Bool
 |.non,.non=>true
 |.bl a,.bl b=>a==b
 |.bl a,.int b=>(if a then 1 else 0)==b
 |.int a,.bl b=>a==(if b then 1 else 0)
 |.int a,.int b=>a==b
 |.str a,.str b=>a==b
 |_,_=>false
def Yk{s:Shared}{u v:Value}(ry:RelV y u)(rx:RelV x v)(fy:jk y=true)(fx:jk x=true):SeqAt.EqAt A s u v (Jt y x):=by
 cases y with
 |non=>
  cases ry
  cases x with
  |non=>cases rx;exact SeqAt.EqAt.same _
  |bl b=>cases rx;exact SeqAt.EqAt.none_bool b
  |int b=>obtain⟨t,rfl⟩:=rx;exact SeqAt.EqAt.none_int b t
  |str b=>obtain⟨t,rfl⟩:=rx;exact SeqAt.EqAt.none_str b t
  |_=>exact absurd (fx) Qjq
 |bl a=>
  cases ry
  cases x with
  |non=>cases rx;exact SeqAt.EqAt.bool_none a
  |bl b=>cases rx;exact SeqAt.EqAt.bool_bool a b
  |int b=>obtain⟨t,rfl⟩:=rx;exact SeqAt.EqAt.bool_int a b t
  |str b=>obtain⟨t,rfl⟩:=rx;exact SeqAt.EqAt.bool_str a b t
  |_=>exact absurd (fx) Qjq
 |int a=>
  obtain⟨t',rfl⟩:=ry
  cases x with
  |non=>cases rx;exact SeqAt.EqAt.int_none a t'
  |bl b=>cases rx;exact SeqAt.EqAt.int_bool a t' b
  |int b=>obtain⟨t,rfl⟩:=rx;exact SeqAt.EqAt.int_int a t' b t
  |str b=>obtain⟨t,rfl⟩:=rx;exact SeqAt.EqAt.int_str a t' b t
  |_=>exact absurd (fx) Qjq
 |str a=>
  obtain⟨t',rfl⟩:=ry
  cases x with
  |non=>cases rx;exact SeqAt.EqAt.str_none a t'
  |bl b=>cases rx;exact SeqAt.EqAt.str_bool a t' b
  |int b=>obtain⟨t,rfl⟩:=rx;exact SeqAt.EqAt.str_int a t' b t
  |str b=>obtain⟨t,rfl⟩:=rx;exact SeqAt.EqAt.str_str a t' b t
  |_=>exact absurd (fx) Qjq
 |_=>exact absurd (fy) Qjq
noncomputable def Ju(x:V)(u:Value):Bool:=match u with
 |.none=>Jt .non x
 |.bool b=>Jt (.bl b) x
 |.int i _=>Jt (.int i) x
 |.str z _=>Jt (.str z) x
 |_=>false
def yg{u:Value}(r:RelV y u)(f:jk y=true):Ju x u=Jt y x:=by
 cases y with
 |non=>cases r;rfl
 |bl b=>cases r;rfl
 |int i=>obtain⟨t,rfl⟩:=r;rfl
 |str z=>obtain⟨t,rfl⟩:=r;rfl
 |_=>exact absurd (f) Qjq
theorem oZ{x:V}:∀{xs:List V}{us:List Value},Vals xs us->xs.all jk=true->us.any (Ju x)=xs.any fun y=>Jt y x
 |_,_,.nil=>fun _=>rfl
 |y::xs,u::us,.cons r t=>fun f=>by
  rw[List.all_cons,QUq]at f
  rw[List.any_cons,List.any_cons,yg r f.1,oZ t f.2]
theorem gB{A:Around}{s:Shared}{x:V}{v:Value}(rx:RelV x v)(fx:jk x=true):∀{xs:List V}{us:List Value},Vals xs us->xs.all jk=true->∀u∈us,SeqAt.EqAt A s u v (Ju x u)
 |_,_,.nil=>fun _=>fun u hu=>by cases hu
 |y::xs,u::us,.cons r t=>fun f=>fun u' hu=>by
  rw[List.all_cons,QUq]at f
  rcases QBz.mp hu with rfl|hu
  ·rw[yg r f.1];exact Yk r rx f.1 fx
  ·exact gB rx fx t f.2 u' hu
def inV(x:V)(xs:List V):Bool:=xs.any fun y=>Jt y x
noncomputable def rIn(K:QQq)(neg:Bool):R2:=fun x y H Q=>∃p xs,y=.ref p/\(lG K H p xs\/j5 K H p xs)/\jk x=true/\xs.all jk=true/\Q (.bl (if neg then !inV x xs else inV x xs)) H
def HH:gZ X (compareOp .In) (rIn X.K false):=by
 intro γ s σ H x y v u Q I rx ry h
 obtain⟨p,xs,rfl,hq,fx,fs,q⟩:=h
 cases ry
 rcases hq with hq|hq
 ·obtain⟨its,r,pl,hz⟩:=I.list hq
  refine SeqAt.in_listAt _ pl.isList (fun w hw=>gB rx fx r fs w (by simpa using hw)) ⟨.bl _,H,I,rfl,?_⟩
  rw[show its.toArray.any _=its.any (Ju x) by simp,oZ r fs]
  exact q
 ·obtain⟨its,r,pl,hz⟩:=I.tuple hq
  refine SeqAt.in_tupleAt _ pl (fun w hw=>gB rx fx r fs w (by simpa using hw)) ⟨.bl _,H,I,rfl,?_⟩
  rw[show its.toArray.any _=its.any (Ju x) by simp,oZ r fs]
  exact q
def xJ:gZ X (compareOp .NotIn) (rIn X.K true):=by
 intro γ s σ H x y v u Q I rx ry h
 obtain⟨p,xs,rfl,hq,fx,fs,q⟩:=h
 cases ry
 rcases hq with hq|hq
 ·obtain⟨its,r,pl,hz⟩:=I.list hq
  refine SeqAt.notIn_listAt _ pl.isList (fun w hw=>gB rx fx r fs w (by simpa using hw)) ⟨.bl _,H,I,rfl,?_⟩
  rw[show its.toArray.any _=its.any (Ju x) by simp,oZ r fs]
  exact q
 ·obtain⟨its,r,pl,hz⟩:=I.tuple hq
  refine SeqAt.notIn_tupleAt _ pl (fun w hw=>gB rx fx r fs w (by simpa using hw)) ⟨.bl _,H,I,rfl,?_⟩
  rw[show its.toArray.any _=its.any (Ju x) by simp,oZ r fs]
  exact q
def yu:gP X (.type "list") (fun xs H Q=>∃p ys,xs=[.ref p]/\(lG X.K H p ys\/j5 X.K H p ys)/\∀l,H l=none->Q (.ref l) (upd H l (.lst ys))):=by
 intro γ s σ H xs us Q I r h
 obtain⟨p,ys,rfl,hq,q⟩:=h
 obtain⟨u,rfl,rx⟩:=vals1 r
 cases rx
 have fin:∀its,Vals ys its->ys.length<=sizeLine->∀h' c',_->
   h'.get? s.heap.objs.size=some {cls:=.type "list",dict:=none,data:=.seq its.toArray c',slots:= #[]}->EP X γ σ Q _ {s with heap:=h'}:=fun its r' hz h' c' kp e=>
  ⟨.ref s.heap.objs.size,_,I.laid kp (QVz _) (show dg X.prog X.w _ h' _ (.lst ys)from⟨hz,its,c',r',e⟩),rfl,q _ (I.hok.fresh (QVz _))⟩
 rcases hq with hq|hq
 ·obtain⟨its,r',pl,hz⟩:=I.list hq
  have hlen:=r'.length
  obtain⟨o,ho,hc,n,hd⟩:=pl.isList
  exact call_list_seq p (.inl rfl) ho hc hd (fun h' c' kp e=>fin its r' hz h' c' kp e) (by simp only[Qjz]<;>omega)
 ·obtain⟨its,r',pl,hz⟩:=I.tuple hq
  have hlen:=r'.length
  obtain⟨o,ho,hc,n,hd⟩:=pl
  exact call_list_seq p (.inr rfl) ho hc hd (fun h' c' kp e=>fin its r' hz h' c' kp e) (by simp only[Qjz]<;>omega)
def uY:gP X (.type "tuple") (fun xs H Q=>∃p ys,xs=[.ref p]/\((lG X.K H p ys/\∀l,H l=none->Q (.ref l) (upd H l (.tup ys)))\/(j5 X.K H p ys/\Q (.ref p) H))):=by
 intro γ s σ H xs us Q I r h
 obtain⟨p,ys,rfl,h⟩:=h
 obtain⟨u,rfl,rx⟩:=vals1 r
 cases rx
 rcases h with ⟨hq,q⟩|⟨hq,q⟩
 ·obtain⟨its,r',pl,hz⟩:=I.list hq
  have hlen:=r'.length
  refine call_tuple_list pl.isList (fun h' kp=>?_) (by simp only[Qjz]<;>omega)
  have I1:=I.kept (t':=s.toks) kp
  have I2:=
   I1.laid (t':=s.toks) (fun b o e=>QWq _ e) (QVz _) (show dg X.prog X.w _ _ _ (.tup ys)from⟨hz,its,r',TupOk.new _ _⟩)
  exact⟨.ref h'.objs.size,_,I2,rfl,q _ (I1.hok.fresh (QVz _))⟩
 ·obtain⟨its,r',pl,hz⟩:=I.tuple hq
  exact call_tuple_same pl ⟨.ref p,H,I,rfl,q⟩
def tyV(K:QQq)(T:String)(x:V)(H:Hp):Prop:=match x with
 |.str _=>T="str"
 |.int _=>T="int"
 |.ref p=>(T="list"/\∃xs,lG K H p xs)\/(T="tuple"/\∃o,K.lookup p=some o/\o.cls=.type "tuple"/\o.dict=none)\/
   (T="dict"/\((∃kvs,H p=some (.dK kvs))\/∃kvs,H p=some (.dT kvs)))\/(T="set"/\∃S n,H p=some (.set S n))
 |_=>False
theorem VH{σ:St}{H:Hp}{T:String}{x:V}(I:Inv X γ σ H s)(r:RelV x v)(ty:tyV X.K T x H):
  s.TypeIs v T/\∀a,v=.ref a->∃ob,s.heap.get? a=some ob/\ob.dict=none:=by
 cases x with
 |str z=>
  obtain⟨t,rfl⟩:=r
  cases (ty)
  exact⟨typeIs_str s z t,fun _ e=>nomatch e⟩
 |int i=>
  obtain⟨t,rfl⟩:=r
  cases (ty)
  exact⟨typeIs_int s i t,fun _ e=>nomatch e⟩
 |ref p=>
  cases r
  rcases ty with ⟨rfl,xs,hq⟩|⟨rfl,o,hk,hc,hd⟩|⟨rfl,hk⟩|⟨rfl,S,n,hk⟩
  ·obtain⟨its,_,pl,_⟩:=I.list hq
   refine⟨pl.isList.typeIs,fun a e=>?_⟩
   cases e
   obtain⟨o,n,e,c,hd,_⟩:=pl
   exact⟨o,e,hd⟩
  ·refine⟨⟨o,I.zT p o hk,hc⟩,fun a e=>?_⟩
   cases e
   exact⟨o,I.zT _ o hk,hd⟩
  ·have z:∃o,s.heap.get? p=some o/\o.ExactDict:=by
    rcases hk with ⟨kvs,hk⟩|⟨kvs,hk⟩
    ·obtain⟨_,_,_,_,o,_,_,e,ex,_⟩:=I.hok p _ hk
     exact⟨o,e,ex⟩
    ·obtain⟨_,_,_,_,o,_,_,e,ex,_⟩:=I.hok p _ hk
     exact⟨o,e,ex⟩
   obtain⟨o,e,ex⟩:=z
   refine⟨⟨o,e,ex.1⟩,fun a e2=>?_⟩
   cases e2
   exact⟨o,e,ex.2.1⟩
  ·obtain⟨o,_,_,_,e,ex,_⟩:=I.hok p _ hk
   refine⟨⟨o,e,ex.1⟩,fun a e2=>?_⟩
   cases e2
   exact⟨o,e,ex.2.1⟩
 |_=>exact False.elim ty
noncomputable def tBM(K:QQq)(T:String)(r:V->List V->Hp->VK->Prop)(to:TE)(t:TA):TE:=fun σ H Q=>to σ H fun x H1=>tyV K T x H1/\t σ H1 fun xs H2=>r x xs H2 Q
variable{o e:Expr}{es:List Expr}{to:TE}{t:TA}{name:Str}{apos cpos:Pos}{T id:String}{r:V->List V->Hp->VK->Prop}
def aa5(pa:PlainAttrs T)(slot:Slot T name id)(hty:typeOf (.builtin id)=pure (.type "method_descriptor"))(hm:ZW X id r)(ho:PE X o to)(ha:PA X (e::es) t)
  (hbase:attributeBase o name X.env (eval o X.env)=eval o X.env:=by rfl)
  (hfew:((backTo cpos (starEach (e::es) X.env)).all (fun x=> !x.1)&&(backToKw cpos (keywordEach [] X.env)).all (fun x=>x.1.isSome)
   &&decide ((e::es).length+([]:List Keyword).length+(if ([]:List Keyword).isEmpty then 0 else 1)<30))=true:=by rfl)
  (hline:(apos.endLine==cpos.line)=true:=by rfl)(hs:starEach (e::es) X.env=(false,eval e X.env)::starEach es X.env:=by rfl)(hplain:(backTo cpos (starEach es X.env)).any (·.1)=false:=by rfl):
  PE X (.Call (.Attribute o name apos) (e::es) [] cpos) (tBM X.K T r to t):=by
 intro γ s σ H Q I h
 refine wpAny_Call_method_late hbase hfew hline rfl (cj (ho γ s σ H _ I h) fun v s1⟨x,H1,I1,r1,ty,q1⟩=>?_)
 obtain⟨h1,h2⟩:=VH I1 r1 ty
 refine⟨T,id,pa,slot,hty,h1,h2,?_⟩
 have hA:=ha cpos γ s1 σ H1 _ I1 q1
 rw[hs]at hA⊢
 exact Calls.callWith_builtin (by show(false||(backTo cpos _).any (·.1))=false;rw[hplain]<;>rfl) (Calls.evalArgs_plain (cj hA fun us s2⟨vs,H2,I2,r2,q2⟩=>hm γ s2 σ H2 x vs v us Q I2 r1 r2 q2))
end
def MtM(X:Cx)(id:String)(r:V->List V->Hp->VK->Prop):Prop:=
 ∀(γ:QQz)(s:Shared)(σ:St)(H:Hp)(x:V)(xs:List V)(v:Value)(us:List Value)(Q:VK),Inv X γ σ H s->RelV x v->Vals xs us->r x xs H Q->
  wpAny (model X.prog X.w) X.A (call (.builtin id) (v::us)) (EP X γ σ Q) X.xe s
theorem Vals.one:∀{x:V}{us:List Value},Vals [x] us->∃u,us=[u]/\RelV x u
 |_,_,.cons r .nil=>⟨_,rfl,r⟩
theorem Vals.two:∀{x y:V}{us:List Value},Vals [x,y] us->∃u v,us=[u,v]/\RelV x u/\RelV y v
 |_,_,_,.cons r (.cons q .nil)=>⟨_,_,rfl,r,q⟩
theorem Vals.eraseIdx:∀{xs:List V}{us:List Value}(i:Nat),Vals xs us->Vals (xs.eraseIdx i) (us.eraseIdx i)
 |_,_,_,.nil=>.nil
 |_,_,0,.cons _ t=>t
 |_,_,i+1,.cons r t=>.cons r (Vals.eraseIdx i t)
theorem vW{α:Type}:∀(l:List α)(i:Nat),(l.eraseIdx i).length<=l.length
 |[],_=>QVz _
 |_::_,0=>Nat.le_succ _
 |_::r,i+1=>Nat.succ_le_succ (vW r i)
section
variable{X:Cx}{γ:QQz}{σ:St}{H:Hp}{s:Shared}{l b:Addr}{xs ys zs:List V}
def Inv.abn{its its':List Value}{n:Nat}{t':Nat}(I:Inv X γ σ H s)(hH:H l=some (.lst xs))
  (e:s.heap.get? l=some {cls:=.type "list",data:=.seq its.toArray n})(hf:f its.toArray=its'.toArray)(hv:Vals ys its')(hz:ys.length<=sizeLine):
  Inv X γ σ (upd H l (.lst ys)) {s with heap:=s.heap.update l (Obj.mapSeq f),toks:=t'}:=by
 have q:=PySem.IsL.update e f
 rw[hf]at q
 refine I.write (by rw[hH];exact trivial) (.inl rfl) (fun b' u hb hu=>(Heap.get?_update_other s.heap _ (Ne.symm hb)).trans hu) ⟨_,q⟩ ?_
 exact⟨hz,its',_,hv,q⟩
def Inv.aeN{t':Nat}(I:Inv X γ σ H s)(hv:Vals ys its)(hz:ys.length<=sizeLine):
  Inv X γ σ (upd H s.heap.objs.size (.lst ys)) {s with heap:=s.heap.push {cls:=.type "list",data:=.seq its.toArray},toks:=t'}:=
 I.laid (fun _ _ q=>QWq _ q) (QVz _) ⟨hz,its,0,hv,Qqz _ rfl⟩
theorem Inv.fresh(I:Inv X γ σ H s):H s.heap.objs.size=none:=I.hok.fresh (QVz _)
def Inv.abm(I:Inv X γ σ H s)(hH:H l=some (.lst xs)):xs.length<=sizeLine/\∃(its:List Value)(n:Nat),Vals xs its/\xs.length=its.length/\s.heap.get? l=some {cls:=.type "list",data:=.seq its.toArray n}:=by
 obtain⟨z,its,n,r,e⟩:=I.hok l _ hH
 exact⟨z,its,n,r,r.length,e⟩
end
section
variable{X:Cx}
noncomputable def xq:V->List V->Hp->VK->Prop:=fun x vs H Q=>∃l xs y,x=.ref l/\vs=[y]/\H l=some (.lst xs)/\xs.length<sizeLine/\Q .non (upd H l (.lst (xs++[y])))
def pD:MtM X "list.append" xq:=by
 intro γ s σ H x vs v us Q I rx rv h
 obtain⟨l,xs,y,rfl,rfl,hH,hz,q⟩:=h
 cases rx
 obtain⟨u,rfl,ru⟩:=rv.one
 obtain⟨z,its,n,r,hl,e⟩:=I.abm hH
 refine call_meets F.slot_list_append ⟨_,e,rfl⟩ F.entry_list_append (F.args_list_append_2 _ _) (PySem.list_append l its.toArray n u (by rw[Qjz];omega)) ⟨e,?_⟩
 refine⟨.non,_,I.abn hH e (by simp) (r.append (.cons ru .nil)) ?_,rfl,q⟩
 rw[QTq,List.length_singleton]
 omega
noncomputable def Wl:V->List V->Hp->VK->Prop:=fun x vs H Q=>∃l xs i k y,x=.ref l/\vs=[.int i]/\H l=some (.lst xs)/\ -(2 ^63)<=i/\i<2 ^63/\seqIndex? i xs.length=some k/\xs[k]? =some y/\Q y (upd H l (.lst (xs.eraseIdx k)))
def Lw:MtM X "list.pop" Wl:=by
 intro γ s σ H x vs v us Q I rx rv h
 obtain⟨l,xs,i,k,y,rfl,rfl,hH,h1,h2,hk,hy,q⟩:=h
 cases rx
 obtain⟨u,rfl,ru⟩:=rv.one
 obtain⟨t,rfl⟩:=ru
 obtain⟨z,its,n,r,hl,e⟩:=I.abm hH
 obtain⟨w,hw,rw'⟩:=r.get hy
 refine call_meets F.slot_list_pop ⟨_,e,rfl⟩ F.entry_list_pop (F.args_list_pop_2 _ _)
  (MeetsSeq.list_pop_at l its.toArray n i t k w (fitsIndex_both h1 h2) (by rw[Qjz,<-hl];exact hk) (by rw[<-Array.getElem?_toList];exact hw) (by rw[Qjz];omega)) ⟨e,?_⟩
 refine⟨y,_,I.abn hH e ?_ (r.eraseIdx k) ?_,rw',q⟩
 ·show its.toArray.eraseIdxIfInBounds k=(its.eraseIdx k).toArray
  rw[List.eraseIdxIfInBounds_toArray]
 ·have:=vW xs k
  omega
end
section
variable{prog:Program}{w:World}{A:Around}{E:QZq}{s:Shared}
end
section
variable{X:Cx}
end
section
variable{κ:Type}[DecidableEq κ]
def fJ(kvs:List (κ×V))(k:κ):Option V:=(kvs.find? fun kv=>decide (kv.1=k)).map (·.2)
noncomputable def putK(kvs:List (κ×V))(k:κ)(v:V):List (κ×V):=
 if (kvs.any fun kv=>decide (kv.1=k))=true then kvs.map (fun kv=>if kv.1=k then(kv.1,v)else kv)else kvs++[(k,v)]
def qx(kvs:List (κ×V))(k:κ):List (κ×V):=kvs.filter fun kv=>decide (kv.1≠k)
def jb{p:κ×V}{k:κ}(e:p.1=k):fJ (p::r) k=some p.2:=by simp[fJ,List.find?_cons,e]
def jc{p:κ×V}{k:κ}(e:¬p.1=k):fJ (p::r) k=fJ r k:=by simp[fJ,List.find?_cons,e]
theorem rF(k:κ):∀kvs:List (κ×V),(kvs.any fun kv=>decide (kv.1=k))=(fJ kvs k).isSome
 |[]=>rfl
 |p::r=>by
  rw[List.any_cons]
  by_cases e:p.1=k
  ·simp only[jb e,decide_eq_true e,Bool.true_or,Option.isSome_some]
  ·rw[jc e,QEq e,Bool.false_or];exact rF k r
def kY(kvs:List (κ×V))(k:κ)v:(putK kvs k v).length<=kvs.length+1:=by
 unfold putK
 split
 ·rw[Qvz];omega
 ·rw[QTq,QAz,List.length_nil];omega
def jn.jj{u:Option Value}(r:jn o u):o.isSome=u.isSome:=by
 cases o with
 |none=>cases u with
  |none=>rfl
  |some _=>exact(r).elim
 |some _=>cases u with
  |none=>exact(r).elim
  |some _=>rfl
theorem jn.getD{u:Option Value}{d':Value}(r:jn o u)(rd:RelV d d'):RelV (o.getD d) (u.getD d'):=by
 cases o with
 |none=>cases u with
  |none=>exact rd
  |some _=>exact(r).elim
 |some _=>cases u with
  |none=>exact(r).elim
  |some _=>exact r
def KV.val{vs:List (κ×Value)}(r:KV kvs vs)(k:κ):jn (fJ kvs k) (valueAt vs k):=by
 induction r with
 |nil=>exact True.intro
 | @cons p q ps qs h t ih=>
  obtain⟨h1,h2⟩:=h
  by_cases e:p.1=k
  ·have b:valueAt (q::qs) k=some q.2:=by simp[valueAt,List.find?_cons,h1.symm.trans e]
   rw[jb e,b];exact h2
  ·have e':¬q.1=k:=fun z=>e (h1.trans z)
   have b:valueAt (q::qs) k=valueAt qs k:=by simp[valueAt,List.find?_cons,e']
   rw[jc e,b];exact ih
theorem KV.any{vs:List (κ×Value)}(r:KV kvs vs)(k:κ):(kvs.any fun kv=>decide (kv.1=k))=vs.any fun kv=>decide (kv.1=k):=by
 induction r with
 |nil=>rfl
 |cons h t ih=>rw[List.any_cons,List.any_cons,ih,h.1]
theorem KV.repl{vs:List (κ×Value)}(r:KV kvs vs)(k:κ){u:Value}(ry:RelV y u):
  KV (kvs.map fun kv=>if kv.1=k then(kv.1,y)else kv) (vs.map fun kv=>if kv.1=k then(kv.1,u)else kv):=by
 induction r with
 |nil=>exact .nil
 | @cons p q ps qs h t ih=>
  rw[Qyq,Qyq]
  refine .cons ?_ ih
  obtain⟨h1,h2⟩:=h
  by_cases e:p.1=k
  ·rw[if_pos e,if_pos (h1.symm.trans e)];exact⟨h1,ry⟩
  ·rw[if_neg e,if_neg (fun z=>e (h1.trans z))];exact⟨h1,h2⟩
def KV.put{vs:List (κ×Value)}(r:KV kvs vs)(k:κ){u:Value}(ry:RelV y u):KV (putK kvs k y) (stored vs k u):=by
 unfold putK stored
 rw[r.any k]
 by_cases e:(vs.any fun kv=>decide (kv.1=k))=true
 ·rw[if_pos e,if_pos e];exact r.repl k ry
 ·rw[if_neg e,if_neg e];exact Paired.snoc r ⟨rfl,ry⟩
def KV.drop{vs:List (κ×Value)}(r:KV kvs vs)(k:κ):KV (qx kvs k) (without vs k):=by
 unfold qx without
 induction r with
 |nil=>exact .nil
 | @cons p q ps qs h t ih=>
  obtain⟨h1,h2⟩:=h
  rw[List.filter_cons,List.filter_cons]
  by_cases e:p.1=k
  ·have a:¬decide (p.1≠k)=true:=by simp[e]
   rw[if_neg a,if_neg (by simp[h1.symm.trans e])];exact ih
  ·have e':¬q.1=k:=fun z=>e (h1.trans z)
   rw[if_pos (by simp[e]),if_pos (by simp[e'])];exact .cons ⟨h1,h2⟩ ih
theorem KV.length{kvs:List (κ×V)}(r:KV kvs vs):kvs.length=vs.length:=Paired.length r
def NB(kvs:List (κ×V))(k:κ):(qx kvs k).length<=kvs.length:=List.length_filter_le _ _
end
def qu{w:World}{u:Value}(r:RelV (kV k) u):(cA P w).is k u=true:=by
 cases k with
 |inl i=>obtain⟨t,e⟩:=(r);subst e;exact zM P w i t
 |inr x=>obtain⟨t,e⟩:=(r);subst e;exact zL P w x t
theorem wk{w:World}:∀{ks:List Key}{us:List Value},Vals (ks.map kV) us->ItemsAre (cA P w) ks us
 |[],_,r=>by rw[List.map_nil]at r;cases r;exact .nil
 |k::ks,_,r=>by
  cases r with
  |cons h t=>exact .cons (qu h) (wk t)
abbrev KT(H:Hp):List (List Key×V)->List (List Key×Addr×Value)->Prop:=Paired fun p q=>p.1=q.1/\H q.2.1=some (.tup (p.1.map kV))/\RelV p.2 q.2.2
def KT.val{kvs:List (List Key×V)}(r:KT H kvs xs)k:jn (fJ kvs k) ((atKey xs k).map (·.2)):=by
 induction r with
 |nil=>exact True.intro
 | @cons p q ps qs h t ih=>
  obtain⟨h1,_,h2⟩:=h
  by_cases e:p.1=k
  ·have b:atKey (q::qs) k=some q.2:=by simp[atKey,List.find?_cons,h1.symm.trans e]
   rw[jb e,b];exact h2
  ·have e':¬q.1=k:=fun z=>e (h1.trans z)
   have b:atKey (q::qs) k=atKey qs k:=by simp[atKey,List.find?_cons,e']
   rw[jc e,b];exact ih
theorem KT.repl{kvs:List (List Key×V)}(r:KT H kvs xs)k{u:Value}(ry:RelV y u):
  KT H (kvs.map fun kv=>if kv.1=k then(kv.1,y)else kv) (xs.map (putAt k u)):=by
 induction r with
 |nil=>exact .nil
 | @cons p q ps qs h t ih=>
  rw[Qyq,Qyq]
  refine .cons ?_ ih
  obtain⟨h1,h2,h3⟩:=h
  unfold putAt
  by_cases e:p.1=k
  ·rw[if_pos e,if_pos (h1.symm.trans e)];exact⟨h1,h2,ry⟩
  ·rw[if_neg e,if_neg (fun z=>e (h1.trans z))];exact⟨h1,h2,h3⟩
def KT.put{kvs:List (List Key×V)}(r:KT H kvs xs)k{y:V}(hb:H b=some (.tup (k.map kV)))(ry:RelV y u):
  KT H (putK kvs k y) (storedH xs k b u):=by
 have e:(kvs.any fun kv=>decide (kv.1=k))=(atKey xs k).isSome:=by
  rw[rF,(r.val k).jj,Option.isSome_map]
 unfold putK storedH
 rw[e]
 by_cases q:(atKey xs k).isSome=true
 ·rw[if_pos q,if_pos q];exact r.repl k ry
 ·rw[if_neg q,if_neg q];exact Paired.snoc r ⟨rfl,hb,ry⟩
def KT.keeps{kvs:List (List Key×V)}(r:KT H kvs xs)(ht:∀b ys,H b=some (.tup ys)->H' b=some (.tup ys)):KT H' kvs xs:=
 Paired.W8 r fun _ _ z=>⟨z.1,ht _ _ z.2.1,z.2.2⟩
section
variable{P:Program}{w:World}{H:Hp}{h:Heap}{a:Addr}
def Uk(ok:nJ P w H h)(e:Rd H a u):dg P w H h a u:=e.ok ok
def qy(ok:nJ P w H h)(e:Rd H a (.dK kvs)):kvs.length<=sizeLine/\(a==sysModules)=false/\∃vs,KV kvs vs/\h.DictOf (cA P w) a vs:=
 show dg P w H h a _ from Uk ok e
def NK(ok:nJ P w H h)(e:H a=some (.dK kvs)):kvs.length<=sizeLine/\(a==sysModules)=false/\∃vs,KV kvs vs/\h.DictOf (cA P w) a vs:=qy ok (.inl e)
def kZ(ok:nJ P w H h)(e:H a=some (.tup (ks.map kV))):(tupleKind (cA P w)).is h ks a:=by
 obtain⟨_,its,r,o,h1,h2,_,n,h3⟩:=(ok a _ e)
 exact⟨o,its.toArray,n,h1,h2,h3,by simpa using wk r⟩
theorem uo(ok:nJ P w H h)(e:Rd H a (.dT kvs)):kvs.length<=sizeLine/\(a==sysModules)=false/\
  ∃xs,KT H kvs xs/\h.DictOfH (tupleKind (cA P w)) a xs:=by
 obtain⟨z,y,xs,r,o,es,ep,h1,h2,h3,h4,h5⟩:=(Uk ok e)
 refine⟨z,y,xs,r,o,es,ep,h1,h2,h3,h4,fun x hx=>?_,h5⟩
 have all:∀{l:List _}{m:List _},KT H l m->∀x∈m,(tupleKind (cA P w)).is h x.1 x.2.1:=by
  intro l m q
  induction q with
  |nil=>intro x hx;exact nomatch hx
  | @cons p q ps qs hq t ih=>
   intro x hx
   rcases QBz.mp hx with e|hx
   ·subst e
    exact kZ ok (by rw[<-hq.1];exact hq.2.1)
   ·exact ih x hx
 exact all r x hx
def abT(ok:nJ P w H h)(e:H a=some (.dT kvs)):kvs.length<=sizeLine/\(a==sysModules)=false/\
  ∃xs,KT H kvs xs/\h.DictOfH (tupleKind (cA P w)) a xs:=uo ok (.inl e)
end
def lJ(H:Hp)(a:Addr)(y:V)(r:Option V):Prop:=
 (∃kvs k,Rd H a (.dK kvs)/\y=kV k/\r=fJ kvs k)\/∃kvs k b,Rd H a (.dT kvs)/\y=.ref b/\H b=some (.tup (k.map kV))/\r=fJ kvs k
def Ph(H:Hp)(a:Addr)(y v:V)(H':Hp):Prop:=
 (∃kvs k,H a=some (.dK kvs)/\y=kV k/\kvs.length<sizeLine/\H'=upd H a (.dK (putK kvs k v)))\/
 ∃kvs k b,H a=some (.dT kvs)/\y=.ref b/\H b=some (.tup (k.map kV))/\kvs.length<sizeLine/\H'=upd H a (.dT (putK kvs k v))
theorem lJ.k{a:Addr}{k:Key}(e:H a=some (.dK kvs)):lJ H a (kV k) (fJ kvs k):=.inl ⟨kvs,k,.inl e,rfl,rfl⟩
def lJ.t{a b:Addr}{k:List Key}(e:H a=some (.dT kvs))(eb:H b=some (.tup (k.map kV))):lJ H a (.ref b) (fJ kvs k):=.inr ⟨kvs,k,b,.inl e,rfl,eb,rfl⟩
theorem Ph.k{a:Addr}{k:Key}(e:H a=some (.dK kvs))(hl:kvs.length<sizeLine):Ph H a (kV k) v (upd H a (.dK (putK kvs k v))):=.inl ⟨kvs,k,e,rfl,hl,rfl⟩
section
variable{X:Cx}{γ:QQz}{σ:St}{H:Hp}{s:Shared}{a:Addr}{y v:V}{u r:Value}{o:Option V}{A:Around}{E:QZq}
def Inv.big(I:Inv X γ σ H s):sysModules<s.heap.objs.size:=by
 exact Nat.lt_trans (by decide) ((I.mod.glob.keeps I.bk).lt)
def wD(hu:A.units+1<cLine)(I:Inv X γ σ H s)(g:lJ H a y (some v))(ry:RelV y u)(h:∀w' s',Inv X γ σ H s'->RelV v w'->Q w' s'):
  wpAny (model X.prog X.w) A (getItem (.ref a) u) Q E s:=by
 rcases g with ⟨kvs,k,e,ey,l⟩|⟨kvs,k,b,e,ey,eb,l⟩
 ·subst ey
  obtain⟨z,hd,vs,rel,dd⟩:=qy I.hok e
  obtain⟨w',hw,rw'⟩:=jn.some_of (by rw[l];exact rel.val k)
  exact wpAny_getItem_of (qu ry) dd.mapOf hw (h w' _ (I.tok _) rw')
 ·subst ey
  cases (ry)
  obtain⟨z,hd,xs,rel,dd⟩:=uo I.hok e
  obtain⟨w',hw,rw'⟩:=jn.some_of (by rw[l];exact rel.val k)
  obtain⟨p,hp,hp2⟩:=QJz.mp hw
  refine wpAny_getItem_heap (tupleKind_room_in1 hu) (kZ I.hok eb) dd hp ?_
  rw[hp2]
  exact h w' _ (I.tok _) rw'
def afP(hu:A.units+1<cLine)(I:Inv X γ σ H s)(g:lJ H a y o)(ry:RelV y u)(h:∀s',Inv X γ σ H s'->Q (.bool o.isSome) s'):
  wpAny (model X.prog X.w) A (compareOp .In u (.ref a)) Q E s:=by
 rcases g with ⟨kvs,k,e,ey,l⟩|⟨kvs,k,b,e,ey,eb,l⟩
 ·subst ey
  obtain⟨z,hd,vs,rel,dd⟩:=qy I.hok e
  refine wpAny_in_of (qu ry) hd dd.mapOf ?_
  rw[<- (rel.val k).jj,<-l]
  exact h _ (I.tok _)
 ·subst ey
  cases (ry)
  obtain⟨z,hd,xs,rel,dd⟩:=uo I.hok e
  refine wpAny_in_heap (tupleKind_room_in1 hu) (kZ I.hok eb) hd dd ?_
  have q:=(rel.val k).jj
  rw[Option.isSome_map]at q
  rw[<-q,<-l]
  exact h _ (I.tok _)
def Sy(hu:A.units+1<cLine)(I:Inv X γ σ H s)(g:lJ H a y o)(ry:RelV y u)(h:∀s',Inv X γ σ H s'->Q (.bool (!o.isSome)) s'):
  wpAny (model X.prog X.w) A (compareOp .NotIn u (.ref a)) Q E s:=by
 rcases g with ⟨kvs,k,e,ey,l⟩|⟨kvs,k,b,e,ey,eb,l⟩
 ·subst ey
  obtain⟨z,hd,vs,rel,dd⟩:=qy I.hok e
  refine wpAny_notIn_of (qu ry) hd dd.mapOf ?_
  rw[<- (rel.val k).jj,<-l]
  exact h _ (I.tok _)
 ·subst ey
  cases (ry)
  obtain⟨z,hd,xs,rel,dd⟩:=uo I.hok e
  refine wpAny_notIn_heap (tupleKind_room_in1 hu) (kZ I.hok eb) hd dd ?_
  have q:=(rel.val k).jj
  rw[Option.isSome_map]at q
  rw[<-q,<-l]
  exact h _ (I.tok _)
def rn{t':Nat}(I:Inv X γ σ H s)(mu:Mut (H a))(hs:Heap.SameBut a s.heap h')(he:∃q,h'.get? a=some q)(new:dg X.prog X.w (upd H a ob) h' a ob):
  Inv X γ σ (upd H a ob) {s with heap:=h',toks:=t'}:=
 I.write mu (.inl rfl) (fun b q hb z=>(hs.2 b hb).trans z) he new
def De{w:World}{h':Heap}{vs:List (Key×Value)}(z:kvs.length<=sizeLine)(hd:(a==sysModules)=false)(rel:KV kvs vs)(dd:h'.DictOf (cA P w) a vs):
  dg P w H' h' a (.dK kvs):=⟨z,hd,vs,rel,dd⟩
def Je{Q:Unit->Shared->Prop}(hu:A.units+1<cLine)(I:Inv X γ σ H s)(g:Ph H a y v H')(ry:RelV y u)(rv:RelV v r)(h:∀s',Inv X γ σ H' s'->Q () s'):
  wpAny (model X.prog X.w) A (setItem (.ref a) u r) Q E s:=by
 rcases g with ⟨kvs,k,e,ey,l,eH⟩|⟨kvs,k,b,e,ey,eb,l,eH⟩
 ·subst ey eH
  obtain⟨z,hd,vs,rel,dd⟩:=NK I.hok e
  have hz:vs.length<=sizeLine:=by rw[<-rel.length];exact z
  refine wpAny_setItem_pairs (qu ry) dd fun h' dd' hs=>h _ ?_
  exact rn I (by rw[e];exact True.intro) hs (let ⟨q,_,_,hq,_⟩:=dd';⟨q,hq⟩) (De (by have:=kY kvs k v;omega) hd (rel.put k rv) dd')
 ·subst ey eH
  cases (ry)
  obtain⟨z,hd,xs,rel,dd⟩:=abT I.hok e
  have hz:xs.length<=sizeLine:=by rw[<-Paired.length rel];exact z
  refine wpAny_setItem_heap (tupleKind_room_in1 hu) (kZ I.hok eb) dd fun h' dd' hs=>h _ ?_
  obtain⟨q,es,ep,hq,h2,h3,h4,_,h5⟩:=dd'
  refine rn I (by rw[e];exact True.intro) hs ⟨q,hq⟩ ⟨(by have:=kY kvs k v;omega),hd,_,(rel.put k eb rv).keeps fun c ys ec=>?_,q,es,ep,hq,h2,h3,h4,h5⟩
  rw[au (abl ec e (fun z=>nomatch z))]
  exact ec
end
section
variable{X:Cx}{γ:QQz}{σ:St}{H:Hp}{s:Shared}{a:Addr}{kvs:List (Key×V)}{k:Key}{u:Value}{A:Around}{E:QZq}
theorem abW{v:V}{more:List Value}{Q:QZq}(I:Inv X γ σ H s)(e:H a=some (.dK kvs))(ry:RelV (kV k) u)(l:fJ kvs k=some v)(hm:more=[]\/∃x,more=[x])
  (h:∀w' s',Inv X γ σ (upd H a (.dK (qx kvs k))) s'->RelV v w'->Q w' s'):wpAny (model X.prog X.w) A (call (.builtin "dict.pop") (.ref a::u::more)) Q E s:=by
 obtain⟨z,hd,vs,rel,dd⟩:=NK I.hok e
 obtain⟨w',hw,rw'⟩:=jn.some_of (v:=v) (o:=valueAt vs k) (by rw[<-l];exact rel.val k)
 have hp:(keyPart u).isSome=true:=by
  cases k with
  |inl i=>obtain⟨t,q⟩:=(show∃t,u=Value.int i t from ry);subst q;rfl
  |inr x=>obtain⟨t,q⟩:=(show∃t,u=Value.str x t from ry);subst q;rfl
 have ha:argsOk "dict.pop" ⟨.ref a::u::more,[]⟩:=by
  rcases hm with q|⟨x,q⟩
  ·subst q;exact PySem.F.args_dict_pop_2 _ _
  ·subst q;exact PySem.F.args_dict_pop_3 _ _ _
 refine call_meetsIn PySem.F.slot_dict_pop dd.typeIs PySem.F.entry_dict_pop ha (meets_dict_pop_there (cA X.prog X.w) a (qu ry) more hm hp)
  ⟨vs,w',dd,by rw[<-rel.length];exact z,hw,fun h' dd' hs=>h w' _ ?_ rw'⟩
 have he:∃q,h'.get? a=some q:=let ⟨q,_,_,hq,_⟩:=dd';⟨q,hq⟩
 exact rn I (by rw[e];exact True.intro) hs he (De (Nat.le_trans (NB kvs k) z) hd (rel.drop k) dd')
def abX(I:Inv X γ σ H s)(e:Rd H a (.dK kvs))(h:∀t s',Inv X γ σ H s'->Q (.int kvs.length t) s'):wpAny (model X.prog X.w) A (call (.builtin "len") [.ref a]) Q E s:=by
 obtain⟨z,hd,vs,rel,dd⟩:=qy I.hok e
 refine call_len_dict hd dd (by rw[<-rel.length];rw[sizeLine_eq]at z;omega) ?_
 rw[<-rel.length]
 exact h _ _ (I.tok _)
end
def acn(i:Expr):Prop:=∀ov iv,subscripted i false ov iv=operate [ov,iv] (getItem ov iv)
theorem Qn{prog:Program}{w:World}{A:Around}{E:QZq}{s:Shared}{env:Env}{value slice:Expr}{pos:Pos}{T id:String}{Q:QZq}
  (hl:typeLookup (.type T) "__getitem__"=pure (some (.builtin id)))(hs:acn slice)
  (h:wpAny (model prog w) A (eval value env) (fun o θ=>wpAny (model prog w) A (eval slice env) (fun i Δ=>Δ.TypeIs o T/\wpAny (model prog w) A (getItem o i) Q E Δ) E θ) E s):
  wpAny (model prog w) A (eval (.Subscript value slice pos) env) Q E s:=by
 refine Subscript_ (QKz h (fun o θ Θ=>QKz Θ (fun i Δ Ψ=>?_) fun _ _ x=>x) fun _ _ x=>x)
 obtain⟨hT,Ψ⟩:=Ψ
 unfold subscriptTail
 refine QTz ?_
 rw[getitemInPython_of_ne hT.not_modules]
 refine QTz (wpAny_specialOf hT hl ?_)
 have fin:wpAny (model prog w) A (subscripted slice false o i) (fun r s₃=>wpAny (model prog w) A (letTemporaryGo value o r>>=fun _=>pure r) Q E s₃) E Δ:=by
  rw[hs o i]
  exact wpAny_operating (QKz Ψ (fun r s₃ h₃=>QTz (wpAny_letTemporaryGo (QKq h₃))) fun _ _ x=>x)
 first
  |exact QKq (QTz fin)
  |exact QTz (QKq (QTz fin))
  |exact QTz fin
def qz{X:Cx}{σ:St}{H:Hp}{a:Addr}{y:V}(I:Inv X γ σ H s)(g:lJ H a y o):s.TypeIs (.ref a) "dict":=by
 rcases g with ⟨kvs,k,e,_,_⟩|⟨kvs,k,b,e,_,_,_⟩
 ·obtain⟨_,_,vs,_,dd⟩:=qy I.hok e
  exact dd.typeIs
 ·obtain⟨_,_,xs,_,dd⟩:=uo I.hok e
  exact dd.typeIs
noncomputable def aao(td ty:TE):TE:=fun σ H Q=>td σ H fun x H1=>ty σ H1 fun y H2=>∃a v,x=.ref a/\lJ H2 a y (some v)/\Q v H2
section
variable{X:Cx}{o i e value:Expr}{pos pos' tpos:Pos}{td ty tv:TE}
def Fg(hu:X.A.units+1<cLine)(ho:PE X o td)(hi:PE X i ty)(hs:acn i):PE X (.Subscript o i pos) (aao td ty):=by
 intro γ s σ H Q I h
 refine Qn PySem.F.slot_dict_getitem.lookup hs (cj (ho γ s σ H _ I h) fun u s1⟨x,H1,I1,rx,q1⟩=>cj (hi γ s1 σ H1 _ I1 q1) fun iv s2⟨y,H2,I2,ry,a,v,ex,g,q2⟩=>?_)
 subst ex
 obtain rfl:u=Value.ref a:=rx
 exact⟨qz I2 g,wD hu I2 g ry fun w' s3 I3 rw'=>⟨v,H2,I3,rw',q2⟩⟩
end
def Ac{w:World}(h:Heap)(hb:sysModules<h.objs.size):dg P w H (h.push {cls:=.type "dict",data:=.dict #[]}) h.objs.size (.dK []):=
 ⟨QHq _,beq_eq_false_iff_ne.mpr (Ne.symm (Qvq hb)),[],.nil,Heap.DictOf.new h⟩
def VR:TE:=fun _ H Q=>∀p,H p=none->Q (.ref p) (upd H p (.dK []))
section
variable{X:Cx}{pos:Pos}
def K9:PE X (.Dict [] [] pos) VR:=fun γ s σ H Q I h=>
 wpAny_Dict_empty ⟨.ref s.heap.objs.size,_,I.laid (fun _ _ q=>QWq _ q) (QVz _) (Ac s.heap I.big),rfl,h _ (I.hok.fresh (QVz _))⟩
end
structure M1(X:Cx)(o:Expr)(m:Str)(apos:Pos)(e:Expr)(cpos:Pos):Prop where
 base:attributeBase o m X.env (eval o X.env)=eval o X.env
 few:((backTo cpos (starEach [e] X.env)).all (fun x=> !x.1)&&(backToKw cpos (keywordEach [] X.env)).all (fun x=>x.1.isSome)
  &&decide (([e]:List Expr).length+([]:List Keyword).length+(if ([]:List Keyword).isEmpty then 0 else 1)<30))=true
 line:(apos.endLine==cpos.line)=true
 trees:backTo cpos (starEach [e] X.env)=[(false,eval e X.env)]
structure M2(X:Cx)(o:Expr)(m:Str)(apos:Pos)(e f:Expr)(cpos:Pos):Prop where
 base:attributeBase o m X.env (eval o X.env)=eval o X.env
 few:((backTo cpos (starEach [e,f] X.env)).all (fun x=> !x.1)&&(backToKw cpos (keywordEach [] X.env)).all (fun x=>x.1.isSome)
  &&decide (([e,f]:List Expr).length+([]:List Keyword).length+(if ([]:List Keyword).isEmpty then 0 else 1)<30))=true
 line:(apos.endLine==cpos.line)=true
 trees:backTo cpos (starEach [e,f] X.env)=[(false,eval e X.env),(false,eval f X.env)]
def IsD(H:Hp)(a:Addr):Prop:=(∃kvs,Rd H a (.dK kvs))\/∃kvs,Rd H a (.dT kvs)
def Mw{X:Cx}{σ:St}{H:Hp}{a:Addr}(I:Inv X γ σ H s)(d:IsD H a):
  s.TypeIs (.ref a) "dict"/\(∀b,Value.ref a=.ref b->∃ob,s.heap.get? b=some ob/\ob.dict=none)/\(a==sysModules)=false:=by
 rcases d with ⟨kvs,e⟩|⟨kvs,e⟩
 ·obtain⟨_,hd,vs,_,dd⟩:=qy I.hok e
  refine⟨dd.typeIs,fun b q=>?_,hd⟩
  cases q
  obtain⟨ob,_,_,h1,h2,_⟩:=dd
  exact⟨ob,h1,h2.2.1⟩
 ·obtain⟨_,hd,xs,_,dd⟩:=uo I.hok e
  refine⟨dd.typeIs,fun b q=>?_,hd⟩
  cases q
  obtain⟨ob,_,_,h1,h2,_⟩:=dd
  exact⟨ob,h1,h2.2.1⟩
section
variable{X:Cx}{γ:QQz}{σ:St}{H:Hp}{s:Shared}{a:Addr}{y d:V}{u r:Value}{o:Option V}{A:Around}{E:QZq}
def Yq(hu:A.units+1<cLine)(I:Inv X γ σ H s)(g:lJ H a y o)(ry:RelV y u)(rd:RelV d r)(h:∀w' s',Inv X γ σ H s'->RelV (o.getD d) w'->Q w' s'):
  wpAny (model X.prog X.w) A (call (.builtin "dict.get") [.ref a,u,r]) Q E s:=by
 rcases g with ⟨kvs,k,e,ey,l⟩|⟨kvs,k,b,e,ey,eb,l⟩
 ·subst ey
  obtain⟨z,hd,vs,rel,dd⟩:=qy I.hok e
  refine call_meetsIn PySem.F.slot_dict_get dd.typeIs PySem.F.entry_dict_get (PySem.F.args_dict_get_3 _ _ _) (meets_dict_get_default _ a (qu ry) hd r) ⟨_,dd.mapOf,h _ _ (I.tok _) ?_⟩
  rw[l]
  exact(rel.val k).getD rd
 ·subst ey
  cases (ry)
  obtain⟨z,hd,xs,rel,dd⟩:=uo I.hok e
  refine call_meetsIn PySem.F.slot_dict_get dd.typeIs PySem.F.entry_dict_get (PySem.F.args_dict_get_3 _ _ _) (meetsH_dict_get_default _ a b hd r) ⟨tupleKind_room_in1 hu,k,xs,kZ I.hok eb,dd,h _ _ (I.tok _) ?_⟩
  rw[l]
  exact(rel.val k).getD rd
end
noncomputable def VV(td ty tx:TE):TE:=fun σ H Q=>td σ H fun x H1=>∃a,x=.ref a/\IsD H1 a/\ty σ H1 fun y H2=>tx σ H2 fun z H3=>∃o,lJ H3 a y o/\Q (o.getD z) H3
noncomputable def Bk(td ty:TE):TE:=fun σ H Q=>td σ H fun x H1=>∃a,x=.ref a/\IsD H1 a/\ty σ H1 fun y H2=>∃kvs k v,H2 a=some (.dK kvs)/\y=kV k/\fJ kvs k=some v/\Q v (upd H2 a (.dK (qx kvs k)))
section
variable{X:Cx}{o e f:Expr}{apos cpos:Pos}{td ty tx:TE}
def La(hu:X.A.units+1<cLine)(ho:PE X o td)(he:PE X e ty)(hf:PE X f tx)(m:M2 X o "get" apos e f cpos):PE X (.Call (.Attribute o "get" apos) [e,f] [] cpos) (VV td ty tx):=by
 intro γ s σ H Q I h
 refine wpAny_Call_method m.base m.few m.line PySem.F.plainAttrs_dict PySem.F.slot_dict_get PySem.F.type_dict_get (cj (ho γ s σ H _ I h) fun u s1⟨x,H1,I1,rx,a,ex,d,q1⟩=>?_)
 subst ex
 obtain rfl:u=Value.ref a:=rx
 obtain⟨t1,t2,_⟩:=Mw I1 d
 refine⟨t1,t2,?_⟩
 rw[m.trees]
 refine Calls.callWith_builtin rfl (Calls.evalArgs_plain (Calls.spliced_cons (cj (he γ s1 σ H1 _ I1 q1) fun iv s2⟨y,H2,I2,ry,q2⟩=>
  Calls.spliced_cons (cj (hf γ s2 σ H2 _ I2 q2) fun fv s3⟨z,H3,I3,rz,ov,g,q3⟩=>Calls.spliced_nil ?_))))
 exact Yq hu I3 g ry rz fun w' s4 I4 rw'=>⟨_,H3,I4,rw',q3⟩
def K8(ho:PE X o td)(he:PE X e ty)(m:M1 X o "pop" apos e cpos):PE X (.Call (.Attribute o "pop" apos) [e] [] cpos) (Bk td ty):=by
 intro γ s σ H Q I h
 refine wpAny_Call_method m.base m.few m.line PySem.F.plainAttrs_dict PySem.F.slot_dict_pop PySem.F.type_dict_pop (cj (ho γ s σ H _ I h) fun u s1⟨x,H1,I1,rx,a,ex,d,q1⟩=>?_)
 subst ex
 obtain rfl:u=Value.ref a:=rx
 obtain⟨t1,t2,_⟩:=Mw I1 d
 refine⟨t1,t2,?_⟩
 rw[m.trees]
 refine Calls.callWith_builtin rfl (Calls.evalArgs_plain (Calls.spliced_cons (cj (he γ s1 σ H1 _ I1 q1) fun iv s2⟨y,H2,I2,ry,kvs,k,v,ea,ey,l,q2⟩=>Calls.spliced_nil ?_)))
 subst ey
 exact abW I2 ea ry l (.inl rfl) fun w' s3 I3 rw'=>⟨v,_,I3,rw',q2⟩
end
section
variable{X:Cx}{γ:QQz}{σ:St}{H:Hp}{s:Shared}{a:Addr}{kvs:List (Key×V)}{A:Around}{E:QZq}
end
section
variable{X:Cx}{γ:QQz}{σ:St}{H:Hp}{s:Shared}{a:Addr}{y:V}{u:Value}{A:Around}{E:QZq}
end
end L2
namespace Att
open PySem PySem.W PySem.Calls PyProof.Rows
def qM{h:Heap}:∀(ns:List Int)(vs:List Value),WellAll P h vs (ns.map WData.int)->IntsAre vs ns:=by
 intro ns
 induction ns with
 |nil=>
  intro vs w
  cases w
  exact .nil
 |cons n ns ih=>
  intro vs w
  cases w with
  |cons a b=>
   cases a
   exact .cons _ _ (ih _ b)
theorem Hl{l:OpenLaw}(hn:l.most=some n){h:Heap}
  (hpre:l.row.toRowW.claim.pre args=true)(hwl:WellAll P h vals args):
  ∃a vs ns,vals=[Value.ref a]/\args=[WData.list (ns.map WData.int)]/\h.get? a=some {cls:=.type "list",data:=.seq vs.toArray}/\IntsAre vs ns/\ns.length<=n:=by
 obtain⟨d,r,rfl,h1,h2⟩:=hasAllW_cons ((pre_splitW hpre).1)
 obtain rfl:=hasAllW_nil h2
 obtain⟨xs,rfl,h3⟩:=hasW_list h1
 obtain⟨ns,rfl⟩:=items_int h3
 have hlen:ns.length<=n:=by
  have h4:(WTm.not (.lt (.lit (.int n)) (.len (.arg 0)))).holds [] {args:=[.list (ns.map .int)]}=true:=by
   have h4:=(holds_andW ((pre_splitW hpre).2)).1
   rw[hn]at h4
   exact h4
  have h5:=condW_of h4 (w_not (w_lt w_lit (w_len_list (w_arg rfl))))
  refine Nat.le_of_not_lt fun q=>?_
  first
   |(rw[decide_eq_true q']at h5;exact absurd h5 (by decide))
   |(simp at h5;omega)
 cases hwl with
 |cons w1 w2=>
  cases w2
  cases w1 with
  |list ho hall=>exact⟨_,_,ns,rfl,rfl,ho,qM ns _ hall,hlen⟩
def Hz(l:OpenLaw)args:l.row.toRowW.claim.post args (.bool true) args=true:=
 postW_of
  (show WShape.has [] _ .bool=true by first|rfl|decide|simp[WShape.has,WShape.arms,WShape.armsAll])
  (w_eq_bool (w_res rfl) w_lit) rfl
def Aj{l:OpenLaw}{n:Nat}{loose:List Str}{YP:World->Heap->Prop}
  (hn:l.most=some n)(hdf:d.params.defaults=[])
  (call:∀(w:World)(s₀ θ:Shared)(mg mb:QZz)(fa:Addr)(o:Obj)(pm cd doc:Value)(a:Addr)(vs:List Value)(ns:List Int),
   Ground q loose [] XP w s₀ mg mb θ.heap->YP w θ.heap->
   θ.heap.get? fa=some o->o.data=.func (docDef d.name d.params d.body d.scope pm cd doc)->θ.heap.CodeRec cd d.name->mg d.name=some (.ref fa)->
   θ.heap.get? a=some {cls:=.type "list",data:=.seq vs.toArray}->IntsAre vs ns->ns.length<=n->θ.gens= #[]->
   codeAny (model l.prog w) callerA (.call (.ref fa) ⟨[.ref a],[]⟩) (fun r s'=>r=.ok (.ret (.bool true))/\OldK θ.heap s'.heap/\s'.os=θ.os/\AllBare s'.gens) θ):
  WalkO q loose XP YP l.row.toRowW d [] (fun f vs=>PySem.call f vs):=by
 intro w s₀ θ mg mb G Y fa o pm cd doc dV kV ho hd hcd hD hmg hg args vals as hpre hlay hrd hwl hlo
 obtain rfl:dV=.none:=Dflts.none hD hdf
 obtain rfl:kV=.none:=Dflts.noKw hD
 obtain⟨a,vs,ns,rfl,rfl,hobj,hints,hlen⟩:=Hl hn hpre hwl
 refine enter_call (codeAny_mono (call w s₀ θ mg mb fa o pm cd doc a vs ns G Y ho (fd_plain hd) hcd hmg hobj hints hlen hg) fun r s' hq=>?_)
 obtain⟨rfl,h2,h3,h4⟩:=hq
 exact⟨.inl ⟨.bool true,.bool true,[],rfl,fun _=>rfl,.bool true,Hz l _,fun _=>⟨List.Pairwise.nil,fun _ hm=>(nomatch hm)⟩⟩,h2,h3,h4⟩
section
variable{prog:Program}{w:World}{A:Around}{E:QZq}{s:Shared}{K:Frag}
end
end Att
namespace L2
open PySem PySem.Spec PyProof.Rows
theorem vd:∀{vs:List Value}{ns:List Int},IntsAre vs ns->Vals (ns.map V.int) vs
 |_,_,.nil=>.nil
 |_,_,.cons n t h=>.cons ⟨t,rfl⟩ (vd h)
def Only(H:Hp):Prop:=∀b,H b=none\/∃o xs,H b=some (.frz o (.lst xs))
theorem LR{w:World}{K:QQq}{CX:Jr}{fa a:Addr}{x:Str}{θ:Shared}
  (KX:K.In θ.heap)(hns:θ.heap.Ns mainGlobals mg)(hb:θ.heap.Ns builtinsNs mb)(hbb:∀x:Str,x≠"__name__"->mb x=bootBuiltins x)(hlim:θ.heap.NoLimit)(hg:θ.gens= #[])
  (ha:θ.heap.get? a=some {cls:=.type "list",data:=.seq vs.toArray})(hi:IntsAre vs ns)(hl:ns.length<=sizeLine)(hr:dH k callerA)
  (F:∀base:Heap,K.In base->base.Ns mainGlobals mg->cD P w K mg base CX k fa fd [x] sp)(hbind:∀(s:Shared)(u:Value),BindsTo s fd ⟨[u],[]⟩ [(x,u)])
  (hsp:∀H:Hp,Only H->lG K H a (ns.map V.int)->sp [.ref a] H (fun v _=>v=.bl true) fun _ _ _=>False)
  (hCX:∀H e s',CX [] H θ (fun _ _ _=>False) e s'->False):
  codeAny (model P w) callerA (.call (.ref fa) ⟨[.ref a],[]⟩) (fun r s'=>r=.ok (.ret (.bool true))/\OldK θ.heap s'.heap/\s'.os=θ.os/\AllBare s'.gens) θ:=by
 have rv:=vd hi
 have core:∀H:Hp,Only H->lG K H a (ns.map V.int)->nJ P w H θ.heap->(∀b,H b≠none->b=a)->(H a≠none->K.lookup a=none)->
   codeAny (model P w) callerA (.call (.ref fa) ⟨[.ref a],[]⟩) (fun r s'=>r=.ok (.ret (.bool true))/\OldK θ.heap s'.heap/\s'.os=θ.os/\AllBare s'.gens) θ:=by
  intro H hO hS hok hA hK
  have mC:∀{b:Addr}{o:Obj},θ.heap.get? b=some o->H b=none->(Iw θ.heap H).get? b=some o:=fun e n=>MF e n
  have noA:∀{b:Addr}{o:Obj}{es:Array DictEntry}{ep:Nat},θ.heap.get? b=some o->o.data=.dict es ep->H b=none:=fun{b o es ep}e d=>by
   cases q:H b with
   |none=>rfl
   |some u=>
    have e':=hA b (by rw[q];simp)
    subst e'
    rw[ha]at e;cases e
    cases d
  have nsK:∀{b:Addr}{m:QZz},θ.heap.Ns b m->(Iw θ.heap H).Ns b m:=fun{b m}⟨o,es,ep,e,d,r⟩=>⟨o,es,ep,mC e (noA e d),d,r⟩
  have hKb:=fun b o e=>mC (KX b o e) (by
   cases q:H b with
   |none=>rfl
   |some u=>
    have e':=hA b (by rw[q];simp)
    subst e'
    rw[hK (by rw[q];simp)]at e;cases e)
  have hM:Mod K mg _:=⟨hKb,nsK hns,⟨mb,nsK hb,hbb⟩,let ⟨mc,h1,h2⟩:=hlim;⟨mc,nsK h1,h2⟩⟩
  refine codeAny_mono ((F _ hKb (nsK hns)).run callerA [] θ H ⟨[.ref a],[]⟩ [.ref a] [.ref a] _ _ hr ⟨rfl,hM,fun b o e=>Rr e,Nat.le_of_eq (Iv _ _),trivial,fun b hb=>absurd (show b∈([])from hb) (by simp),hok,.of_eq hg⟩ (hbind θ _) (.cons rfl .nil) (hsp H hO hS)) fun r s' h=>?_
  cases r with
  |error e=>exact(hCX H e s' h).elim
  |ok fl=>
   cases fl with
   |next=>exact False.elim h
   |brk=>exact False.elim h
   |cont=>exact False.elim h
   |ret u=>
    obtain⟨v,H',os,bare,un,hok',r',q⟩:=h
    subst q
    obtain rfl:u=Value.bool true:=r'
    refine⟨rfl,OldK.of_keep fun b o e=>?_,os,bare⟩
    cases q:H b with
    |none=>exact un.keep b o e q (by intro z;exact absurd (show b∈([])from z) (by simp)) (by simp)
    |some u=>
     rcases hO b with z|⟨ob,xs,z⟩
     ·rw[q]at z;cases z
     ·obtain⟨e1,_⟩:=hok b _ z
      obtain⟨e2,_⟩:=hok' b _ (un.frzs b ob _ z)
      rw[e]at e1;cases e1
      exact e2
 cases hk:K.lookup a with
 |some o=>
  have e:=KX a o hk
  rw[ha]at e
  cases e
  refine core _ (fun _=>.inl rfl) (.inr ⟨_,vs.toArray,_,hk,rfl,rfl,rfl,by rw[Qjz,hi.length];exact hl,by simpa using rv⟩) (fun b u z=>by have z':=z;cases z') (fun b z=>absurd rfl z) fun z=>absurd rfl z
 |none=>
  refine core (fun b=>if b=a then some _ else none) (fun b=>?_) (.inl (.inr ⟨{cls:=.type "list",data:=.seq vs.toArray},if_pos rfl⟩)) (fun b u z=>?_) (fun b z=>?_) fun _=>hk
  ·by_cases hb:b=a
   ·exact .inr ⟨_,_,if_pos hb⟩
   ·exact .inl (if_neg hb)
  ·by_cases hb:b=a
   ·cases ((if_pos hb).symm.trans z)
    subst hb
    exact⟨ha,by rw[Qvz];exact hl,vs,_,rv,ha⟩
   ·cases ((if_neg hb).symm.trans z)
  ·by_cases hb:b=a
   ·exact hb
   ·exact absurd (if_neg hb) z
def PJ{l:PySem.W.OpenLaw}{n k:Nat}{loose:List Str}{YP:World->Heap->Prop}{K:Params->QQq}{CX:World->Jr}{sp:World->Sp}
  (hn:l.most=some n)(hn2:n<=sizeLine)(hdf:d.params.defaults=[])(hr:dH k callerA)
  (hY:∀(w:World)(h:Heap),YP w h->(K w.params).In h)
  (F:∀(w:World)(mg:QZz)(fa:Addr)(h:Heap),(K w.params).In h->h.Ns mainGlobals mg->mg d.name=some (.ref fa)->
   ∃fd:FuncData,(∀(s:Shared)(u:Value),BindsTo s fd ⟨[u],[]⟩ [(x,u)])/\
    ∀base:Heap,(K w.params).In base->base.Ns mainGlobals mg->cD l.prog w (K w.params) mg base (CX w) k fa fd [x] (sp w))
  (hsp:∀(w:World)(H:Hp)(a:Addr)(ns:List Int),ns.length<=n->Only H->lG (K w.params) H a (ns.map V.int)->sp w [.ref a] H (fun v _=>v=.bl true) fun _ _ _=>False)
  (hCX:∀(w:World)(H:Hp)(s:Shared)(e:Value)(s':Shared),CX w [] H s (fun _ _ _=>False) e s'->False):
  PySem.W.WalkO q loose XP YP l.row.toRowW d [] (fun f vs=>PySem.call f vs):=by
 refine Att.Aj hn hdf fun w s₀ θ mg mb fa o pm cd doc a vs ns G Y ho hd hcd hmg hobj hints hlen hg=>?_
 have KX:=hY w _ Y
 obtain⟨fd,hb,hF⟩:=F w mg fa _ KX G.T.g hmg
 exact LR KX G.T.g G.T.b G.T.builtins G.T.nolimit hg hobj hints (Nat.le_trans hlen hn2) hr hF hb (fun H hO hS=>hsp w H a ns hlen hO hS) fun H e s'=>hCX w H θ e s'
abbrev gn:Jr:=fun _ _ _ _ _ _=>False
abbrev E0:XK:=fun _ _ _=>False
def iH:lH gn X E0:=fun _ _ _ _ _ _ _ h=>h.elim
structure GP(K:QQq)(x qual:Str)(st:Stmt)(f:Addr)(fd:FuncData):Prop where
 ex:∃(oc:Value)(od:Option Addr)(kV doc pm:Value)(an:Option Addr)(cdv ct:Value)(osl:Array (Option Value)),
  fd=PySem.W.fnOf x qual (dF st) (cF st) (aq st) .none kV doc pm an cdv ct/\K.lookup f=some ⟨oc,od,.func fd,osl⟩/\PySem.W.codeIn K cdv qual=true
 kp:PySem.W.keepIn K (.ref f)=true
section
variable{P:Program}{w:World}{K:QQq}{mg:QZz}{base:Heap}
def GP.ok{st:Stmt}{fd:FuncData}{k:Nat}(F:GP K x qual st f fd)(S:eF N ps (aq st))(len:∀vs H Q E,sp vs H Q E->vs.length=ps.length)
  (hbody:∀(cdv:Value)(A:Around)(outer:List Env)(s:Shared)(H:Hp)(vs:List V)(Q:VK)(E:XK),dH k (A.deeper (envOfC qual (aq st) s.heap.objs.size f cdv))->sp vs H Q E->
   ∃t,uZ (gD gn P w K mg base N qual (aq st) f cdv A outer s H E).qU (cF st) t/\t {nx:=fun _ H'=>Q .non H',rt:=Q} (start N vs) H):cD P w K mg base gn (k+1) f fd ps sp:=by
 obtain⟨oc,od,kV,doc,pm,an,cdv,ct,osl,rfl,lk,hcd⟩:=F.ex
 refine abR lk hcd S len fun A outer s H vs Q E hr hsp=>?_
 obtain⟨t,h,q⟩:=hbody cdv A outer s H vs Q E hr hsp
 exact⟨t,h.qU,q⟩
def GP.binds{st:Stmt}{f:Addr}{ps:List Str}(F:GP K x qual st f fd)
  (h:∀(kV doc pm:Value)(an:Option Addr)(cdv ct:Value)(us:List Value),us.length=ps.length->bindArgs (PySem.W.fnOf x qual (dF st) (cF st) (aq st) .none kV doc pm an cdv ct) ⟨us,[]⟩=pure (ps.zip us)):Binds K fd ps []:=by
 obtain⟨oc,od,kV,doc,pm,an,cdv,ct,osl,rfl,lk,hcd⟩:=F.ex
 exact .all (h kV doc pm an cdv ct)
def Nj{st:Stmt}{f:Addr}{od an:Option Addr}{kV doc pm cdv ct:Value}(l:K.lookup f=some ⟨oc,od,.func (PySem.W.fnOf x qual (dF st) (cF st) (aq st) .none kV doc pm an cdv ct),osl⟩)
  (c:PySem.W.codeIn K cdv qual=true)(k:PySem.W.keepIn K (.ref f)=true):GP K x qual st f (PySem.W.fnOf x qual (dF st) (cF st) (aq st) .none kV doc pm an cdv ct):=⟨⟨oc,od,kV,doc,pm,an,cdv,ct,osl,rfl,l,c⟩,k⟩
end
def Hk(h:n<=1000):n<sizeLine:=Nat.lt_of_le_of_lt h (by decide)
section
variable{X:Cx}
end
end L2
end
section
namespace Mini
open PySem L2
def qR(h:Heap)(d:Addr)(es:Array DictEntry)(ep:Nat):Prop:=∃o,h.get? d=some o/\o.ExactDict/\o.data=.dict es ep
section
def Jl(y:(d==sysModules)=false)(B:qR s.heap d es ep)
  (q:Q (.ref s.heap.objs.size) {s with heap:=s.heap.push {cls:=.type "dict_keyiterator",data:=.fields #[.ref d,.int 0 0,.int es.size 0,.int ep 0]}}):wpAny (model prog w) A (pyIter (.ref d)) Q E s:=by
 obtain⟨o,h1,h2,h3⟩:=B
 have t:s.TypeIs (.ref d) "dict":=⟨o,h1,h2.1⟩
 refine wpAny_pyIter_slot t F.slot_dict_iter (Qzq F.slot_dict_iter t F.entry_dict_iter ?_ (F.args_dict_iter_1 _))
 refine QTz (QTz (wpAny_notOrdered_dict t (QKq ?_)))
 show wpAny _ _ (Builtin.Dict.showsAll d>>=_) _ _ s;unfold Builtin.Dict.showsAll;rw[if_neg (by rw[y];decide)]
 refine QTz (QKq (QTz (wpAny_dictEntries h1 h3 (QTz (wpAny_dictEpoch h1 h3 ?_)))))
 refine QTz (Qzz (QKq ⟨_,rfl,"dict_keyiterator",_,⟨_,Qqz _ rfl,rfl⟩,F.slot_dict_keyiterator_next.lookup,q⟩))
def Jm{Q:Option Value->Shared->Prop}(st:s.heap.IsKeyIter it d i es.size ep)(B:qR s.heap d es ep)(x:es[i]? =some e)
  (q:∀h',h'.IsKeyIter it d (i+1) es.size ep->Heap.SameBut it s.heap h'->Q (some e.key) {s with heap:=h'}):wpAny (model prog w) A (pyNext (.ref it)) Q E s:=by
 obtain⟨o,g1,g2,g3⟩:=id st
 obtain⟨od,h1,h2,h3⟩:=B
 refine QTz (wpAny_attempt (wpAny_callSpecial?_slot st.typeIs F.slot_dict_keyiterator_next (Qzq F.slot_dict_keyiterator_next st.typeIs F.entry_dict_keyiterator_next ?_ (F.args_dict_keyiterator_next_1 _))))
 refine QTz (QKq (QTz (QTz ?_)))
 first|refine QTz (wpAny_typeNameOfWhole_keyiter st.typeIs (QKq ?_))|refine QTz _
 refine QTz (wpAny_fieldsOf g1 g3 ?_)
 refine QTz (QKq (QTz (wpAny_dictEntries h1 h3 ?_)))
 rw[if_neg (by simp)]
 refine QTz (QKq (QTz (wpAny_dictEpoch h1 h3 ?_)))
 rw[if_neg (by simp)]
 refine QKq ?_
 simp only[show¬(i<0) by omega,if_false,Int.toNat_natCast,x]
 refine QTz ?_
 first|refine QTz (wpAny_typeNameOfWhole_keyiter st.typeIs (QKq ?_))|refine QTz _
 refine QTz (wpAny_isOneOf_keyiter st.typeIs ?_)
 show wpAny _ _ (setField _ 1 (rawInt (i+1))>>=_) _ _ s;refine QTz (wpAny_setField g1 g3 (by simp) ?_)
 have st':(s.heap.update it (Obj.mapFields (·.setIfInBounds 1 (rawInt (i+1))))).IsKeyIter it d (i+1) es.size ep:=⟨_,Heap.get?_update_self _ g1 (Obj.isFreed_of_fields (Obj.data_mapFields g3 _)),(Obj.cls_mapFields ..).trans g2,by rw[Obj.data_mapFields g3];simp[rawInt]⟩
 exact QTz (QGz (QTz (wpAny_isOneOf_keyiter (s:={s with heap:=s.heap.update it (Obj.mapFields (·.setIfInBounds 1 (rawInt (i+1))))}) st'.typeIs (QKq (QKq ⟨_,rfl,QKq (q _ st' (Heap.SameBut.update ..))⟩)))))
def Oo(hh:A.handled=none)(st:s.heap.IsKeyIter it d i es.size ep)(B:qR s.heap d es ep)(x:es.size<=i)
  (q:∀h',Heap.ExtBut it s.heap h'->Q none {s with heap:=h'}):wpAny (model prog w) A (pyNext (.ref it)) Q E s:=by
 obtain⟨o,g1,g2,g3⟩:=id st
 obtain⟨od,h1,h2,h3⟩:=B
 refine QTz (wpAny_attempt (wpAny_callSpecial?_slot st.typeIs F.slot_dict_keyiterator_next (Qzq F.slot_dict_keyiterator_next st.typeIs F.entry_dict_keyiterator_next ?_ (F.args_dict_keyiterator_next_1 _))))
 refine QTz (QKq (QTz (QTz ?_)))
 first|refine QTz (wpAny_typeNameOfWhole_keyiter st.typeIs (QKq ?_))|refine QTz _
 refine QTz (wpAny_fieldsOf g1 g3 ?_)
 refine QTz (QKq (QTz (wpAny_dictEntries h1 h3 ?_)))
 rw[if_neg (by simp)]
 refine QTz (QKq (QTz (wpAny_dictEpoch h1 h3 ?_)))
 rw[if_neg (by simp)]
 refine QKq ?_
 simp only[show¬(i<0) by omega,if_false,Int.toNat_natCast,Array.getElem?_eq_none x]
 refine QTz ?_
 first|refine QTz (wpAny_typeNameOfWhole_keyiter st.typeIs (QKq ?_))|refine QTz _
 show wpAny _ _ (setField _ 0 .none>>=_) _ _ s;refine QTz (wpAny_setField g1 g3 (by simp) ?_)
 show wpAny _ _ _ _ _ _;refine QTz ?_
 refine QTz (Qzz (QTz (wpAny_of_eq (by first|rfl|(simp only[firstArgMember];rfl)) ?_)) (by size_fits))
 refine Qzz ?_ (by size_fits);simp only[raiseNew]
 refine QTz (wpAny_handled ?_);rw[show A.in1.handled=none from hh]
 refine QTz (QKq (wpAny_throw ?_));refine QTz (wpAny_isInstance ⟨_,Qqz _ rfl,rfl⟩ isSubtype_stop ?_)
 exact QKq (q _ (((Heap.SameBut.update ..).extBut.push _).push _))
end
section
variable{s:Shared}
def qR.stay(B:qR h d es ep)(k:∀o,h.get? d=some o->h'.get? d=some o):qR h' d es ep:=let ⟨o,e,r⟩:=B;⟨o,k _ e,r⟩
def qR.lt(B:qR h d es ep):d<h.objs.size:=let ⟨_,e,_⟩:=B;Qqq e
def qR.type(B:qR s.heap d es ep):s.TypeIs (.ref d) "dict":=let ⟨o,e,c,_⟩:=B;⟨o,e,c.1⟩
theorem DK(hh:A.handled=none)(ne:d≠it):Walks prog w A it [it,d] [it] es.size (fun i v=>∃e,es[i]? =some e/\v=e.key) (fun i h=>h.IsKeyIter it d i es.size ep/\qR h d es ep) where
 sub:=fun b hb=>QBz.mpr (.inl (QDq.mp hb))
 frame:=fun _ _ _ st k=>⟨st.1.at fun o e=>k it QYz o e,st.2.stay fun o e=>k d (QYq _ QYz) o e⟩
 item:=fun i s Q E hi st q=>Jm st.1 st.2 (Array.getElem?_eq_getElem hi) fun h' st' sb=>q _ h' s.toks ⟨es[i],Array.getElem?_eq_getElem hi,rfl⟩ ⟨st',st.2.stay fun o e=>(sb.2 d ne).trans e⟩ fun b o hb e=>(sb.2 b fun z=>hb (QDq.mpr z)).trans e
 done:=fun s Q E st q=>Oo hh st.1 st.2 (QVz _) fun h' eb=>q h' s.toks fun b o hb e=>eb b o (fun z=>hb (QDq.mpr z)) e
 self:=fun _ _ _ _ st q=>wpAny_pyIter_keyiter st.1 q
theorem Om(y:(d==sysModules)=false):PySem.W.KdlSrc prog w "dict" d d es.size (fun i v=>∃e,es[i]? =some e/\v=e.key) (fun h=>qR h d es ep) where
 type:=fun _ B=>B.type
 there:=fun _ B=>⟨B.lt,B.lt⟩
 keep:=fun _ _ B k=>B.stay fun o e=>k d (.inl rfl) o e
 notList:=by decide
 notTuple:=by decide
 hint:=fun _ _ _ _ B q=>PySem.W.kdl_hint_dict B.type q
 iter:=fun _ _ hh B=>⟨_,_,(fun _ _ q=>Jl y B q),DK hh (Qvq B.lt),⟨⟨_,Qqz _ rfl,rfl,rfl⟩,B.stay fun o e=>QWq _ e⟩⟩
end
end Mini
end
section
namespace Mini
open PySem L2 PyProof.Rows
def uG(b:Bool)(h:Heap)(it l:Addr)(k:Nat):Prop:=match b with|true=>h.IsListIter it l k|false=>h.IsTupleIter it l k
def yH(b:Bool)(h:Heap)(l:Addr)(xs:Array Value):Prop:=match b with|true=>h.IsList l xs|false=>h.IsTuple l xs
def uG.at{h h':Heap}{k:Nat}(x:uG b h it l k)(e:∀o,h.get? it=some o->h'.get? it=some o):uG b h' it l k:=by
 cases b<;>exact Exists.elim x fun o⟨h1,h2⟩=>⟨o,e o h1,h2⟩
def yH.at{h h':Heap}{xs:Array Value}(x:yH b h l xs)(e:∀o,h.get? l=some o->h'.get? l=some o):yH b h' l xs:=by
 cases b<;>exact Exists.elim x fun o⟨h1,h2⟩=>⟨o,e o h1,h2⟩
def uG.obj{h:Heap}{k:Nat}(x:uG b h it l k):∃o,h.get? it=some o/\∀v,o.data≠ .cell v:=by
 cases b<;>exact Exists.elim x fun o⟨h1,_,h2⟩=>⟨o,h1,fun v z=>by rw[h2]at z;cases z⟩
def uG.lt{h:Heap}{k:Nat}(x:uG b h it l k):it<h.objs.size:=let ⟨_,e,_⟩:=x.obj;Qqq e
section
def oF{i:Nat}{items}{Q:QZq}(hit:s.heap.IsTupleIter it l i)
  (hl:s.heap.IsTuple l items)(hx:items[i]? =some x)
  (hQ:∀h',h'.IsTupleIter it l (i+1)->Heap.SameBut it s.heap h'->Q x {s with heap:=h'}):
  wpAny (model prog w) A (Builtin.SmallTypes.nextOf (.ref it)) Q E s:=by
 obtain⟨o,ho,hc,hd⟩:=id hit
 obtain⟨ol,hol,_,nl,hdl⟩:=hl
 refine QTz (wpAny_callSpecial?_slot hit.typeIs PySem.F.slot_tuple_iterator_next
  (Qzq PySem.F.slot_tuple_iterator_next hit.typeIs PySem.F.entry_tuple_iterator_next ?_ (PySem.F.args_tuple_iterator_next_1 _)))
 show wpAny _ _ (field _ 0>>=_) _ _ s
 refine QTz (QGq ho hd rfl ?_)
 refine QTz (QGq ho hd rfl ?_)
 refine QTz (wpAny_seqItems hol hdl ?_)
 simp only[Int.toNat_natCast,hx]
 refine QTz (wpAny_setField ho hd (by simp) (QKq ⟨x,rfl,QKq (hQ _ ?_ (Heap.SameBut.update ..))⟩))
 exact⟨_,Heap.get?_update_self _ ho (Obj.isFreed_of_fields (Obj.data_mapFields hd _)),(Obj.cls_mapFields ..).trans hc,by
  rw[Obj.data_mapFields hd];simp[rawInt]⟩
def pC{i:Nat}{items}(hh:A.handled=none)
  (hit:s.heap.IsTupleIter it l i)(hl:s.heap.IsTuple l items)(hx:items[i]? =none)
  (hE:∀h' e,Heap.ExtBut it s.heap h'->(∃o,h'.get? e=some o/\o.cls=.type "StopIteration")->E (.ref e) {s with heap:=h'}):
  wpAny (model prog w) A (Builtin.SmallTypes.nextOf (.ref it)) Q E s:=by
 obtain⟨o,ho,hc,hd⟩:=id hit
 obtain⟨ol,hol,_,nl,hdl⟩:=hl
 refine QTz (wpAny_callSpecial?_slot hit.typeIs PySem.F.slot_tuple_iterator_next
  (Qzq PySem.F.slot_tuple_iterator_next hit.typeIs PySem.F.entry_tuple_iterator_next ?_ (PySem.F.args_tuple_iterator_next_1 _)))
 show wpAny _ _ (field _ 0>>=_) _ _ s
 refine QTz (QGq ho hd rfl ?_)
 refine QTz (QGq ho hd rfl ?_)
 refine QTz (wpAny_seqItems hol hdl ?_)
 simp only[Int.toNat_natCast,hx]
 refine QTz (wpAny_rule (QTz (wpAny_setField ho hd (by simp) ?_)))
 refine QTz ?_
 refine QTz (Qzz ?_ (by size_fits))
 refine QTz (wpAny_of_eq (by first|rfl|(simp only[firstArgMember];rfl)) ?_)
 refine Qzz ?_ (by size_fits)
 refine QTz (wpAny_handled ?_)
 first|rw[show A.in1.handled=none from hh]|rw[hh]
 refine QTz (QKq (wpAny_throw (hE _ _ (((Heap.SameBut.update ..).extBut.push _).push _) ⟨_,Qqz _ rfl,rfl⟩)))
theorem gj{it l:Addr}{items}{Q:QZq}(hit:uG b s.heap it l i)
  (hl:yH b s.heap l items)(hx:items[i]? =some x)(hQ:∀h',uG b h' it l (i+1)->Heap.SameBut it s.heap h'->Q x {s with heap:=h'}):
  wpAny (model prog w) A (Builtin.SmallTypes.nextOf (.ref it)) Q E s:=by
 cases b with
 |true=>exact wpAny_nextOf_list_item hit hl hx hQ
 |false=>exact oF hit hl hx hQ
theorem lV{it l:Addr}{items}(hh:A.handled=none)
  (hit:uG b s.heap it l i)(hl:yH b s.heap l items)(hx:items[i]? =none)
  (hE:∀h' e,Heap.ExtBut it s.heap h'->(∃o,h'.get? e=some o/\o.cls=.type "StopIteration")->E (.ref e) {s with heap:=h'}):
  wpAny (model prog w) A (Builtin.SmallTypes.nextOf (.ref it)) Q E s:=by
 cases b with
 |true=>exact wpAny_nextOf_list_end hh hit hl hx hE
 |false=>exact pC hh hit hl hx hE
end
def jT(h:Heap)(z TI TO:Addr)(f0 f1:Value):Prop:=
 h.get? z=some {cls:=.type "zip",dict:=none,data:=.fields #[f0,f1,.bool false,.ref TI,.ref TO],slots:= #[]}
def F0(f0:Value):Prop:=f0=.none\/∃T:Nat,f0=rawInt T
section
def nM{a:Addr}(h:Q (s.heap.get? a) s):wpAny M A (loadIfAlive a) Q E s:=fun Γ p hΓ=>by
 show Sem.wp M Γ _ _ _ p s
 exact(QKq (M:=M) (E:=E) h) Γ p hΓ
theorem yK{z TI TO:Addr}{f0 f1:Value}(hz:jT s.heap z TI TO f0 f1)(h0:F0 f0)(hQ1:Q true s)
  (hQ2:∀h' g1,jT h' z TI TO f0 g1->Heap.SameBut z s.heap h'->Q false {s with heap:=h'}):wpAny (model prog w) A (Builtin.SmallTypes.ownedTupleIsFree (.ref z)) Q E s:=by
 rcases h0 with rfl|⟨T,rfl⟩
 ·exact QTz (QGq hz rfl rfl (QKq hQ1))
 ·refine QTz (QGq hz rfl rfl ?_)
  refine QTz (nM ?_)
  cases hT:s.heap.get? _ with
  |none=>exact QKq hQ1
  |some o=>
   refine QTz (QGq hz rfl (x:=f1) rfl ?_)
   by_cases hf:(f1 != .bool true)=true
   ·rw[if_pos hf]
    refine QTz (wpAny_setField_rec hz (by simp) fun h' hz' hs'=>QKq (hQ2 h' _ hz' hs'))
   ·rw[if_neg hf]
    exact QKq (hQ2 s.heap f1 hz (Heap.SameBut.refl ..))
structure O3(z TI TO i1 i2:Addr)(b1 b2:Bool)(l1 l2:Addr)(k1 k2:Nat)(T:Addr)(x y:Value)(h h':Heap):Prop where
 zr:∃f0 f1,jT h' z TI TO f0 f1/\F0 f0
 ti:IsPair h' TI (.ref i1) (.ref i2)
 to:∃a b,IsPair h' TO a b
 it1:uG b1 h' i1 l1 k1
 it2:uG b2 h' i2 l2 k2
 new:IsPair h' T x y
 size:h'.objs.size=T+1
 keep:∀c o,c≠z->c≠TO->c≠i1->c≠i2->h.get? c=some o->h'.get? c=some o
def GZ{z TI TO i1 i2 l1 l2:Addr}{k1 k2:Nat}{xs ys:Array Value}{Q:QZq}(D:ZipApart z TI TO i1 i2 l1 l2)
  (hz:jT s.heap z TI TO f0 f1)(h0:F0 f0)(hTI:IsPair s.heap TI (.ref i1) (.ref i2))(hTO:IsPair s.heap TO a b)
  (h1:uG b1 s.heap i1 l1 k1)(h2:uG b2 s.heap i2 l2 k2)(hl1:yH b1 s.heap l1 xs)(hl2:yH b2 s.heap l2 ys)(hx:xs[k1]? =some x)(hy:ys[k2]? =some y)
  (hQ:∀h',O3 z TI TO i1 i2 b1 b2 l1 l2 (k1+1) (k2+1) s.heap.objs.size x y s.heap h'->Q (.ref s.heap.objs.size) {s with heap:=h'}):
  wpAny (model prog w) A (Builtin.«zip.__next__» ⟨[.ref z],[]⟩) (fun fin s'=>∃v,fin=.done (.ret v)/\Q v s') E s:=by
 show wpAny _ _ (field (.ref z) 2>>=_) _ _ _
 refine QTz (QGq hz rfl rfl ?_)
 refine QTz (QGq hz rfl rfl ?_)
 refine QTz (wpAny_seqItems hTI rfl ?_)
 refine QTz (yK hz h0 ?_ ?_)
 ·--the tuple of its own is used again
  refine QTz (wpAny_rule ?_)
  refine QTz (QGq hz rfl rfl ?_)
  refine QTz (wpAny_setField_rec hz (by simp) fun Θ Ξ ι=>?_)
  replace Ξ:jT Θ z TI TO .ellipsis f1:=Ξ
  refine QTz ?_
  refine QTz (QTz (wpAny_onRaise ?_))
  refine QTz (gj (h1.at fun o e=>ι.extBut _ _ D.i1z e) (hl1.at fun o e=>ι.extBut _ _ D.l1z e) hx fun Ψ h1₂ μ=>QKq ?_)
  have hTO₂:=μ.extBut _ _ D.TOi1 (ι.extBut _ _ D.TOz hTO)
  refine QTz (wpAny_seqItems hTO₂ rfl ?_)
  refine QTz (wpAny_updateSeq_pair hTO₂ fun h₃ hTO₃ ψ=>?_)
  replace hTO₃:IsPair h₃ TO x b:=hTO₃
  refine QTz (wpAny_letGo (QKq ?_))
  refine QTz (QTz (wpAny_onRaise ?_))
  refine QTz (gj (h2.at fun o e=>ψ.extBut _ _ D.TOi2.symm (μ.extBut _ _ D.i12.symm (ι.extBut _ _ D.i2z e)))
   (hl2.at fun o e=>ψ.extBut _ _ D.l2TO (μ.extBut _ _ D.l2i1 (ι.extBut _ _ D.l2z e))) hy fun h₄ h2₄ χ=>QKq ?_)
  have hTO₄:=χ.extBut _ _ D.TOi2 hTO₃
  refine QTz (wpAny_seqItems hTO₄ rfl ?_)
  refine QTz (wpAny_updateSeq_pair hTO₄ fun h₅ hTO₅ Ω=>?_)
  replace hTO₅:IsPair h₅ TO x y:=hTO₅
  refine QTz (wpAny_letGo (QKq (QKq ?_)))
  refine QTz (wpAny_seqItems hTO₅ rfl ?_)
  refine QTz (wpAny_newTuple ?_)
  have hsz:h₅.objs.size=s.heap.objs.size:=by rw[Ω.1,χ.1,ψ.1,μ.1,ι.1]
  have hz₅:=Ω.extBut _ _ D.TOz.symm (χ.extBut _ _ D.i2z.symm (ψ.extBut _ _ D.TOz.symm (μ.extBut _ _ D.i1z.symm Ξ)))
  have hk₅:∀c o,c≠z->c≠TO->c≠i1->c≠i2->s.heap.get? c=some o->h₅.get? c=some o:=fun c o c1 c2 c3 c4 e=>
   Ω.extBut _ _ c2 (χ.extBut _ _ c4 (ψ.extBut _ _ c2 (μ.extBut _ _ c3 (ι.extBut _ _ c1 e))))
  have hzlt:=Qqq hz₅
  refine QTz ?_
  refine QTz (wpAny_setField_rec (QWq _ hz₅) (by simp) fun h₇ hz₇ hs₇=>?_)
  replace hz₇:jT h₇ z TI TO (rawInt h₅.objs.size) f1:=hz₇
  refine wpAny_setField_rec hz₇ (by simp) fun h₈ hz₈ hs₈=>?_
  replace hz₈:jT h₈ z TI TO (rawInt h₅.objs.size) (.bool false):=hz₈
  have up:∀c o,c≠z->h₅.get? c=some o->h₈.get? c=some o:=fun c o c1 e=>hs₈.extBut _ _ c1 (hs₇.extBut _ _ c1 (QWq _ e))
  have hT₈:=hs₈.extBut _ _ (Nat.ne_of_gt hzlt) (hs₇.extBut _ _ (Nat.ne_of_gt hzlt) (Qqz _ rfl))
  have hz8:h₈.objs.size=h₅.objs.size+1:=by rw[hs₈.1,hs₇.1,Heap.size_push]
  rw[hsz]at hz₈ hT₈ hz8
  refine QKq ⟨_,rfl,?_⟩
  rw[hsz]
  exact hQ h₈ ⟨⟨_,_,hz₈,.inr ⟨_,rfl⟩⟩,up _ _ D.TIz (hk₅ _ _ D.TIz D.TITO D.TIi1 D.TIi2 hTI),⟨_,_,up _ _ D.TOz hTO₅⟩,(h1₂.at fun o e=>Ω.extBut _ _ D.TOi1.symm (χ.extBut _ _ D.i12 (ψ.extBut _ _ D.TOi1.symm e))).at fun o e=>up _ o D.i1z e,(h2₄.at fun o e=>Ω.extBut _ _ D.TOi2.symm e).at fun o e=>up _ o D.i2z e,hT₈,hz8,fun c o c1 c2 c3 c4 e=>up c o c1 (hk₅ c o c1 c2 c3 c4 e)⟩
 ·--it was kept:a new one
  intro Θ g1 Ξ ι
  refine QTz ?_
  refine QTz (QTz (QGz ?_))
  refine QTz (gj (h1.at fun o e=>ι.extBut _ _ D.i1z e) (hl1.at fun o e=>ι.extBut _ _ D.l1z e) hx fun Ψ h1₂ μ=>QKq ?_)
  refine QKq ?_
  refine QTz (QTz (QGz ?_))
  refine QTz (gj (h2.at fun o e=>μ.extBut _ _ D.i12.symm (ι.extBut _ _ D.i2z e))
   (hl2.at fun o e=>μ.extBut _ _ D.l2i1 (ι.extBut _ _ D.l2z e)) hy fun h₄ h2₄ χ=>QKq ?_)
  refine QKq (QKq ?_)
  have hsz:h₄.objs.size=s.heap.objs.size:=by rw[χ.1,μ.1,ι.1]
  have hk:∀c o,c≠z->c≠i1->c≠i2->s.heap.get? c=some o->h₄.get? c=some o:=fun c o c1 c3 c4 e=>χ.extBut _ _ c4 (μ.extBut _ _ c3 (ι.extBut _ _ c1 e))
  refine QTz (wpAny_newTuple (QKq ⟨_,rfl,?_⟩) (by show 2<=sizeLine;rw[sizeLine_eq];decide))
  have T:O3 z TI TO i1 i2 b1 b2 l1 l2 (k1+1) (k2+1) s.heap.objs.size x y s.heap (h₄.push {cls:=.type "tuple",data:=.seq #[x,y]}):=by
   refine⟨⟨f0,g1,QWq _ (χ.extBut _ _ D.i2z.symm (μ.extBut _ _ D.i1z.symm Ξ)),h0⟩,QWq _ (hk _ _ D.TIz D.TIi1 D.TIi2 hTI),⟨a,b,QWq _ (hk _ _ D.TOz D.TOi1 D.TOi2 hTO)⟩,
    h1₂.at fun o e=>QWq _ (χ.extBut _ _ D.i12 e),h2₄.at fun o e=>QWq _ e,?_,by rw[Heap.size_push,hsz],fun c o c1 c2 c3 c4 e=>QWq _ (hk c o c1 c3 c4 e)⟩
   rw[<-hsz]
   exact Qqz _ rfl
  rw[hsz]
  exact hQ _ T
theorem Jw{z TI TO i1 i2 l1 l2:Addr}{k1 k2:Nat}{a b f0 f1:Value}(hh:A.handled=none)(D:ZipApart z TI TO i1 i2 l1 l2)
  (hz:jT s.heap z TI TO f0 f1)(h0:F0 f0)(hTI:IsPair s.heap TI (.ref i1) (.ref i2))(hTO:IsPair s.heap TO a b)
  (h1:uG b1 s.heap i1 l1 k1)(h2:uG b2 s.heap i2 l2 k2)(hl1:yH b1 s.heap l1 xs)(hl2:yH b2 s.heap l2 ys)(hend:xs[k1]? =none\/ys[k2]? =none)
  (hE:∀h' e,(∀c o,c≠z->c≠TO->c≠i1->c≠i2->s.heap.get? c=some o->h'.get? c=some o)->(∃o,h'.get? e=some o/\o.cls=.type "StopIteration")->E (.ref e) {s with heap:=h'}):
  wpAny (model prog w) A (Builtin.«zip.__next__» ⟨[.ref z],[]⟩) Q E s:=by
 show wpAny _ _ (field _ 2>>=_) _ _ _
 refine QTz (QGq hz rfl rfl ?_)
 refine QTz (QGq hz rfl rfl ?_)
 refine QTz (wpAny_seqItems hTI rfl ?_)
 refine QTz (yK hz h0 ?_ ?_)
 ·simp only[if_true]
  refine QTz (wpAny_rule ?_)
  refine QTz (QGq hz rfl rfl ?_)
  refine QTz (wpAny_setField_rec hz (by simp) fun Θ Ξ ι=>?_)
  replace Ξ:jT Θ z TI TO .ellipsis f1:=Ξ
  refine QTz ?_
  refine QTz (QTz (wpAny_onRaise ?_))
  cases hx:xs[k1]? with
  |none=>
   refine QTz (lV hh (h1.at fun o e=>ι.extBut _ _ D.i1z e) (hl1.at fun o e=>ι.extBut _ _ D.l1z e) hx fun Ψ e μ he=>?_)
   obtain⟨oe,hoe,hce⟩:=he
   have hz₂:jT Ψ z TI TO .ellipsis f1:=μ _ _ D.i1z.symm Ξ
   refine wpAny_setField_rec hz₂ (by simp) fun h₃ _ ψ=>hE h₃ e (fun c o c1 _ c3 _ x=>ψ.extBut _ _ c1 (μ _ _ c3 (ι.extBut _ _ c1 x))) ⟨oe,ψ.extBut _ _ (fun x=>by subst x;unfold jT at hz₂;rw[hz₂]at hoe;cases hoe;simp at hce) hoe,hce⟩
  |some x=>
   have hy:ys[k2]? =none:=by
    rcases hend with h|h
    ·rw[hx]at h;cases h
    ·exact h
   refine QTz (gj (h1.at fun o e=>ι.extBut _ _ D.i1z e) (hl1.at fun o e=>ι.extBut _ _ D.l1z e) hx fun Ψ h1₂ μ=>QKq ?_)
   have hTO₂:=μ.extBut _ _ D.TOi1 (ι.extBut _ _ D.TOz hTO)
   refine QTz (wpAny_seqItems hTO₂ rfl ?_)
   refine QTz (wpAny_updateSeq_pair hTO₂ fun h₃ hTO₃ ψ=>?_)
   refine QTz (wpAny_letGo (QKq ?_))
   refine QTz (QTz (wpAny_onRaise ?_))
   refine QTz (lV hh (h2.at fun o e=>ψ.extBut _ _ D.TOi2.symm (μ.extBut _ _ D.i12.symm (ι.extBut _ _ D.i2z e)))
    (hl2.at fun o e=>ψ.extBut _ _ D.l2TO (μ.extBut _ _ D.l2i1 (ι.extBut _ _ D.l2z e))) hy fun h₄ e χ he=>?_)
   obtain⟨oe,hoe,hce⟩:=he
   have hz₄:jT h₄ z TI TO .ellipsis f1:=χ _ _ D.i2z.symm (ψ.extBut _ _ D.TOz.symm (μ.extBut _ _ D.i1z.symm Ξ))
   refine wpAny_setField_rec hz₄ (by simp) fun h₅ _ Ω=>hE h₅ e (fun c o c1 c2 c3 c4 x=>Ω.extBut _ _ c1 (χ _ _ c4 (ψ.extBut _ _ c2 (μ.extBut _ _ c3 (ι.extBut _ _ c1 x))))) ⟨oe,Ω.extBut _ _ (fun x=>by subst x;unfold jT at hz₄;rw[hz₄]at hoe;cases hoe;simp at hce) hoe,hce⟩
 ·intro Θ g1 Ξ ι
  refine QTz ?_
  refine QTz (QTz (QGz ?_))
  cases hx:xs[k1]? with
  |none=>
   exact QTz (lV hh (h1.at fun o e=>ι.extBut _ _ D.i1z e) (hl1.at fun o e=>ι.extBut _ _ D.l1z e) hx fun Ψ e μ he=>hE Ψ e (fun c o c1 _ c3 _ x=>μ _ _ c3 (ι.extBut _ _ c1 x)) he)
  |some x=>
   have hy:ys[k2]? =none:=by
    rcases hend with h|h
    ·rw[hx]at h;cases h
    ·exact h
   refine QTz (gj (h1.at fun o e=>ι.extBut _ _ D.i1z e) (hl1.at fun o e=>ι.extBut _ _ D.l1z e) hx fun Ψ h1₂ μ=>QKq ?_)
   refine QKq ?_
   refine QTz (QTz (QGz ?_))
   exact QTz (lV hh (h2.at fun o e=>μ.extBut _ _ D.i12.symm (ι.extBut _ _ D.i2z e))
    (hl2.at fun o e=>μ.extBut _ _ D.l2i1 (ι.extBut _ _ D.l2z e)) hy fun h₄ e χ he=>hE h₄ e (fun c o c1 _ c3 c4 x=>χ _ _ c4 (μ.extBut _ _ c3 (ι.extBut _ _ c1 x))) he)
def qI{z TI TO i1 i2 l1 l2:Addr}{k1 k2:Nat}{x y a b f0 f1:Value}(D:ZipApart z TI TO i1 i2 l1 l2)
  (hz:jT s.heap z TI TO f0 f1)(h0:F0 f0)(hTI:IsPair s.heap TI (.ref i1) (.ref i2))(hTO:IsPair s.heap TO a b)
  (h1:uG b1 s.heap i1 l1 k1)(h2:uG b2 s.heap i2 l2 k2)(hl1:yH b1 s.heap l1 xs)(hl2:yH b2 s.heap l2 ys)(hx:xs[k1]? =some x)(hy:ys[k2]? =some y)
  (hQ:∀h',O3 z TI TO i1 i2 b1 b2 l1 l2 (k1+1) (k2+1) s.heap.objs.size x y s.heap h'->Q (some (.ref s.heap.objs.size)) {s with heap:=h'}):
  wpAny (model prog w) A (pyNext (.ref z)) Q E s:=by
 have hT:s.TypeIs (.ref z) "zip":=⟨_,hz,rfl⟩
 exact QTz (wpAny_attempt (wpAny_callSpecial?_slot hT PySem.F.slot_zip_next
  (Qzq PySem.F.slot_zip_next hT PySem.F.entry_zip_next
   (GZ D hz h0 hTI hTO h1 h2 hl1 hl2 hx hy fun h' T=>QKq (hQ h' T)) (PySem.F.args_zip_next_1 _))))
def sS{z TI TO i1 i2 l1 l2:Addr}{k1 k2:Nat}{a b f0 f1:Value}(hh:A.handled=none)(D:ZipApart z TI TO i1 i2 l1 l2)
  (hz:jT s.heap z TI TO f0 f1)(h0:F0 f0)(hTI:IsPair s.heap TI (.ref i1) (.ref i2))(hTO:IsPair s.heap TO a b)
  (h1:uG b1 s.heap i1 l1 k1)(h2:uG b2 s.heap i2 l2 k2)(hl1:yH b1 s.heap l1 xs)(hl2:yH b2 s.heap l2 ys)(hend:xs[k1]? =none\/ys[k2]? =none)
  (hQ:∀h',(∀c o,c≠z->c≠TO->c≠i1->c≠i2->s.heap.get? c=some o->h'.get? c=some o)->Q none {s with heap:=h'}):wpAny (model prog w) A (pyNext (.ref z)) Q E s:=by
 have hT:s.TypeIs (.ref z) "zip":=⟨_,hz,rfl⟩
 refine QTz (wpAny_attempt (wpAny_callSpecial?_slot hT PySem.F.slot_zip_next
  (Qzq PySem.F.slot_zip_next hT PySem.F.entry_zip_next (Jw hh D hz h0 hTI hTO h1 h2 hl1 hl2 hend fun h' e hk he=>?_) (PySem.F.args_zip_next_1 _))))
 obtain⟨o,ho,hc⟩:=he
 exact QTz (wpAny_isInstance ⟨o,ho,hc⟩ isSubtype_stop (QKq (hQ _ hk)))
end
section
theorem Ig{z TI TO T:Addr}{f0 f1:Value}(hz:jT s.heap z TI TO f0 f1)(h0:F0 f0)
  (hQ:∀h' g0,jT h' z TI TO g0 f1->F0 g0->Heap.SameBut z s.heap h'->Q () {s with heap:=h'}):wpAny (model prog w) A (letOwnedTupleGo tg (.ref z) (.ref T)) Q E s:=by
 have same:=hQ s.heap f0 hz h0 (Heap.SameBut.refl ..)
 have go:wpAny (model prog w) A (do
   let o<-load z
   match o.cls,o.data with
   |.type n,.fields vs=>
    if ["enumerate","zip","dict_itemiterator","dict_reverseitemiterator","odict_iterator","itertools.zip_longest","itertools.pairwise"].contains n&&vs[0]? ==some (rawInt T)then
     rule "for.unpacks-the-owned-tuple"
     updateField z 0 .none
   |_,_=>pure ()) Q E s:=by
  refine QTz (wpAny_load hz ?_)
  show wpAny _ _ (if (["enumerate","zip","dict_itemiterator","dict_reverseitemiterator","odict_iterator","itertools.zip_longest","itertools.pairwise"].contains "zip"&&
   (#[f0,f1,.bool false,.ref TI,.ref TO])[0]? ==some _)=true then _ else _) Q E s
  split
  ·exact QTz (wpAny_rule (wpAny_setField_rec hz (by simp) fun h' hz' hs'=>hQ h' .none hz' (.inl rfl) hs'))
  ·exact QKq same
 cases tg<;>first
  |exact QKq same
  |exact go
def jy{z TI TO:Addr}{f0 f1:Value}(hz:jT s.heap z TI TO f0 f1)(h:Q (.ref z) s):wpAny (model prog w) A (pyIter (.ref z)) Q E s:=by
 have hT:s.TypeIs (.ref z) "zip":=⟨_,hz,rfl⟩
 exact wpAny_pyIter_slot hT PySem.F.slot_zip_iter (Qzq PySem.F.slot_zip_iter hT PySem.F.entry_zip_iter (QKq ⟨_,rfl,"zip",_,hT,PySem.F.slot_zip_next.lookup,h⟩) (PySem.F.args_zip_iter_1 _))
end
def itN(b:Bool):String:=if b then "list_iterator" else "tuple_iterator"
abbrev zH1(b1:Bool)(h:Heap)(l1:Addr):Heap:=h.push {cls:=.type (itN b1),data:=.fields #[.ref l1,.int 0 0]}
abbrev zH2(b1 b2:Bool)(h:Heap)(l1 l2:Addr):Heap:=(zH1 b1 h l1).push {cls:=.type (itN b2),data:=.fields #[.ref l2,.int 0 0]}
abbrev zH3(b1 b2:Bool)(h:Heap)(l1 l2:Addr):Heap:=(zH2 b1 b2 h l1 l2).push {cls:=.type "tuple",data:=.seq #[.ref h.objs.size,.ref (zH1 b1 h l1).objs.size]}
abbrev zH4(b1 b2:Bool)(h:Heap)(l1 l2:Addr):Heap:=(zH3 b1 b2 h l1 l2).push {cls:=.type "tuple",data:=.seq #[.none,.none]}
abbrev YQ(b1 b2:Bool)(h:Heap)(l1 l2:Addr):Heap:=(zH4 b1 b2 h l1 l2).push {cls:=.type "zip",data:=.fields #[.none,.bool false,.bool false,.ref (zH2 b1 b2 h l1 l2).objs.size,.ref (zH3 b1 b2 h l1 l2).objs.size]}
def Jv b1 b2 l1 l2 xs ys:
  Meets (Builtin.«zip.__new__» ⟨[.type "zip",.ref l1,.ref l2],[]⟩) (fun _ R s=>yH b1 s.heap l1 xs/\yH b2 s.heap l2 ys/\
   R (.ok (.ret (.ref (zH4 b1 b2 s.heap l1 l2).objs.size))) {s with heap:=YQ b1 b2 s.heap l1 l2}):=
 .of_wp fun prog w A R s h=>by
  obtain⟨hp,g,d,tk,os⟩:=s;obtain⟨hl1,hl2,h⟩:=h
  have hsub:=sub_zip
  cases b1<;>cases b2
  ·have hL1:Heap.IsTuple (Shared.heap ⟨hp,g,d,tk,os⟩) l1 xs:=hl1
   have hL2:Heap.IsTuple (Shared.heap ⟨hp.push {cls:=.type "tuple_iterator",data:=.fields #[.ref l1,.int 0 0]},g,d,tk,os⟩) l2 ys:=hl2.at (b:=false) fun o e=>QWq _ e
   wp_walk using wpAny_pyIter_tuple hL1,wpAny_pyIter_tuple hL2
   exact⟨_,rfl,h⟩
  ·have hL1:Heap.IsTuple (Shared.heap ⟨hp,g,d,tk,os⟩) l1 xs:=hl1
   have hL2:Heap.IsList (Shared.heap ⟨hp.push {cls:=.type "tuple_iterator",data:=.fields #[.ref l1,.int 0 0]},g,d,tk,os⟩) l2 ys:=hl2.at (b:=true) fun o e=>QWq _ e
   wp_walk using wpAny_pyIter_tuple hL1,wpAny_pyIter_list hL2
   exact⟨_,rfl,h⟩
  ·have hL1:Heap.IsList (Shared.heap ⟨hp,g,d,tk,os⟩) l1 xs:=hl1
   have hL2:Heap.IsTuple (Shared.heap ⟨hp.push {cls:=.type "list_iterator",data:=.fields #[.ref l1,.int 0 0]},g,d,tk,os⟩) l2 ys:=hl2.at (b:=false) fun o e=>QWq _ e
   wp_walk using wpAny_pyIter_list hL1,wpAny_pyIter_tuple hL2
   exact⟨_,rfl,h⟩
  ·have hL1:Heap.IsList (Shared.heap ⟨hp,g,d,tk,os⟩) l1 xs:=hl1
   have hL2:Heap.IsList (Shared.heap ⟨hp.push {cls:=.type "list_iterator",data:=.fields #[.ref l1,.int 0 0]},g,d,tk,os⟩) l2 ys:=hl2.at (b:=true) fun o e=>QWq _ e
   wp_walk using wpAny_pyIter_list hL1,wpAny_pyIter_list hL2
   exact⟨_,rfl,h⟩
end Mini
end
section
namespace Mini
open PySem
def tR{w:World}{E:QZq}{a:Addr}{k:Nat}
  (hx:s.heap.get? a=some {cls:=.type "list",dict:=none,data:=.seq xs k,slots:=sl})(hA:A.handled=none)
  (h:∀h' tk,(∀b o,s.heap.get? b=some o->h'.get? b=some o)->Q none {s with heap:=h',toks:=tk}):
  wpAny (model prog w) A (getAttr? (.ref a) "keys") Q E s:=by
 obtain⟨hp,g,d,tk,os⟩:=s
 have hT:∀tk',(⟨hp,g,d,tk',os⟩:Shared).TypeIs (.ref a) "list":=fun _=>⟨_,hx,rfl⟩
 have f1:=sub_AttributeError
 have f3:=F.slot_list_getattribute.lookup
 have f4:=F.slot_list_getattribute.bind (.ref a)
 have f5:=am_list_getattr_none
 repeat (any_goals (first|assumption|exact hT _|((with_reducible show wpAny _ _ (call (Value.builtin "list.__getattribute__") _ _) _ _ _);refine call_meets F.slot_list_getattribute (hT _) am_entry_list_getattribute (F.args_list_getattribute_2 _ _) (meets_getattribute_miss_list a xs k sl "keys" _ (am_miss_of_fast (by kernel_rfl)) (by decide+kernel) (by size_fits)) ⟨hx,hA,fun h' tk' e hx'=>?_⟩)|wp_step))
 obtain⟨t',u',he⟩:=hx'.there
 unfold getattributeRaised
 repeat (any_goals (first|assumption|wp_step))
 all_goals exact h _ _ hx'.keeps
def qK{w:World}{E:QZq}{a:Addr}{k:Nat}
  (hx:s.heap.get? a=some {cls:=.type "tuple",dict:=none,data:=.seq xs k,slots:=sl})(hA:A.handled=none)
  (h:∀h' tk,(∀b o,s.heap.get? b=some o->h'.get? b=some o)->Q none {s with heap:=h',toks:=tk}):
  wpAny (model prog w) A (getAttr? (.ref a) "keys") Q E s:=by
 obtain⟨hp,g,d,tk,os⟩:=s
 have hT:∀tk',(⟨hp,g,d,tk',os⟩:Shared).TypeIs (.ref a) "tuple":=fun _=>⟨_,hx,rfl⟩
 have f1:=sub_AttributeError
 have f3:=F.slot_tuple_getattribute.lookup
 have f4:=F.slot_tuple_getattribute.bind (.ref a)
 have f5:=am_tuple_getattr_none
 repeat (any_goals (first|assumption|exact hT _|((with_reducible show wpAny _ _ (call (Value.builtin "tuple.__getattribute__") _ _) _ _ _);refine call_meets F.slot_tuple_getattribute (hT _) am_entry_tuple_getattribute (F.args_tuple_getattribute_2 _ _) (meets_getattribute_miss_tuple a xs k sl "keys" _ (am_miss_of_fast (by kernel_rfl)) (by decide+kernel) (by size_fits)) ⟨hx,hA,fun h' tk' e hx'=>?_⟩)|wp_step))
 obtain⟨t',u',he⟩:=hx'.there
 unfold getattributeRaised
 repeat (any_goals (first|assumption|wp_step))
 all_goals exact h _ _ hx'.keeps
def mK:typeLookup (.type "zip") "__getattr__"=pure none:=by rw[typeLookup_type,builtinLookup_eq_fast];kernel_rfl
def cV:Slot "zip" "__getattribute__" "zip.__getattribute__":=
 .of (owner:="zip") (n:="__getattribute__") (by rw[typeLookup_type,builtinLookup_eq_fast];kernel_rfl) (by decide+kernel) (by decide+kernel) (by decide+kernel)
  (by first|exact .inl (by decide+kernel)|exact .inr (by decide+kernel)) (by rw[isSubtype_type];kernel_rfl)
def iD:entryFor table "zip.__getattribute__"=some Builtin.«object.__getattribute__»:=
 entryFor_alias (id':="object.__getattribute__") (by kernel_rfl) (by decide+kernel) (by decide+kernel) (by kernel_rfl)
def iY a b:argsOk "zip.__getattribute__" ⟨[a,b],[]⟩:=by
 unfold argsOk;kernel_rfl
def gR(a:Addr)(xs:Array Value)(sl:Array (Option Value))(name:Str)(u:Tok)(hmiss:typeLookup (.type "zip") name=pure none)(hname:(["__module__","__name__","__qualname__","__doc__","__annotations__"]:List Str).contains name=false)(hsz:name.length+100<=sizeLine:=by size_fits):
  Meets (Builtin.«object.__getattribute__» ⟨[.ref a,.str name u],[]⟩) (fun A R s=>s.heap.get? a=some {cls:=.type "zip",dict:=none,data:=.fields xs,slots:=sl}/\raisesAttr (.ref a) name A R s):=
 Meets.of_wp fun prog w A R s hs=>by
  obtain⟨hp,g,d,tk,os⟩:=s
  obtain⟨hx,hs⟩:=hs
  repeat (any_goals (first|assumption|wp_step))
  simp only[hname,Qyz,if_false]
  repeat (any_goals (first|assumption|wp_step))
  exact wpAny_raiseAttrError hs.1 hs.2 (attrMsg_fits (by decide+kernel) hsz)
def uU{w:World}{E:QZq}{a:Addr}{sl:Array (Option Value)}
  (hx:s.heap.get? a=some {cls:=.type "zip",dict:=none,data:=.fields xs,slots:=sl})(hA:A.handled=none)
  (h:∀h' tk,(∀b o,s.heap.get? b=some o->h'.get? b=some o)->Q none {s with heap:=h',toks:=tk}):
  wpAny (model prog w) A (getAttr? (.ref a) "keys") Q E s:=by
 obtain⟨hp,g,d,tk,os⟩:=s
 have hT:∀tk',(⟨hp,g,d,tk',os⟩:Shared).TypeIs (.ref a) "zip":=fun _=>⟨_,hx,rfl⟩
 have f1:=sub_AttributeError
 have f3:=cV.lookup
 have f4:=cV.bind (.ref a)
 have f5:=mK
 repeat (any_goals (first|assumption|exact hT _|((with_reducible show wpAny _ _ (call (Value.builtin "zip.__getattribute__") _ _) _ _ _);refine call_meets cV (hT _) iD (iY _ _) (gR a xs sl "keys" _ (am_miss_of_fast (by kernel_rfl)) (by decide+kernel) (by size_fits)) ⟨hx,hA,fun h' tk' e hx'=>?_⟩)|wp_step))
 obtain⟨t',u',he⟩:=hx'.there
 unfold getattributeRaised
 repeat (any_goals (first|assumption|wp_step))
 all_goals exact h _ _ hx'.keeps
inductive D where
 |non|bl (b:Bool)|int (i:Int)|str (x:Str)
 |tup (xs:List D)|lst (xs:List D)|cP (ks:List D) (vs:List D)
 deriving Inhabited
inductive Ob where
 |lst (xs:List D)|dct (ks vs:List D)
 deriving Inhabited
def Ob.d:Ob->D
 |.lst xs=>.lst xs
 |.dct ks vs=>.cP ks vs
inductive Sl where
 |un|val (d:D)|own (o:Ob)|bor (o:Ob)
 deriving Inhabited
abbrev Ev:=List Sl
inductive Rv where
 |val (d:D)|new (o:Ob)|ref (i:Nat)|tmp (o:Ob)
noncomputable def Rv.lw:Rv->Option D
 |.val d=>some d
 |.new o=>some o.d
 |_=>none
noncomputable def Rv.Bq:Rv->Option Sl
 |.val d=>some (.val d)
 |.new o=>some (.own o)
 |_=>none
def aX:List Rv->Option (List D)
 |[]=>some []
 |r::rs=>r.lw.bind fun d=>(aX rs).map (d:: ·)
inductive Out(α:Type)where
 |ok (a:α) (σ:Ev)|exc (c:Nat) (σ:Ev)|bad
noncomputable def Out.bind{α β:Type}:Out α->(α->Ev->Out β)->Out β
 |.ok a σ,f=>f a σ
 |.exc c σ,_=>.exc c σ
 |.bad,_=>.bad
noncomputable def Out.ak{β:Type}:Out Rv->(D->Ev->Out β)->Out β
 |.ok (.val d) σ,f=>f d σ
 |.ok (.new o) σ,f=>f o.d σ
 |.ok _ _,_=>.bad
 |.exc c σ,_=>.exc c σ
 |.bad,_=>.bad
noncomputable def Out.cT{β:Type}(tr:D->Option Bool)(r:Out Rv)(f:Bool->Ev->Out β):Out β:=
 r.ak fun d σ=>match tr d with|some b=>f b σ|none=>.bad
noncomputable def Out.map{α β:Type}(g:α->β):Out α->Out β
 |.ok a σ=>.ok (g a) σ
 |.exc c σ=>.exc c σ
 |.bad=>.bad
def lift{α:Type}(σ:Ev):Option α->Out α
 |some a=>.ok a σ
 |none=>.bad
inductive YK where
 |add|sub|mul|mod|fdiv|pow
 deriving DecidableEq
inductive Cm where
 |eq|ne|lt|le|gt|ge|isin|notin|jG|notN
 deriving DecidableEq
inductive Ty where
 |tup|lst|str|bool|int|cP
 deriving DecidableEq
inductive Bi where
 |all|any|tuple|list|sorted|int|dict|len|copy
 deriving DecidableEq
inductive Tg where
 |name (i:Nat)|tup (is:List Nat)
inductive E where
 |var (i:Nat)|con (d:D)|glob (k:Nat)
 |nil|cons (h t:E)
 |tup (es:E)|lis (es:E)
 |op (o:YK) (a b:E)|neg (a:E)|cmp (o:Cm) (a b:E)|chain (π ρ:Cm) (a b c:E)
 |and (es:E)|or (es:E)|not (a:E)|ite (c a b:E)
 |idx (a i:E)|slc (a lo hi:E)|noneE
 |call (f:Nat) (args:E)|ref (i:Nat)|tmp (e:E)|rd (e:E)
 |isi (a:E) (t:Ty)|bi (b:Bi) (a:E)
 |range1 (a:E)|range2 (a b:E)|zip (a b:E)
 |count (a b:E)|popAt (i:Nat) (a:E)|index (a b:E)
 |get2 (d k x:E)|dsp (es:E)|emp
 |comp (nl:Nat) (tg:Tg) (it:E) (cond:E) (elt:E)
inductive S where
 |nil|cons (h t:S)
 |set (i:Nat) (e:E)|setT (is:List Nat) (e:E)|setIx (i:Nat) (ix e:E)
 |expr (e:E)|append (i:Nat) (e:E)|extend (i:Nat) (e:E)|update (i:Nat) (e:E)
 |ret (e:E)|ite (c:E) (a b:S)|callx (f:Nat) (args:E)
 |for_ (tg:Tg) (it:E) (b:S)|while_ (c:E) (b:S)
 |raise (c:Nat)|try_ (b:S) (c:Nat) (i:Nat) (h:S)|pass|brk|cont
abbrev AAG:E:=.con (.int 1)
abbrev AAH:E:=.con (.bl true)
abbrev AAL:E:=.con (.int 0)
abbrev AAP:E:=.con (.int 2)
abbrev AAQ:S:=.cons (.ret (.con (.bl false))) .nil
abbrev AAR:E:=.call 20 (.cons (.var 1) (.cons (.var 2) (.cons (.var 8) .nil)))
abbrev AAS:E:=.cons (.var 0) (.cons (.idx (.lis (.cons (.get2 (.var 10) (.var 0) (.var 12)) (.cons (.var 12) .nil))) (.bi .int (.cmp .eq (.var 0) (.var 13)))) .nil)
abbrev AAT:E:=.cons (.con (.str "same")) (.cons (.con (.str "not")) .nil)
abbrev AAV:E:=.cmp .ne (.call 15 (.cons (.var 1) (.cons (.idx (.var 4) (.var 0)) (.cons (.var 4) .nil)))) (.idx (.var 4) (.var 0))
abbrev AAX:E:=.cons (.var 1) .nil
abbrev AAZ:E:=.cons (.var 0) .nil
abbrev AAa:E:=.cons (.con (.int 3)) .nil
abbrev AAb:E:=.call 30 (.cons (.var 0) (.cons (.ref 1) (.cons AAP .nil)))
abbrev AAc:E:=.idx (.var 0) AAG
abbrev AAd:E:=.idx (.var 0) AAL
abbrev AAe:S:=.cons (.append 3 (.tup (.cons (.idx (.var 2) (.var 4)) (.cons (.tup (.cons (.con (.str "held")) (.cons (.tup (.cons (.con (.str "same")) (.cons (.idx (.var 2) (.op .sub (.var 4) AAG)) .nil))) (.cons (.idx (.var 2) (.op .mod (.op .add (.var 4) AAG) (.bi .len (.var 2)))) (.cons (.con (.bl false)) .nil))))) .nil)))) .nil
abbrev AAf:E:=.cmp .eq (.call 30 (.cons (.var 1) (.cons (.ref 2) (.cons AAP .nil)))) AAG
abbrev AAg:S:=.cons (.append 5 (.tup (.cons (.var 6) (.cons (.tup (.cons (.idx (.lis AAT) (.var 7)) (.cons (.var 3) .nil))) .nil)))) (.cons (.append 4 (.cmp .eq (.idx (.var 4) (.neg AAG)) (.cmp .eq (.var 7) AAL))) (.cons (.set 3 (.var 6)) .nil))
abbrev AAh:E:=.idx (.var 2) AAG
abbrev AAi:E:=.cons (.cmp .notin (.var 12) (.var 9)) (.cons (.cmp .lt (.var 11) (.var 10)) (.cons (.cmp .ne (.var 11) (.op .add (.idx (.var 9) (.var 12)) (.idx (.var 5) (.index (.var 4) (.var 12))))) .nil))
abbrev AAj:E:=.cons (.var 2) .nil
abbrev AAk:E:=.call 3 (.cons (.var 0) (.cons AAP (.cons AAP .nil)))
abbrev AAl:E:=.call 29 (.cons (.var 1) (.cons (.op .add AAG (.var 0)) (.cons (.var 4) .nil)))
abbrev AAm:E:=.op .add (.idx (.var 10) (.var 0)) (.idx (.var 6) (.index (.var 5) (.var 0)))
abbrev AAn:E:=.and (.cons (.cmp .gt (.bi .len (.var 5)) (.var 3)) (.cons (.or (.cons (.cmp .gt (.bi .len (.var 5)) (.var 4)) (.cons (.cmp .eq AAb AAG) .nil))) .nil))
abbrev AAo:E:=.cons (.con (.str "p")) (.cons (.con (.str "q")) (.cons (.con (.str "rr")) (.cons (.con (.str "go")) (.cons (.con (.str "abcdef")) .nil))))
abbrev AAp:S:=.cons (.ret (.and (.cons (.cmp .eq (.var 7) (.con (.str "on"))) (.cons (.cmp .eq (.bi .len (.var 6)) (.con (.int 40))) .nil)))) .nil
abbrev AAq:S:=.set 3 (.idx (.lis (.cons (.con (.int 4)) (.cons (.con (.int 99)) .nil))) (.call 29 (.cons (.var 0) (.cons AAL (.cons AAP .nil)))))
abbrev AAr:E:=.idx (.var 0) AAP
abbrev AAs:E:=.cons (.var 3) .nil
abbrev AAt:E:=.cons (.var 0) (.cons (.get2 (.var 2) (.var 0) (.var 3)) .nil)
abbrev AAu:S:=.cons (.ret (.or (.cons (.bi .all (.var 4)) (.cons (.and (.cons (.var 1) (.cons (.bi .any (.var 4)) .nil))) .nil)))) .nil
abbrev AAv:E:=.cmp .gt (.call 30 (.cons (.var 1) (.cons (.ref 2) AAa))) AAL
abbrev AAw:E:=.cons AAL .nil
abbrev AAx:E:=.comp 1 (.name 0) (.idx (.var 1) AAG) AAH (.call 19 (.cons (.var 0) (.cons (.var 4) (.cons (.bi .len AAh) .nil))))
abbrev AAy:E:=.con (.str "a")
abbrev AAz:S:=.cons (.expr (.popAt 5 (.call 30 (.cons (.var 0) (.cons (.ref 1) (.cons (.bi .len (.var 5)) .nil)))))) .nil
abbrev ABG:E:=.cons (.var 0) (.cons (.call 33 (.cons (.var 1) (.cons (.ref 2) (.cons (.var 7) (.cons AAG .nil))))) .nil)
abbrev ABH:S:=.setT [6,7] (.call 44 (.cons (.var 1) (.cons (.var 2) (.cons (.var 5) (.cons (.con (.int 40)) .nil)))))
abbrev ABI:E:=.cons (.con (.int 4)) .nil
abbrev ABJ:E:=.comp 1 (.name 0) (.var 0) AAH (.call 4 (.cons AAc (.cons AAL (.cons (.op .sub (.var 3) AAG) .nil))))
abbrev ABK:E:=.idx (.var 2) AAL
abbrev ABL:E:=.cons (.var 0) (.cons AAG (.cons (.glob 9) .nil))
abbrev ABM:E:=.comp 2 (.tup [0,1]) (.zip (.var 0) (.slc (.var 0) AAG .noneE)) AAH (.cmp .lt (.var 0) (.var 1))
abbrev ABN:E:=.cons (.var 0) (.cons (.call 30 (.cons (.var 1) (.cons (.ref 2) (.cons (.var 6) .nil)))) .nil)
abbrev ABO:S:=.set 8 (.call 42 (.cons (.var 1) (.cons (.var 2) (.cons (.var 8) (.cons (.var 12) .nil)))))
abbrev ABP:E:=.idx (.var 2) (.call 30 (.cons (.var 0) (.cons (.ref 1) (.cons (.bi .len (.var 2)) .nil))))
abbrev ABQ:E:=.cmp .ne (.idx (.idx (.var 3) AAL) (.var 0)) (.cmp .eq (.idx (.var 5) (.var 0)) (.var 4))
abbrev ABR:E:=.con (.str "both")
abbrev ABS:E:=.zip (.call 13 AAZ) (.var 1)
abbrev ABT:E:=.bi .len (.var 4)
abbrev ABU:E:=.comp 2 (.tup [0,1]) AAc AAH (.call 11 (.cons (.var 1) (.cons (.var 3) AAw)))
abbrev ABV:E:=.cmp .eq (.var 3) (.con (.str "table"))
abbrev ABW:S:=.cons (.ret (.op .add (.bi .list AAd) (.comp 1 (.name 0) AAc AAH AAd))) .nil
abbrev ABX:E:=.cmp .eq (.var 3) (.con (.str "held"))
abbrev ABY:E:=.cmp .eq (.call 30 (.cons (.var 0) (.cons (.ref 2) (.cons AAP .nil)))) AAG
abbrev ABZ:E:=.con (.int 3)
abbrev ABa:E:=.comp 1 (.name 0) (.var 0) AAH (.cmp .eq (.count (.var 1) (.var 0)) AAG)
abbrev ABb:E:=.cons (.var 0) (.cons (.ref 2) .nil)
abbrev ABc:E:=.con (.str "b")
abbrev ABd:S:=.setT [1,2] (.call 40 (.cons (.var 0) (.cons (.con (.int 9)) .nil)))
abbrev ABe:S:=.cons (.ret (.call 16 (.cons (.var 0) (.cons (.var 1) AAj)))) .nil
abbrev ABf:E:=.idx (.var 1) AAL
abbrev ABg:E:=.idx (.var 1) AAG
abbrev ABh:E:=.con (.str "and")
abbrev ABi:E:=.bi .len (.var 0)
abbrev ABj:S:=.cons (.ret (.tup (.cons (.var 5) (.cons (.var 7) .nil)))) .nil
abbrev ABk:E:=.op .add AAG (.call 30 (.cons (.var 0) (.cons (.ref 1) AAs)))
abbrev ABl:S:=.cons (.raise 0) .nil
abbrev ABm:E:=.con (.str "or")
abbrev ABn:E:=.comp 1 (.name 0) (.var 0) AAH (.call 8 (.cons (.var 0) AAj))
abbrev ABo:E:=.comp 1 (.name 0) (.var 0) AAH (.call 7 (.cons (.var 0) AAj))
abbrev ABp:E:=.cons (.bi .len (.var 1)) .nil
abbrev ABq:E:=.lis .nil
abbrev ABr:S:=.cons (.ret (.cmp .eq (.var 7) (.con (.str "end")))) .nil
abbrev ABs:E:=.con .non
abbrev ABt:E:=.con (.str "q")
abbrev ABu:E:=.con (.str "p")
abbrev ABv:E:=.call 17 (.cons (.var 0) AAX)
abbrev ABw:E:=.bi .tuple (.var 5)
abbrev ABx:E:=.not (.call 3 (.cons (.var 2) (.cons (.var 3) AAs)))
abbrev ABy:E:=.con (.str "same")
abbrev ABz:E:=.comp 1 (.name 0) (.var 0) AAH (.isi (.var 0) .bool)
abbrev ACG:E:=.cmp .eq (.var 0) (.var 4)
abbrev ACH:E:=.idx (.var 2) AAc
abbrev ACI:E:=.cmp .eq AAb AAG
abbrev ACJ:S:=.set 8 (.tup (.cons (.idx (.var 1) AAP) AAw))
abbrev ACL:E:=.comp 1 (.name 0) (.var 1) AAH (.call 5 AAZ)
abbrev ACM:S:=.cons (.ret (.cmp .isin (.var 4) AAr)) .nil
abbrev ACN:E:=.op .add ABK (.var 4)
abbrev ACO:E:=.cmp .eq (.var 7) (.con (.str "unasked"))
abbrev ACP:E:=.cmp .eq (.var 4) AAP
abbrev ACQ:E:=.cons AAG .nil
abbrev ACR:S:=.cons (.ret (.bi .any (.var 4))) .nil
abbrev ACS:S:=.cons (.ret (.bi .all (.var 4))) .nil
abbrev ACT:E:=.cmp .eq (.var 3) (.con (.str "not"))
abbrev ACU:S:=.set 6 (.op .add (.var 4) (.var 5))
abbrev ACV:E:=.cons (.op .add (.var 2) AAG) .nil
abbrev ACW:E:=.comp 1 (.name 0) (.var 0) AAH AAk
abbrev ACX:E:=.bi .len (.var 2)
abbrev ACY:E:=.range1 ABT
abbrev ACZ:E:=.con (.non)
def small(i:Int):Bool:=decide (-18446744073709551616<i/\i<18446744073709551616)
def uJ(i:Int):Bool:=decide (-4611686018427387904<=i/\i<4611686018427387904)
def fits(n:Nat):Bool:=decide (n<=16777216)
def b2i(b:Bool):Int:=if b then 1 else 0
noncomputable def ix?(n:Nat)(i:Int):Option Nat:=
 let j:=if i<0 then i+n else i
 if 0<=j/\j<n then some j.toNat else none
def at?(xs:List D)(i:Int):Option D:=(ix? xs.length i).bind fun k=>xs[k]?
noncomputable def clip(n:Nat)(i:Int):Nat:=
 let j:=if i<0 then i+n else i
 if j<0 then 0 else if j>n then n else j.toNat
noncomputable def cut(xs:List D)(lo hi:Option Int):List D:=
 let a:=match lo with|some i=>clip xs.length i|none=>0
 let b:=match hi with|some i=>clip xs.length i|none=>xs.length
 (xs.take b).drop a
mutual
def fZ:D->D->Bool
 |.non,.non=>true
 |.bl a,.bl b=>a==b
 |.bl a,.int j=>b2i a==j
 |.int i,.bl b=>i==b2i b
 |.int i,.int j=>i==j
 |.str x,.str y=>decide (x=y)
 |.tup xs,.tup ys=>Aa xs ys
 |.lst xs,.lst ys=>Aa xs ys
 |_,_=>false
def Aa:List D->List D->Bool
 |[],[]=>true
 |x::xs,y::ys=>fZ x y&&Aa xs ys
 |_,_=>false
end
mutual
def dep:D->Nat
 |.tup xs=>qO xs+1
 |.lst xs=>qO xs+1
 |_=>0
def qO:List D->Nat
 |[]=>0
 |x::xs=>max (dep x) (qO xs)
end
def sOk(x:Str):Bool:=x.cps.all fun c=>decide (c<128)
mutual
def nd:D->Bool
 |.str x=>sOk x
 |.tup xs=>o4 xs
 |.lst xs=>o4 xs
 |.cP _ _=>false
 |_=>true
def o4:List D->Bool
 |[]=>true
 |x::xs=>nd x&&o4 xs
end
noncomputable def flat:D->Bool
 |.non=>true
 |.bl _=>true
 |.int _=>true
 |.str _=>true
 |_=>false
def qN(a b:D):Bool:=(flat a&&flat b)||(nd a&&decide (dep a<=50)&&nd b)
def j4(a:D)(xs:List D):Bool:=(flat a&&xs.all flat)||(nd a&&decide (dep a<=50)&&o4 xs)
def cC(x:D):List D->Bool
 |[]=>false
 |y::ys=>fZ y x||cC x ys
def di(x:D):List D->Nat
 |[]=>0
 |y::ys=>if fZ y x then 0 else di x ys+1
def iy(x:D):List D->Nat
 |[]=>0
 |y::ys=>(if fZ y x then 1 else 0)+iy x ys
noncomputable def mF:List Bool->List Bool->Bool
 |[],[]=>false
 |[],_::_=>true
 |_::_,[]=>false
 |x::xs,y::ys=>if x=y then mF xs ys else(!x&&y)
noncomputable def bools:List D->Option (List Bool)
 |[]=>some []
 |.bl b::r=>(bools r).map (b:: ·)
 |_=>none
noncomputable def W9:D->D->Option Bool
 |.int i,.int j=>some (decide (i<j))
 |.tup xs,.tup ys=>(bools xs).bind fun a=>(bools ys).map fun b=>mF a b
 |_,_=>none
noncomputable def jq:D->Option Bool
 |.non=>some false
 |.bl b=>some b
 |.int i=>some (i !=0)
 |.tup xs=>some (!xs.isEmpty)
 |.lst xs=>some (!xs.isEmpty)
 |_=>none
noncomputable def qL:Ty->D->Bool
 |.tup,.tup _=>true
 |.lst,.lst _=>true
 |.str,.str _=>true
 |.bool,.bl _=>true
 |.int,.int _=>true
 |.int,.bl _=>true
 |.cP,.cP _ _=>true
 |_,_=>false
noncomputable def eN(k:D):List D->List D->Option D
 |k'::ks,v::vs=>if fZ k' k then some v else eN k ks vs
 |_,_=>none
noncomputable def keyOk:D->Bool
 |.str _=>true
 |.int _=>true
 |_=>false
def signs(x:Str):List D:=x.cps.toList.map fun c=>D.str ⟨#[c]⟩
noncomputable def items:D->Option (List D)
 |.tup xs=>some xs
 |.lst xs=>some xs
 |.str x=>if fits x.length then some (signs x)else none
 |.cP ks _=>some ks
 |_=>none
noncomputable def binop:YK->D->D->Option Rv
 |.add,.int i,.int j=>some (.val (.int (i+j)))
 |.sub,.int i,.int j=>some (.val (.int (i-j)))
 |.mul,.int i,.int j=>if small i||small j then some (.val (.int (i*j)))else none
 |.mod,.int i,.int j=>if 0<j then some (.val (.int (i%j)))else none
 |.fdiv,.int i,.int j=>if 0<j/\j<1073741824 then some (.val (.int (i/j)))else none
 |.pow,.int i,.int j=>if 0<=j/\j<=64/\small i=true then some (.val (.int (i ^j.toNat)))else none
 |.add,.tup xs,.tup ys=>if fits (xs.length+ys.length)then some (.val (.tup (xs++ys)))else none
 |.add,.lst xs,.lst ys=>if fits (xs.length+ys.length)then some (.new (.lst (xs++ys)))else none
 |_,_,_=>none
def fj:D->Bool
 |.non=>true
 |_=>false
noncomputable def aG:Cm->D->D->Option Bool
 |.eq,a,b=>if qN a b then some (fZ a b)else none
 |.ne,a,b=>if qN a b then some (!fZ a b)else none
 |.lt,a,b=>W9 a b
 |.gt,.int i,.int j=>some (decide (j<i))
 |.le,.int i,.int j=>some (decide (i<=j))
 |.ge,.int i,.int j=>some (decide (j<=i))
 |.isin,a,.tup xs=>if j4 a xs then some (cC a xs)else none
 |.isin,a,.lst xs=>if j4 a xs then some (cC a xs)else none
 |.isin,a,.cP ks _=>if keyOk a then some (cC a ks)else none
 |.isin,.str x,.str y=>if x.length=1 then some (cC (.str x) (signs y))else none
 |.notin,a,.tup xs=>if j4 a xs then some (!cC a xs)else none
 |.notin,a,.lst xs=>if j4 a xs then some (!cC a xs)else none
 |.notin,a,.cP ks _=>if keyOk a then some (!cC a ks)else none
 |.jG,a,.non=>some (fj a)
 |.notN,a,.non=>some (!fj a)
 |_,_,_=>none
noncomputable def jW:List D->Option (List (List Bool))
 |[]=>some []
 |.tup ys::r=>match bools ys with
  |some (b::bs)=>(jW r).map ((b::bs):: ·)
  |_=>none
 |_=>none
noncomputable def Km{α:Type}(f:Nat->Nat->Option Bool):PySem.W.KasT α->Option α
 |.ret a=>some a
 |.ask i j k=>match f i j with
  |some b=>Km f (k b)
  |none=>none
noncomputable def ab8(rs:List (List Bool))(i j:Nat):Option Bool:=(rs[i]?).bind fun a=>(rs[j]?).map fun b=>mF a b
noncomputable def ue(xs:List D):List Nat->Option (List D)
 |[]=>some []
 |i::is=>(xs[i]?).bind fun d=>(ue xs is).map (d:: ·)
noncomputable def ab7(xs:List D):Option (Nat->Nat->Option Bool):=match jW xs with
 |some rs=>some (ab8 rs)
 |none=>none
noncomputable def qg(xs:List D):Option (List D):=
 if xs.length<2 then some xs
 else if xs.length<64 then(ab7 xs).bind fun f=>(Km f (PySem.W.kas_sort xs.length)).bind fun p=>if p.size=xs.length then ue xs p.toList else none
 else none
noncomputable def Ez(k v:D):List D->List D->List D
 |k'::ks,v'::vs=>(if fZ k' k then v else v')::Ez k v ks vs
 |_,_=>[]
noncomputable def putD(k v:D)(ks vs:List D):List D×List D:=if cC k ks then(ks,Ez k v ks vs)else(ks++[k],vs++[v])
noncomputable def dictOf:List D->List D->List D->Option (List D×List D)
 |ks,vs,[]=>some (ks,vs)
 |ks,vs,.tup [k,v]::r=>if keyOk k then let p:=putD k v ks vs;dictOf p.1 p.2 r else none
 |_,_,_=>none
def aR:List D->List D->List D
 |x::xs,y::ys=>.tup [x,y]::aR xs ys
 |_,_=>[]
def bK(lo:Int):Nat->List D
 |0=>[]
 |n+1=>.int lo::bK (lo+1) n
noncomputable def S7:Bi->List D->Option Rv
 |.all,xs=>(bools xs).map fun bs=>.val (.bl (bs.all id))
 |.any,xs=>(bools xs).map fun bs=>.val (.bl (bs.any id))
 |.tuple,xs=>some (.val (.tup xs))
 |.list,xs=>some (.new (.lst xs))
 |.sorted,xs=>(qg xs).map fun ys=>.new (.lst ys)
 |.dict,xs=>(dictOf [] [] xs).map fun p=>.new (.dct p.1 p.2)
 |.len,_=>none
 |.int,_=>none
 |.copy,_=>none
def E.az:E->Option Nat
 |.var i=>some i
 |_=>none
noncomputable def sH(i:Nat)(σ:Ev):Out Rv:=
 match σ[i]? with
 |some (.val d)=>.ok (.val d) σ
 |some (.own o)=>.ok (.val o.d) (σ.set i (.val o.d))
 |_=>.bad
noncomputable def aW(i:Nat)(σ:Ev):Option D:=
 match σ[i]? with
 |some (.val d)=>some d
 |some (.own o)=>some o.d
 |some (.bor o)=>some o.d
 |_=>none
noncomputable def zP:D->Option Nat
 |.tup xs=>some xs.length
 |.lst xs=>some xs.length
 |.str x=>if fits x.length then some x.length else none
 |.cP ks _=>some ks.length
 |_=>none
noncomputable def getD(d:D)(i:D):Option D:=
 match d,i with
 |.tup xs,.int i=>at? xs i
 |.lst xs,.int i=>at? xs i
 |.cP ks vs,k=>if keyOk k then eN k ks vs else none
 |_,_=>none
noncomputable def jw(d:D)(lo hi:Option Int):Option Rv:=
 match d with
 |.tup xs=>some (.val (.tup (cut xs lo hi)))
 |.lst xs=>some (.new (.lst (cut xs lo hi)))
 |_=>none
noncomputable def eU(jG:Bool)(d:D):Option (Option Int):=
 match jG,d with
 |true,_=>some none
 |false,.int i=>some (some i)
 |_,_=>none
def E.jG:E->Bool
 |.noneE=>true
 |_=>false
noncomputable def eG(i:Nat)(s:Sl)(σ:Ev):Option Ev:=
 match σ[i]? with
 |some (.bor _)=>none
 |some _=>some (σ.set i s)
 |none=>none
noncomputable def ig:List Nat->List D->Ev->Option Ev
 |[],[],σ=>some σ
 |i::is,d::ds,σ=>(eG i (.val d) σ).bind (ig is ds)
 |_,_,_=>none
noncomputable def cY:Tg->D->Ev->Option Ev
 |.name i,d,σ=>eG i (.val d) σ
 |.tup is,.tup ds,σ=>ig is ds σ
 |_,_,_=>none
noncomputable def dM(i:Nat)(f:Ob->Option Ob)(σ:Ev):Option Ev:=
 match σ[i]? with
 |some (.own o)=>(f o).map fun q=>σ.set i (.own q)
 |some (.bor o)=>(f o).map fun q=>σ.set i (.bor q)
 |_=>none
def Cp(f:List D->Option (List D)):Ob->Option Ob
 |.lst xs=>(f xs).map .lst
 |_=>none
noncomputable def zA(i v:D):Ob->Option Ob
 |.lst xs=>match i with
  |.int i=>(ix? xs.length i).map fun j=>.lst (xs.set j v)
  |_=>none
 |.dct ks vs=>if keyOk i&&fits (ks.length+1)then let p:=putD i v ks vs;some (.dct p.1 p.2)else none
inductive Res where
 |ok (r:Rv) (ps:List Sl)|exc (c:Nat) (ps:List Sl)|bad
structure Cf where
 fn:Nat->List Sl->Res
 gl:Nat->Option D
 turns:Nat
def jF(i:Nat):Rv->Bool
 |.ref j=>i==j
 |_=>false
def zV:Rv->Bool
 |.tmp _=>true
 |_=>false
def argv:Rv->Rv
 |.new o=>.val o.d
 |x=>x
noncomputable def enter:List Rv->Ev->Option (List Sl)
 |[],_=>some []
 |.val d::as,σ=>(enter as σ).map (.val d:: ·)
 |.new _::_,_=>none
 |.tmp o::as,σ=>if as.any zV then none else(enter as σ).map (.bor o:: ·)
 |.ref i::as,σ=>
  if as.any (jF i)then none else
  match σ[i]? with
  |some (.own o)=>(enter as σ).map (.bor o:: ·)
  |some (.bor o)=>(enter as σ).map (.bor o:: ·)
  |_=>none
noncomputable def giveBack:List Rv->List Sl->Ev->Option Ev
 |[],[],σ=>some σ
 |.ref i::as,.bor o::ps,σ=>(dM i (fun _=>some o) σ).bind (giveBack as ps)
 |.ref _::_,_::_,_=>none
 |_::as,_::ps,σ=>giveBack as ps σ
 |_,_,_=>none
noncomputable def ux(c:Cf)(f:Nat)(as:List Rv)(σ:Ev):Out Rv:=
 match enter as σ with
 |none=>.bad
 |some ps=>
  match c.fn f ps with
  |.ok r qs=>match giveBack as qs σ with|some ζ=>.ok r ζ|none=>.bad
  |_=>.bad
noncomputable def aP(tg:Tg)(cond elt:Ev->Out Rv):List D->List D->Ev->Out (List D)
 |[],acc,σ=>.ok acc σ
 |x::xs,acc,σ=>
  match cY tg x σ with
  |none=>.bad
  |some σ₁=>(cond σ₁).cT jq fun b σ₂=>
   if b then(elt σ₂).ak fun d σ₃=>aP tg cond elt xs (acc++[d]) σ₃
   else aP tg cond elt xs acc σ₂
def gC:Option D->Bool
 |some (.lst _)=>true
 |_=>false
def jf:D->Option (List D)
 |.lst xs=>some xs
 |_=>none
noncomputable def sV(k:Nat)(y:D)(σ:Ev):Out Rv:=
 match y,aW k σ with
 |.int i,some (.lst xs)=>if !fits xs.length then .bad else match ix? xs.length i with
  |some j=>match xs[j]?,dM k (Cp fun xs=>some (xs.eraseIdx j)) σ with
   |some d,some ζ=>.ok (.val d) ζ
   |_,_=>.bad
  |none=>.bad
 |_,_=>.bad
def oM:Option D->Bool
 |some (.cP _ _)=>true
 |_=>false
noncomputable def Af(x y:D):Option Rv:=
 match x with
 |.tup xs=>if flat y&&xs.all flat then some (.val (.int (iy y xs)))else none
 |.lst xs=>if flat y&&xs.all flat then some (.val (.int (iy y xs)))else none
 |_=>none
noncomputable def Mz(x y:D):Option Rv:=
 match x with
 |.lst xs=>if flat y&&xs.all flat&&cC y xs then some (.val (.int (di y xs)))else none
 |_=>none
noncomputable def oR(d k x:D):Option D:=
 match d with
 |.cP ks vs=>if keyOk k then some ((eN k ks vs).getD x)else none
 |_=>none
def afO:List D->Option Rv
 |_=>none
def abU(ds:List D):Option Rv:=if ds.length<=30&& !ds.isEmpty then afO ds else none
noncomputable def Cq:List D->List D->List D->List D->List D×List D
 |ks,vs,k::r,v::q=>Cq (putD k v ks vs).1 (putD k v ks vs).2 r q
 |ks,vs,_,_=>(ks,vs)
noncomputable def Z8(x:D):Ob->Option Ob
 |.dct ks vs=>match x with
  |.cP r q=>if fits (ks.length+r.length)then some (.dct (Cq ks vs r q).1 (Cq ks vs r q).2)else none
  |_=>none
 |_=>none
noncomputable def bJ:D->Option (List D)
 |.tup xs=>some xs
 |.lst xs=>some xs
 |_=>none
def Qz:D->Option (List D)
 |x=>bJ x
noncomputable def b1(b:Bi)(x:D):Option Rv:=
 match b with
 |.list=>(Qz x).bind (S7 .list)
 |.len=>(zP x).map fun n=>.val (.int n)
 |.int=>match x with|.bl b=>some (.val (.int (b2i b)))|.int i=>some (.val (.int i))|_=>none
 |.sorted=>(jf x).bind (S7 .sorted)
 |.copy=>match x with|.cP ks vs=>some (.new (.dct ks vs))|_=>none
 |b=>(bJ x).bind (S7 b)
mutual
noncomputable def ev(c:Cf):E->Ev->Out Rv
 |.var i,σ=>sH i σ
 |.con d,σ=>.ok (.val d) σ
 |.glob k,σ=>match c.gl k with|some d=>.ok (.val d) σ|none=>.bad
 |.tup es,σ=>(evs c es σ).bind fun rs σ=>lift σ ((aX rs).bind fun ds=>if fits ds.length then some (.val (.tup ds))else none)
 |.lis es,σ=>(evs c es σ).bind fun rs σ=>lift σ ((aX rs).bind fun ds=>if fits ds.length then some (.new (.lst ds))else none)
 |.op o a b,σ=>(ev c a σ).ak fun x σ=>(ev c b σ).ak fun y σ=>lift σ (binop o x y)
 |.neg a,σ=>(ev c a σ).ak fun x σ=>lift σ (match x with|.int i=>some (.val (.int (-i)))|_=>none)
 |.cmp o a b,σ=>(ev c a σ).ak fun x σ=>match b.az with
  |some k=>lift σ ((aW k σ).bind fun d=>(aG o x d).map fun q=>.val (.bl q))
  |none=>(ev c b σ).ak fun y σ=>lift σ ((aG o x y).map fun q=>.val (.bl q))
 |.chain π ρ a b d,σ=>(ev c a σ).ak fun x σ=>(ev c b σ).ak fun y σ=>(lift σ (aG π x y)).bind fun q σ=>
   if q then(ev c d σ).ak fun z σ=>lift σ ((aG ρ y z).map fun q=>.val (.bl q))else .ok (.val (.bl false)) σ
 |.and es,σ=>iK c es σ
 |.or es,σ=>oV c es σ
 |.not a,σ=>(ev c a σ).cT jq fun b σ=>.ok (.val (.bl (!b))) σ
 |.ite t a b,σ=>(ev c t σ).cT jq fun q σ=>if q then ev c a σ else ev c b σ
 |.idx a i,σ=>match a.az with
  |some k=>if (aW k σ).isNone then .bad else(ev c i σ).ak fun y σ=>lift σ ((aW k σ).bind fun d=>(getD d y).map Rv.val)
  |none=>(ev c a σ).ak fun x σ=>(ev c i σ).ak fun y σ=>lift σ ((getD x y).map Rv.val)
 |.slc a lo hi,σ=>(ev c a σ).ak fun x σ=>(ev c lo σ).ak fun l σ=>match eU lo.jG l with
  |none=>.bad
  |some l=>(ev c hi σ).ak fun h σ=>lift σ ((eU hi.jG h).bind fun h=>jw x l h)
 |.noneE,σ=>.ok (.val .non) σ
 |.call f as,σ=>(evs c as σ).bind fun as σ=>ux c f as σ
 |.ref i,σ=>match σ[i]? with
  |some (.own _)=>.ok (.ref i) σ
  |some (.bor _)=>.ok (.ref i) σ
  |_=>.bad
 |.rd e,σ=>ev c e σ
 |.tmp e,σ=>(ev c e σ).bind fun x σ=>lift σ (match x with|.new o=>some (.tmp o)|_=>none)
 |.isi a t,σ=>(ev c a σ).ak fun x σ=>.ok (.val (.bl (qL t x))) σ
 |.bi b a,σ=>match a.az with
  |some k=>lift σ ((aW k σ).bind fun d=>b1 b d)
  |none=>(ev c a σ).ak fun x σ=>lift σ (b1 b x)
 |.range1 a,σ=>(ev c a σ).ak fun x σ=>lift σ (match x with|.int n=>if fits n.toNat&&uJ n then some (.val (.lst (bK 0 n.toNat)))else none|_=>none)
 |.range2 a b,σ=>(ev c a σ).ak fun x σ=>(ev c b σ).ak fun y σ=>lift σ (match x,y with|.int m,.int n=>if fits (n-m).toNat&&uJ m&&uJ n then some (.val (.lst (bK m (n-m).toNat)))else none|_,_=>none)
 |.zip a b,σ=>(ev c a σ).ak fun x σ=>(ev c b σ).ak fun y σ=>lift σ ((bJ x).bind fun xs=>(bJ y).map fun ys=>.val (.lst (aR xs ys)))
 |.count a b,σ=>(ev c a σ).ak fun x σ=>if (bJ x).isNone then .bad else(ev c b σ).ak fun y σ=>lift σ (Af x y)
 |.popAt k a,σ=>if !gC (aW k σ)then .bad else(ev c a σ).ak fun y σ=>sV k y σ
 |.index a b,σ=>(ev c a σ).ak fun x σ=>if (jf x).isNone then .bad else(ev c b σ).ak fun y σ=>lift σ (Mz x y)
 |.get2 d k x,σ=>match d.az with
  |some i=>if !oM (aW i σ)then .bad else(ev c k σ).ak fun k σ=>(ev c x σ).ak fun x σ=>lift σ ((aW i σ).bind fun y=>(oR y k x).map Rv.val)
  |none=>.bad
 |.dsp es,σ=>(evs c es σ).bind fun rs σ=>lift σ ((aX rs).bind abU)
 |.emp,σ=>.ok (.new (.dct [] [])) σ
 |.comp nl tg it cond elt,σ=>(ev c it σ).ak fun x σ=>match items x with
  |some xs=>match aP tg (ev c cond) (ev c elt) xs [] (List.replicate nl .un++σ)with
   |.ok ys τ=>.ok (.new (.lst ys)) (τ.drop nl)
   |_=>.bad
  |none=>.bad
 |.nil,_=>.bad
 |.cons _ _,_=>.bad
noncomputable def iK(c:Cf):E->Ev->Out Rv
 |.cons h t,σ=>match t with
  |.nil=>ev c h σ
  |t=>(ev c h σ).ak fun x σ=>match x with|.bl true=>iK c t σ|.bl false=>.ok (.val (.bl false)) σ|_=>.bad
 |_,_=>.bad
noncomputable def oV(c:Cf):E->Ev->Out Rv
 |.cons h t,σ=>match t with
  |.nil=>ev c h σ
  |t=>(ev c h σ).ak fun x σ=>match x with|.bl true=>.ok (.val (.bl true)) σ|.bl false=>oV c t σ|_=>.bad
 |_,_=>.bad
noncomputable def evs(c:Cf):E->Ev->Out (List Rv)
 |.nil,σ=>.ok [] σ
 |.cons h t,σ=>(ev c h σ).bind fun x σ=>(evs c t σ).bind fun xs σ=>.ok (argv x::xs) σ
 |_,_=>.bad
end
inductive Fl where
 |next (σ:Ev)|ret (r:Rv) (σ:Ev)|brk (σ:Ev)|cont (σ:Ev)|exc (k:Nat) (σ:Ev)|bad
noncomputable def Out.fl{α:Type}:Out α->(α->Ev->Fl)->Fl
 |.ok a σ,f=>f a σ
 |.exc k σ,_=>.exc k σ
 |.bad,_=>.bad
noncomputable def Out.m9:Out Rv->(D->Ev->Fl)->Fl
 |.ok (.val d) σ,f=>f d σ
 |.ok (.new o) σ,f=>f o.d σ
 |.ok _ _,_=>.bad
 |.exc k σ,_=>.exc k σ
 |.bad,_=>.bad
noncomputable def Out.Nm(r:Out Rv)(f:Bool->Ev->Fl):Fl:=r.m9 fun d σ=>match jq d with|some b=>f b σ|none=>.bad
noncomputable def uN:Rv->Ev->Fl
 |.val d,σ=>.ret (.val d) σ
 |.new o,σ=>.ret (.new o) σ
 |_,_=>.bad
def Fl.seq:Fl->(Ev->Fl)->Fl
 |.next σ,f=>f σ
 |r,_=>r
noncomputable def Fl.turn:Fl->(Ev->Fl)->Fl
 |.next σ,f=>f σ
 |.cont σ,f=>f σ
 |.brk σ,_=>.next σ
 |r,_=>r
noncomputable def dC(tg:Tg)(b:Ev->Fl):List D->Ev->Fl
 |[],σ=>.next σ
 |x::xs,σ=>match cY tg x σ with
  |none=>.bad
  |some σ₁=>(b σ₁).turn (dC tg b xs)
noncomputable def gq(t:Ev->Out Rv)(b:Ev->Fl):Nat->Ev->Fl
 |0,_=>.bad
 |n+1,σ=>(t σ).Nm fun q σ=>if q then(b σ).turn (gq t b n)else .next σ
def yF:Option Ev->Fl
 |some σ=>.next σ
 |none=>.bad
noncomputable def ab0(c:Cf)(f:Nat)(as:List Rv)(σ:Ev):Fl:=
 match enter as σ with
 |none=>.bad
 |some ps=>
  match c.fn f ps with
  |.ok _ qs=>yF (giveBack as qs σ)
  |.exc k qs=>match giveBack as qs σ with|some ζ=>.exc k ζ|none=>.bad
  |.bad=>.bad
noncomputable def ex(c:Cf):S->Ev->Fl
 |.nil,σ=>.next σ
 |.cons h t,σ=>(ex c h σ).seq (ex c t)
 |.pass,σ=>.next σ
 |.brk,σ=>.brk σ
 |.cont,σ=>.cont σ
 |.set i e,σ=>(ev c e σ).fl fun x σ=>yF (x.Bq.bind fun s=>eG i s σ)
 |.setT is e,σ=>(ev c e σ).m9 fun x σ=>yF (cY (.tup is) x σ)
 |.setIx k ix e,σ=>(ev c e σ).m9 fun x σ=>if (aW k σ).isNone then .bad else(ev c ix σ).m9 fun y σ=>yF (dM k (zA y x) σ)
 |.expr e,σ=>(ev c e σ).m9 fun _ σ=>.next σ
 |.append k e,σ=>if !gC (aW k σ)then .bad else(ev c e σ).m9 fun x σ=>yF (dM k (Cp fun xs=>if fits (xs.length+1)then some (xs++[x])else none) σ)
 |.extend k e,σ=>if !gC (aW k σ)then .bad else(ev c e σ).m9 fun x σ=>yF ((jf x).bind fun ys=>dM k (Cp fun xs=>if fits (xs.length+ys.length)then some (xs++ys)else none) σ)
 |.update k e,σ=>if !oM (aW k σ)then .bad else(ev c e σ).m9 fun x σ=>yF (dM k (Z8 x) σ)
 |.ret e,σ=>match e.az with
  |some i=>match σ[i]? with
   |some (.own o)=>.ret (.new o) (σ.set i .un)
   |_=>(ev c e σ).fl uN
  |none=>(ev c e σ).fl uN
 |.ite t a b,σ=>(ev c t σ).Nm fun q σ=>if q then ex c a σ else ex c b σ
 |.for_ tg it b,σ=>(ev c it σ).m9 fun x σ=>match items x with
  |some xs=>dC tg (ex c b) xs σ
  |none=>.bad
 |.while_ t b,σ=>gq (ev c t) (ex c b) c.turns σ
 |.raise k,σ=>.exc k σ
 |.callx f as,σ=>(evs c as σ).fl fun as σ=>ab0 c f as σ
 |.try_ _ _ _ _,_=>.bad
structure Fn where
 pars:Nat
 names:Nat
 body:S
noncomputable def il(c:Cf)(f:Fn)(ps:List Sl):Res:=
 if ps.length=f.pars then
  match ex c f.body (ps++List.replicate (f.names-f.pars) .un)with
  |.next σ=>.ok (.val .non) (σ.take f.pars)
  |.ret r σ=>.ok r (σ.take f.pars)
  |.exc k σ=>.exc k (σ.take f.pars)
  |_=>.bad
 else .bad
structure Pg where
 fns:List Fn
 gl:Nat->Option D
 turns:Nat
 pf:Cf->Nat->List Sl->Res:=fun _ _ _=>.bad
noncomputable def Pg.fn(p:Pg):Nat->Nat->List Sl->Res
 |0,_,_=>.bad
 |n+1,f,ps=>match p.fns[f]? with
  |some g=>il ⟨p.fn n,p.gl,p.turns⟩ g ps
  |none=>p.pf ⟨p.fn n,p.gl,p.turns⟩ f ps
def Pg.cf(p:Pg)(n:Nat):Cf:=⟨p.fn n,p.gl,p.turns⟩
def v_0 c(i σ):ev c (.var i) σ=sH i σ:=rfl
def v_1 c(d σ):ev c (.con d) σ=.ok (.val d) σ:=rfl
def Z6 c(k σ):ev c (.glob k) σ=match c.gl k with|some d=>.ok (.val d) σ|none=>.bad:=rfl
def v_3 c(es σ):ev c (.tup es) σ=(evs c es σ).bind fun rs σ=>lift σ ((aX rs).bind fun ds=>if fits ds.length then some (.val (.tup ds))else none):=rfl
def v_4 c(es σ):ev c (.lis es) σ=(evs c es σ).bind fun rs σ=>lift σ ((aX rs).bind fun ds=>if fits ds.length then some (.new (.lst ds))else none):=rfl
def v_5 c(o a b σ):ev c (.op o a b) σ=(ev c a σ).ak fun x σ=>(ev c b σ).ak fun y σ=>lift σ (binop o x y):=rfl
def v_6 c(a σ):ev c (.neg a) σ=(ev c a σ).ak fun x σ=>lift σ (match x with|.int i=>some (.val (.int (-i)))|_=>none):=rfl
theorem Y8 c(o a b σ):ev c (.cmp o a b) σ=(ev c a σ).ak fun x σ=>match b.az with
  |some k=>lift σ ((aW k σ).bind fun d=>(aG o x d).map fun q=>.val (.bl q))
  |none=>(ev c b σ).ak fun y σ=>lift σ ((aG o x y).map fun q=>.val (.bl q)):=rfl
def v_8 c(π ρ a b d σ):ev c (.chain π ρ a b d) σ=(ev c a σ).ak fun x σ=>(ev c b σ).ak fun y σ=>(lift σ (aG π x y)).bind fun q σ=>
   if q then(ev c d σ).ak fun z σ=>lift σ ((aG ρ y z).map fun q=>.val (.bl q))else .ok (.val (.bl false)) σ:=rfl
def Vv c(es σ):ev c (.and es) σ=iK c es σ:=rfl
def Ba c(es σ):ev c (.or es) σ=oV c es σ:=rfl
def JC c(a σ):ev c (.not a) σ=(ev c a σ).cT jq fun b σ=>.ok (.val (.bl (!b))) σ:=rfl
def VF c(t a b σ):ev c (.ite t a b) σ=(ev c t σ).cT jq fun q σ=>if q then ev c a σ else ev c b σ:=rfl
theorem Ha c(a i σ):ev c (.idx a i) σ=match a.az with
  |some k=>if (aW k σ).isNone then .bad else(ev c i σ).ak fun y σ=>lift σ ((aW k σ).bind fun d=>(getD d y).map Rv.val)
  |none=>(ev c a σ).ak fun x σ=>(ev c i σ).ak fun y σ=>lift σ ((getD x y).map Rv.val):=rfl
theorem VD c(a lo hi σ):ev c (.slc a lo hi) σ=(ev c a σ).ak fun x σ=>(ev c lo σ).ak fun l σ=>match eU lo.jG l with
  |none=>.bad
  |some l=>(ev c hi σ).ak fun h σ=>lift σ ((eU hi.jG h).bind fun h=>jw x l h):=rfl
def VB c(σ):ev c .noneE σ=.ok (.val .non) σ:=rfl
def Qh c(f as σ):ev c (.call f as) σ=(evs c as σ).bind fun as σ=>ux c f as σ:=rfl
theorem JB c(i σ):ev c (.ref i) σ=match σ[i]? with
  |some (.own _)=>.ok (.ref i) σ
  |some (.bor _)=>.ok (.ref i) σ
  |_=>.bad:=rfl
def Jz c(e σ):ev c (.rd e) σ=ev c e σ:=rfl
def Qg c(e σ):ev c (.tmp e) σ=(ev c e σ).bind fun x σ=>lift σ (match x with|.new o=>some (.tmp o)|_=>none):=rfl
def Vz c(a t σ):ev c (.isi a t) σ=(ev c a σ).ak fun x σ=>.ok (.val (.bl (qL t x))) σ:=rfl
theorem o5 c(b a σ):ev c (.bi b a) σ=match a.az with
  |some k=>lift σ ((aW k σ).bind fun d=>b1 b d)
  |none=>(ev c a σ).ak fun x σ=>lift σ (b1 b x):=rfl
def Qf c(a σ):ev c (.range1 a) σ=(ev c a σ).ak fun x σ=>lift σ (match x with|.int n=>if fits n.toNat&&uJ n then some (.val (.lst (bK 0 n.toNat)))else none|_=>none):=rfl
def Vy(c:Cf)(a b σ):ev c (.range2 a b) σ=(ev c a σ).ak fun x σ=>(ev c b σ).ak fun y σ=>lift σ (match x,y with|.int m,.int n=>if fits (n-m).toNat&&uJ m&&uJ n then some (.val (.lst (bK m (n-m).toNat)))else none|_,_=>none):=rfl
def Qe c(a b σ):ev c (.zip a b) σ=(ev c a σ).ak fun x σ=>(ev c b σ).ak fun y σ=>lift σ ((bJ x).bind fun xs=>(bJ y).map fun ys=>.val (.lst (aR xs ys))):=rfl
def Vx c(a b σ):ev c (.count a b) σ=(ev c a σ).ak fun x σ=>if (bJ x).isNone then .bad else(ev c b σ).ak fun y σ=>lift σ (Af x y):=rfl
def Qd c(k a σ):ev c (.popAt k a) σ=if !gC (aW k σ)then .bad else(ev c a σ).ak fun y σ=>sV k y σ:=rfl
theorem nO c(nl tg it cond elt σ):ev c (.comp nl tg it cond elt) σ=(ev c it σ).ak fun x σ=>match items x with
  |some xs=>match aP tg (ev c cond) (ev c elt) xs [] (List.replicate nl .un++σ)with
   |.ok ys τ=>.ok (.new (.lst ys)) (τ.drop nl)
   |_=>.bad
  |none=>.bad:=rfl
def adF(c:Cf)(a b σ):ev c (.index a b) σ=(ev c a σ).ak fun x σ=>if (jf x).isNone then .bad else(ev c b σ).ak fun y σ=>lift σ (Mz x y):=rfl
theorem Vw c(d k x σ):ev c (.get2 d k x) σ=match d.az with
  |some i=>if !oM (aW i σ)then .bad else(ev c k σ).ak fun k σ=>(ev c x σ).ak fun x σ=>lift σ ((aW i σ).bind fun y=>(oR y k x).map Rv.val)
  |none=>.bad:=rfl
def x_0 c(σ):ex c .nil σ=.next σ:=rfl
def x_1 c(h t σ):ex c (.cons h t) σ=(ex c h σ).seq (ex c t):=rfl
def x_5 c(i e σ):ex c (.set i e) σ=(ev c e σ).fl fun x σ=>yF (x.Bq.bind fun s=>eG i s σ):=rfl
def x_7 c(k ix e σ):ex c (.setIx k ix e) σ=(ev c e σ).m9 fun x σ=>if (aW k σ).isNone then .bad else(ev c ix σ).m9 fun y σ=>yF (dM k (zA y x) σ):=rfl
def x_9 c(k e σ):ex c (.append k e) σ=if !gC (aW k σ)then .bad else(ev c e σ).m9 fun x σ=>yF (dM k (Cp fun xs=>if fits (xs.length+1)then some (xs++[x])else none) σ):=rfl
theorem Ay c(e σ):ex c (.ret e) σ=match e.az with
  |some i=>match σ[i]? with
   |some (.own o)=>.ret (.new o) (σ.set i .un)
   |_=>(ev c e σ).fl uN
  |none=>(ev c e σ).fl uN:=rfl
theorem adA c(tg it b σ):ex c (.for_ tg it b) σ=(ev c it σ).m9 fun x σ=>match items x with
  |some xs=>dC tg (ex c b) xs σ
  |none=>.bad:=rfl
end Mini
end
section
namespace Mini
open PySem L2
def Pa(K:QQq)(H:Hp)(a:Addr)(xs:List V):Prop:=
 (∃o,H a=some (.frz o (.lst xs)))\/
  ∃(o:Obj)(its:Array Value)(n:Nat),K.lookup a=some o/\o.cls=.type "list"/\o.dict=none/\o.data=.seq its n/\its.size<=sizeLine/\Vals xs its.toList
def Pa.sq{H:Hp}{xs:List V}(h:Pa K H a xs):lG K H a xs:=by
 rcases h with ⟨o,h⟩|h
 ·exact .inl (.inr ⟨o,h⟩)
 ·exact .inr h
def dB:Key->D
 |.inl i=>.int i
 |.inr x=>.str x
mutual
def bj(K:QQq)(H:Hp):D->V->Prop
 |.non,v=>v=.non
 |.bl b,v=>v=.bl b
 |.int i,v=>v=.int i
 |.str x,v=>v=.str x
 |.tup ds,v=>∃a vs,v=.ref a/\j5 K H a vs/\ao K H ds vs
 |.lst ds,v=>∃a vs,v=.ref a/\Pa K H a vs/\ao K H ds vs
 |.cP ks ds,v=>∃a o kvs,v=.ref a/\H a=some (.frz o (.dK kvs))/\ks=kvs.map (fun p=>dB p.1)/\ao K H ds (kvs.map (·.2))
def ao(K:QQq)(H:Hp):List D->List V->Prop
 |[],vs=>vs=[]
 |d::ds,vs=>∃v r,vs=v::r/\bj K H d v/\ao K H ds r
end
structure bR(H H':Hp):Prop where
 tups:∀b xs,H b=some (.tup xs)->H' b=some (.tup xs)
 frzs:∀b o u,H b=some (.frz o u)->H' b=some (.frz o u)
def bR.refl H:bR H H:=⟨fun _ _ h=>h,fun _ _ _ h=>h⟩
def bR.trans(a:bR H H1)(b:bR H1 H2):bR H H2:=⟨fun c xs h=>b.tups c xs (a.tups c xs h),fun c o u h=>b.frzs c o u (a.frzs c o u h)⟩
section
def bR.Wa(p:bR H H')(h:j5 K H a xs):j5 K H' a xs:=by
 rcases h with (h|⟨o,h⟩)|h
 ·exact .inl (.inl (p.tups _ _ h))
 ·exact .inl (.inr ⟨o,p.frzs _ _ _ h⟩)
 ·exact .inr h
def bR.U5(p:bR H H')(h:Pa K H a xs):Pa K H' a xs:=by
 rcases h with ⟨o,h⟩|h
 ·exact .inl ⟨o,p.frzs _ _ _ h⟩
 ·exact .inr h
mutual
theorem bj.mono(p:bR H H'):∀{d:D}{v:V},bj K H d v->bj K H' d v
 |.non,_,h=>h
 |.bl _,_,h=>h
 |.int _,_,h=>h
 |.str _,_,h=>h
 |.tup ds,v,h=>by
  unfold bj at h⊢
  obtain⟨a,vs,e,s,l⟩:=h
  exact⟨a,vs,e,p.Wa s,ao.mono p l⟩
 |.lst ds,v,h=>by
  unfold bj at h⊢
  obtain⟨a,vs,e,s,l⟩:=h
  exact⟨a,vs,e,p.U5 s,ao.mono p l⟩
 |.cP ks ds,v,h=>by
  unfold bj at h⊢
  obtain⟨a,o,kvs,e,s,k,l⟩:=h
  exact⟨a,o,kvs,e,p.frzs _ _ _ s,k,ao.mono p l⟩
theorem ao.mono(p:bR H H'):∀{ds:List D}{vs:List V},ao K H ds vs->ao K H' ds vs
 |[],_,h=>by unfold ao at h⊢;exact h
 |d::ds,vs,h=>by
  obtain⟨v,r,e,s,l⟩:=h
  exact⟨v,r,e,bj.mono p s,ao.mono p l⟩
end
def ao.bQ:ao K H [] vs↔vs=[]:=by unfold ao;exact Iff.rfl
def ao.aZ{ds:List D}:ao K H (d::ds) vs↔ ∃v r,vs=v::r/\bj K H d v/\ao K H ds r:=by
 constructor
 ·intro h;unfold ao at h;exact h
 ·intro h;unfold ao;exact h
def ao.bA{ds:List D}{vs:List V}(h:bj K H d v)(t:ao K H ds vs):ao K H (d::ds) (v::vs):=ao.aZ.mpr ⟨v,vs,rfl,h,t⟩
def ao.eX:ao K H [] []:=ao.bQ.mpr rfl
theorem ao.length:∀{ds:List D}{vs:List V},ao K H ds vs->ds.length=vs.length
 |[],_,h=>by rw[ao.bQ.mp h];rfl
 |d::ds,vs,h=>by
  obtain⟨v,r,rfl,_,t⟩:=ao.aZ.mp h
  simp[ao.length t]
theorem ao.get:∀{ds:List D}{vs:List V}{i:Nat}{d:D},ao K H ds vs->ds[i]? =some d->∃v,vs[i]? =some v/\bj K H d v
 |[],_,_,_,_,e=>by simp at e
 |d::ds,vs,i,d',h,e=>by
  obtain⟨v,r,rfl,hd,t⟩:=ao.aZ.mp h
  cases i with
  |zero=>simp at e;subst e;exact⟨v,rfl,hd⟩
  |succ i=>obtain⟨w,q,z⟩:=ao.get t (by simpa using e);exact⟨w,by simpa using q,z⟩
theorem ao.append:∀{ds es:List D}{vs ws:List V},ao K H ds vs->ao K H es ws->ao K H (ds++es) (vs++ws)
 |[],_,_,_,h,t=>by rw[ao.bQ.mp h];exact t
 |d::ds,es,vs,ws,h,t=>by
  obtain⟨v,r,rfl,hd,q⟩:=ao.aZ.mp h
  exact ao.bA hd (ao.append q t)
theorem ao.take:∀{ds:List D}{vs:List V}(n:Nat),ao K H ds vs->ao K H (ds.take n) (vs.take n)
 |_,_,0=>fun _=>ao.eX
 |[],_,_+1=>fun h=>by rw[ao.bQ.mp h];exact ao.eX
 |d::ds,vs,n+1=>fun h=>by
  obtain⟨v,r,rfl,hd,q⟩:=ao.aZ.mp h
  exact ao.bA hd (ao.take n q)
theorem ao.drop:∀{ds:List D}{vs:List V}(n:Nat),ao K H ds vs->ao K H (ds.drop n) (vs.drop n)
 |_,_,0=>fun h=>h
 |[],_,_+1=>fun h=>by rw[ao.bQ.mp h];exact ao.eX
 |d::ds,vs,n+1=>fun h=>by
  obtain⟨v,r,rfl,hd,q⟩:=ao.aZ.mp h
  exact ao.drop n q
theorem ao.eraseIdx:∀{ds:List D}{vs:List V}(n:Nat),ao K H ds vs->ao K H (ds.eraseIdx n) (vs.eraseIdx n)
 |[],_,_=>fun h=>by rw[ao.bQ.mp h];exact ao.eX
 |d::ds,vs,0=>fun h=>by
  obtain⟨v,r,rfl,hd,q⟩:=ao.aZ.mp h
  exact q
 |d::ds,vs,n+1=>fun h=>by
  obtain⟨v,r,rfl,hd,q⟩:=ao.aZ.mp h
  exact ao.bA hd (ao.eraseIdx n q)
theorem ao.set{v:V}(hd:bj K H d v):∀{ds:List D}{vs:List V}(n:Nat),ao K H ds vs->ao K H (ds.set n d) (vs.set n v)
 |[],_,_=>fun h=>by rw[ao.bQ.mp h];exact ao.eX
 |e::ds,vs,0=>fun h=>by
  obtain⟨w,r,rfl,he,q⟩:=ao.aZ.mp h
  exact ao.bA hd q
 |e::ds,vs,n+1=>fun h=>by
  obtain⟨w,r,rfl,he,q⟩:=ao.aZ.mp h
  exact ao.bA he (ao.set hd n q)
end
def isOwn:Sl->Option Ob
 |.own o=>some o
 |.bor o=>some o
 |_=>none
noncomputable def Jq(K:QQq)(H:Hp):Ob->HO->Prop
 |.lst xs,u=>∃vs,u=.lst vs/\ao K H xs vs
 |.dct ks ds,u=>∃kvs,u=.dK kvs/\ks=kvs.map (fun p=>dB p.1)/\ao K H ds (kvs.map (·.2))
theorem Jq.mono{K:QQq}{H H':Hp}(p:bR H H'):∀{o:Ob}{u:HO},Jq K H o u->Jq K H' o u
 |.lst _,_,⟨vs,e,l⟩=>⟨vs,e,l.mono p⟩
 |.dct _ _,_,⟨kvs,e,k,l⟩=>⟨kvs,e,k,l.mono p⟩
structure Pn(u:HO):Prop where
 tup:∀xs,u≠ .tup xs
 frz:∀q w,u≠ .frz q w
 tbl:∀ps,u≠ .tbl ps
 own:∀x,u≠ .own x
theorem Jq.qj{K:QQq}{H:Hp}:∀{o:Ob}{u:HO},Jq K H o u->Pn u
 |.lst _,_,⟨vs,e,_⟩=>by
  subst e
  constructor
  all_goals (intros;intro z;cases z)
 |.dct _ _,_,⟨kvs,e,_⟩=>by
  subst e
  constructor
  all_goals (intros;intro z;cases z)
def jo(K:QQq)(H:Hp)(o:Ob)(a:Addr):Prop:=∃u,H a=some u/\Jq K H o u
noncomputable def Tj(K:QQq)(H:Hp):Sl->Option V->Prop
 |.un,_=>True
 |.val d,o=>∃v,o=some v/\bj K H d v
 |.own q,o=>∃a,o=some (.ref a)/\jo K H q a
 |.bor q,o=>∃a,o=some (.ref a)/\jo K H q a
def aK(env:Ev)(σ:St)(i:Nat)(a:Addr):Prop:=(∃s xs,env[i]? =some s/\isOwn s=some xs)/\σ[i]? =some (some (.ref a))
structure Sat(K:QQq)(env:Ev)(σ:St)(H:Hp):Prop where
 len:env.length=σ.length
 sl:∀(i:Nat)s,env[i]? =some s->Tj K H s (σ[i]?).join
 ne:∀(i j:Nat)a,aK env σ i a->aK env σ j a->i=j
structure Nx(K:QQq)(env:Ev)(σ:St)(H:Hp)(env':Ev)(H':Hp):Prop where
 gK:Sat K env' σ H'
 sub:∀(i:Nat)a,aK env' σ i a->aK env σ i a
 pers:bR H H'
 keep:∀b u,H b=some u->(∀i,¬aK env σ i b)->H' b=some u
 dom:∀b,H' b=none->H b=none
 bors:∀(i:Nat)xs,env[i]? =some (.bor xs)->∃ys,env'[i]? =some (.bor ys)
section
theorem Nx.refl(h:Sat K env σ H):Nx K env σ H env H:=⟨h,fun _ _ z=>z,bR.refl H,fun _ _ z _=>z,fun _ z=>z,fun _ xs e=>⟨xs,e⟩⟩
theorem Nx.trans(a:Nx K env σ H δ H1)(b:Nx K δ σ H1 ε H2):Nx K env σ H ε H2:=
 ⟨b.gK,fun i c z=>a.sub i c (b.sub i c z),a.pers.trans b.pers,fun c vs z n=>b.keep c vs (a.keep c vs z n) fun i w=>n i (a.sub i c w),fun c z=>a.dom c (b.dom c z),fun i xs e=>let ⟨ys,e1⟩:=a.bors i xs e;b.bors i ys e1⟩
theorem Sat.own(h:Sat K env σ H){a:Addr}(o:aK env σ i a):∃q,jo K H q a:=by
 obtain⟨⟨s,xs,e1,e2⟩,e3⟩:=o
 have q:=h.sl i s e1
 rw[e3]at q
 cases s with
 |un=>simp[isOwn]at e2
 |val d=>simp[isOwn]at e2
 |own ys=>obtain⟨b,e,z⟩:=q;cases e;exact⟨ys,z⟩
 |bor ys=>obtain⟨b,e,z⟩:=q;cases e;exact⟨ys,z⟩
def Sat.pB(h:Sat K env σ H)(hn:H a=none)i:¬aK env σ i a:=fun o=>by
 obtain⟨q,u,z,_⟩:=h.own o
 rw[hn]at z;cases z
end
noncomputable def iG(K:QQq)(σ:St)(H₀ H:Hp):Rv->V->Prop
 |.val d,v=>bj K H d v
 |.new q,v=>∃a,v=.ref a/\jo K H q a/\H₀ a=none
 |.tmp q,v=>∃a,v=.ref a/\jo K H q a/\H₀ a=none
 |.ref i,v=>σ[i]? =some (some v)
abbrev Wi:=Nat->Ev->St->Hp->Prop
noncomputable def tM(K:QQq)(W:Wi)(env:Ev)(r:Out Rv):TE:=fun σ H Q=>Sat K env σ H/\match r with
 |.ok x env'=>∀v H',Nx K env σ H env' H'->iG K σ H H' x v->Q v H'
 |.exc c env'=>∀H',Nx K env σ H env' H'->W c env' σ H'
 |.bad=>False
noncomputable def tD(K:QQq)(W:Wi)(env:Ev)(r:Out Rv):TE:=fun σ H Q=>Sat K env σ H/\match r with
 |.ok (.val d) env'=>∀v H',Nx K env σ H env' H'->bj K H' d v->Q v H'
 |.ok (.new q) env'=>∀v H',Nx K env σ H env' H'->bj K H' q.d v->Q v H'
 |.ok _ _=>False
 |.exc c env'=>∀H',Nx K env σ H env' H'->W c env' σ H'
 |.bad=>False
noncomputable def tT(K:QQq)(W:Wi)(env:Ev)(r:Out Rv):TT:=fun σ H Q=>Sat K env σ H/\match r with
 |.ok x env'=>∃d b,x.lw=some d/\jq d=some b/\∀H',Nx K env σ H env' H'->Q b H'
 |.exc c env'=>∀H',Nx K env σ H env' H'->W c env' σ H'
 |.bad=>False
def PE.imp{e:Expr}(h:PE X e t)(i:∀σ H Q,t' σ H Q->t σ H Q):PE X e t':=fun γ s σ H Q I q=>h γ s σ H Q I (i σ H Q q)
def PT.imp{e:Expr}(h:PT X e t)(i:∀σ H Q,t' σ H Q->t σ H Q):PT X e t':=fun γ s σ H Q I q=>h γ s σ H Q I (i σ H Q q)
def _root_.L2.dg.there{w:World}{h:Heap}{o:HO}(x:dg P w H h a o):∃u,h.get? a=some u:=by
 cases o with
 |lst xs=>obtain⟨_,_,_,_,e⟩:=x;exact⟨_,e⟩
 |tup xs=>obtain⟨_,_,_,p⟩:=x;obtain⟨o,e,_⟩:=p;exact⟨_,e⟩
 |dK kvs=>obtain⟨_,_,_,_,o,_,_,e,_⟩:=x;exact⟨_,e⟩
 |dT kvs=>obtain⟨_,_,_,_,o,_,_,e,_⟩:=x;exact⟨_,e⟩
 |dS xs=>obtain⟨_,_,_,_,o,_,_,_,e,_⟩:=x;exact⟨_,e⟩
 |set S n=>obtain⟨o,_,_,_,e,_⟩:=x;exact⟨_,e⟩
 |ins C dx fs=>obtain⟨_,_,_,e,_⟩:=x;exact⟨_,e⟩
 |own y=>obtain⟨_,e⟩:=x;exact⟨_,e⟩
 |xd fs=>obtain⟨_,⟨_,_,_,e,_⟩,_⟩:=x;exact⟨_,e⟩
 |rng lo hi=>obtain⟨_,_,_,e⟩:=x;exact⟨_,e⟩
 |frz ob u=>obtain⟨e,_⟩:=x;exact⟨_,e⟩
 |tbl ps=>exact⟨_,show h.get? a=some _ from x⟩
 |met f y=>exact⟨_,show h.get? a=some _ from x⟩
 |ext φ=>obtain⟨_,⟨_,e⟩,_⟩:=x;exact⟨_,e⟩
def Inv.freeze{X:Cx}{σ:St}{H:Hp}{a:Addr}(I:Inv X γ σ H s)(h:H a=some u)(hu:Pn u):
  ∃o,Inv X γ σ (upd H a (.frz o u)) s:=by
 obtain⟨o,ho⟩:=(I.hok a _ h).there
 refine⟨o,?_⟩
 have ne:∀b w,H b=some w->w≠u->b≠a:=fun b w q n z=>by subst z;rw[h]at q;cases q;exact n rfl
 have stay:∀b w,b≠a->H b=some w->upd H a (.frz o u) b=some w:=fun b w n q=>by rw[au n];exact q
 have hok:nJ X.prog X.w (upd H a (.frz o u)) s.heap:=fun b w q=>by
  have st:∀c v,dg X.prog X.w H s.heap c v->dg X.prog X.w _ s.heap c v:=fun c v z=>
   z.stay (fun c v _ q=>q) (fun e q=>stay e _ (ne e _ q (hu.own c).symm) q) fun e xs q=>stay e _ (ne e _ q (hu.tup xs).symm) q
  by_cases hb:b=a
  ·subst hb
   rw[aB]at q
   cases q
   exact⟨ho,st _ _ (I.hok b _ h)⟩
  ·rw[au hb]at q
   exact st _ _ (I.hok b w q)
 have J:=I.step (t':=s.toks) (d':=s.drawn) (ch:=[]) (fun _ z=>nomatch z)
  (fun b o _ _ _ q _=>q) (fun b o _ _ _ q _=>⟨o.slots,q⟩) (fun b o _ q n=>by
   rw[au (fun z=>by subst z;rw[h]at n;cases n)];exact n) (fun b o _ q=>⟨o,q⟩)
  (fun b xs q=>stay b _ (ne b _ q (hu.tup xs).symm) q) (fun b o w q=>stay b _ (ne b _ q (hu.frz o w).symm) q) (fun b ps q=>⟨#[],by rw[stay b _ (ne b _ q (hu.tbl ps).symm) q];simp⟩) (fun m q=>q) hok I.bare
 exact J
section
def dO(h:H a=some u)(hu:Pn u):bR H (upd H a (.frz o u)):=by
 refine⟨fun b xs q=>?_,fun b o' w q=>?_⟩
 ·rw[au (fun z=>by subst z;rw[h]at q;cases q;exact hu.tup xs rfl)];exact q
 ·rw[au (fun z=>by subst z;rw[h]at q;cases q;exact hu.frz o' w rfl)];exact q
def Jq.den{H':Hp}(h:Jq K H' q u)(e:H' a=some (.frz o u)):bj K H' q.d (.ref a):=by
 cases q with
 |lst xs=>
  obtain⟨vs,rfl,l⟩:=h
  show bj K H' (.lst xs) (.ref a)
  unfold bj
  exact⟨a,vs,rfl,.inl ⟨o,e⟩,l⟩
 |dct ks ds=>
  obtain⟨kvs,rfl,k,l⟩:=h
  show bj K H' (.cP ks ds) (.ref a)
  unfold bj
  exact⟨a,o,kvs,rfl,e,k,l⟩
def Tj.keep{sl:Sl}(p:bR H H')(h:Tj K H sl v)(k:∀b u,isOwn sl≠none->v=some (.ref b)->H b=some u->H' b=some u):Tj K H' sl v:=by
 cases sl with
 |un=>trivial
 |val d=>obtain⟨v,e1,e2⟩:=h;exact⟨v,e1,e2.mono p⟩
 |own q=>
  obtain⟨b,e1,w,e2,e3⟩:=h
  exact⟨b,e1,w,k b w (by simp[isOwn]) e1 e2,e3.mono p⟩
 |bor q=>
  obtain⟨b,e1,w,e2,e3⟩:=h
  exact⟨b,e1,w,k b w (by simp[isOwn]) e1 e2,e3.mono p⟩
def xH{sl:Sl}(e:env[i]? =some sl)(ho:isOwn sl≠none)(ev:(σ[i]?).join=some (.ref b)):aK env σ i b:=by
 refine⟨?_,?_⟩
 ·cases q:isOwn sl with
  |none=>exact absurd q ho
  |some o=>exact⟨sl,o,e,q⟩
 ·cases w:σ[i]? with
  |none=>rw[w]at ev;cases ev
  |some y=>rw[w]at ev;simp at ev;rw[ev]
theorem Sat.keep(S:Sat K env σ H)(p:bR H H')(k:∀i b u,aK env σ i b->H b=some u->H' b=some u):Sat K env σ H':=
 ⟨S.len,fun i sl e=>(S.sl i sl e).keep p fun b u ho ev hb=>k i b u (xH e ho ev) hb,S.ne⟩
def Sat.freeze(S:Sat K env σ H)(h:H a=some u)(hu:Pn u)(no:∀i,¬aK env σ i a):Sat K env σ (upd H a (.frz o u)):=
 S.keep (dO h hu) fun i b w ow hb=>by
  rw[au (fun z=>by subst z;exact no i ow)];exact hb
end
def K4{W:Wi}{env:Ev}(h:PE X e (tM X.K W env r)):PE X e (tD X.K W env r):=by
 intro γ s σ H Q I q
 obtain⟨S,q⟩:=q
 cases r with
 |bad=>exact q.elim
 |exc c env'=>exact h γ s σ H Q I ⟨S,q⟩
 |ok x env'=>
  cases x with
  |val d=>exact h γ s σ H Q I ⟨S,q⟩
  |ref i=>exact False.elim q
  |tmp xs=>exact False.elim q
  |new xs=>
   refine cj (h γ s σ H (fun v H'=>Nx X.K env σ H env' H'/\iG X.K σ H H' _ v) I ⟨S,fun v H' n k=>⟨n,k⟩⟩) fun u s1⟨v,H1,I1,r1,N,k⟩=>?_
   obtain⟨a,rfl,⟨u,ha,hl⟩,h0⟩:=k
   have hu:=hl.qj
   obtain⟨o,I2⟩:=Inv.freeze I1 ha hu
   have p:=dO (o:=o) ha hu
   refine⟨.ref a,_,I2,r1,q _ _ ⟨N.gK.freeze ha hu (fun i z=>S.pB h0 i (N.sub i a z)),N.sub,N.pers.trans p,fun b ws z n=>?_,fun b z=>?_,N.bors⟩ ((hl.mono p).den aB)⟩
   ·rw[au (fun w=>by subst w;rw[h0]at z;cases z)];exact N.keep b ws z n
   ·refine N.dom b ?_
    by_cases hb:b=a
    ·subst hb;rw[aB]at z;cases z
    ·rw[au hb]at z;exact z
def iG.weaken{σ:St}{x:Rv}(h:iG K σ H1 H x v)(d:∀b,H1 b=none->H0 b=none):iG K σ H0 H x v:=by
 cases x with
 |val d=>exact h
 |ref i=>exact h
 |new xs=>obtain⟨a,e,p,z⟩:=h;exact⟨a,e,p,d a z⟩
 |tmp xs=>obtain⟨a,e,p,z⟩:=h;exact⟨a,e,p,d a z⟩
section
def Ud{H1:Hp}(S:tM K W env r σ H Q)(N:Nx K env σ H δ H1):tM K W δ r σ H1 Q:=by
 obtain⟨_,h⟩:=S
 refine⟨N.gK,?_⟩
 cases r with
 |bad=>exact h
 |exc c ε=>exact fun H' N'=>h H' (N.trans N')
 |ok x ε=>exact fun v H' N' z=>h v H' (N.trans N') (z.weaken N.dom)
theorem aL{f:D->Ev->Out Rv}(h:tM K W env (r.ak f) σ H Q)
  (k:∀d δ v H1,Nx K env σ H δ H1->bj K H1 d v->tM K W δ (f d δ) σ H1 Q->R v H1):tD K W env r σ H R:=by
 have step:∀d δ,r.ak f=f d δ->∀v H1,Nx K env σ H δ H1->bj K H1 d v->R v H1:=fun d δ e v H1 N D=>by
  rw[e]at h
  exact k d δ v H1 N D (Ud h N)
 obtain⟨S,h⟩:=h
 refine⟨S,?_⟩
 cases r with
 |bad=>exact h
 |exc c δ=>exact h
 |ok x δ=>
  cases x with
  |val d=>exact fun v H1 N D=>step d δ rfl v H1 N D
  |new xs=>exact fun v H1 N D=>step xs.d δ rfl v H1 N D
  |ref i=>exact h
  |tmp xs=>exact h
theorem yV{f:Bool->Ev->Out Rv}(h:tM K W env (r.cT jq f) σ H Q)
  (k:∀b δ H1,Nx K env σ H δ H1->tM K W δ (f b δ) σ H1 Q->R b H1):tT K W env r σ H R:=by
 have step:∀d δ x,x.lw=some d->r=.ok x δ->∃b,jq d=some b/\∀H1,Nx K env σ H δ H1->R b H1:=fun d δ x ex er=>by
  subst er
  cases q:jq d with
  |none=>
   cases x with
   |val d'=>cases ex;simp only[Out.cT,Out.ak,q]at h;exact h.2.elim
   |new xs=>cases ex;simp only[Out.cT,Out.ak,q]at h;exact h.2.elim
   |ref i=>cases ex
   |tmp xs=>cases ex
  |some b=>
   refine⟨b,rfl,fun H1 N=>k b δ H1 N (Ud ?_ N)⟩
   cases x with
   |val d'=>cases ex;simp only[Out.cT,Out.ak,q]at h;exact h
   |new xs=>cases ex;simp only[Out.cT,Out.ak,q]at h;exact h
   |ref i=>cases ex
   |tmp xs=>cases ex
 refine⟨h.1,?_⟩
 cases r with
 |bad=>exact h.2
 |exc c δ=>exact h.2
 |ok x δ=>
  cases x with
  |val d=>obtain⟨b,e,q⟩:=step d δ _ rfl rfl;exact⟨d,b,rfl,e,q⟩
  |new xs=>obtain⟨b,e,q⟩:=step xs.d δ _ rfl rfl;exact⟨xs.d,b,rfl,e,q⟩
  |ref i=>exact h.2.elim
  |tmp xs=>exact h.2.elim
def cR(h:tM K W env (lift env o) σ H Q):∃z,o=some z/\Sat K env σ H/\∀v H',Nx K env σ H env H'->iG K σ H H' z v->Q v H':=by
 obtain⟨S,h⟩:=h
 cases o with
 |none=>exact h.elim
 |some z=>exact⟨z,rfl,S,h⟩
def fP{v:V}(h:tM K W env (.ok (.val d) env) σ H Q)(e:bj K H d v):Q v H:=h.2 v H (Nx.refl h.1) e
def Nx.laid{o:HO}(S:Sat K env σ H)(hp:H p=none):Nx K env σ H env (upd H p o):=by
 have ne:∀b u,H b=some u->b≠p:=fun b u q z=>by subst z;rw[hp]at q;cases q
 have pe:bR H (upd H p o):=⟨fun b xs q=>by rw[au (ne b _ q)];exact q,fun b o' u q=>by rw[au (ne b _ q)];exact q⟩
 refine⟨S.keep pe fun i b u _ q=>by rw[au (ne b _ q)];exact q,fun _ _ z=>z,pe,fun b vs q _=>by rw[au (ne b _ q)];exact q,fun b q=>?_,fun _ xs e=>⟨xs,e⟩⟩
 ·by_cases hb:b=p
  ·subst hb;exact hp
  ·rw[au hb]at q;exact q
end
def GE(X:Cx)(W:Wi)(c:Cf)(m:E)(e:Expr):Prop:=∀env,PE X e (tM X.K W env (ev c m env))
def aD(X:Cx)(W:Wi)(c:Cf)(m:E):TE:=fun σ H Q=>∃env,tD X.K W env (ev c m env) σ H Q
def aT(X:Cx)(W:Wi)(c:Cf)(m:E):TT:=fun σ H Q=>∃env,tT X.K W env (ev c m env) σ H Q
def GT(X:Cx)(W:Wi)(c:Cf)(m:E)(e:Expr):Prop:=PT X e (aT X W c m)
section
def GE.d(h:GE X W c m e):PE X e (aD X W c m):=fun γ s σ H Q I⟨env,q⟩=>K4 (h env) γ s σ H Q I q
theorem bj.jq{K:QQq}{H:Hp}{x:D}{v:V}{k:Bool}(h:bj K H x v)(e:jq x=some k):DW K v H k:=by
 cases x with
 |non=>cases h;simp[Mini.jq]at e;subst e;rfl
 |bl b=>cases h;simp[Mini.jq]at e;subst e;rfl
 |int i=>cases h;simp[Mini.jq]at e;subst e;rfl
 |str y=>simp[Mini.jq]at e
 |tup xs=>
  unfold bj at h
  obtain⟨p,vs,rfl,hq,l⟩:=h
  have e':(!xs.isEmpty)=k:=QDz e
  refine .inr (.inl ⟨vs,hq,?_⟩)
  have:=l.length
  rw[<-e']
  cases xs<;>cases vs<;>simp_all
 |lst xs=>
  unfold bj at h
  obtain⟨p,vs,rfl,hq,l⟩:=h
  have e':(!xs.isEmpty)=k:=QDz e
  refine .inl ⟨vs,hq.sq,?_⟩
  have:=l.length
  rw[<-e']
  cases xs<;>cases vs<;>simp_all
 |cP ks vs=>simp[Mini.jq]at e
def yX{env:Ev}{σ:St}{Q:Bool->Hp->Prop}(h:tT K W env r σ H Q):tD K W env r σ H (fun v H'=>∃k,DW K v H' k/\Q k H'):=by
 obtain⟨S,h⟩:=h
 refine⟨S,?_⟩
 cases r with
 |bad=>exact h
 |exc c δ=>exact h
 |ok x δ=>
  obtain⟨d,b,e1,e2,q⟩:=h
  cases x with
  |val d'=>cases e1;exact fun v H' N D=>⟨b,D.jq e2,q H' N⟩
  |new xs=>cases e1;exact fun v H' N D=>⟨b,D.jq e2,q H' N⟩
  |ref i=>cases e1
  |tmp xs=>cases e1
def GE.t(h:GE X W c m e)(he:∀whole,isTrue e X.env whole=(do let v<-whole;standAt e.pos;holding [v] (truthy v))):GT X W c m e:=
 PT.imp (n8 h.d he) fun σ H Q⟨env,q⟩=>⟨env,yX q⟩
noncomputable def HJ:D->Const->Bool
 |.non,.none=>true
 |.bl b,.bool b'=>b==b'
 |.int i,.int j=>i==j
 |.str x,.str y=>decide (x=y)
 |_,_=>false
def Ye{x:D}{k:Const}{i:Nat}(h:HJ x k=true):GE X W c (.con x) (.Constant k i pos):=by
 intro env
 cases x with
 |non=>cases k<;>first|exact PE.imp Cd (fun σ H Q q=>fP q rfl)|simp[HJ]at h
 |bl y=>cases k<;>first|(simp[HJ]at h;subst h;exact PE.imp aa6 (fun σ H Q q=>fP q rfl))|simp[HJ]at h
 |int y=>cases k<;>first|(simp[HJ]at h;subst h;exact PE.imp Cg (fun σ H Q q=>fP q rfl))|simp[HJ]at h
 |str y=>cases k<;>first|(simp[HJ]at h;subst h;exact PE.imp xF (fun σ H Q q=>fP q rfl))|simp[HJ]at h
 |tup _=>cases k<;>simp[HJ]at h
 |lst _=>cases k<;>simp[HJ]at h
 |cP _ _=>cases k<;>simp[HJ]at h
def cH{σ:St}{i:Nat}(h:(σ[i]?).join=some v):σ[i]? =some (some v):=by
 cases w:σ[i]? with
 |none=>rw[w]at h;cases h
 |some y=>rw[w]at h;simp at h;rw[h]
def Nx.give{env:Ev}{H:Hp}{q:Ob}{a:Addr}{u:HO}(S:Sat K env σ H)(e:env[i]? =some (.own q))(es:σ[i]? =some (some (.ref a)))
  (ha:H a=some u)(l:Jq K H q u):Nx K env σ H (env.set i (.val q.d)) (upd H a (.frz o u)):=by
 have p:=dO (o:=o) ha l.qj
 have oa:aK env σ i a:=⟨⟨_,q,e,rfl⟩,es⟩
 have hi:=(QCq.mp e).1
 have sub:∀j b,aK (env.set i (.val q.d)) σ j b->aK env σ j b/\j≠i:=fun j b z=>by
  obtain⟨⟨s,ys,e1,e2⟩,e3⟩:=z
  by_cases hj:i=j
  ·subst hj;rw[Qxz hi]at e1;cases e1;simp[isOwn]at e2
  ·rw[Qxq hj]at e1;exact⟨⟨⟨s,ys,e1,e2⟩,e3⟩,fun z=>hj z.symm⟩
 have ne:∀j b,aK env σ j b->j≠i->b≠a:=fun j b z hj q=>hj (S.ne j i a (q▸z) oa)
 refine⟨⟨by simpa using S.len,fun j s ej=>?_,fun j k b z w=>S.ne j k b (sub j b z).1 (sub k b w).1⟩,fun j b z=>(sub j b z).1,p,fun b ws q n=>?_,fun b q=>?_,fun j ys ej=>?_⟩
 ·by_cases hj:i=j
  ·subst hj
   rw[Qxz hi]at ej
   cases ej
   exact⟨.ref a,by rw[es];rfl,(l.mono p).den aB⟩
  ·rw[Qxq hj]at ej
   refine(S.sl j s ej).keep p fun b w ho ev hb=>?_
   rw[au (ne j b (xH ej ho ev) fun z=>hj z.symm)];exact hb
 ·rw[au (fun z=>by subst z;exact n i oa)];exact q
 ·by_cases hb:b=a
  ·subst hb;rw[aB]at q;cases q
  ·rw[au hb]at q;exact q
 ·by_cases hj:i=j
  ·subst hj;rw[e]at ej;cases ej
  ·exact⟨ys,by rw[Qxq hj];exact ej⟩
def XR{x:Str}(hN:X.N[i]? =some x)(hv:Jo X.env.scope x)(hd:(x==("__debug__":Str))=false)(hcd:(x==("__classdict__":Str))=false):GE X W c (.var i) (.Name x pos):=by
 intro env γ s σ H Q I q
 have B:=cZ (pos:=pos) hN hv hd hcd
 simp only[v_0,sH]at q
 cases e:env[i]? with
 |none=>rw[e]at q;exact q.2.elim
 |some sl=>
  rw[e]at q
  cases sl with
  |un=>exact q.2.elim
  |bor xs=>exact q.2.elim
  |val d=>
   obtain⟨v,e1,e2⟩:=q.1.sl i _ e
   exact B γ s σ H Q I ⟨v,cH e1,fP q e2⟩
  |own xs=>
   obtain⟨a,e1,w,e2,e3⟩:=q.1.sl i _ e
   refine cj (B γ s σ H (fun v H'=>v=.ref a/\H'=H) I ⟨.ref a,cH e1,rfl,rfl⟩) fun u s1⟨v,H1,I1,r1,k1,k2⟩=>?_
   subst k1 k2
   obtain⟨o,I2⟩:=Inv.freeze I1 e2 e3.qj
   exact⟨.ref a,_,I2,r1,q.2 _ _ (Nx.give q.1 e (cH e1) e2 e3) ((e3.mono (dO e2 e3.qj)).den aB)⟩
end
section
end
noncomputable def jZ(K:QQq)(σ:St)(H₀ H:Hp):List Rv->List V->Prop
 |[],vs=>vs=[]
 |x::xs,vs=>∃v r,vs=v::r/\iG K σ H₀ H x v/\jZ K σ H₀ H xs r
noncomputable def tMs(K:QQq)(W:Wi)(env:Ev)(r:Out (List Rv)):TA:=fun σ H Q=>Sat K env σ H/\match r with
 |.ok xs env'=>∀vs H',Nx K env σ H env' H'->jZ K σ H H' xs vs->Q vs H'
 |.exc c env'=>∀H',Nx K env σ H env' H'->W c env' σ H'
 |.bad=>False
noncomputable def tA(K:QQq)(W:Wi)(env:Ev)(r:Out Rv):TE:=fun σ H Q=>Sat K env σ H/\match r with
 |.ok x env'=>∀v H',Nx K env σ H env' H'->iG K σ H H' (argv x) v->Q v H'
 |.exc c env'=>∀H',Nx K env σ H env' H'->W c env' σ H'
 |.bad=>False
def GA(X:Cx)(W:Wi)(c:Cf)(m:E)(es:List Expr):Prop:=∀env,PA X es (tMs X.K W env (evs c m env))
def iG.on{env δ ε:Ev}{H H1 H2:Hp}{v:V}(S:Sat K env σ H)(N:Nx K env σ H δ H1)(N2:Nx K δ σ H1 ε H2)(h:iG K σ H H1 x v):iG K σ H H2 x v:=by
 have no:=fun a h0 i z=>S.pB h0 i (N.sub i a z)
 cases x with
 |val d=>exact bj.mono N2.pers h
 |ref i=>exact h
 |new xs=>obtain⟨a,e,⟨u,p,l⟩,z⟩:=h;exact⟨a,e,⟨u,N2.keep a u p (no a z),l.mono N2.pers⟩,z⟩
 |tmp xs=>obtain⟨a,e,⟨u,p,l⟩,z⟩:=h;exact⟨a,e,⟨u,N2.keep a u p (no a z),l.mono N2.pers⟩,z⟩
def oG{env:Ev}{H:Hp}{xs:List D}(S:Sat K env σ H)(l:ao K H xs vs)(hp:H p=none):iG K σ H (upd H p (.lst vs)) (.new (.lst xs)) (.ref p):=
 ⟨p,rfl,⟨_,aB,vs,rfl,l.mono (Nx.laid S hp).pers⟩,hp⟩
theorem jZ.weaken{K:QQq}{σ:St}{H0 H1 H:Hp}:∀{xs:List Rv}{vs:List V},jZ K σ H1 H xs vs->(∀b,H1 b=none->H0 b=none)->jZ K σ H0 H xs vs
 |[],_,h,_=>h
 |x::xs,vs,h,d=>by
  obtain⟨v,r,e,h1,h2⟩:=h
  exact⟨v,r,e,h1.weaken d,jZ.weaken h2 d⟩
section
def PA.imp(h:PA X es t)(i:∀σ H Q,t' σ H Q->t σ H Q):PA X es t':=fun p γ s σ H Q I q=>h p γ s σ H Q I (i σ H Q q)
def GE.ag(h:GE X W c m e)env:PE X e (tA X.K W env (ev c m env)):=by
 intro γ s σ H Q I q
 obtain⟨S,q⟩:=q
 cases r:ev c m env with
 |bad=>rw[r]at q;exact q.elim
 |exc k env'=>rw[r]at q;exact h env γ s σ H Q I ⟨S,by rw[r];exact q⟩
 |ok x env'=>
  rw[r]at q
  cases x with
  |new xs=>exact K4 (h env) γ s σ H Q I ⟨S,by rw[r];exact q⟩
  |val d=>exact h env γ s σ H Q I ⟨S,by rw[r];exact q⟩
  |ref i=>exact h env γ s σ H Q I ⟨S,by rw[r];exact q⟩
  |tmp xs=>exact h env γ s σ H Q I ⟨S,by rw[r];exact q⟩
def Ni:GA X W c .nil []:=fun env=>PA.imp bM fun σ H Q q=>by
 obtain⟨S,q⟩:=q
 exact q [] H (Nx.refl S) rfl
def Gj(h:GE X W c m1 e)(t:GA X W c m2 es)(hs:starEach (e::es) X.env=(false,eval e X.env)::starEach es X.env):GA X W c (.cons m1 m2) (e::es):=by
 intro env
 have B:PA X _ (aH (fun σ H Q=>∃env,tA X.K W env _ σ H Q) (fun σ H Q=>∃env,tMs X.K W env _ σ H Q)):=
  aC (fun γ s σ H Q I⟨env,q⟩=>h.ag env γ s σ H Q I q) (fun p γ s σ H Q I⟨env,q⟩=>t env p γ s σ H Q I q) hs
 refine PA.imp B fun σ H Q q=>?_
 obtain⟨S,q⟩:=q
 refine⟨env,S,?_⟩
 simp only[evs]at q
 cases r:ev c m1 env with
 |bad=>rw[r]at q;exact q.elim
 |exc k δ=>rw[r]at q;exact q
 |ok x δ=>
  rw[r]at q
  intro v H1 N1 k1
  refine⟨δ,N1.gK,?_⟩
  simp only[Out.bind]at q
  cases r2:evs c m2 δ with
  |bad=>rw[r2]at q;exact q.elim
  |exc k ε=>rw[r2]at q;exact fun H2 N2=>q H2 (N1.trans N2)
  |ok xs ε=>
   rw[r2]at q
   intro vs H2 N2 k2
   exact q _ H2 (N1.trans N2) ⟨v,vs,rfl,k1.on S N1 N2,k2.weaken N1.dom⟩
theorem jZ.ds{K:QQq}{σ:St}{H₀ H:Hp}:∀{xs:List Rv}{vs:List V}{ds:List D},jZ K σ H₀ H (xs.map argv) vs->aX xs=some ds->ao K H ds vs
 |[],vs,ds,h,e=>by
  simp[aX]at e
  subst e
  cases h
  exact ao.eX
 |x::xs,vs,ds,h,e=>by
  obtain⟨v,r,rfl,h1,h2⟩:=h
  cases x with
  |ref i=>simp[aX,Rv.lw]at e
  |tmp ys=>simp[aX,Rv.lw]at e
  |val d=>
   simp[aX,Rv.lw]at e
   obtain⟨ds',e1,e2⟩:=e
   subst e2
   exact ao.bA h1 (jZ.ds h2 e1)
  |new ys=>
   simp[aX,Rv.lw]at e
   obtain⟨ds',e1,e2⟩:=e
   subst e2
   exact ao.bA h1 (jZ.ds h2 e1)
def Nq:∀(m:E)(env:Ev){xs:List Rv}{env':Ev},evs c m env=.ok xs env'->xs.map argv=xs:=by
 have aa:∀x:Rv,argv (argv x)=argv x:=fun x=>by cases x<;>rfl
 intro m
 induction m with
 |nil=>intro env xs env' h;simp only[evs]at h;cases h;rfl
 |cons h t _ ih=>
  intro env xs env' q
  simp only[evs]at q
  cases r:ev c h env with
  |bad=>rw[r]at q;cases q
  |exc k e1=>rw[r]at q;cases q
  |ok x e1=>
   rw[r]at q
   simp only[Out.bind]at q
   cases r2:evs c t e1 with
   |bad=>rw[r2]at q;cases q
   |exc k e2=>rw[r2]at q;cases q
   |ok ys e2=>
    rw[r2]at q
    cases q
    rw[Qyq,aa,ih e1 r2]
 |_=>intro env xs env' h;simp only[evs]at h;cases h
def gw(h:fits n=true):n<=sizeLine:=by
 rw[sizeLine_eq]
 simpa[fits]using h
theorem yU{env:Ev}{H:Hp}{f:List D->Option Rv}
  (h:tM K W env ((evs c m env).bind fun rs σ=>lift σ ((aX rs).bind f)) σ H Q)
  (k:∀δ H1 ds vs z,Nx K env σ H δ H1->ao K H1 ds vs->f ds=some z->(∀v H',Nx K δ σ H1 δ H'->iG K σ H1 H' z v->Q v H')->R vs H1):tMs K W env (evs c m env) σ H R:=by
 obtain⟨S,q⟩:=h
 refine⟨S,?_⟩
 cases r:evs c m env with
 |bad=>rw[r]at q;exact q.elim
 |exc k δ=>rw[r]at q;exact q
 |ok xs δ=>
  rw[r]at q
  simp only[Out.bind]at q
  intro vs H1 N1 k1
  cases e:aX xs with
  |none=>rw[e]at q;exact q.elim
  |some ds=>
   rw[e]at q
   simp only[Option.bind]at q
   cases e2:f ds with
   |none=>rw[e2]at q;exact q.elim
   |some z=>
    rw[e2]at q
    have k2:=k1
    rw[<-Nq m env r]at k2
    exact k δ H1 ds vs z N1 (jZ.ds k2 e) e2 fun v H' N' w=>q v H' (N1.trans N') (w.weaken N1.dom)
def XS(h:GA X W c m es):GE X W c (.tup m) (.Tuple es k pos):=by
 intro env
 refine PE.imp (Ca (h env)) fun σ H Q q=>?_
 refine yU q fun δ H1 ds vs z N1 l e q=>?_
 split at e
 ·rename_i hf
  cases e
  refine⟨by rw[<-l.length];exact gw hf,fun p hp=>q _ _ (Nx.laid N1.gK hp) ?_⟩
  show bj _ _ _ _
  exact⟨p,vs,rfl,.inl (.inl aB),l.mono (Nx.laid N1.gK hp).pers⟩
 ·cases e
def X8(h:GA X W c m es):GE X W c (.lis m) (.List es pos):=by
 intro env
 refine PE.imp (Ce (h env)) fun σ H Q q=>?_
 refine yU q fun δ H1 ds vs z N1 l e q=>?_
 split at e
 ·rename_i hf
  cases e
  exact⟨by rw[<-l.length];exact gw hf,fun p hp=>q _ _ (Nx.laid N1.gK hp) (oG N1.gK l hp)⟩
 ·cases e
def Vd(X:Cx)(r:R2)(f:D->D->Option Rv):Prop:=
 ∀(env:Ev)(σ:St)(H:Hp)(x y:D)(z:Rv)(v u:V)(Q:VK),Sat X.K env σ H->bj X.K H x v->bj X.K H y u->f x y=some z->(∀w H',Nx X.K env σ H env H'->iG X.K σ H H' z w->Q w H')->r v u H Q
def Vd.bin{f:D->D->Option Rv}(R:Vd X r f)(h:PE X e (Ua r (aD X W c m1) (aD X W c m2))):
  ∀env,PE X e (tM X.K W env ((ev c m1 env).ak fun x σ=>(ev c m2 σ).ak fun y σ=>lift σ (f x y))):=fun env=>
 PE.imp h fun σ H Q q=>⟨env,aL q fun d δ v H1 N1 D1 q1=>⟨δ,aL q1 fun d2 ε v2 H2 N2 D2 q2=>by
  obtain⟨z,ez,S,q3⟩:=cR q2
  exact R ε σ H2 d d2 z v v2 Q S (D1.mono N2.pers) D2 ez q3⟩⟩
noncomputable def abf:YK->Operator
 |.add=>.Add
 |.sub=>.Sub
 |.mul=>.Mult
 |.mod=>.Mod
 |.fdiv=>.FloorDiv
 |.pow=>.Pow
noncomputable def Ut(K:QQq):R2:=fun x y H Q=>∃a b xs ys,x=.ref a/\y=.ref b/\j5 K H a xs/\j5 K H b ys/\xs.length+ys.length<=sizeLine/\
 (xs=[]->Q (.ref b) H)/\(xs≠[]->ys=[]->Q (.ref a) H)/\(xs≠[]->ys≠[]->∀p,H p=none->Q (.ref p) (upd H p (.tup (xs++ys))))
def Ro:gZ X (binaryOp .Add) (Ut X.K):=by
 intro γ s σ H x y v u Q I rx ry h
 obtain⟨a,b,xs,ys,rfl,rfl,ha,hb,hz,q0,q1,q2⟩:=h
 by_cases hx:xs=[]
 ·cases rx
  cases ry
  obtain⟨its,r1,p1,_⟩:=I.tuple ha
  obtain⟨its2,r2,p2,_⟩:=I.tuple hb
  obtain⟨⟨cls,dd,data,sl⟩,ho,hc,n,hd⟩:=id p1
  obtain⟨⟨cls2,dd2,data2,sl2⟩,ho2,hc2,n2,hd2⟩:=id p2
  subst hc hd hc2 hd2
  have e0:its.toArray.isEmpty=true:=by
   have:=r1.bQ.mpr hx
   rw[this];rfl
  exact concat_meets ⟨_,ho,rfl⟩ ⟨_,ho2,rfl⟩ noFill_tuple_add seq_tuple_add PySem.F.slot_tuple_add PySem.F.entry_tuple_add (PySem.F.args_tuple_add_2 _ _)
   (PyProof.Rows.tuple_addW0 a b its.toArray its2.toArray n n2 dd dd2 sl sl2 e0) ⟨ho,ho2,⟨.ref b,H,I,rfl,q0 hx⟩⟩
 ·exact Rm γ s σ H _ _ v u Q I rx ry ⟨a,b,xs,ys,rfl,rfl,ha,hb,hx,hz,q1 hx,q2 hx⟩
noncomputable def Us(K:QQq):R2:=fun x y H Q=>∃l b xs zs,x=.ref l/\y=.ref b/\lG K H l xs/\lG K H b zs/\xs.length+zs.length<=sizeLine/\∀p,H p=none->Q (.ref p) (upd H p (.lst (xs++zs)))
def Rn:gZ X (binaryOp .Add) (Us X.K):=by
 intro γ s σ H x y v u Q I rx ry h
 obtain⟨l,b,xs,zs,rfl,rfl,hH,hB,hz,q⟩:=h
 cases rx
 cases ry
 obtain⟨its,r1,pl,_⟩:=I.list hH
 obtain⟨its2,r2,pl2,_⟩:=I.list hB
 obtain⟨⟨cls,dd,data,sl⟩,n,ho,hc,_,hd⟩:=id pl
 obtain⟨⟨cls2,dd2,data2,sl2⟩,n2,ho2,hc2,_,hd2⟩:=id pl2
 subst hc hd hc2 hd2
 have hl:=r1.length
 have hl2:=r2.length
 have ea:its.toArray++its2.toArray=(its++its2).toArray:=by simp
 refine concat_meets ⟨_,ho,rfl⟩ ⟨_,ho2,rfl⟩ noFill_list_add seq_list_add F.slot_list_add F.entry_list_add (F.args_list_add_2 _ _) (PyProof.Rows.list_addW l b its.toArray its2.toArray n n2 dd dd2 sl sl2 (by rw[Qjz,Qjz];omega)) ⟨ho,ho2,?_⟩
 rw[ea]
 exact⟨.ref _,_,I.aeN (r1.append r2) (by rw[QTq];omega),rfl,q _ I.fresh⟩
def Uu(K:QQq):R2:=fun x y H Q=>KH (fun i j=>.int (i+j)) x y H Q\/Ut K x y H Q\/Us K x y H Q
def Rp:gZ X (binaryOp .Add) (Uu X.K):=W3.or (Ro.or Rn)
def cX{H:Hp}{v:V}(h:bj K H (.tup ds) v):∃a vs,v=.ref a/\j5 K H a vs/\ao K H ds vs:=by unfold bj at h;exact h
def dX{H:Hp}{v:V}(h:bj K H (.lst ds) v):∃a vs,v=.ref a/\Pa K H a vs/\ao K H ds vs:=by unfold bj at h;exact h
def fD{H:Hp}{a:Addr}(h:j5 K H a vs)(l:ao K H ds vs):bj K H (.tup ds) (.ref a):=by unfold bj;exact⟨a,vs,rfl,h,l⟩
def rW(h:small i=true): -(2 ^64)<i/\i<2 ^64:=by
 simp only[small,QUz]at h
 exact⟨by omega,by omega⟩
def QR:Vd X (Uu X.K) (binop .add):=by
 intro env σ H x y z v u Q S Dx Dy e q
 cases x with
 |int i=>
  cases y with
  |int j=>cases e;exact .inl ⟨i,j,Dx,Dy,q _ H (Nx.refl S) rfl⟩
  |_=>cases e
 |tup xs=>
  cases y with
  |tup ys=>
   unfold binop at e;dsimp only at e
   split at e
   ·rename_i hf
    cases e
    obtain⟨a,vs,rfl,ha,la⟩:=cX Dx
    obtain⟨b,ws,rfl,hb,lb⟩:=cX Dy
    refine .inr (.inl ⟨a,b,vs,ws,rfl,rfl,ha,hb,by rw[<-la.length,<-lb.length];exact gw hf,fun e0=>?_,fun _ e0=>?_,fun _ _ p hp=>?_⟩)
    ·subst e0
     have:xs=[]:=by have:=la.length;cases xs<;>simp_all
     subst this
     exact q _ H (Nx.refl S) (fD hb lb)
    ·subst e0
     have:ys=[]:=by have:=lb.length;cases ys<;>simp_all
     subst this
     exact q _ H (Nx.refl S) (by rw[List.append_nil];exact fD ha la)
    ·have N:=Nx.laid (o:=.tup (vs++ws)) S hp
     exact q _ _ N (fD (.inl (.inl aB)) ((la.append lb).mono N.pers))
   ·cases e
  |_=>cases e
 |lst xs=>
  cases y with
  |lst ys=>
   unfold binop at e;dsimp only at e
   split at e
   ·rename_i hf
    cases e
    obtain⟨a,vs,rfl,ha,la⟩:=dX Dx
    obtain⟨b,ws,rfl,hb,lb⟩:=dX Dy
    exact .inr (.inr ⟨a,b,vs,ws,rfl,rfl,ha.sq,hb.sq,by rw[<-la.length,<-lb.length];exact gw hf,fun p hp=>q _ _ (Nx.laid (o:=.lst (vs++ws)) S hp) (oG S (la.append lb) hp)⟩)
   ·cases e
  |_=>cases e
 |_=>cases y<;>cases e
def oX(ho:o≠ .add)(hm:o≠ .mul){z:Rv}(e:binop o x y=some z):(∃i,x=.int i)/\∃j,y=.int j:=by
 cases x with
 |int i=>exact⟨⟨i,rfl⟩,by cases y with
  |int j=>exact⟨j,rfl⟩
  |_=>cases o<;>cases e⟩
 |tup _=>cases o<;>first|exact absurd rfl ho|exact absurd rfl hm|cases e
 |lst _=>cases o<;>first|exact absurd rfl ho|cases e
 |_=>cases o<;>cases e
def QF:Vd X (KH fun i j=>.int (i-j)) (binop .sub):=by
 intro env σ H x y z v u Q S Dx Dy e q
 obtain⟨⟨i,rfl⟩,j,rfl⟩:=oX (by intro h;cases h) (by intro h;cases h) e
 cases e
 exact⟨_,_,Dx,Dy,q _ H (Nx.refl S) rfl⟩
def Uq(K:QQq):R2:=fun x y H Q=>rI Tt (fun i j=>.int (i*j)) x y H Q
def Rj:gZ X (binaryOp .Mult) (Uq X.K):=WT
def QH:Vd X (Uq X.K) (binop .mul):=by
 intro env σ H x y z v u Q S Dx Dy e q
 cases x with
 |int i=>
  cases y with
  |int j=>
   unfold binop at e;dsimp only at e
   split at e
   ·rename_i hs
    cases e
    simp only[Bool.or_eq_true]at hs
    exact⟨i,j,Dx,Dy,hs.imp rW rW,q _ H (Nx.refl S) rfl⟩
   ·cases e
  |_=>cases e
 |_=>cases y<;>cases e
def QJ:Vd X (rI (fun _ j=>0<j) fun i j=>.int (i%j)) (binop .mod):=by
 intro env σ H x y z v u Q S Dx Dy e q
 obtain⟨⟨i,rfl⟩,j,rfl⟩:=oX (by intro h;cases h) (by intro h;cases h) e
 unfold binop at e;dsimp only at e
 split at e
 ·rename_i hs
  cases e
  exact⟨i,j,Dx,Dy,hs,q _ H (Nx.refl S) rfl⟩
 ·cases e
def Kq:Vd X (rI acv fun i j=>.int (i/j)) (binop .fdiv):=by
 intro env σ H x y z v u Q S Dx Dy e q
 obtain⟨⟨i,rfl⟩,j,rfl⟩:=oX (by intro h;cases h) (by intro h;cases h) e
 unfold binop at e;dsimp only at e
 split at e
 ·rename_i hs
  cases e
  exact⟨i,j,Dx,Dy,hs,q _ H (Nx.refl S) rfl⟩
 ·cases e
def QG:Vd X (rI acu fun i j=>.int (i ^j.toNat)) (binop .pow):=by
 intro env σ H x y z v u Q S Dx Dy e q
 obtain⟨⟨i,rfl⟩,j,rfl⟩:=oX (by intro h;cases h) (by intro h;cases h) e
 unfold binop at e;dsimp only at e
 split at e
 ·rename_i hs
  cases e
  have h1:=rW hs.2.2
  exact⟨i,j,Dx,Dy,⟨hs.1,by omega,by omega⟩,q _ H (Nx.refl S) rfl⟩
 ·cases e
def abP(ha:GE X W c m1 a)(hb:GE X W c m2 b):GE X W c (.op o m1 m2) (.BinOp a (abf o) b pos):=by
 intro env
 cases o with
 |add=>exact QR.bin (vK Rp ha.d hb.d) env
 |sub=>exact QF.bin (vK WP ha.d hb.d) env
 |mul=>exact QH.bin (vK Rj ha.d hb.d) env
 |mod=>exact QJ.bin (vK WW ha.d hb.d) env
 |fdiv=>exact Kq.bin (vK Rk ha.d hb.d) env
 |pow=>exact QG.bin (vK WQ ha.d hb.d) env
def X7(ha:GE X W c m1 a):GE X W c (.neg m1) (.UnaryOp .USub a pos):=by
 intro env
 refine PE.imp (aa3 VG ha.d) fun σ H Q q=>?_
 refine⟨env,aL q fun d δ v H1 N1 D1 q1=>?_⟩
 obtain⟨z,ez,S,q3⟩:=cR q1
 cases d<;>first
  |(cases ez;done)
  |(cases ez;exact⟨_,D1,q3 _ H1 (Nx.refl S) rfl⟩)
end
mutual
def py:D->PyData
 |.non=>.none
 |.bl b=>.bool b
 |.int i=>.int i
 |.str x=>.str x
 |.tup xs=>.tuple (Av xs)
 |.lst xs=>.list (Av xs)
 |.cP _ _=>.none
def Av:List D->List PyData
 |[]=>[]
 |x::xs=>py x::Av xs
end
mutual
theorem yf:∀a b:D,nd a=true->nd b=true->PyData.eqv (py a) (py b)=fZ a b
 |.cP _ _,_=>fun h _=>by simp[nd]at h
 |.non,.cP _ _=>fun _ h=>by simp[nd]at h
 |.bl _,.cP _ _=>fun _ h=>by simp[nd]at h
 |.int _,.cP _ _=>fun _ h=>by simp[nd]at h
 |.str _,.cP _ _=>fun _ h=>by simp[nd]at h
 |.tup _,.cP _ _=>fun _ h=>by simp[nd]at h
 |.lst _,.cP _ _=>fun _ h=>by simp[nd]at h
 |.tup xs,.tup ys=>fun h h'=>by simp only[py,PyData.eqv,fZ];exact ye xs ys (by simpa[nd]using h) (by simpa[nd]using h')
 |.lst xs,.lst ys=>fun h h'=>by simp only[py,PyData.eqv,fZ];exact ye xs ys (by simpa[nd]using h) (by simpa[nd]using h')
 |.non,.non=>fun _ _=>rfl
 |.non,.bl _=>fun _ _=>rfl
 |.non,.int _=>fun _ _=>rfl
 |.non,.str _=>fun _ _=>rfl
 |.non,.tup _=>fun _ _=>rfl
 |.non,.lst _=>fun _ _=>rfl
 |.bl _,.non=>fun _ _=>rfl
 |.bl _,.bl _=>fun _ _=>rfl
 |.bl a,.int j=>fun _ _=>rfl
 |.bl _,.str _=>fun _ _=>rfl
 |.bl _,.tup _=>fun _ _=>rfl
 |.bl _,.lst _=>fun _ _=>rfl
 |.int _,.non=>fun _ _=>rfl
 |.int i,.bl b=>fun _ _=>rfl
 |.int _,.int _=>fun _ _=>rfl
 |.int _,.str _=>fun _ _=>rfl
 |.int _,.tup _=>fun _ _=>rfl
 |.int _,.lst _=>fun _ _=>rfl
 |.str _,.non=>fun _ _=>rfl
 |.str _,.bl _=>fun _ _=>rfl
 |.str _,.int _=>fun _ _=>rfl
 |.str x,.str y=>fun _ _=>by simp only[py,PyData.eqv,fZ];rw[Bool.beq_eq_decide_eq]
 |.str _,.tup _=>fun _ _=>rfl
 |.str _,.lst _=>fun _ _=>rfl
 |.tup _,.non=>fun _ _=>rfl
 |.tup _,.bl _=>fun _ _=>rfl
 |.tup _,.int _=>fun _ _=>rfl
 |.tup _,.str _=>fun _ _=>rfl
 |.tup _,.lst _=>fun _ _=>rfl
 |.lst _,.non=>fun _ _=>rfl
 |.lst _,.bl _=>fun _ _=>rfl
 |.lst _,.int _=>fun _ _=>rfl
 |.lst _,.str _=>fun _ _=>rfl
 |.lst _,.tup _=>fun _ _=>rfl
theorem ye:∀xs ys:List D,o4 xs=true->o4 ys=true->PyData.eqvAll (Av xs) (Av ys)=Aa xs ys
 |[],[]=>fun _ _=>rfl
 |[],_::_=>fun _ _=>rfl
 |_::_,[]=>fun _ _=>rfl
 |x::xs,y::ys=>fun h h'=>by
  simp only[o4,QUq]at h h'
  simp only[Av,PyData.eqvAll,Aa]
  rw[yf x y h.1 h'.1,ye xs ys h.2 h'.2]
end
def J0(h:sOk x=true):PyData.strOk x=true:=by
 unfold sOk at h
 unfold PyData.strOk
 rw[Array.all_eq_true]at h⊢
 intro i hi
 have:=h i hi
 simp only[QUz]at this⊢
 omega
mutual
theorem jM:∀a:D,nd a=true->(py a).canLay0=true
 |.non=>fun _=>rfl
 |.bl _=>fun _=>rfl
 |.int _=>fun _=>rfl
 |.str x=>fun h=>J0 h
 |.tup xs=>fun h=>by simp only[py,PyData.canLay0];exact jL xs (by simpa[nd]using h)
 |.lst xs=>fun h=>by simp only[py,PyData.canLay0];exact jL xs (by simpa[nd]using h)
 |.cP _ _=>fun h=>by simp[nd]at h
theorem jL:∀xs:List D,o4 xs=true->PyData.canLayAll0 (Av xs)=true
 |[]=>fun _=>rfl
 |x::xs=>fun h=>by
  simp only[o4,QUq]at h
  simp only[Av,PyData.canLayAll0,QUq]
  exact⟨jM x h.1,jL xs h.2⟩
end
mutual
theorem ym:∀a:D,nd a=true->(py a).depth=dep a
 |.non=>fun _=>rfl
 |.bl _=>fun _=>rfl
 |.int _=>fun _=>rfl
 |.str _=>fun _=>rfl
 |.tup xs=>fun h=>by simp only[py,PyData.depth,dep];rw[yj xs (by simpa[nd]using h)]
 |.lst xs=>fun h=>by simp only[py,PyData.depth,dep];rw[yj xs (by simpa[nd]using h)]
 |.cP _ _=>fun h=>by simp[nd]at h
theorem yj:∀xs:List D,o4 xs=true->PyData.depthAll (Av xs)=qO xs
 |[]=>fun _=>rfl
 |x::xs=>fun h=>by
  simp only[o4,QUq]at h
  simp only[Av,PyData.depthAll,qO]
  rw[ym x h.1,yj xs h.2]
end
def eY(K:QQq)(H:Hp)(d:D)(v:V):Prop:=bj K H d v\/∃q a,d=Ob.d q/\v=.ref a/\jo K H q a
section
mutual
theorem bj.reads(I:Inv X γ σ H s):∀{d:D}{v:V}{u:Value},nd d=true->bj X.K H d v->RelV v u->∃as,Reads s.heap u (py d) as
 |.non,v,u,_,h,r=>by cases h;cases r;exact⟨_,.none⟩
 |.bl b,v,u,_,h,r=>by cases h;cases r;exact⟨_,.bool b⟩
 |.int i,v,u,_,h,r=>by cases h;obtain⟨t,rfl⟩:=r;exact⟨_,.int i t⟩
 |.str x,v,u,_,h,r=>by cases h;obtain⟨t,rfl⟩:=r;exact⟨_,.str x t⟩
 |.tup ds,v,u,hn,h,r=>by
  obtain⟨a,vs,rfl,hq,l⟩:=cX h
  cases r
  obtain⟨its,rv,⟨o,e,c,n,dt⟩,_⟩:=I.tuple hq
  obtain⟨as,q⟩:=ao.reads I (by simpa[nd]using hn) l rv
  exact⟨as,by rw[py];exact .tuple e c dt (by simpa using q)⟩
 |.lst ds,v,u,hn,h,r=>by
  obtain⟨a,vs,rfl,hq,l⟩:=dX h
  cases r
  obtain⟨its,rv,⟨o,n,e,c,_,dt⟩,_⟩:=I.list hq.sq
  obtain⟨as,q⟩:=ao.reads I (by simpa[nd]using hn) l rv
  exact⟨a::as,by rw[py];exact .list e c dt (by simpa using q)⟩
 |.cP _ _,_,_,h,_,_=>by simp[nd]at h
theorem ao.reads(I:Inv X γ σ H s):∀{ds:List D}{vs:List V}{us:List Value},o4 ds=true->ao X.K H ds vs->Vals vs us->∃as,ReadsAll s.heap us (Av ds) as
 |[],vs,us,_,h,r=>by rw[ao.bQ.mp h]at r;cases r;exact⟨_,.nil⟩
 |d::ds,vs,us,hn,h,r=>by
  obtain⟨v,rs,rfl,h1,h2⟩:=ao.aZ.mp h
  simp only[o4,QUq]at hn
  cases r with
  |cons r1 r2=>
   obtain⟨as,q1⟩:=bj.reads I hn.1 h1 r1
   obtain⟨bs,q2⟩:=ao.reads I hn.2 h2 r2
   exact⟨as++bs,.cons q1 q2⟩
end
theorem eY.reads(I:Inv X γ σ H s){d:D}{v:V}{u:Value}(hn:nd d=true)(h:eY X.K H d v)(r:RelV v u):∃as,Reads s.heap u (py d) as:=by
 rcases h with h|⟨q,a,rfl,rfl,u',ha,hq⟩
 ·exact bj.reads I hn h r
 ·cases r
  cases q with
  |dct ks ds=>simp[Ob.d,nd]at hn
  |lst ds=>
  obtain⟨vs,rfl,l⟩:=hq
  obtain⟨its,rv,⟨o,n,e,c,_,dt⟩,_⟩:=I.list (.inl (.inl ha))
  obtain⟨as,q⟩:=ao.reads I (by simpa[Ob.d,nd]using hn) l rv
  exact⟨a::as,by rw[Ob.d,py];exact .list e c dt (by simpa using q)⟩
end
section
theorem eY.flat{H:Hp}{v:V}(h:eY K H x v)(f:flat x=true):bj K H x v:=by
 rcases h with h|⟨q,a,rfl,_⟩
 ·exact h
 ·cases q<;>simp[Ob.d,Mini.flat]at f
def Gk(f:flat x=true)(hs:∀y,x≠ .str y):nd x=true/\dep x=0:=by
 cases x<;>simp_all[flat,nd,dep]
noncomputable def aeG(K:QQq):R2:=fun x y H Q=>∃p q,eY K H p x/\eY K H q y/\qN p q=true/\Q (.bl (fZ p q)) H
noncomputable def aeC(K:QQq):R2:=fun x y H Q=>∃p q,eY K H p x/\eY K H q y/\qN p q=true/\Q (.bl (!fZ p q)) H
def Gn{H:Hp}{x y:V}(Dp:bj K H p x)(Dq:bj K H q y)(fp:flat p=true)(fq:flat q=true)(hs:(∃z,p=.str z)\/∃z,q=.str z):QB x y=true/\decide (x=y)=fZ p q:=by
 cases p<;>cases q<;>simp_all[flat]<;>(cases Dp;cases Dq;unfold QB fZ;simp)
def Gm{p q:D}(hu:u+60<cLine)(hp:nd p=true)(hq:nd q=true)(hd:dep p<=50):u+min (py p).depth (py q).depth<cLine:=by
 rw[ym p hp,ym q hq]
 omega
def um(h:qN p q=true):(nd p=true/\nd q=true/\dep p<=50)\/(flat p=true/\flat q=true/\((∃z,p=.str z)\/∃z,q=.str z)):=by
 simp only[qN,Bool.or_eq_true,QUq,QUz]at h
 rcases h with ⟨h1,h2⟩|⟨⟨h1,h2⟩,h3⟩
 ·by_cases hs:(∃z,p=.str z)\/∃z,q=.str z
  ·exact .inr ⟨h1,h2,hs⟩
  ·have k1:=Gk h1 (fun y e=>hs (.inl ⟨y,e⟩))
   exact .inl ⟨k1.1,(Gk h2 (fun y e=>hs (.inr ⟨y,e⟩))).1,by omega⟩
 ·exact .inl ⟨h1,h3,h2⟩
def W2(hu:X.A.units+60<cLine):gZ X (compareOp .Eq) (aeG X.K):=by
 intro γ s σ H x y v u Q I rx ry h
 obtain⟨p,q,Dp,Dq,ok,k⟩:=h
 rcases um ok with ⟨h1,h2,h3⟩|⟨h1,h2,h3⟩
 ·obtain⟨as,ra⟩:=Dp.reads I h1 rx
  obtain⟨bs,rb⟩:=Dq.reads I h2 ry
  exact SeqAt.compareEq_reads ra rb (jM p h1) (jM q h2) (Gm hu h1 h2 h3) (by rw[yf p q h1 h2];exact⟨.bl _,H,I,rfl,k⟩)
 ·obtain⟨e1,e2⟩:=Gn (Dp.flat h1) (Dq.flat h2) h1 h2 h3
  exact abe γ s σ H x y v u Q I rx ry ⟨e1,by rw[e2];exact k⟩
def WR(hu:X.A.units+60<cLine):gZ X (compareOp .NotEq) (aeC X.K):=by
 intro γ s σ H x y v u Q I rx ry h
 obtain⟨p,q,Dp,Dq,ok,k⟩:=h
 rcases um ok with ⟨h1,h2,h3⟩|⟨h1,h2,h3⟩
 ·obtain⟨as,ra⟩:=Dp.reads I h1 rx
  obtain⟨bs,rb⟩:=Dq.reads I h2 ry
  exact SeqAt.compareNe_reads ra rb (jM p h1) (jM q h2) (Gm hu h1 h2 h3) (by rw[yf p q h1 h2];exact⟨.bl _,H,I,rfl,k⟩)
 ·obtain⟨e1,e2⟩:=Gn (Dp.flat h1) (Dq.flat h2) h1 h2 h3
  exact aa8 γ s σ H x y v u Q I rx ry ⟨e1,by rw[e2];exact k⟩
theorem uc{K:QQq}{H:Hp}{p:D}{x:V}(Dp:bj K H p x)(fp:flat p=true):∀{ds:List D}{vs:List V},ao K H ds vs->ds.all flat=true->vs.all jk=true/\inV x vs=cC p ds
 |[],vs,h,_=>by rw[ao.bQ.mp h];exact⟨rfl,rfl⟩
 |d::ds,vs,h,f=>by
  obtain⟨v,r,rfl,h1,h2⟩:=ao.aZ.mp h
  rw[List.all_cons,QUq]at f
  obtain⟨k1,k2⟩:=uc Dp fp h2 f.2
  have fv:jk v=true/\Jt v x=fZ d p:=by
   obtain⟨f1,_⟩:=f
   cases d<;>cases p<;>simp_all[flat]<;>(cases h1;cases Dp;first|exact⟨rfl,rfl⟩|(refine⟨rfl,?_⟩;simp[Jt,fZ];try (rw[Bool.beq_eq_decide_eq])))
  refine⟨by rw[List.all_cons,fv.1,k1];rfl,?_⟩
  unfold inV at k2⊢
  rw[List.any_cons,fv.2,k2]
  rfl
theorem uD(hp:nd p=true):∀{ds:List D},o4 ds=true->((Av ds).any fun y=>PyData.eqv y (py p))=cC p ds
 |[]=>fun _=>rfl
 |d::ds=>fun h=>by
  simp only[o4,QUq]at h
  rw[Av,List.any_cons,yf d p h.1 hp,uD hp h.2]
  rfl
def O6(K:QQq)(H:Hp)(xs:List D)(y:V):Prop:=∃a vs,y=.ref a/\(lG K H a vs\/j5 K H a vs)/\ao K H xs vs
noncomputable def aaZ(K:QQq)(neg:Bool):R2:=fun x y H Q=>∃p xs,bj K H p x/\O6 K H xs y/\j4 p xs=true/\Q (.bl (if neg then !cC p xs else cC p xs)) H
def qX{p:D}(hu:u+60<cLine)(hp:nd p=true)(hd:dep p<=50):u+1+min (PyData.depthAll (Av xs)) (py p).depth<cLine:=by
 rw[ym p hp]
 omega
theorem O6.reads{s:Shared}{σ:St}{H:Hp}{y:V}(I:Inv X γ σ H s)(h:O6 X.K H xs y)(hn:o4 xs=true)(r:RelV y u):
  ∃as,Reads s.heap u (.list (Av xs)) as\/Reads s.heap u (.tuple (Av xs)) as:=by
 obtain⟨a,vs,rfl,hq,l⟩:=h
 cases r
 rcases hq with hq|hq
 ·obtain⟨its,rv,⟨o,n,e,c,_,dt⟩,_⟩:=I.list hq
  obtain⟨as,q⟩:=ao.reads I hn l rv
  exact⟨a::as,.inl (.list e c dt (by simpa using q))⟩
 ·obtain⟨its,rv,⟨o,e,c,n,dt⟩,_⟩:=I.tuple hq
  obtain⟨as,q⟩:=ao.reads I hn l rv
  exact⟨as,.inr (.tuple e c dt (by simpa using q))⟩
def WY(hu:X.A.units+60<cLine):gZ X (compareOp .In) (aaZ X.K false):=by
 intro γ s σ H x y v u Q I rx ry h
 obtain⟨p,xs,Dp,hS,ok,k⟩:=h
 simp only[j4,Bool.or_eq_true,QUq,QUz]at ok
 rcases ok with ⟨h1,h2⟩|⟨⟨h1,h2⟩,h3⟩
 ·obtain⟨a,vs,rfl,hq,l⟩:=hS
  obtain⟨k1,k2⟩:=uc Dp h1 l h2
  exact HH γ s σ H x _ v u Q I rx ry ⟨a,vs,rfl,hq,(by cases p<;>simp_all[flat]<;>(cases Dp;rfl)),k1,by simpa[k2]using k⟩
 ·obtain⟨bs,rb⟩:=bj.reads I h1 Dp rx
  obtain⟨as,ra|ra⟩:=hS.reads I h3 ry
  ·exact SeqAt.in_list_reads ra rb (jL xs h3) (jM p h1) (qX hu h1 h2) (by rw[uD h1 h3];exact⟨.bl _,H,I,rfl,k⟩)
  ·exact SeqAt.in_tuple_reads ra rb (jL xs h3) (jM p h1) (qX hu h1 h2) (by rw[uD h1 h3];exact⟨.bl _,H,I,rfl,k⟩)
def HD(hu:X.A.units+60<cLine):gZ X (compareOp .NotIn) (aaZ X.K true):=by
 intro γ s σ H x y v u Q I rx ry h
 obtain⟨p,xs,Dp,hS,ok,k⟩:=h
 simp only[j4,Bool.or_eq_true,QUq,QUz]at ok
 rcases ok with ⟨h1,h2⟩|⟨⟨h1,h2⟩,h3⟩
 ·obtain⟨a,vs,rfl,hq,l⟩:=hS
  obtain⟨k1,k2⟩:=uc Dp h1 l h2
  exact xJ γ s σ H x _ v u Q I rx ry ⟨a,vs,rfl,hq,(by cases p<;>simp_all[flat]<;>(cases Dp;rfl)),k1,by simpa[k2]using k⟩
 ·obtain⟨bs,rb⟩:=bj.reads I h1 Dp rx
  obtain⟨as,ra|ra⟩:=hS.reads I h3 ry
  ·exact SeqAt.notIn_list_reads ra rb (jL xs h3) (jM p h1) (qX hu h1 h2) (by rw[uD h1 h3];exact⟨.bl _,H,I,rfl,k⟩)
  ·exact SeqAt.notIn_tuple_reads ra rb (jL xs h3) (jM p h1) (qX hu h1 h2) (by rw[uD h1 h3];exact⟨.bl _,H,I,rfl,k⟩)
end
structure Gives(K:QQq)(J:It)(xs:List D)(H:Hp):Prop where
 go:∀H1,bR H H1->∀(i:Nat)d,xs[i]? =some d->J.go i H1
 yld:∀H1,bR H H1->∀(i:Nat)d,xs[i]? =some d->∀x H2,J.yld i H1 x H2->bj K H2 d x/\(H2=H1\/∃p vs,H1 p=none/\H2=upd H1 p (.tup vs))
 stop:∀H1,bR H H1->∀(i:Nat),xs.length<=i->J.stop i H1
 len:xs.length<=sizeLine
noncomputable def tI(K:QQq)(W:Wi)(env:Ev)(r:Out Rv):TI:=fun σ H R=>Sat K env σ H/\match r with
 |.ok x env'=>∃d xs,x.lw=some d/\items d=some xs/\∀J H',Nx K env σ H env' H'->Gives K J xs H'->R J H'
 |.exc c env'=>∀H',Nx K env σ H env' H'->W c env' σ H'
 |.bad=>False
def GI(X:Cx)(W:Wi)(c:Cf)(m:E)(tg e:Expr):Prop:=∀env,PI X tg e (tI X.K W env (ev c m env))
section
theorem yq{ifs:List Expr}{pos:Pos}{env:Env}(I:Nat->Shared->Prop)
  (turn:∀n s,I n s->wpAny (model prog w) A (pyNext it) (fun r θ=>match r with
   |none=>R (.ok .next) θ
   |some v=>wpAny (model prog w) A (letOwnedTupleGo target it v) (fun _ s₁'=>wpAny (model prog w) A (assign target env v) (fun _ Δ=>
     wpAny (model prog w) A (forIn ifs true fun c r=>if r=true then do let ok<-isTrue c env (eval c env);pure (ForInStep.yield ok)else pure (ForInStep.yield r)) (fun ok s₃=>
      if ok=true then wpAny (model prog w) A (eval elt env) (fun x s₄=>
       wpAny (model prog w) A (call (.builtin "list.append") [acc,x]) (fun _ s₅=>∃m,m<n/\I m s₅) (fun _ _=>False) s₄) (fun _ _=>False) s₃
      else∃m,m<n/\I m s₃) (fun _ _=>False) Δ) (fun _ _=>False) s₁') (fun _ _=>False) θ) (fun _ _=>False) s)
  n(h:I n s):
  codeAny (model prog w) A (.compLoop (.ListComp elt [⟨target,iter,ifs,0⟩] scope pos) 0 it acc env) R s:=by
 refine codeAny_loop rfl I (fun n s hI=>?_) n h
 refine wpAny_noted ?_
 refine QTz (wpAny_standAt (QTz (QKz (turn n s hI) (fun r θ Θ=>?_) fun _ _ h'=>h'.elim)))
 cases r with
 |none=>exact QKq Θ
 |some v=>
  refine QTz (QKz Θ (fun _ s₁' h₁'=>?_) fun _ _ h'=>h'.elim)
  refine QTz (QKz h₁' (fun _ Δ Ψ=>QTz (QKz Ψ (fun ok s₃ h₃=>?_) fun _ _ h'=>h'.elim)) fun _ _ h'=>h'.elim)
  cases ok with
  |false=>exact QKq ⟨rfl,h₃⟩
  |true=>
   exact QTz (QTz (QKz h₃ (fun x s₄ h₄=>QTz (QKz h₄ (fun _ s₅ h₅=>QKq (QKq ⟨rfl,h₅⟩)) fun _ _ h'=>h'.elim)) fun _ _ h'=>h'.elim))
end
noncomputable def blk(X:Cx)(scope:Scope)(cl:List (Str×Addr))(N:List Str)(fp:List Addr)(s₀:Shared)(H₀:Hp):Cx where
 prog:=X.prog
 w:=X.w
 K:=X.K
 mg:=X.mg
 base:=X.base
 A:=X.A
 N:=N
 s₀:=s₀
 H₀:=H₀
 env:=compEnvC scope cl s₀.heap.objs.size X.env
 outer:=X.stack
 stack:=X.stack
 ex:=fp
 fn:=fun _=>false
 calm:=X.calm
 pn:=[]
 xe:=fun _ _=>False
def cB(η N:List Str):List Str:=η++N.map fun x=>if η.contains x then(".":Str)++x else x
structure Jp(sc inner:Scope)(η N:List Str):Prop where
 kind:inner.kind=.function
 nd:(cB η N).Nodup
 loc:∀x,inner.names.lookup x=some .local->x∈η\/x=(".0":Str)
 locs:∀x∈inner.names,x.2=.local->inner.names.lookup x.1=some .local
 tg:∀x∈η,inner.names.lookup x=some .local
 nocell:∀x∈inner.names,x.2≠ .cell
 fre:∀x∈inner.names,x.2=.free->sc.names.lookup x.1=some .cell\/sc.names.lookup x.1=some .free
 dot:∀x∈N,η.contains x=true->inner.names.lookup ((".":Str)++x)=none
 dot0:(".0":Str)∉N
structure Pj(scope:Scope)(env:Env)(cl:List (Str×Addr)):Prop where
 eq:closureFor scope env=pure cl
 to:∀x c,cl.lookup x=some c->env.cells.lookup x=some c
 has:∀x,scope.names.lookup x=some .free->∃c,cl.lookup x=some c
theorem bV{env:Env}:∀{names:List (Str×NameKind)}{x:Str}{k:NameKind},
  (names.map fun(n,k)=>if (k==NameKind.free&&env.scope.kind== .function&&env.kindOf n==some .cell)then(n,NameKind.cell)else(n,k)).lookup x=some k->
   names.lookup x=some k\/(k=.cell/\names.lookup x=some .free)
 |[],_,_,h=>by simp at h
 |(n,k')::r,x,k,h=>by
  rw[Qyq]at h
  cases hx:x==n with
  |true=>
   by_cases hc:(k'==NameKind.free&&env.scope.kind== .function&&env.kindOf n==some .cell)=true
   ·simp only[hc,if_true,QFz,hx]at h
    cases h
    simp only[QUq,beq_iff_eq]at hc
    exact .inr ⟨rfl,by simp[QFz,hx,hc.1.1]⟩
   ·simp only[eq_false_of_ne_true hc,Qyz,if_false,QFz,hx]at h
    exact .inl (by simpa[QFz,hx]using h)
  |false=>
   have h':(r.map fun(n,k)=>if (k==NameKind.free&&env.scope.kind== .function&&env.kindOf n==some .cell)then(n,NameKind.cell)else(n,k)).lookup x=some k:=by
    by_cases hc:(k'==NameKind.free&&env.scope.kind== .function&&env.kindOf n==some .cell)=true
    ·simpa only[hc,if_true,QFz,hx]using h
    ·simpa only[eq_false_of_ne_true hc,Qyz,if_false,QFz,hx]using h
   rcases (@bV env r x k) h' with q|⟨q1,q2⟩
   ·exact .inl (by simpa[QFz,hx]using q)
   ·exact .inr ⟨q1,by simpa[QFz,hx]using q2⟩
theorem Oj{scope:Scope}{η:List Str}{fp:List Addr}{σ:St}
  (I:Inv X γ σ H s)(sc:Jp X.env.scope scope η X.N)(co:Pj scope X.env cl)(hf:∀b∈fp,eE X γ H b)(hlt:∀b∈fp,b<s.heap.objs.size):
  (blk X scope cl (cB η X.N) fp s H).Ok where
 mod:=I.ok.mod
 kind:=sc.kind
 glob:=I.ok.glob
 blt:=I.ok.blt
 above:=QVz _
 inj:=fun x y c h1 h2=>I.ok.inj x y c (co.to x c h1) (co.to y c h2)
 has:=fun x h=>by
  have z:scope.names.lookup x=some .free:=by
   rcases h with h|h
   ·rcases bV h with q|⟨_,q⟩
    ·exact absurd rfl (sc.nocell _ (PySem.mem_of_lookup q))
    ·exact q
   ·rcases bV h with q|⟨q,_⟩
    ·exact q
    ·cases q
  exact co.has x z
 cab:=fun x c h=>by cases h
 hd:=I.ok.hd
 frames:=I.ok.frames
 stk:=.inl rfl
 exf:=fun b hb=>⟨Qvq (hlt b hb),fun x c h=>(hf b hb).2.2.2.2.1 x c (co.to x c h)⟩
 bs:=I.bs
 bsz:=Nat.le_trans I.ok.bsz I.sz
 noex:=fun b o e hb=>by
  rcases (hf b hb).2.2.2.1 with z|z
  ·exact I.ok.noex b o e z
  ·exact absurd (Qwz (Qqq e) (Nat.le_trans I.ok.bsz z)) (Nat.lt_irrefl _)
 exfs:=fun b hb hs=>by
  obtain⟨_,h1,h2,_⟩:=hf b hb
  rcases QBz.mp (I.Bo b hs)with z|z
  ·exact h1 z
  ·exact h2 z
 mJ:=I.stack
 frf:=I.El
theorem S6{scope:Scope}{η:List Str}{fp:List Addr}{σ:St}{H:Hp}{h':Heap}
  (I:Inv X γ σ H s)(sc:Jp X.env.scope scope η X.N)(co:Pj scope X.env cl)(hf:∀b∈fp,eE X γ H b)(hlt:∀b∈fp,b<s.heap.objs.size)
  (hn:h'.Ns s.heap.objs.size fun _=>none)(hk:∀b o,s.heap.get? b=some o->h'.get? b=some o):
  Inv (blk X scope cl (cB η X.N) fp s H) [] (List.replicate η.length none++σ) H {s with heap:=h',toks:=t}:=by
 have cellK:∀c v,s.heap.IsCell c v->h'.IsCell c v:=fun c v⟨o,e,d⟩=>⟨o,hk c o e,d⟩
 refine⟨Oj I sc co hf hlt,rfl,I.bare,Un.kept hk,⟨_,hn,fun i x v e1 e2 e3=>?_⟩,fun x c e=>?_,I.hok.fresh (QVz _),fun x c e=>I.freeC x c (co.to x c e),fun p hp=>absurd (show p∈([])from hp) (by simp),I.hok.kept hk,?_⟩
 ·--an outer name that is seen within
  have hi:η.length<=i:=by
   refine Nat.le_of_not_lt fun q=>?_
   rw[Qwq (by simpa using q),List.getElem?_replicate]at e2
   split at e2<;>cases e2
  rw[QHz (by simpa using hi)]at e2
  simp only[List.length_replicate]at e2
  have e1':(cB η X.N)[i]? =some x:=e1
  unfold cB at e1'
  rw[QHz hi,QEz]at e1'
  cases ey:X.N[i-η.length]? with
  |none=>rw[ey]at e1';cases e1'
  |some y=>
   rw[ey]at e1'
   have e1'':(if η.contains y=true then(".")++y else y)=x:=QDz e1'
   have e3':=e3
   by_cases hy:η.contains y=true
   ·rw[if_pos hy]at e1''
    subst e1''
    have no:=sc.dot y (QBq ey) hy
    rcases e3' with q|q|q
    ·rcases bV q with z|⟨z,_⟩
     ·rw[no]at z;cases z
     ·cases z
    ·rcases bV q with z|⟨_,z⟩
     ·rw[no]at z;cases z
     ·rw[no]at z;cases z
    ·rcases bV q with z|⟨z,_⟩
     ·rw[no]at z;cases z
     ·cases z
   ·rw[if_neg hy]at e1''
    subst e1''
    have fr:scope.names.lookup y=some .free:=by
     rcases e3' with q|q|q
     ·rcases bV q with z|⟨z,_⟩
      ·rcases sc.loc y z with w|w
       ·exact absurd (by simpa using w) hy
       ·exact absurd (w▸QBq ey) sc.dot0
      ·cases z
     ·rcases bV q with z|⟨_,z⟩
      ·exact absurd rfl (sc.nocell _ (PySem.mem_of_lookup z))
      ·exact z
     ·rcases bV q with z|⟨z,_⟩
      ·exact z
      ·cases z
    have ou:=sc.fre _ (PySem.mem_of_lookup fr) rfl
    obtain⟨m,hm,hl⟩:=I.loc
    obtain⟨u,r,l⟩:=hl _ y v ey e2 (.inr ou)
    obtain⟨c,hc⟩:=co.has y fr
    refine⟨u,r,.inr ⟨?_,c,hc,?_⟩⟩
    ·have z:=e3'
     rcases z with z|z|z
     ·rcases bV z with w|⟨w,_⟩
      ·rw[fr]at w;cases w
      ·cases w
     ·exact .inl z
     ·exact .inr z
    ·rcases l with ⟨k,_⟩|⟨_,c',hc',z⟩
     ·have k':X.env.scope.names.lookup y=some .local:=k
      rcases ou with w|w
      ·rw[k']at w;cases w
      ·rw[k']at w;cases w
     ·rw[co.to y c hc]at hc'
      cases hc'
      exact cellK c _ z
 ·obtain⟨v,z⟩:=I.cell x c (co.to x c e)
  exact⟨v,cellK c v z⟩
 ·show(List.replicate η.length none++σ).length=(cB η X.N).length
  unfold cB
  simp only[QTq,List.length_replicate,Qvz,I.len]
def slots:Tg->List Nat
 |.name i=>[i]
 |.tup is=>is
structure jY(K:QQq)(tg:Tg)(env:Ev)(σ:St)(env':Ev)(ζ:St)(H:Hp):Prop where
 gK:Sat K env' ζ H
 same:∀(i:Nat),i∉slots tg->env'[i]? =env[i]? /\ζ[i]? =σ[i]?
 vals:∀(i:Nat),i∈slots tg->∃d,env'[i]? =some (.val d)
 bors:∀(i:Nat)xs,env[i]? =some (.bor xs)->i∉slots tg
 len:ζ.length=σ.length
noncomputable def tG(K:QQq)(tg:Tg):TG:=fun v σ H Q=>∃env d env',Sat K env σ H/\bj K H d v/\cY tg d env=some env'/\∀ζ,jY K tg env σ env' ζ H->Q ζ H
def GG(X:Cx)(tg:Tg)(e:Expr):Prop:=PG X e (tG X.K tg)
section
def jY.sub(h:jY K tg env σ env' ζ H){a:Addr}(o:aK env' ζ i a):aK env σ i a:=by
 obtain⟨⟨s,xs,e1,e2⟩,e3⟩:=o
 by_cases hi:i∈slots tg
 ·obtain⟨d,e⟩:=h.vals i hi
  rw[e]at e1;cases e1;cases e2
 ·obtain⟨q1,q2⟩:=h.same i hi
  exact⟨⟨s,xs,by rw[<-q1];exact e1,e2⟩,by rw[<-q2];exact e3⟩
def sE{s:Sl}(h:eG i s env=some env'):env'=env.set i s/\i<env.length/\∀xs,env[i]? ≠some (.bor xs):=by
 unfold eG at h
 cases e:env[i]? with
 |none=>rw[e]at h;cases h
 |some t=>
  rw[e]at h
  have hi:=(QCq.mp e).1
  cases t with
  |bor xs=>cases h
  |un=>cases h;exact⟨rfl,hi,fun xs q=>by cases q⟩
  |val d=>cases h;exact⟨rfl,hi,fun xs q=>by cases q⟩
  |own ys=>cases h;exact⟨rfl,hi,fun xs q=>by cases q⟩
def Sat.put{d:D}(S:Sat K env σ H)(hi:i<env.length)(hd:bj K H d v):Sat K (env.set i (.val d)) (σ.set i (some v)) H:=by
 have own:∀j a,aK (env.set i (.val d)) (σ.set i (some v)) j a->aK env σ j a:=fun j a⟨⟨s,xs,e1,e2⟩,e3⟩=>by
  by_cases hj:i=j
  ·subst hj;rw[Qxz hi]at e1;cases e1;cases e2
  ·rw[Qxq hj]at e1 e3;exact⟨⟨s,xs,e1,e2⟩,e3⟩
 refine⟨by simpa using S.len,fun j s e=>?_,fun j k a h1 h2=>S.ne j k a (own j a h1) (own k a h2)⟩
 by_cases hj:i=j
 ·subst hj
  rw[Qxz hi]at e
  cases e
  rw[Qxz (by rw[<-S.len];exact hi)]
  exact⟨v,rfl,hd⟩
 ·rw[Qxq hj]at e⊢
  exact S.sl j s e
def Qu{d:D}(S:Sat K env σ H)(hd:bj K H d v)(h:eG i (.val d) env=some env'):jY K (.name i) env σ env' (σ.set i (some v)) H:=by
 obtain⟨rfl,hi,hb⟩:=sE h
 refine⟨S.put hi hd,fun j hj=>?_,fun j hj=>?_,fun j xs e hj=>?_,by simp⟩
 ·have:i≠j:=fun z=>hj (by simp[slots,z])
  exact⟨Qxq this,Qxq this⟩
 ·have e:j=i:=by simpa[slots]using hj
  subst e
  exact⟨d,Qxz hi⟩
 ·have e':j=i:=by simpa[slots]using hj
  subst e'
  exact hb xs e
end
section
def xZ{x:Str}(hN:X.N.Nodup)(hi:X.N[i]? =some x)(hx:Loc X.env.scope x)(hf:X.fn x=true\/X.env.scope.names.lookup x=some .local):GG X (.name i) (.Name x pos):=by
 intro γ s σ H v u Q I r q
 obtain⟨env,d,env',S,hd,e,k⟩:=q
 exact Q7 hN hi hx hf γ s σ H v u Q I r (k _ (Qu S hd e))
noncomputable def iI(sc:Scope)(N:List Str):List Nat->List Expr->Bool
 |[],[]=>true
 |i::is,.Name x _::es=>(N[i]? ==some x)&&(sc.names.lookup x==some .local)&&iI sc N is es
 |_,_=>false
inductive uF(X:Cx):List Nat->List Expr->Prop
 |nil:uF X [] []
 |cons {i:Nat} {is:List Nat} {x:Str} {p:Pos} {es:List Expr}:X.N[i]? =some x->Loc X.env.scope x->(X.fn x=true\/X.env.scope.names.lookup x=some .local)->uF X is es->uF X (i::is) (.Name x p::es)
theorem Li:∀{is:List Nat}{es:List Expr},iI X.env.scope X.N is es=true->uF X is es
 |[],[]=>fun _=>.nil
 |[],_::_=>fun h=>by simp[iI]at h
 |_::_,[]=>fun h=>by simp[iI]at h
 |i::is,e::es=>fun h=>by
  cases e with
  |Name x p=>
   simp only[iI,QUq,beq_iff_eq]at h
   exact .cons h.1.1 (.inl h.1.2) (.inr h.1.2) (Li h.2)
  |_=>simp[iI]at h
theorem zY(hN:X.N.Nodup):∀(is:List Nat)(es:List Expr),uF X is es->
  PGs X es (fun vs σ H Q=>∃env ds env',Sat X.K env σ H/\ao X.K H ds vs/\ig is ds env=some env'/\∀ζ,jY X.K (.tup is) env σ env' ζ H->Q ζ H)
 |[],[],_=>fun γ s σ H vs us Q I r⟨env,ds,env',S,l,e,k⟩=>by
  cases ds with
  |nil=>
   cases e
   refine Q6 γ s σ H vs us Q I r ⟨ao.bQ.mp l,k σ ⟨S,fun i _=>⟨rfl,rfl⟩,fun i hi=>?_,fun i xs _=>?_,rfl⟩⟩
   ·simp[slots]at hi
   ·simp[slots]
  |cons d ds=>cases e
 |i::is,_,.cons (x:=x) (p:=p) (es:=es) h1 h2 h3 h4=>by
   intro γ s σ H vs us Q I r q
   refine K3 (xZ hN h1 h2 h3) (zY hN is es h4) (by rfl) γ s σ H vs us Q I r ?_
   obtain⟨env,ds,env',S,l,e,k⟩:=q
   cases ds with
   |nil=>cases e
   |cons d ds=>
    obtain⟨v,vr,rfl,hd,l'⟩:=ao.aZ.mp l
    have e':(eG i _ env).bind _=some env':=e
    cases e1:eG i _ env with
    |none=>rw[e1]at e';cases e'
    |some δ=>
     rw[e1]at e'
     refine⟨v,vr,rfl,env,d,δ,S,hd,e1,fun ξ s1=>⟨δ,ds,env',s1.gK,l',e',fun υ s2=>k υ ⟨s2.gK,fun j hj=>?_,fun j hj=>?_,fun j xs q hj=>?_,s2.len.trans s1.len⟩⟩⟩
     ·have h1:j∉slots (.name i):=fun z=>hj (by simp[slots]at z⊢;exact .inl z)
      have h2:=fun z=>hj (by simp[slots]at z⊢;exact .inr z)
      exact⟨(s2.same j h2).1.trans (s1.same j h1).1,(s2.same j h2).2.trans (s1.same j h1).2⟩
     ·by_cases h2:j∈slots (.tup is)
      ·exact s2.vals j h2
      ·obtain⟨d',q⟩:=s1.vals j (by simp[slots]at hj h2⊢;exact hj.resolve_right h2)
       exact⟨d',(s2.same j h2).1.trans q⟩
     ·by_cases h1:j∈slots (.name i)
      ·exact s1.bors j xs q h1
      ·exact s2.bors j xs ((s1.same j h1).1.trans q) (by simp[slots]at hj h1⊢;exact hj.resolve_left h1)
def CT{is:List Nat}{k:Nat}(hN:X.N.Nodup)(hc:X.calm=true)(h:uF X is es)(hl:(assignEach es X.env).length=is.length)(hst:(assignEach es X.env).findIdx? (·.1)=none):GG X (.tup is) (.Tuple es k pos):=by
 intro γ s σ H v u Q I r q
 obtain⟨env,d,env',S,hd,e,k⟩:=q
 cases d with
 |tup ds=>
  obtain⟨a,vs,rfl,hq,l⟩:=cX hd
  refine Wy hc (zY hN is es h) hl hst γ s σ H _ u Q I r ⟨a,vs,rfl,hq,?_,env,ds,env',S,l,e,k⟩
  have lens:∀is ds env env',ig is ds env=some env'->ds.length=is.length:=by
   intro is
   induction is with
   |nil=>intro ds env env' e;cases ds with|nil=>rfl|cons _ _=>cases e
   |cons i is ih=>
    intro ds env env' e
    cases ds with
    |nil=>cases e
    |cons d ds=>
     have e':(eG i _ env).bind _=some env':=e
     cases e1:eG i _ env with
     |none=>rw[e1]at e';cases e'
     |some δ=>rw[e1]at e';simp[ih ds δ env' e']
  rw[<-l.length]
  exact lens is ds env env' e
 |_=>cases e
end
def W0:Wi:=fun _ _ _ _=>False
def Sat.lay{env:Ev}{H H2:Hp}(S:Sat K env σ H)(h:H2=H\/∃p vs,H p=none/\H2=upd H p (.tup vs)):Nx K env σ H env H2:=by
 rcases h with rfl|⟨p,vs,hp,rfl⟩
 ·exact Nx.refl S
 ·exact Nx.laid S hp
def sZ{σ:St}{a:Addr}:aK (env.drop nl) (σ.drop nl) i a↔aK env σ (nl+i) a:=by
 unfold aK
 rw[List.getElem?_drop,List.getElem?_drop]
theorem Sat.drop{env:Ev}{H:Hp}(S:Sat K env σ H):Sat K (env.drop nl) (σ.drop nl) H:=by
 refine⟨by rw[List.length_drop,List.length_drop,S.len],fun i s e=>?_,fun i j a h1 h2=>?_⟩
 ·rw[List.getElem?_drop]at e⊢
  exact S.sl _ s e
 ·have:=S.ne _ _ a (sZ.mp h1) (sZ.mp h2)
  omega
def je{σ:St}{i:Nat}(h:aK (List.replicate nl .un++env) (List.replicate nl none++σ) i a):∃j,i=nl+j/\aK env σ j a:=by
 obtain⟨⟨s,xs,e1,e2⟩,e3⟩:=h
 by_cases hi:i<nl
 ·rw[Qwq (by simpa using hi),List.getElem?_replicate,if_pos hi]at e1
  cases e1;cases e2
 ·refine⟨i-nl,by omega,?_⟩
  rw[QHz (by simp;omega)]at e1 e3
  simp only[List.length_replicate]at e1 e3
  exact⟨⟨s,xs,e1,e2⟩,e3⟩
def Sat.front{env:Ev}{H:Hp}(S:Sat K env σ H)nl:Sat K (List.replicate nl .un++env) (List.replicate nl none++σ) H:=by
 refine⟨by simp[S.len],fun i s e=>?_,fun i j a h1 h2=>?_⟩
 ·by_cases hi:i<nl
  ·rw[Qwq (by simpa using hi),List.getElem?_replicate,if_pos hi]at e
   cases e;trivial
  ·rw[QHz (by simp;omega)]at e⊢
   simp only[List.length_replicate]at e⊢
   exact S.sl _ s e
 ·obtain⟨i',rfl,o1⟩:=je h1
  obtain⟨j',rfl,o2⟩:=je h2
  rw[S.ne i' j' a o1 o2]
structure Aq(X:Cx)(c:Cf)(scope:Scope)(η:List Str)(tg:Tg)(cond elt:E)(tgE Φ:Expr)(ifs:List Expr):Prop where
 sc:Jp X.env.scope scope η X.N
 small:∀i∈slots tg,i<η.length
 tgt:∀cl fp s₀ H₀,(blk X scope cl (cB η X.N) fp s₀ H₀).Ok->GG (blk X scope cl (cB η X.N) fp s₀ H₀) tg tgE
 tests:(ifs=[]/\cond=.con (.bl true))\/∃ce,ifs=[ce]/\∀cl fp s₀ H₀,(blk X scope cl (cB η X.N) fp s₀ H₀).Ok->GT (blk X scope cl (cB η X.N) fp s₀ H₀) W0 c cond ce
 elts:∀cl fp s₀ H₀,(blk X scope cl (cB η X.N) fp s₀ H₀).Ok->GE (blk X scope cl (cB η X.N) fp s₀ H₀) W0 c elt Φ
structure LI(X:Cx)(c:Cf)(tg:Tg)(cond elt:E)(xs ys:List D)(τ env0:Ev)(σ σ0:St)(H3:Hp)(D:Addr)(nl i:Nat)(acc:List Mini.D)(vs:List V)(τ1:Ev)(ξ:St)(H1:Hp):Prop where
 le:i<=xs.length
 go:aP tg (ev c cond) (ev c elt) (xs.drop i) acc τ1=.ok ys τ
 gK:Sat X.K τ1 ξ H1
 out:ξ.drop nl=σ
 acl:acc.length<=i
 cur:H1 D=some (.lst vs)
 den:ao X.K H1 acc vs
 sub:∀k a,aK τ1 ξ k a->aK env0 σ0 k a
 pers:bR H3 H1
 keep:∀b u,H3 b=some u->b≠D->(∀k,¬aK env0 σ0 k b)->H1 b=some u
 dom:∀b,H1 b=none->H3 b=none
 bors:∀(k:Nat)ws,env0[k]? =some (.bor ws)->∃ws',τ1[k]? =some (.bor ws')
section
variable{cond elt:E}{D:Addr}
def LI.no(L:LI X c tg cond elt xs ys τ env0 σ σ0 H3 D nl i acc vs τ1 ξ H1)(hD:∀k,¬aK env0 σ0 k D):∀k,¬aK τ1 ξ k D:=fun k z=>hD k (L.sub k D z)
end
structure Ch(K:QQq)(env:Ev)(σ:St)(H:Hp)(env':Ev)(ζ:St)(H':Hp):Prop where
 gK:Sat K env' ζ H'
 sub:∀(i:Nat)a,aK env' ζ i a->aK env σ i a
 pers:bR H H'
 keep:∀b u,H b=some u->(∀i,¬aK env σ i b)->H' b=some u
 dom:∀b,H' b=none->H b=none
 bors:∀(i:Nat)xs,env[i]? =some (.bor xs)->∃ys,env'[i]? =some (.bor ys)
section
def Nx.ch(N:Nx K env σ H δ H1):Ch K env σ H δ σ H1:=⟨N.gK,N.sub,N.pers,N.keep,N.dom,N.bors⟩
def jY.ch(h:jY K tg env σ δ ξ H):Ch K env σ H δ ξ H:=⟨h.gK,fun _ _ z=>h.sub z,bR.refl H,fun _ _ z _=>z,fun _ z=>z,fun i xs e=>⟨xs,(h.same i (h.bors i xs e)).1.trans e⟩⟩
theorem Ch.trans(a:Ch K env σ H δ ξ H1)(b:Ch K δ ξ H1 ε υ H2):Ch K env σ H ε υ H2:=
 ⟨b.gK,fun i c z=>a.sub i c (b.sub i c z),a.pers.trans b.pers,fun c vs z n=>b.keep c vs (a.keep c vs z n) fun i w=>n i (a.sub i c w),fun c z=>a.dom c (b.dom c z),fun i xs e=>let ⟨ys,e1⟩:=a.bors i xs e;b.bors i ys e1⟩
end
def jY.out{tg:Tg}{σ ξ:St}{nl:Nat}(h:jY K tg env σ δ ξ H)(hs:∀i∈slots tg,i<nl):ξ.drop nl=σ.drop nl:=by
 apply List.ext_getElem?
 intro i
 rw[List.getElem?_drop,List.getElem?_drop]
 exact(h.same _ fun z=>by have:=hs _ z;omega).2
section
variable{cond elt:E}{D:Addr}
theorem LI.skip(L:LI X c tg cond elt xs ys τ env0 σ σ0 H3 D nl i acc vs τ1 ξ H1)(hD:∀k,¬aK env0 σ0 k D)(C:Ch X.K τ1 ξ H1 τ2 υ H2)(hi:i<xs.length)(ho:υ.drop nl=σ)
  (go:aP tg (ev c cond) (ev c elt) (xs.drop (i+1)) acc τ2=.ok ys τ):LI X c tg cond elt xs ys τ env0 σ σ0 H3 D nl (i+1) acc vs τ2 υ H2 where
 le:=hi
 go:=go
 gK:=C.gK
 out:=ho
 acl:=Nat.le_succ_of_le L.acl
 cur:=C.keep D _ L.cur (L.no hD)
 den:=L.den.mono C.pers
 sub:=fun k a z=>L.sub k a (C.sub k a z)
 pers:=L.pers.trans C.pers
 keep:=fun b ws z n1 n2=>C.keep b ws (L.keep b ws z n1 n2) fun k o=>n2 k (L.sub k b o)
 dom:=fun b z=>L.dom b (C.dom b z)
 bors:=fun k ws e=>let ⟨w1,e1⟩:=L.bors k ws e;C.bors k w1 e1
def LI.push{v:V}(L:LI X c tg cond elt xs ys τ env0 σ σ0 H3 D nl i acc vs τ1 ξ H1)(hD:∀k,¬aK env0 σ0 k D)(C:Ch X.K τ1 ξ H1 τ2 υ H2)(hi:i<xs.length)(ho:υ.drop nl=σ)
  (go:aP tg (ev c cond) (ev c elt) (xs.drop (i+1)) (acc++[d]) τ2=.ok ys τ)(hd:bj X.K H2 d v):LI X c tg cond elt xs ys τ env0 σ σ0 H3 D nl (i+1) (acc++[d]) (vs++[v]) τ2 υ (upd H2 D (.lst (vs++[v]))):=by
 have cur:=C.keep D _ L.cur (L.no hD)
 have ne:∀b u,H2 b=some u->(∀ws,u≠ .lst ws)->b≠D:=fun b u q n z=>by subst z;rw[cur]at q;cases q;exact n vs rfl
 have p:bR H2 (upd H2 D (.lst (vs++[v]))):=⟨fun b ws q=>by rw[au (ne b _ q (by intro ws z;cases z))];exact q,fun b o u q=>by rw[au (ne b _ q (by intro ws z;cases z))];exact q⟩
 have no2:=fun k z=>L.no hD k (C.sub k D z)
 refine⟨hi,go,C.gK.keep p fun k b u ow hb=>?_,ho,by rw[QTq];exact Nat.succ_le_succ L.acl,aB,((L.den.mono C.pers).append (ao.bA hd ao.eX)).mono p,fun k a z=>L.sub k a (C.sub k a z),
  (L.pers.trans C.pers).trans p,fun b ws z n1 n2=>?_,fun b z=>L.dom b (C.dom b ?_),fun k ws e=>let ⟨w1,e1⟩:=L.bors k ws e;C.bors k w1 e1⟩
 ·rw[au (fun z=>by subst z;exact no2 k ow)];exact hb
 ·rw[au n1]
  exact C.keep b ws (L.keep b ws z n1 n2) fun k o=>n2 k (L.sub k b o)
 ·by_cases hb:b=D
  ·subst hb;rw[aB]at z;cases z
  ·rw[au hb]at z;exact z
end
def wB{α:Type}{xs:List α}{d:α}(h:xs[i]? =some d):xs.drop i=d::xs.drop (i+1):=by
 obtain⟨hi,e⟩:=QCq.mp h
 rw[List.drop_eq_getElem_cons hi,e]
def wF{X:Cx}{c:Cf}{scope:Scope}{η:List Str}{tg:Tg}{cond elt:E}{tgE ο Φ:Expr}{ifs:List Expr}{pos:Pos}{cl:List (Str×Addr)}
  {γ:QQz}{σ:St}{H:Hp}{s:Shared}{env τ:Ev}{J:It}{fp:List Addr}{it:Addr}{tn:Nat->Heap->Prop}{xs ys:List D}{RR:Value->Addr->Result->Shared->Prop}{E:QZq}
  (B:Aq X c scope η tg cond elt tgE Φ ifs)(hc:X.calm=true)(co:Pj scope X.env cl)
  (I:Inv X γ σ H s)(S:Sat X.K env σ H)(T:Turn X.prog X.w X.K tgE J fp it tn)(t0:tn 0 s.heap)(hf:∀b∈fp,eE X γ H b)(G:Gives X.K J xs H)
  (hgo:aP tg (ev c cond) (ev c elt) xs [] (List.replicate η.length .un++env)=.ok ys τ)
  (hRR:∀(D C:Addr)(s':Shared)(H':Hp)(vs:List V)(m:QZz),Inv X γ σ H' s'->Nx X.K env σ H (τ.drop η.length) H'->H' D=some (.lst vs)->ao X.K H' ys vs->H D=none->
   s'.heap.Ns C m->eE X γ H' C->RR (.ref D) C (.ok .next) s'):
  wpAny (model X.prog X.w) X.A (newList []) (fun acc s₃=>wpAny (model X.prog X.w) X.A (newFunctionEnv scope X.env.globals cl [] X.env.qual none .none (some X.env)) (fun cenv s₄=>
   codeAny (model X.prog X.w) X.A (.compStart (.ListComp Φ [⟨tgE,ο,ifs,0⟩] scope pos) 0 (.ref it) acc {cenv with scope:=relabel scope X.env}) (RR acc cenv.locals) s₄) E s₃) E s:=by
 have hlt:∀b∈fp,b<s.heap.objs.size:=fun b hb=>by
  obtain⟨o,e,_⟩:=T.obj 0 _ t0 b hb
  exact Qqq e
 refine Qzz (wpAny_newFunctionEnv B.sc.nocell (by intro y hy;simp at hy) (fun Θ hns₁ hsb₁=>?_) B.sc.kind)
 dsimp only at hns₁ hsb₁⊢
 generalize hDd:s.heap.objs.size=D at*
 have hDn:H D=none:=by rw[<-hDd];exact I.hok.fresh (QVz _)
 have I3:Inv X γ σ (upd H D (.lst [])) {s with heap:=s.heap.push {cls:=.type "list",dict:=none,data:=.seq ([]:List Value).toArray}}:=by
  have:=I.laid (a:=s.heap.objs.size) (o:=.lst []) (t':=s.toks) (h':=s.heap.push {cls:=.type "list",dict:=none,data:=.seq ([]:List Value).toArray}) (fun b o e=>QWq _ e) (QVz _) ⟨QHq _,[],0,.nil,Qqz _ rfl⟩
  rw[hDd]at this
  exact this
 obtain⟨s3,hs3⟩:∃s3:Shared,s3={s with heap:=s.heap.push {cls:=.type "list",dict:=none,data:=.seq ([]:List Value).toArray}}:=⟨_,rfl⟩
 rw[<-hs3]at I3
 have hs3h:s.heap.push {cls:=.type "list",dict:=none,data:=.seq ([]:List Value).toArray}=s3.heap:=by rw[hs3]
 rw[hs3h]at hns₁ hsb₁⊢
 have hsz:s3.heap.objs.size=D+1:=by rw[<-hs3h,Heap.size_push,hDd]
 have hk3:∀b o,s3.heap.get? b=some o->Θ.get? b=some o:=fun b o e=>hsb₁.extBut b o (Qvq (Qqq e)) (QWq _ e)
 have hk:∀b o,s.heap.get? b=some o->s3.heap.get? b=some o:=fun b o e=>by rw[<-hs3h];exact QWq _ e
 have hf3:∀b∈fp,eE X γ (upd H D (.lst [])) b:=fun b hb=>⟨by
  rw[au (Qvq (hlt b hb))];exact(hf b hb).1,(hf b hb).2⟩
 have hlt3:∀b∈fp,b<s3.heap.objs.size:=fun b hb=>Qwz (hlt b hb) (by rw[hsz];exact Nat.le_succ _)
 have N3:Nx X.K env σ H env (upd H D (.lst [])):=Nx.laid S hDn
 generalize hH3:upd H D (.lst [])=H3 at I3 hf3 N3
 have hD3:H3 D=some (.lst []):=by rw[<-hH3];exact aB
 have noD:∀k,¬aK (List.replicate η.length .un++env) (List.replicate η.length none++σ) k D:=fun k z=>by
  obtain⟨j,_,o⟩:=je z
  obtain⟨_,_,q,_⟩:=S.own o
  rw[hDn]at q;cases q
 have ok':(blk X scope cl (cB η X.N) fp s3 H3).Ok:=Oj I3 B.sc co hf3 hlt3
 have hns':Θ.Ns s3.heap.objs.size fun _=>none:=by simpa using hns₁
 have fpk:∀{H1:Hp},(∀b∈fp,H1 b=none)->∀b∈fp,eE (blk X scope cl (cB η X.N) fp s3 H3) [] H1 b:=fun{H1}hn b hb=>
  ⟨hn b hb,(ok'.exf b hb).1,ok'.exfs b hb,.inl hb,fun x q e=>(ok'.exf b hb).2 x q e,fun p hp=>absurd (show p∈([]:QQz)from hp) (by simp)⟩
 have loop:∀s4:Shared,s4={s with heap:=Θ,toks:=s.toks+([]:List (Str×Value)).length}->
   codeAny (model X.prog X.w) X.A (.compLoop (.ListComp Φ [⟨tgE,ο,ifs,0⟩] scope pos) 0 (.ref it) (.ref D) (compEnvC scope cl s3.heap.objs.size X.env)) (RR (.ref D) s3.heap.objs.size) s4:=by
  rintro s4 rfl
  have I4:Inv (blk X scope cl (cB η X.N) fp s3 H3) [] (List.replicate η.length none++σ) H3 {s with heap:=Θ,toks:=s.toks+([]:List (Str×Value)).length}:=by
   have:=S6 (t:=s.toks+([]:List (Str×Value)).length) I3 B.sc co hf3 hlt3 hns' hk3
   rw[hs3]at this⊢
   exact this
  refine yq (fun n s'=>∃i acc vs τ1 ξ H1,n=xs.length-i/\Inv (blk X scope cl (cB η X.N) fp s3 H3) [] ξ H1 s'/\tn i s'.heap/\(∀b∈fp,H1 b=none)/\
   LI X c tg cond elt xs ys τ (List.replicate η.length .un++env) σ (List.replicate η.length none++σ) H3 D η.length i acc vs τ1 ξ H1) ?_ xs.length ?_
  ·rintro n s1 ⟨i,acc,vs,τ1,ξ,H1,rfl,I1,t1,f1,L⟩
   by_cases hi:i<xs.length
   ·--one more turn
    obtain⟨d,hd⟩:∃d,xs[i]? =some d:=⟨xs[i],by simp[hi]⟩
    have q0:=L.go
    rw[wB hd,aP]at q0
    cases hset:cY tg d τ1 with
    |none=>rw[hset]at q0;cases q0
    |some τ2=>
     rw[hset]at q0
     simp only at q0
     have p1:bR H H1:=N3.pers.trans L.pers
     refine cj (T.item (blk X scope cl (cB η X.N) fp s3 H3) rfl rfl rfl hc i [] s1 ξ H1 _ I1 (fpk f1) t1 (G.go H1 p1 i d hd)) fun r s2⟨u,hr,h2⟩=>?_
     subst hr
     refine cj h2 fun _ s3'⟨x,H2,I2,r2,y2,t2,f2⟩=>?_
     obtain⟨Dx,lay⟩:=G.yld H1 p1 i d hd x H2 y2
     have N2:=L.gK.lay lay
     have D2:H2 D=some (.lst vs):=N2.keep D _ L.cur (L.no noD)
     have I2':=I2.pinned (fpk f2) (T.obj _ _ t2)
     refine cj (B.tgt cl fp s3 H3 ok' _ s3' ξ H2 x u (fun υ H'=>H'=H2/\jY X.K tg τ1 ξ τ2 υ H2) I2' r2 ⟨τ1,d,τ2,N2.gK,Dx,hset,fun υ st=>⟨rfl,st⟩⟩) fun _ s4'⟨υ,H2',I3',hH,st⟩=>?_
     subst hH
     have ho:υ.drop η.length=σ:=(st.out B.small).trans L.out
     have C2:Ch X.K τ1 ξ H1 τ2 υ H2':=N2.ch.trans st.ch
     have again:∀{s7:Shared}{H7:Hp}{acc':List Mini.D}{vs':List V}{τ7:Ev},Inv (blk X scope cl (cB η X.N) fp s3 H3) ([]++sW fp s3'.heap) υ H7 s7->
       LI X c tg cond elt xs ys τ (List.replicate η.length .un++env) σ (List.replicate η.length none++σ) H3 D η.length (i+1) acc' vs' τ7 υ H7->
       ∃k,k<xs.length-i/\∃i acc vs τ1 ξ H1,k=xs.length-i/\Inv (blk X scope cl (cB η X.N) fp s3 H3) [] ξ H1 s7/\tn i s7.heap/\(∀b∈fp,H1 b=none)/\
        LI X c tg cond elt xs ys τ (List.replicate η.length .un++env) σ (List.replicate η.length none++σ) H3 D η.length i acc vs τ1 ξ H1:=fun{s7 H7 acc' vs' τ7}I7 L7=>by
      refine⟨xs.length- (i+1),by omega,i+1,acc',vs',τ7,υ,H7,rfl,I7.dJ,T.keep _ _ _ t2 fun b hb o e=>(I7.pin (b,o) (QVq _ (QVq _ (jB hb e)))).1,fun b hb=>?_,L7⟩
      obtain⟨o,e,_⟩:=T.obj _ _ t2 b hb
      exact(I7.pin (b,o) (QVq _ (QVq _ (jB hb e)))).2.1
     obtain⟨xc,dc,bc,τ3,e1,e2,e3,q1⟩:∃xc dc bc τ3,ev c cond τ2=.ok xc τ3/\xc.lw=some dc/\jq dc=some bc/\
       (if bc then(ev c elt τ3).ak fun d σ₃=>aP tg (ev c cond) (ev c elt) (xs.drop (i+1)) (acc++[d]) σ₃ else aP tg (ev c cond) (ev c elt) (xs.drop (i+1)) acc τ3)=.ok ys τ:=by
      cases r:ev c cond τ2 with
      |bad=>rw[r]at q0;cases q0
      |exc k τ3=>rw[r]at q0;cases q0
      |ok xc τ3=>
       rw[r]at q0
       cases xc with
       |ref k=>cases q0
       |tmp zs=>cases q0
       |val dc=>
        simp only[Out.cT,Out.ak]at q0
        cases q:jq dc with
        |none=>rw[q]at q0;cases q0
        |some bc=>rw[q]at q0;exact⟨_,dc,bc,τ3,rfl,rfl,q,q0⟩
       |new zs=>
        simp only[Out.cT,Out.ak]at q0
        cases q:jq zs.d with
        |none=>rw[q]at q0;cases q0
        |some bc=>rw[q]at q0;exact⟨_,zs.d,bc,τ3,rfl,rfl,q,q0⟩
     have after:∀(s5:Shared)(H5:Hp),Inv (blk X scope cl (cB η X.N) fp s3 H3) ([]++sW fp s3'.heap) υ H5 s5->Nx X.K τ2 υ H2' τ3 H5->
       (if bc=true then wpAny (model X.prog X.w) X.A (eval Φ (compEnvC scope cl s3.heap.objs.size X.env)) (fun x s₄=>
        wpAny (model X.prog X.w) X.A (call (.builtin "list.append") [.ref D,x]) (fun _ s₅=>∃m,m<xs.length-i/\∃i acc vs τ1 ξ H1,m=xs.length-i/\Inv (blk X scope cl (cB η X.N) fp s3 H3) [] ξ H1 s₅/\tn i s₅.heap/\(∀b∈fp,H1 b=none)/\
        LI X c tg cond elt xs ys τ (List.replicate η.length .un++env) σ (List.replicate η.length none++σ) H3 D η.length i acc vs τ1 ξ H1) (fun _ _=>False) s₄) (fun _ _=>False) s5
       else∃m,m<xs.length-i/\∃i acc vs τ1 ξ H1,m=xs.length-i/\Inv (blk X scope cl (cB η X.N) fp s3 H3) [] ξ H1 s5/\tn i s5.heap/\(∀b∈fp,H1 b=none)/\
        LI X c tg cond elt xs ys τ (List.replicate η.length .un++env) σ (List.replicate η.length none++σ) H3 D η.length i acc vs τ1 ξ H1):=fun s5 H5 I5 N5=>by
      have C5:=C2.trans N5.ch
      cases bc with
      |false=>
       rw[if_neg Qjq]at q1⊢
       exact again I5 (L.skip noD C5 hi ho q1)
      |true=>
       rw[if_pos rfl]at q1⊢
       obtain⟨xe,de,τ4,e4,e5,q2⟩:∃xe de τ4,ev c elt τ3=.ok xe τ4/\xe.lw=some de/\aP tg (ev c cond) (ev c elt) (xs.drop (i+1)) (acc++[de]) τ4=.ok ys τ:=by
        cases r:ev c elt τ3 with
        |bad=>rw[r]at q1;cases q1
        |exc k τ3=>rw[r]at q1;cases q1
        |ok xe τ4=>
         rw[r]at q1
         cases xe with
         |ref k=>cases q1
         |tmp zs=>cases q1
         |val de=>exact⟨_,de,τ4,rfl,rfl,q1⟩
         |new zs=>exact⟨_,zs.d,τ4,rfl,rfl,q1⟩
       refine cj ((B.elts cl fp s3 H3 ok').d _ s5 υ H5 (fun v H6=>Nx X.K τ3 υ H5 τ4 H6/\bj X.K H6 de v) I5 ⟨τ3,N5.gK,?_⟩) fun u s6⟨v,H6,I6,r6,N6,D6⟩=>?_
       ·rw[e4]
        cases xe with
        |ref k=>cases e5
        |tmp zs=>cases e5
        |val d'=>cases e5;exact fun v H' N Dv=>⟨N,Dv⟩
        |new zs=>cases e5;exact fun v H' N Dv=>⟨N,Dv⟩
       ·have C6:=C5.trans N6.ch
        have cur:=C6.keep D _ L.cur (L.no noD)
        have lenv:vs.length<sizeLine:=by
         have h1:=L.den.length
         have h2:=L.acl
         have h3:=G.len
         omega
        refine cj (pD (X:=blk X scope cl (cB η X.N) fp s3 H3) _ s6 υ H6 (.ref D) [v] (.ref D) [u] (fun _ H7=>H7=upd H6 D (.lst (vs++[v]))) I6 rfl (.cons r6 .nil) ⟨D,vs,v,rfl,rfl,cur,lenv,rfl⟩) fun _ s7⟨_,H7,I7,_,e7⟩=>?_
        subst e7
        exact again I7 (L.push noD C6 hi ho q2 D6)
     rcases B.tests with ⟨ei,ec⟩|⟨ce,ei,hC⟩
     ·subst ei ec
      simp only[v_0,v_1,Z6,v_3,v_4,v_5,v_6,Y8,v_8,Vv,Ba,JC,VF,Ha,VD,VB,Qh,JB,Jz,Qg,Vz,o5,Qf,Vy,Qe,Vx,Qd,nO]at e1
      cases e1
      cases e2
      cases e3
      exact QKq (after s4' H2' I3' (Nx.refl st.gK))
     ·subst ei
      refine wpAny_tests_one (cj (hC cl fp s3 H3 ok' _ s4' υ H2' (fun k H'=>k=bc/\Nx X.K τ2 υ H2' τ3 H') I3' ⟨τ2,st.gK,by rw[e1];exact⟨dc,bc,e2,e3,fun H' N=>⟨rfl,N⟩⟩⟩) fun k s5⟨H5,I5,hk',N5⟩=>?_)
      subst hk'
      exact after s5 H5 I5 N5
   ·--the end
    have e:i=xs.length:=Nat.le_antisymm L.le (Nat.le_of_not_lt hi)
    have q0:=L.go
    rw[e,List.drop_length,aP]at q0
    cases q0
    refine cj (T.done (blk X scope cl (cB η X.N) fp s3 H3) rfl rfl rfl hc i [] s1 ξ H1 _ I1 (fpk f1) t1 (G.stop H1 (N3.pers.trans L.pers) i (by omega))) fun r s2⟨hr,I2⟩=>?_
    subst hr
    obtain⟨m,hm,_⟩:=I2.loc
    have IX:Inv X γ σ H1 s2:=Inv.call' I3 I2.os I2.base I2.hok I2.bare fun b hb=>⟨(hf3 b hb).2.2.2.1,(hf3 b hb).2.1,(hf3 b hb).2.2.2.2.1,(hf3 b hb).2.2.2.2.2⟩
    refine hRR D s3.heap.objs.size s2 H1 vs m IX ⟨?_,fun k a z=>?_,N3.pers.trans L.pers,fun b ws z w=>?_,fun b z=>N3.dom b (L.dom b z),fun k ws z=>?_⟩ L.cur L.den hDn hm (I3.uW (QVz _) I2.free)
    ·have:=L.gK.drop (nl:=η.length)
     rw[L.out]at this
     exact this
    ·have z':aK (τ.drop η.length) (ξ.drop η.length) k a:=by rw[L.out];exact z
     obtain⟨j,ej,o⟩:=je (L.sub _ a (sZ.mp z'))
     have:k=j:=by omega
     subst this
     exact o
    ·refine L.keep b ws (N3.keep b ws z w) (fun q=>?_) fun k o=>?_
     ·subst q;rw[hDn]at z;cases z
     ·obtain⟨j,_,o'⟩:=je o
      exact w j o'
    ·obtain⟨ws',q⟩:=L.bors (η.length+k) ws (by rw[QHz (by simp)];simpa using z)
     exact⟨ws',by rw[List.getElem?_drop];exact q⟩
  ·refine⟨0,[],[],_,_,H3,rfl,I4,T.keep _ _ _ t0 fun b _ o e=>hk3 b o (hk b o e),fun b hb=>(hf3 b hb).1,⟨QHq _,hgo,N3.gK.front _,by simp,QVz _,hD3,ao.eX,fun _ _ z=>z,bR.refl _,fun _ _ z _ _=>z,fun _ z=>z,fun _ ws z=>⟨ws,z⟩⟩⟩
 exact codeAny_compStart_list (loop _ rfl) (T.self _ 0 _ _ _ (T.keep _ _ _ t0 fun b _ o e=>hk3 b o (hk b o e)) (loop _ rfl))
section
noncomputable def fX:Cm->CmpOp
 |.eq=>.Eq
 |.ne=>.NotEq
 |.lt=>.Lt
 |.le=>.LtE
 |.gt=>.Gt
 |.ge=>.GtE
 |.isin=>.In
 |.notin=>.NotIn
 |.jG=>.Is
 |.notN=>.IsNot
def iZ(X:Cx)(op:CmpOp)(f:D->D->Option Bool):Prop:=
 ∃r,gZ X (compareOp op) r/\∀(H:Hp)(x y:D)(k:Bool)(v u:V)(Q:VK),bj X.K H x v->eY X.K H y u->f x y=some k->Q (.bl k) H->r v u H Q
theorem eY.int{H:Hp}{v:V}(h:eY K H (.int i) v):v=.int i:=by
 rcases h with h|⟨o,a,q,_⟩
 ·exact h
 ·cases o<;>cases q
def Bx{g:Int->Int->Bool}(ho:gZ X (compareOp op) (KH fun i j=>.bl (g i j)))(hf:∀x y k,f x y=some k->∃i j,x=.int i/\y=.int j/\k=g i j):iZ X op f:=
 ⟨_,ho,fun H x y k v u Q Dx Dy e q=>by
  obtain⟨i,j,rfl,rfl,rfl⟩:=hf x y k e
  exact⟨i,j,Dx,Dy.int,q⟩⟩
def aaQ(hu:X.A.units+60<cLine):iZ X .Eq (aG .eq):=⟨_,W2 hu,fun H x y k v u Q Dx Dy e q=>by
 unfold aG at e;dsimp only at e
 split at e
 ·rename_i h;cases e;exact⟨x,y,.inl Dx,Dy,h,q⟩
 ·cases e⟩
def aaK(hu:X.A.units+60<cLine):iZ X .NotEq (aG .ne):=⟨_,WR hu,fun H x y k v u Q Dx Dy e q=>by
 unfold aG at e;dsimp only at e
 split at e
 ·rename_i h;cases e;exact⟨x,y,.inl Dx,Dy,h,q⟩
 ·cases e⟩
def aaM:iZ X .LtE (aG .le):=Bx aba fun x y k e=>by
 cases x<;>cases y<;>(unfold aG at e;simp at e)
 exact⟨_,_,rfl,rfl,e.symm⟩
def aaP:iZ X .GtE (aG .ge):=Bx abd fun x y k e=>by
 cases x<;>cases y<;>(unfold aG at e;simp at e)
 exact⟨_,_,rfl,rfl,e.symm⟩
def eY.Qy{H:Hp}{v:V}(h:eY K H (.tup xs) v):O6 K H xs v:=by
 rcases h with h|⟨o,a,q,_⟩
 ·obtain⟨a,vs,rfl,hq,l⟩:=cX h
  exact⟨a,vs,rfl,.inr hq,l⟩
 ·cases o<;>cases q
def eY.J7{H:Hp}{v:V}(h:eY K H (.lst xs) v):O6 K H xs v:=by
 rcases h with h|⟨o,a,q,rfl,u,ha,hq⟩
 ·obtain⟨a,vs,rfl,hq,l⟩:=dX h
  exact⟨a,vs,rfl,.inl hq.sq,l⟩
 ·cases o<;>cases q
  obtain⟨vs,rfl,l⟩:=hq
  exact⟨a,vs,rfl,.inl (.inl (.inl ha)),l⟩
theorem eY.str{H:Hp}{v:V}(h:eY K H (.str x) v):v=.str x:=by
 rcases h with h|⟨o,a,q,_⟩
 ·exact h
 ·cases o<;>cases q
def My x y(h:x.length=1):(!(Builtin.Str.occurrences y x 0 y.length 1).isEmpty)=cC (.str x) (signs y):=by
 obtain⟨cps⟩:=x
 obtain⟨l⟩:=cps
 match l,h with
 |[k],_=>
  have:=PySem.StrLaws.found_one y k
  rw[this]
  unfold signs
  generalize y.cps.toList=cs
  induction cs with
  |nil=>rfl
  |cons z zs ih=>
   show decide _=(fZ _ _||cC _ _)
   rw[<-ih]
   have e:fZ (.str ⟨#[z]⟩) (.str ⟨#[k]⟩)=decide (k=z):=by
    simp only[fZ]
    by_cases q:k=z
    ·subst q;simp
    ·have q':¬z=k:=fun e=>q e.symm
     simp[q,q']
   rw[e]
   by_cases q:k=z
   ·simp[q]
   ·simp[q]
def lK k:(fJ kvs k).isSome=cC (dB k) (kvs.map fun p=>dB p.1):=by
 induction kvs with
 |nil=>rfl
 |cons p r ih=>
  obtain⟨k',v⟩:=p
  show _=(fZ _ _||cC _ _)
  rw[<-ih]
  have e:fZ (dB k') (dB k)=decide (k'=k):=by
   cases k'<;>cases k<;>simp[dB,fZ,Bool.beq_eq_decide_eq]
  rw[e]
  by_cases q:k'=k
  ·subst q;simp[jb]
  ·simp[q,jc]
def gW(h:keyOk x=true):∃k:Key,x=dB k:=by
 cases x<;>simp[keyOk]at h
 ·exact⟨.inl _,rfl⟩
 ·exact⟨.inr _,rfl⟩
def mq{H:Hp}{v:V}(h:bj K H (dB k) v):v=kV k:=by
 cases k<;>exact h
noncomputable def KD(neg:Bool):R2:=fun x y H Q=>∃a k kvs,y=.ref a/\x=kV k/\Rd H a (.dK kvs)/\Q (.bl (if neg then !(fJ kvs k).isSome else(fJ kvs k).isSome)) H
def Ld(hu:X.A.units+1<cLine):gZ X (compareOp .In) (KD false):=by
 intro γ s σ H x y v u Q I rx ry h
 obtain⟨a,k,kvs,rfl,rfl,hd,q⟩:=h
 cases ry
 exact afP hu I (.inl ⟨kvs,k,hd,rfl,rfl⟩) rx fun s3 I3=>⟨.bl _,H,I3,rfl,q⟩
def zH(hu:X.A.units+1<cLine):gZ X (compareOp .NotIn) (KD true):=by
 intro γ s σ H x y v u Q I rx ry h
 obtain⟨a,k,kvs,rfl,rfl,hd,q⟩:=h
 cases ry
 exact Sy hu I (.inl ⟨kvs,k,hd,rfl,rfl⟩) rx fun s3 I3=>⟨.bl _,H,I3,rfl,q⟩
def oW{K:QQq}{H:Hp}{ks ds:List D}{v:V}(h:eY K H (.cP ks ds) v):∃a kvs,v=.ref a/\Rd H a (.dK kvs)/\ks=kvs.map (fun p=>dB p.1)/\ao K H ds (kvs.map (·.2)):=by
 rcases h with h|⟨o,a,q,rfl,u,ha,hq⟩
 ·unfold bj at h;obtain⟨a,o,kvs,e,r,k⟩:=h;exact⟨a,kvs,e,.inr ⟨o,r⟩,k⟩
 ·cases o<;>cases q
  obtain⟨kvs,rfl,k,l⟩:=hq
  exact⟨a,kvs,rfl,.inl ha,k,l⟩
def aaN(hu:X.A.units+60<cLine):iZ X .In (aG .isin):=
 ⟨_,(WY hu).or ((Ld (by omega)).or HF),fun H x y k v u Q Dx Dy e q=>by
  cases y with
  |tup xs=>
   unfold aG at e;dsimp only at e
   split at e
   ·rename_i h;cases e;exact .inl ⟨x,xs,Dx,Dy.Qy,h,q⟩
   ·cases e
  |lst xs=>
   unfold aG at e;dsimp only at e
   split at e
   ·rename_i h;cases e;exact .inl ⟨x,xs,Dx,Dy.J7,h,q⟩
   ·cases e
  |cP ks vs=>
   unfold aG at e;dsimp only at e
   split at e
   ·rename_i h
    cases e
    obtain⟨k,rfl⟩:=gW h
    obtain⟨a,kvs,rfl,ha,rfl,l⟩:=oW Dy
    exact .inr (.inl ⟨a,k,kvs,rfl,mq Dx,ha,by simpa[lK]using q⟩)
   ·cases e
  |str y=>
   cases x with
   |str x=>
    unfold aG at e;dsimp only at e
    split at e
    ·rename_i h;cases e;exact .inr (.inr ⟨x,y,Dx,Dy.str,by rw[My x y h];exact q⟩)
    ·cases e
   |_=>unfold aG at e;simp at e
  |_=>unfold aG at e;simp at e⟩
def Kr(hu:X.A.units+60<cLine):iZ X .NotIn (aG .notin):=
 ⟨_,(HD hu).or (zH (by omega)),fun H x y k v u Q Dx Dy e q=>by
  cases y with
  |tup xs=>
   unfold aG at e;dsimp only at e
   split at e
   ·rename_i h;cases e;exact .inl ⟨x,xs,Dx,Dy.Qy,h,q⟩
   ·cases e
  |lst xs=>
   unfold aG at e;dsimp only at e
   split at e
   ·rename_i h;cases e;exact .inl ⟨x,xs,Dx,Dy.J7,h,q⟩
   ·cases e
  |cP ks vs=>
   unfold aG at e;dsimp only at e
   split at e
   ·rename_i h
    cases e
    obtain⟨k,rfl⟩:=gW h
    obtain⟨a,kvs,rfl,ha,rfl,l⟩:=oW Dy
    exact .inr ⟨a,k,kvs,rfl,mq Dx,ha,by simpa[lK]using q⟩
   ·cases e
  |_=>unfold aG at e;simp at e⟩
end
section
open PySem.SeqAt
open PySem.AutoSeq1 (wpAny_loadPart')
open PySem.MeetsSeq PySem.MeetsSeq2 PySem.MeetsSeq3
inductive BoolsAre:List Value->List Bool->Prop
 |nil:BoolsAre [] []
 |cons (b:Bool) {vs:List Value} {bs:List Bool}:BoolsAre vs bs->BoolsAre (.bool b::vs) (b::bs)
theorem BoolsAre.length{bs:List Bool}(h:BoolsAre vs bs):vs.length=bs.length:=by
 induction h with
 |nil=>rfl
 |cons b _ ih=>simp[ih]
def vU x y xs ys:mF (x::xs) (y::ys)=if x=y then mF xs ys else(!x&&y):=rfl
def FT:mF [] []=false:=rfl
def FW y ys:mF [] (y::ys)=true:=rfl
def RJ x xs:mF (x::xs) []=false:=rfl
def vH A s a c prog w E Q(h:Q (.bool (!a&&c)) s):
  wpAny (model prog w) A (richCompare .Lt (.bool a) (.bool c)) Q E s:=
 (PyProof.Rows.lt_bool (by cases a<;>cases c<;>exact h))
def rH l b items items2 n n2 dd dd2 sl sl2 ns ms(hi:BoolsAre items.toList ns)(hj:BoolsAre items2.toList ms):
  Meets (Builtin.«tuple.__lt__» ⟨[.ref l,.ref b],[]⟩)
   (fun _ R s=>s.heap.get? l=some {cls:=.type "tuple",dict:=dd,data:=.seq items n,slots:=sl}/\s.heap.get? b=some {cls:=.type "tuple",dict:=dd2,data:=.seq items2 n2,slots:=sl2}/\
    R (.ok (.ret (.bool (mF ns ms)))) s):=
 .of_wp fun prog w A R s h=>by
  obtain⟨hp,g,d,tk,os⟩:=s;obtain⟨hl,hb,h⟩:=h
  have f2:=AutoSeq1.sub_tuple_tuple
  have z1:items.size=ns.length:=by rw[<-hi.length];simp
  have z2:items2.size=ms.length:=by rw[<-hj.length];simp
  wp_walk using wpAny_loadPart' hl,wpAny_loadPart' hb,wpAny_forIn_list _ (fun rest b s'=>b.1=none/\s'=⟨hp,g,d,tk,os⟩/\∃(vs ws:List Value)(ns' ms':List Bool),rest=vs.zip ws/\
   BoolsAre vs ns'/\BoolsAre ws ms'/\ns'.length+items2.size=ms'.length+items.size/\R (.ok (.ret (.bool (mF ns' ms')))) ⟨hp,g,d,tk,os⟩) _
  case turn=>
   rintro ⟨y,x⟩ rest b s' ⟨hb',rfl,vs,ws,ns',ms',hz,hvi,hwi,hlen,hR⟩
   cases hvi with
   |nil=>rw[List.zip_nil_left]at hz;cases hz
   |cons a hvi'=>
    cases hwi with
    |nil=>rw[List.zip_nil_right]at hz;cases hz
    |cons c hwi'=>
     rw[List.zip_cons_cons]at hz
     injection hz with hyx hrest
     injection hyx with hy hx
     subst hy hx
     rw[vU]at hR
     simp only[QAz]at hlen
     refine QTz ((SeqAt.EqAt.bool_bool (A:=A.in1) (s:=⟨hp,g,d,tk,os⟩) a c) prog w _ _ ?_)
     by_cases hac:a=c
     ·subst hac
      rw[if_pos rfl]at hR
      rw[beq_self_eq_true]
      wp_walk
      exact⟨rfl,rfl,_,_,_,_,hrest,hvi',hwi',by omega,hR⟩
     ·rw[if_neg hac]at hR
      wp_walk using (vH A.in1 ⟨hp,g,d,tk,os⟩ a c prog w)
      exact⟨_,rfl,by simpa using hR⟩
  case fin=>
   rintro ⟨b1,b2⟩ s' ⟨hb',rfl,vs,ws,ns',ms',hz,hvi,hwi,hlen,hR⟩
   simp only at hb'
   subst hb'
   have hv:mF ns' ms'=decide (items.size<items2.size):=by
    cases hvi with
    |nil=>
     cases hwi with
     |nil=>
      rw[FT]
      exact(QEq (by omega)).symm
     |cons c hw=>
      simp only[List.length_nil,QAz]at hlen
      rw[FW]
      exact(decide_eq_true (by omega)).symm
    |cons a hv=>
     cases hwi with
     |nil=>
      simp only[List.length_nil,QAz]at hlen
      rw[RJ]
      exact(QEq (by omega)).symm
     |cons c hw=>
      rw[List.zip_cons_cons]at hz
      cases hz
   rw[hv]at hR
   wp_walk
   exact⟨_,rfl,by simpa[Builtin.Tuple.tupleCompareSizes]using hR⟩
  case h=>
   exact⟨rfl,rfl,items.toList,items2.toList,ns,ms,rfl,hi,hj,by omega,h⟩
end
theorem gY{K:QQq}{H:Hp}:∀{ds:List D}{vs:List V}{us:List Value}{bs:List Bool},bools ds=some bs->ao K H ds vs->Vals vs us->BoolsAre us bs
 |[],vs,us,bs,e,l,r=>by
  cases e
  rw[ao.bQ.mp l]at r
  cases r
  exact .nil
 |d::ds,vs,us,bs,e,l,r=>by
  obtain⟨v,w,rfl,h1,h2⟩:=ao.aZ.mp l
  cases d with
  |bl b=>
   simp only[bools,QJz]at e
   obtain⟨bs',e1,rfl⟩:=e
   cases h1
   cases r with
   |cons r1 r2=>cases r1;exact .cons b (gY e1 h2 r2)
  |_=>cases e
section
variable{m m1 m2 m3:E}
noncomputable def aeD(K:QQq):R2:=fun x y H Q=>∃xs ys bs cs,bj K H (.tup xs) x/\bj K H (.tup ys) y/\bools xs=some bs/\bools ys=some cs/\Q (.bl (mF bs cs)) H
def WX(hu:X.A.units<cLine):gZ X (compareOp .Lt) (aeD X.K):=by
 intro γ s σ H x y v u Q I rx ry h
 obtain⟨xs,ys,bs,cs,Dx,Dy,e1,e2,q⟩:=h
 obtain⟨a,vs,rfl,ha,la⟩:=cX Dx
 obtain⟨b,ws,rfl,hb,lb⟩:=cX Dy
 cases rx
 cases ry
 obtain⟨its,r1,p1,_⟩:=I.tuple ha
 obtain⟨its2,r2,p2,_⟩:=I.tuple hb
 obtain⟨⟨cls,dd,data,sl⟩,ho,hc,n,hd⟩:=id p1
 obtain⟨⟨cls2,dd2,data2,sl2⟩,ho2,hc2,n2,hd2⟩:=id p2
 subst hc hd hc2 hd2
 exact richCompare_meets_room (op:=.Lt) ⟨_,ho,rfl⟩ ⟨_,ho2,rfl⟩ PySem.F.slot_tuple_lt PySem.F.entry_tuple_lt (PySem.F.args_tuple_lt_2 _ _)
  (rH a b its.toArray its2.toArray n n2 dd dd2 sl sl2 bs cs (by simpa using gY e1 la r1) (by simpa using gY e2 lb r2))
  ⟨ho,ho2,show Value.bool _≠Value.notImplemented/\EP X γ σ Q _ s from⟨(fun x=>nomatch x),⟨.bl _,H,I,rfl,q⟩⟩⟩ hu
theorem eY.tup{K:QQq}{H:Hp}{xs:List D}{v:V}(h:eY K H (.tup xs) v):bj K H (.tup xs) v:=by
 rcases h with h|⟨o,a,q,_⟩
 ·exact h
 ·cases o<;>cases q
def aaL(hu:X.A.units+60<cLine):iZ X .Lt (aG .lt):=
 ⟨_,aa9.or (WX (by omega)),fun H x y k v u Q Dx Dy e q=>by
  cases x with
  |int i=>
   cases y with
   |int j=>cases e;exact .inl ⟨i,j,Dx,Dy.int,q⟩
   |_=>cases e
  |tup xs=>
   cases y with
   |tup ys=>
    unfold aG at e;dsimp only[W9]at e
    cases e1:bools xs with
    |none=>rw[e1]at e;cases e
    |some bs=>
     cases e2:bools ys with
     |none=>rw[e1,e2]at e;cases e
     |some cs=>
      rw[e1,e2]at e
      cases e
      exact .inr ⟨xs,ys,bs,cs,Dx,Dy.tup,e1,e2,q⟩
   |_=>cases e
  |_=>cases y<;>cases e⟩
def aaO:iZ X .Gt (aG .gt):=Bx abb fun x y k e=>by
 cases x<;>cases y<;>(unfold aG at e;simp at e)
 exact⟨_,_,rfl,rfl,e.symm⟩
def rm{H:Hp}{v:V}(h:bj K H d v):decide (v=.non)=fj d:=by
 cases d<;>unfold bj at h<;>first
  |(obtain⟨a,_,rfl,_⟩:=h;rfl)
  |(obtain⟨a,_,_,rfl,_⟩:=h;rfl)
  |(subst h;rfl)
def Wh:iZ X .Is (aG .jG):=⟨_,Cj,fun H x y k v u Q Dx Dy e q=>by
 cases y<;>(unfold aG at e;dsimp only at e;cases e)
 rcases Dy with h|⟨o,a,z,_⟩
 ·exact⟨h,by rw[rm Dx];exact q⟩
 ·cases o<;>cases z⟩
def QT:iZ X .IsNot (aG .notN):=⟨_,Ri,fun H x y k v u Q Dx Dy e q=>by
 cases y<;>(unfold aG at e;dsimp only at e;cases e)
 rcases Dy with h|⟨o,a,z,_⟩
 ·exact⟨h,by rw[rm Dx];exact q⟩
 ·cases o<;>cases z⟩
def pq(hu:X.A.units+60<cLine)o:iZ X (fX o) (aG o):=by
 cases o with
 |eq=>exact aaQ hu
 |ne=>exact aaK hu
 |lt=>exact aaL hu
 |le=>exact aaM
 |gt=>exact aaO
 |ge=>exact aaP
 |isin=>exact aaN hu
 |notin=>exact Kr hu
 |jG=>exact Wh
 |notN=>exact QT
def fV{env:Ev}{H:Hp}{d:D}(S:Sat K env σ H)(h:aW k env=some d):∃v,σ[k]? =some (some v)/\eY K H d v:=by
 unfold aW at h
 cases e:env[k]? with
 |none=>rw[e]at h;cases h
 |some s=>
  rw[e]at h
  have q:=S.sl k s e
  cases s with
  |un=>cases h
  |val d'=>cases h;obtain⟨v,e1,e2⟩:=q;exact⟨v,cH e1,.inl e2⟩
  |own xs=>cases h;obtain⟨a,e1,e2⟩:=q;exact⟨.ref a,cH e1,.inr ⟨xs,a,rfl,rfl,e2⟩⟩
  |bor xs=>cases h;obtain⟨a,e1,e2⟩:=q;exact⟨.ref a,cH e1,.inr ⟨xs,a,rfl,rfl,e2⟩⟩
structure jU(X:Cx)(i:Nat)(x:Str):Prop where
 at_:X.N[i]? =some x
 vis:Jo X.env.scope x
 nd:(x==("__debug__":Str))=false
 nc:(x==("__classdict__":Str))=false
def jU.pe{x:Str}(h:jU X i x):PE X (.Name x pos) (aY i):=cZ h.at_ h.vis h.nd h.nc
def jU.ge{x:Str}(h:jU X i x):GE X W c (.var i) (.Name x pos):=XR h.at_ h.vis h.nd h.nc
theorem Gy(R:iZ X (fX o) (aG o))(hb:GE X W c m2 b)(hv:∀k,m2.az=some k->∃x p,b=.Name x p/\jU X k x):
  ∃r tb,gZ X (compareOp (fX o)) r/\PE X b tb/\∀env σ H Q,tM X.K W env (ev c (.cmp o m1 m2) env) σ H Q->Ua r (aD X W c m1) tb σ H Q:=by
 obtain⟨r,ho,rule⟩:=R
 cases q:m2.az with
 |some k=>
  obtain⟨x,p,rfl,nm⟩:=hv k q
  refine⟨r,aY k,ho,nm.pe,fun env σ H Q h=>?_⟩
  simp only[Y8,q]at h
  refine⟨env,aL h fun d δ v H1 N1 D1 h1=>?_⟩
  obtain⟨z,ez,S,q3⟩:=cR h1
  cases e1:aW k δ with
  |none=>rw[e1]at ez;cases ez
  |some d2=>
   rw[e1]at ez
   simp only[Option.bind]at ez
   obtain⟨u,eu,D2⟩:=fV S e1
   cases e2:aG o d d2 with
   |none=>rw[e2]at ez;cases ez
   |some k2=>
    rw[e2]at ez
    cases ez
    exact⟨u,eu,rule H1 d d2 k2 v u Q D1 D2 e2 (q3 _ H1 (Nx.refl S) rfl)⟩
 |none=>
  refine⟨r,aD X W c m2,ho,hb.d,fun env σ H Q h=>?_⟩
  simp only[Y8,q]at h
  refine⟨env,aL h fun d δ v H1 N1 D1 h1=>⟨δ,aL h1 fun d2 ε u H2 N2 D2 h2=>?_⟩⟩
  obtain⟨z,ez,S,q3⟩:=cR h2
  cases e2:aG o d d2 with
  |none=>rw[e2]at ez;cases ez
  |some k2=>
   rw[e2]at ez
   cases ez
   exact rule H2 d d2 k2 v u Q (D1.mono N2.pers) (.inl D2) e2 (q3 _ H2 (Nx.refl S) rfl)
def Yg(R:iZ X (fX o) (aG o))(ha:GE X W c m1 a)(hb:GE X W c m2 b)(hv:∀k,m2.az=some k->∃x p,b=.Name x p/\jU X k x)
  (hm:behindInMarks (fX o) b=false):GE X W c (.cmp o m1 m2) (.Compare a [fX o] [b] pos):=by
 intro env
 obtain⟨r,tb,ho,pb,imp⟩:=Gy R hb hv
 exact PE.imp (Rc ho ha.d pb hm) fun σ H Q h=>imp env σ H Q h
theorem yR{env:Ev}{σ:St}{Q:Bool->Hp->Prop}(h:tT K W env r σ H Q)(hb:∀x env',r=.ok x env'->∃b,x=.val (.bl b)):
  tM K W env r σ H (fun v H'=>∃k,v=.bl k/\Q k H'):=by
 obtain⟨S,h⟩:=h
 refine⟨S,?_⟩
 cases r with
 |bad=>exact h
 |exc c δ=>exact h
 |ok x δ=>
  obtain⟨b,rfl⟩:=hb x δ rfl
  obtain⟨d,k,e1,e2,q⟩:=h
  cases e1
  cases e2
  exact fun v H' N z=>⟨b,z,q H' N⟩
def lX{o:Option Bool}(h:lift env (o.map fun q=>Rv.val (.bl q))=.ok x env'):∃b,x=.val (.bl b):=by
 cases o with
 |none=>cases h
 |some b=>cases h;exact⟨b,rfl⟩
def z9{env env':Ev}(h:ev c (.cmp o m1 m2) env=.ok x env'):∃b,x=.val (.bl b):=by
 simp only[Y8]at h
 cases r:ev c m1 env with
 |bad=>rw[r]at h;cases h
 |exc k δ=>rw[r]at h;cases h
 |ok x1 δ=>
  rw[r]at h
  have go:∀d,(match m2.az with
    |some k=>lift δ ((aW k δ).bind fun d'=>(aG o d d').map fun q=>Rv.val (.bl q))
    |none=>(ev c m2 δ).ak fun y σ=>lift σ ((aG o d y).map fun q=>Rv.val (.bl q)))=.ok x env'->∃b,x=.val _:=fun d h=>by
   cases q:m2.az with
   |some k=>
    simp only[q]at h
    cases e:aW k δ with
    |none=>simp only[e,Option.bind]at h;cases h
    |some d'=>simp only[e,Option.bind]at h;exact lX h
   |none=>
    simp only[q]at h
    cases r2:ev c m2 δ with
    |bad=>rw[r2]at h;cases h
    |exc k ε=>rw[r2]at h;cases h
    |ok x2 ε=>
     rw[r2]at h
     cases x2 with
     |val d2=>exact lX h
     |new xs=>exact lX h
     |ref i=>cases h
     |tmp xs=>cases h
  cases x1 with
  |val d=>exact go d h
  |new xs=>exact go xs.d h
  |ref i=>cases h
  |tmp xs=>cases h
def XD(R:iZ X (fX o) (aG o))(ha:GE X W c m1 a)(hb:GE X W c m2 b)(hv:∀k,m2.az=some k->∃x p,b=.Name x p/\jU X k x)
  (hm:behindInMarks (fX o) b=false):GT X W c (.cmp o m1 m2) (.Compare a [fX o] [b] pos):=by
 obtain⟨r,tb,ho,pb,imp⟩:=Gy R hb hv
 exact PT.imp (xr ho ha.d pb hm) fun σ H Q⟨env,h⟩=>imp env σ H _ (yR h fun x env' e=>z9 e)
theorem wG(R1:iZ X (fX π) (aG π))(R2:iZ X (fX ρ) (aG ρ)):
  ∃r r',gZ X (compareOp (fX π)) r/\gZ X (compareOp (fX ρ)) r'/\∀env σ H Q,tM X.K W env (ev c (.chain π ρ m1 m2 m3) env) σ H Q->Bl r r' (aD X W c m1) (aD X W c m2) (aD X W c m3) σ H Q:=by
 obtain⟨r,ho,rule⟩:=R1
 obtain⟨r',ho',rule'⟩:=R2
 refine⟨r,r',ho,ho',fun env σ H Q h=>?_⟩
 refine⟨env,aL h fun d δ v H1 N1 D1 h1=>⟨δ,aL h1 fun d2 ε u H2 N2 D2 h2=>?_⟩⟩
 cases e2:aG π d d2 with
 |none=>rw[e2]at h2;exact h2.2.elim
 |some k=>
  rw[e2]at h2
  simp only[lift,Out.bind]at h2
  refine rule H2 d d2 k v u _ (D1.mono N2.pers) (.inl D2) e2 ⟨k,rfl,?_⟩
  cases k with
  |false=>
   exact fP h2 rfl
  |true=>
   refine⟨ε,aL h2 fun d3 env3 w H3 N3 D3 h3=>?_⟩
   obtain⟨z,ez,S,q3⟩:=cR h3
   cases e3:aG ρ d2 d3 with
   |none=>rw[e3]at ez;cases ez
   |some k2=>
    rw[e3]at ez
    cases ez
    exact rule' H3 d2 d3 k2 u w Q (D2.mono N3.pers) (.inl D3) e3 (q3 _ H3 (Nx.refl S) rfl)
def uX{env env':Ev}(h:ev c (.chain π ρ m1 m2 m3) env=.ok x env'):∃b,x=.val (.bl b):=by
 have val:∀{r:Out Rv}{f:D->Ev->Out Rv},r.ak f=.ok x env'->∃d σ,f d σ=.ok x env':=fun{r f}q=>by
  cases r with
  |bad=>cases q
  |exc k e1=>cases q
  |ok y e1=>
   cases y with
   |val d=>exact⟨d,e1,q⟩
   |new xs=>exact⟨_,e1,q⟩
   |ref i=>cases q
   |tmp xs=>cases q
 obtain⟨d1,ξ,h⟩:=val h
 obtain⟨d2,υ,h⟩:=val h
 cases e:aG π d1 d2 with
 |none=>rw[e]at h;cases h
 |some k=>
  rw[e]at h
  simp only[lift,Out.bind]at h
  cases k with
  |false=>cases h;exact⟨false,rfl⟩
  |true=>
   obtain⟨d3,σ3,h⟩:=val h
   exact lX h
def Nh{d:Expr}(R1:iZ X (fX π) (aG π))(R2:iZ X (fX ρ) (aG ρ))(ha:GE X W c m1 a)(hb:GE X W c m2 b)(hd:GE X W c m3 d)(hm:lastMarks [fX π,fX ρ] [b,d]=false):
  GE X W c (.chain π ρ m1 m2 m3) (.Compare a [fX π,fX ρ] [b,d] pos):=by
 obtain⟨r,r',ho,ho',imp⟩:=wG R1 R2
 exact fun env=>PE.imp (Lb ho ho' ha.d hb.d hd.d hm) fun σ H Q h=>imp env σ H Q h
def MN{d:Expr}(R1:iZ X (fX π) (aG π))(R2:iZ X (fX ρ) (aG ρ))(ha:GE X W c m1 a)(hb:GE X W c m2 b)(hd:GE X W c m3 d)(hm:lastMarks [fX π,fX ρ] [b,d]=false):
  GT X W c (.chain π ρ m1 m2 m3) (.Compare a [fX π,fX ρ] [b,d] pos):=by
 obtain⟨r,r',ho,ho',imp⟩:=wG R1 R2
 exact PT.imp (KQ ho ho' ha.d hb.d hd.d hm) fun σ H Q⟨env,h⟩=>imp env σ H _ (yR h fun x env' e=>uX e)
def aak(K:QQq)(ta:TE):TE:=fun σ H Q=>ta σ H fun x H1=>∃k,DW K x H1 k/\Q (.bl (!k)) H1
def Q8(ha:PE X a ta):PE X (.UnaryOp .Not a pos) (aak X.K ta):=by
 intro γ s σ H Q I h
 exact PyProof.Rows.UnaryOp_ (cj (ha γ s σ H _ I h) fun v s1⟨x,H1,I1,r1,k,t,q1⟩=>PyProof.Rows.not_of (cj (JK γ s1 σ H1 x v _ I1 r1 ⟨k,t,q1⟩) fun b s2⟨H2,I2,q2⟩=>⟨.bl (!b),H2,I2,rfl,q2⟩))
def X6(ha:GE X W c m1 a):GE X W c (.not m1) (.UnaryOp .Not a pos):=fun env=>
 PE.imp (Q8 ha.d) fun σ H Q q=>⟨env,yX (yV (by simpa only[JC]using q) fun k δ H1 N q1=>fP (d:=.bl (!k)) q1 rfl)⟩
def Xz(ha:GT X W c m1 a):GT X W c (.not m1) (.UnaryOp .Not a pos):=by
 refine PT.imp (KN ha) fun σ H Q⟨env,q⟩=>⟨env,q.1,?_⟩
 have q2:=q.2
 simp only[JC]at q2
 cases r:ev c m1 env with
 |bad=>rw[r]at q2;exact q2
 |exc k δ=>rw[r]at q2;exact q2
 |ok x δ=>
  rw[r]at q2
  have go:∀d,x.lw=some d->(match (match jq d with|some b=>Out.ok (Rv.val (.bl (!b))) δ|none=>.bad)with
    |.ok x env'=>∃d b,x.lw=some d/\jq d=some b/\∀H',Nx X.K env σ H env' H'->Q b H'
    |.exc c env'=>∀H',Nx X.K env σ H env' H'->W c env' σ H'
    |.bad=>False)->∃d b,x.lw=some d/\jq d=some b/\∀H',Nx X.K env σ H δ H'->Q (!b) H':=fun d ed z=>by
   cases t:jq d with
   |none=>rw[t]at z;exact z.elim
   |some b=>
    rw[t]at z
    obtain⟨d',b',e1,e2,z⟩:=z
    cases e1
    cases e2
    exact⟨d,b,ed,t,z⟩
  cases x with
  |val d=>exact go d rfl q2
  |new o=>exact go o.d rfl q2
  |ref i=>exact q2.elim
  |tmp xs=>exact q2.elim
def Ss(ha:GE X W c m1 a):GE X W c (.and (.cons m1 .nil)) (.BoolOp .And [a] pos):=fun env=>by
 have:=K6 (op:=.And) (pos:=pos) (ha env)
 simpa only[Vv,iK]using this
def X5(ha:GE X W c m1 a):GE X W c (.or (.cons m1 .nil)) (.BoolOp .Or [a] pos):=fun env=>by
 have:=K6 (op:=.Or) (pos:=pos) (ha env)
 simpa only[Ba,oV]using this
end
def aM(X:Cx)(W:Wi)(c:Cf)(m:E):TE:=fun σ H Q=>∃env,tM X.K W env (ev c m env) σ H Q
def T8{W:Wi}{σ:St}{r:Out Rv}(h:tT K W env r σ H Q)(N:Nx K env σ H δ H1):tT K W δ r σ H1 Q:=by
 obtain⟨_,h⟩:=h
 refine⟨N.gK,?_⟩
 cases r with
 |bad=>exact h
 |exc c ε=>exact fun H' N'=>h H' (N.trans N')
 |ok x ε=>
  obtain⟨d,b,e1,e2,q⟩:=h
  exact⟨d,b,e1,e2,fun H' N'=>q H' (N.trans N')⟩
section
variable{es rest:List Expr}
def GE.am(h:GE X W c m e):PE X e (aM X W c m):=fun γ s σ H Q I⟨env,q⟩=>h env γ s σ H Q I q
def Yh(ha:GE X W c m1 a)(hb:GE X W c (.and (.cons m2 m3)) (.BoolOp .And (b::rest) pos)):GE X W c (.and (.cons m1 (.cons m2 m3))) (.BoolOp .And (a::b::rest) pos):=by
 intro env
 refine PE.imp (WK ha.d hb.am) fun σ H Q q=>?_
 refine⟨env,aL q fun d δ v H1 N1 D1 q1=>?_⟩
 cases d with
 |bl k=>
  refine⟨k,D1,?_⟩
  cases k with
  |true=>rw[if_pos rfl];exact⟨δ,by simpa only[Vv,iK]using q1⟩
  |false=>rw[if_neg Qjq];exact fP q1 rfl
 |_=>exact q1.2.elim
def abO(ha:GE X W c m1 a)(hb:GE X W c (.or (.cons m2 m3)) (.BoolOp .Or (b::rest) pos)):GE X W c (.or (.cons m1 (.cons m2 m3))) (.BoolOp .Or (a::b::rest) pos):=by
 intro env
 refine PE.imp (aa4 ha.d hb.am) fun σ H Q q=>?_
 refine⟨env,aL q fun d δ v H1 N1 D1 q1=>?_⟩
 cases d with
 |bl k=>
  refine⟨k,D1,?_⟩
  cases k with
  |true=>rw[if_pos rfl];exact fP q1 rfl
  |false=>rw[if_neg Qjq];exact⟨δ,by simpa only[Ba,oV]using q1⟩
 |_=>exact q1.2.elim
def GW(X:Cx)(W:Wi)(c:Cf)(m:E)(e:Expr):Prop:=PW X e (aT X W c m)
def PW.imp(h:PW X e t)(i:∀σ H Q,t' σ H Q->t σ H Q):PW X e t':=fun wh γ s σ H Q I q=>h wh γ s σ H Q I (i σ H Q q)
def GW.t(h:GW X W c m e):GT X W c m e:=PW.pt h
theorem yS{env:Ev}{σ:St}{Q R:Bool->Hp->Prop}(h:tT K W env (r.ak f) σ H Q)
  (hf:∀d δ,(∀k,d≠ .bl k)->f d δ=.bad)
  (k:∀b δ H1,Nx K env σ H δ H1->tT K W δ (f (.bl b) δ) σ H1 Q->R b H1):tT K W env r σ H R:=by
 have step:∀d δ x,x.lw=some d->r=.ok x δ->∃b,jq d=some b/\∀H1,Nx K env σ H δ H1->R b H1:=fun d δ x ex er=>by
  subst er
  have h':tT K W env (f d δ) σ H Q:=by
   cases x with
   |val d'=>cases ex;exact h
   |new xs=>cases ex;exact h
   |ref i=>cases ex
   |tmp xs=>cases ex
  by_cases hb:∃b,d=.bl b
  ·obtain⟨b,rfl⟩:=hb
   exact⟨b,rfl,fun H1 N=>k b δ H1 N (T8 h' N)⟩
  ·rw[hf d δ fun b e=>hb ⟨b,e⟩]at h'
   exact h'.2.elim
 refine⟨h.1,?_⟩
 cases r with
 |bad=>exact h.2
 |exc c δ=>exact h.2
 |ok x δ=>
  cases x with
  |val d=>obtain⟨b,e,q⟩:=step d δ _ rfl rfl;exact⟨d,b,rfl,e,q⟩
  |new xs=>obtain⟨b,e,q⟩:=step (xs.d) δ _ rfl rfl;exact⟨xs.d,b,rfl,e,q⟩
  |ref i=>exact h.2.elim
  |tmp xs=>exact h.2.elim
def R0(ha:GT X W c m1 a):GW X W c (.and (.cons m1 .nil)) (.BoolOp .And [a] pos):=PW.imp (EY ha) fun σ H Q⟨env,q⟩=>⟨env,by simpa only[Vv,iK]using q⟩
def Xy(ha:GT X W c m1 a):GW X W c (.or (.cons m1 .nil)) (.BoolOp .Or [a] pos):=PW.imp (Wr ha) fun σ H Q⟨env,q⟩=>⟨env,by simpa only[Ba,oV]using q⟩
def XF(ha:GT X W c m1 a)(hb:GW X W c (.and (.cons m2 m3)) (.BoolOp .And (b::rest) pos)):GW X W c (.and (.cons m1 (.cons m2 m3))) (.BoolOp .And (a::b::rest) pos):=by
 refine PW.imp (KJ ha hb) fun σ H Q⟨env,q⟩=>⟨env,?_⟩
 refine yS q (fun d δ hd=>?_) fun k δ H1 N q1=>?_
 ·cases d with
  |bl k=>exact absurd rfl (hd k)
  |_=>rfl
 ·cases k with
  |true=>rw[if_pos rfl];exact⟨δ,by simpa only[Vv,iK]using q1⟩
  |false=>
   obtain⟨d,k',e1,e2,q3⟩:=q1.2
   cases e1
   cases e2
   exact q3 H1 (Nx.refl q1.1)
def abJ(ha:GT X W c m1 a)(hb:GW X W c (.or (.cons m2 m3)) (.BoolOp .Or (b::rest) pos)):GW X W c (.or (.cons m1 (.cons m2 m3))) (.BoolOp .Or (a::b::rest) pos):=by
 refine PW.imp (aa1 ha hb) fun σ H Q⟨env,q⟩=>⟨env,?_⟩
 refine yS q (fun d δ hd=>?_) fun k δ H1 N q1=>?_
 ·cases d with
  |bl k=>exact absurd rfl (hd k)
  |_=>rfl
 ·cases k with
  |false=>rw[if_neg Qjq];exact⟨δ,by simpa only[Ba,oV]using q1⟩
  |true=>
   obtain⟨d,k',e1,e2,q3⟩:=q1.2
   cases e1
   cases e2
   exact q3 H1 (Nx.refl q1.1)
def Yb(ht:GT X W c m1 t)(ha:GE X W c m2 a)(hb:GE X W c m3 b):GE X W c (.ite m1 m2 m3) (.IfExp t a b pos):=by
 intro env
 refine PE.imp (sY ht ha.am hb.am) fun σ H Q q=>?_
 refine⟨env,yV q fun k δ H1 N q1=>?_⟩
 cases k with
 |true=>rw[if_pos rfl]at q1⊢;exact⟨δ,q1⟩
 |false=>rw[if_neg Qjq]at q1⊢;exact⟨δ,q1⟩
def DP{i:Int}{K:QQq}{vs:List V}(h:at? xs i=some d)(l:ao K H xs vs):∃v,YD vs i=some v/\bj K H d v:=by
 unfold at? at h
 cases e:ix? xs.length i with
 |none=>rw[e]at h;cases h
 |some j=>
  rw[e]at h
  obtain⟨v,q1,q2⟩:=l.get (h)
  refine⟨v,?_,q2⟩
  unfold YD
  have:RV vs.length i=some j:=by
   unfold ix? at e
   unfold RV
   rw[<-l.length]
   by_cases h0:i<0
   ·simp only[h0,if_true]at e
    split at e
    ·rename_i hc
     cases e
     rw[if_neg (by omega),if_pos (by omega)]
    ·cases e
   ·simp only[h0,if_false]at e
    split at e
    ·rename_i hc
     cases e
     rw[if_pos (by omega),if_pos (by omega)]
    ·cases e
  rw[this]
  exact q1
theorem pG{K:QQq}{H:Hp}(k:Key):∀{kvs:List (Key×V)}{ds:List D}{d:D},eN (dB k) (kvs.map fun p=>dB p.1) ds=some d->ao K H ds (kvs.map (·.2))->∃v,fJ kvs k=some v/\bj K H d v
 |[],ds,d,h,_=>by cases h
 |(k',v)::r,ds,d,h,l=>by
  rw[Qyq]at h l
  cases ds with
  |nil=>obtain⟨⟩:=ao.bQ.mp l
  |cons d' ds=>
   obtain⟨w,ws,e,h1,h2⟩:=ao.aZ.mp l
   cases e
   have e:fZ (dB k') (dB k)=decide (k'=k):=by
    cases k'<;>cases k<;>simp[dB,fZ,Bool.beq_eq_decide_eq]
   simp only[eN,e]at h
   by_cases q:k'=k
   ·simp only[q,decide_true,if_true]at h
    cases h
    exact⟨v,jb q,h1⟩
   ·simp only[q,decide_false,Qyz,if_false]at h
    obtain⟨u,q1,q2⟩:=pG k h h2
    exact⟨u,by rw[jc q];exact q1,q2⟩
noncomputable def aaX:R2:=fun x y H Q=>∃a k kvs v,x=.ref a/\y=kV k/\Rd H a (.dK kvs)/\fJ kvs k=some v/\Q v H
def Xo(hu:X.A.units+1<cLine):O9 X aaX:=by
 intro value slice γ s σ H x y v u Q I rx ry h hs
 obtain⟨a,k,kvs,w,rfl,rfl,hd,hv,q⟩:=h
 cases rx
 have g:lJ H a (kV k) (some w):=.inl ⟨kvs,k,hd,rfl,hv.symm⟩
 exact PyProof.Rows.tail_any (qz I g) PySem.F.slot_dict_getitem.lookup (wD hu I g ry fun w' s3 I3 rw'=>⟨w,H,I3,rw',q⟩) hs
def aaY(K:QQq):R2:=fun x y H Q=>Wo K x y H Q\/Wn K x y H Q\/aaX x y H Q
def Mm(hu:X.A.units+2<cLine):O9 X (aaY X.K):=Gh.or (Mj.or (Xo (by omega)))
def wA{K:QQq}{H:Hp}{d y z:D}{v u:V}{Q:VK}(D1:eY K H d v)(D2:bj K H y u)(e:getD d y=some z)(q:∀w,bj K H z w->Q w H):aaY K v u H Q:=by
 cases d with
 |tup xs=>
  cases y with
  |int i=>
   obtain⟨a,vs,rfl,hq,l⟩:=cX D1.tup
   obtain⟨w,e1,e2⟩:=DP e l
   exact .inr (.inl ⟨a,vs,i,w,rfl,D2,hq,e1,q w e2⟩)
  |_=>cases e
 |lst xs=>
  cases y with
  |int i=>
   obtain⟨a,vs,rfl,hq,l⟩:=D1.J7
   rcases hq with hq|hq
   ·obtain⟨w,e1,e2⟩:=DP e l
    exact .inl ⟨a,vs,i,w,rfl,D2,hq,e1,q w e2⟩
   ·obtain⟨w,e1,e2⟩:=DP e l
    exact .inr (.inl ⟨a,vs,i,w,rfl,D2,hq,e1,q w e2⟩)
  |_=>cases e
 |cP ks ds=>
  have e':(if keyOk y=true then eN y ks ds else none)=some z:=by cases y<;>exact e
  split at e'
  ·rename_i hk
   obtain⟨k,rfl⟩:=gW hk
   obtain⟨a,kvs,rfl,ha,rfl,l⟩:=oW D1
   obtain⟨w,e1,e2⟩:=pG k e' l
   exact .inr (.inr ⟨a,k,kvs,w,rfl,mq D2,ha,e1,q w e2⟩)
  ·cases e'
 |_=>cases y<;>cases e
def Yd(hu:X.A.units+2<cLine)(ha:GE X W c m1 a)(hb:GE X W c m2 b)(hv:∀k,m1.az=some k->∃x p,a=.Name x p/\jU X k x)(hs:yC b):GE X W c (.idx m1 m2) (.Subscript a b pos):=by
 intro env
 cases q:m1.az with
 |some k=>
  obtain⟨x,p,rfl,nm⟩:=hv k q
  refine PE.imp (Uv (Mm hu) nm.pe hb.d hs) fun σ H Q h=>?_
  simp only[Ha,q]at h
  cases e0:aW k env with
  |none=>rw[e0]at h;exact h.2.elim
  |some d0=>
   rw[e0]at h
   obtain⟨u,eu,_⟩:=fV h.1 e0
   refine⟨u,eu,env,aL h fun d δ v H1 N1 D1 h1=>?_⟩
   obtain⟨z,ez,S,q3⟩:=cR h1
   cases e1:aW k δ with
   |none=>rw[e1]at ez;cases ez
   |some d2=>
    rw[e1]at ez
    simp only[Option.bind]at ez
    obtain⟨u',eu',D2⟩:=fV S e1
    rw[eu]at eu'
    cases eu'
    cases e2:getD d2 d with
    |none=>rw[e2]at ez;cases ez
    |some w=>
     rw[e2]at ez
     cases ez
     exact wA D2 D1 e2 fun w' hw=>q3 w' H1 (Nx.refl S) hw
 |none=>
  refine PE.imp (Uv (Mm hu) ha.d hb.d hs) fun σ H Q h=>?_
  simp only[Ha,q]at h
  refine⟨env,aL h fun d δ v H1 N1 D1 h1=>⟨δ,aL h1 fun d2 ε u H2 N2 D2 h2=>?_⟩⟩
  obtain⟨z,ez,S,q3⟩:=cR h2
  cases e2:getD d d2 with
  |none=>rw[e2]at ez;cases ez
  |some w=>
   rw[e2]at ez
   cases ez
   exact wA (.inl (D1.mono N2.pers)) D2 e2 fun w' hw=>q3 w' H2 (Nx.refl S) hw
end
structure Nz(K:QQq)(env:Ev)(σ:St)(H:Hp)(env':Ev)(ζ:St)(H':Hp):Prop where
 gK:Sat K env' ζ H'
 sub:∀(i:Nat)a,aK env' ζ i a->aK env σ i a\/H a=none
 pers:bR H H'
 keep:∀b u,H b=some u->(∀i,¬aK env σ i b)->H' b=some u
 dom:∀b,H' b=none->H b=none
 bors:∀(i:Nat)xs,env[i]? =some (.bor xs)->(∃ys,env'[i]? =some (.bor ys))/\ζ[i]? =σ[i]?
section
theorem Nx.z(N:Nx K env σ H δ H1):Nz K env σ H δ σ H1:=⟨N.gK,fun i a z=>.inl (N.sub i a z),N.pers,N.keep,N.dom,fun i xs e=>⟨N.bors i xs e,rfl⟩⟩
theorem Nz.refl(S:Sat K env σ H):Nz K env σ H env σ H:=(Nx.refl S).z
theorem Nz.trans(a:Nz K env σ H δ ξ H1)(b:Nz K δ ξ H1 ε υ H2):Nz K env σ H ε υ H2 where
 gK:=b.gK
 sub:=fun i c z=>by
  rcases b.sub i c z with q|q
  ·exact a.sub i c q
  ·exact .inr (a.dom c q)
 pers:=a.pers.trans b.pers
 keep:=fun c vs z n=>b.keep c vs (a.keep c vs z n) fun i w=>by
  rcases a.sub i c w with q|q
  ·exact n i q
  ·rw[q]at z;cases z
 dom:=fun c z=>a.dom c (b.dom c z)
 bors:=fun i xs e=>by
  obtain⟨⟨ys,e1⟩,s1⟩:=a.bors i xs e
  obtain⟨q,s2⟩:=b.bors i ys e1
  exact⟨q,s2.trans s1⟩
noncomputable def O7(K:QQq)(env:Ev)(σ:St)(H H':Hp):Rv->V->Prop
 |.val d,v=>bj K H' d v
 |.new q,v=>∃a,v=.ref a/\jo K H' q a/\(H a=none\/∃(i:Nat)(ys:Ob),env[i]? =some (.own ys)/\σ[i]? =some (some (.ref a)))
 |_,_=>False
def O7.back{v:V}(N:Nz K env σ H δ ξ H1)(h:O7 K δ ξ H1 H2 r v):O7 K env σ H H2 r v:=by
 cases r with
 |val d=>exact h
 |new xs=>
  obtain⟨a,e,p,z⟩:=h
  refine⟨a,e,p,?_⟩
  rcases z with z|⟨i,ys,z1,z2⟩
  ·exact .inl (N.dom a z)
  ·rcases N.sub i a ⟨⟨_,ys,z1,rfl⟩,z2⟩with ⟨⟨s,xs',q1,q2⟩,q3⟩|q
   ·cases s with
    |own w=>exact .inr ⟨i,w,q1,q3⟩
    |bor w=>
     obtain⟨⟨w',q⟩,_⟩:=N.bors i w q1
     rw[z1]at q;cases q
    |un=>cases q2
    |val d=>cases q2
   ·exact .inl q
 |ref i=>exact h.elim
 |tmp xs=>exact h.elim
end
noncomputable def tS(K:QQq)(W:Wi)(env:Ev)(f:Fl):TS:=fun D σ H=>Sat K env σ H/\match f with
 |.next env'=>∀ζ H',Nz K env σ H env' ζ H'->D.nx ζ H'
 |.ret r env'=>∀v ζ H',Nz K env σ H env' ζ H'->O7 K env σ H H' r v->D.rt v H'
 |.brk env'=>∀ζ H',Nz K env σ H env' ζ H'->D.bk ζ H'
 |.cont env'=>∀ζ H',Nz K env σ H env' ζ H'->D.ct ζ H'
 |.exc c env'=>∀ζ H',Nz K env σ H env' ζ H'->W c env' ζ H'
 |.bad=>False
def GS(X:Cx)(W:Wi)(c:Cf)(m:S)(st:Stmt):Prop:=∀env,PS X st (tS X.K W env (ex c m env))
def PB(X:Cx)(W:Wi)(c:Cf)(m:S)(st:List Stmt):Prop:=∀env,uZ X st (tS X.K W env (ex c m env))
section
def PS.imp(h:PS X st t)(i:∀D σ H,t' D σ H->t D σ H):PS X st t':=fun γ s σ H D I q=>h γ s σ H D I (i D σ H q)
def uZ.imp(h:uZ X sts t)(i:∀D σ H,t' D σ H->t D σ H):uZ X sts t':=fun γ s σ H D I q=>h γ s σ H D I (i D σ H q)
def rK{env δ:Ev}{H H1:Hp}{D:Ends}(h:tS K W env f D σ H)(N:Nz K env σ H δ ξ H1):tS K W δ f D ξ H1:=by
 obtain⟨_,h⟩:=h
 refine⟨N.gK,?_⟩
 cases f with
 |next ε=>exact fun ζ H' N'=>h ζ H' (N.trans N')
 |ret r ε=>exact fun v ζ H' N' k=>h v ζ H' (N.trans N') (k.back N)
 |brk ε=>exact fun ζ H' N'=>h ζ H' (N.trans N')
 |cont ε=>exact fun ζ H' N'=>h ζ H' (N.trans N')
 |exc k ε=>exact fun ζ H' N'=>h ζ H' (N.trans N')
 |bad=>exact h
def R3:PB X W c .nil []:=fun env=>uZ.imp xu fun D σ H q=>by
 exact q.2 σ H (Nz.refl q.1)
def MP(h:GS X W c m1 st)(t:PB X W c m2 sts):PB X W c (.cons m1 m2) (st::sts):=by
 intro env
 have B:uZ X _ (j9 (fun D σ H=>∃env,tS X.K W env _ D σ H) (fun D σ H=>∃env,tS X.K W env _ D σ H)):=
  bY (fun γ s σ H D I⟨env,q⟩=>h env γ s σ H D I q) (fun γ s σ H D I⟨env,q⟩=>t env γ s σ H D I q)
 refine uZ.imp B fun D σ H q=>?_
 simp only[x_1]at q
 refine⟨env,q.1,?_⟩
 cases r:ex c m1 env with
 |next δ=>
  rw[r]at q
  exact fun ξ H1 N1=>⟨δ,rK q N1⟩
 |_=>rw[r]at q;exact q.2
theorem rM{env:Ev}{H:Hp}{D:Ends}{r:Out Rv}{R:VK}(h:tS K W env (r.m9 f) D σ H)
  (k:∀d δ v H1,Nx K env σ H δ H1->bj K H1 d v->tS K W δ (f d δ) D σ H1->R v H1):tD K W env r σ H R:=by
 have step:∀d δ,r.m9 f=f d δ->∀v H1,Nx K env σ H δ H1->bj K H1 d v->R v H1:=fun d δ e v H1 N Dv=>by
  rw[e]at h
  exact k d δ v H1 N Dv (rK h N.z)
 obtain⟨S,h⟩:=h
 refine⟨S,?_⟩
 cases r with
 |bad=>exact h
 |exc c δ=>exact fun H' N=>h σ H' N.z
 |ok x δ=>
  cases x with
  |val d=>exact fun v H1 N Dv=>step d δ rfl v H1 N Dv
  |new xs=>exact fun v H1 N Dv=>step xs.d δ rfl v H1 N Dv
  |ref i=>exact h
  |tmp xs=>exact h
theorem JW{env:Ev}{H:Hp}{D:Ends}{f:Bool->Ev->Fl}(h:tS K W env (r.Nm f) D σ H)
  (k:∀b δ H1,Nx K env σ H δ H1->tS K W δ (f b δ) D σ H1->R b H1):tT K W env r σ H R:=by
 have step:∀d δ x,x.lw=some d->r=.ok x δ->∃b,jq d=some b/\∀H1,Nx K env σ H δ H1->R b H1:=fun d δ x ex er=>by
  subst er
  cases q:jq d with
  |none=>
   cases x with
   |val d'=>cases ex;simp only[Out.Nm,Out.m9,q]at h;exact h.2.elim
   |new xs=>cases ex;simp only[Out.Nm,Out.m9,q]at h;exact h.2.elim
   |ref i=>cases ex
   |tmp xs=>cases ex
  |some b=>
   refine⟨b,rfl,fun H1 N=>k b δ H1 N (rK ?_ N.z)⟩
   cases x with
   |val d'=>cases ex;simp only[Out.Nm,Out.m9,q]at h;exact h
   |new xs=>cases ex;simp only[Out.Nm,Out.m9,q]at h;exact h
   |ref i=>cases ex
   |tmp xs=>cases ex
 refine⟨h.1,?_⟩
 cases r with
 |bad=>exact h.2
 |exc c δ=>exact fun H' N=>h.2 σ H' N.z
 |ok x δ=>
  cases x with
  |val d=>obtain⟨b,e,q⟩:=step d δ _ rfl rfl;exact⟨d,b,rfl,e,q⟩
  |new xs=>obtain⟨b,e,q⟩:=step xs.d δ _ rfl rfl;exact⟨xs.d,b,rfl,e,q⟩
  |ref i=>exact h.2.elim
  |tmp xs=>exact h.2.elim
def abK{te:Expr}(ht:GT X W c t te)(h1:PB X W c m1 s1)(h2:PB X W c m2 s2):GS X W c (.ite t m1 m2) (.If te s1 s2 pos):=by
 intro env
 refine PS.imp (KR ht (t:=fun D σ H=>∃env,tS X.K W env _ D σ H) (u:=fun D σ H=>∃env,tS X.K W env _ D σ H)
  (fun γ s σ H D I⟨env,q⟩=>h1 env γ s σ H D I q) (fun γ s σ H D I⟨env,q⟩=>h2 env γ s σ H D I q)) fun D σ H q=>?_
 refine⟨env,JW q fun b δ H1 N q1=>?_⟩
 cases b with
 |true=>rw[if_pos rfl]at q1⊢;exact⟨δ,q1⟩
 |false=>rw[if_neg Qjq]at q1⊢;exact⟨δ,q1⟩
def R6{m:E}(h:GE X W c m e)(hs:swapsWith e none pos.line X.env=pure false):GS X W c (.expr m) (.Expr e pos):=by
 intro env
 exact PS.imp (lQ h.d hs) fun D σ H q=>⟨env,rM q fun d δ v H1 N Dv q1=>q1.2 σ H1 (Nz.refl q1.1)⟩
def M5:GS X W0 c (.raise k) st:=fun env γ s σ H D I q=>by
 exact(q.2 σ H (Nz.refl q.1)).elim
end
section
variable{env δ ε:Ev}{σ ξ υ:St}
def lU{s:Sl}{a:Addr}(h:aK (env.set i s) (σ.set i (some v)) j a)(hj:i≠j):aK env σ j a:=by
 obtain⟨⟨t,xs,e1,e2⟩,e3⟩:=h
 rw[Qxq hj]at e1 e3
 exact⟨⟨t,xs,e1,e2⟩,e3⟩
def oE{s:Sl}{a:Addr}(hi:i<env.length)(hs:i<σ.length)(h:aK (env.set i s) (σ.set i (some v)) i a):isOwn s≠none/\v=.ref a:=by
 obtain⟨⟨t,xs,e1,e2⟩,e3⟩:=h
 rw[Qxz hi]at e1
 rw[Qxz hs]at e3
 cases e1
 cases e3
 exact⟨by rw[e2];simp,rfl⟩
def Sat.BW{q:Ob}(S:Sat K env σ H)(hi:i<env.length)(ha:jo K H q a)(no:∀k,¬aK env σ k a):Sat K (env.set i (.own q)) (σ.set i (some (.ref a))) H:=by
 have hs:i<σ.length:=by rw[<-S.len];exact hi
 refine⟨by simpa using S.len,fun j s e=>?_,fun j k b h1 h2=>?_⟩
 ·by_cases hj:i=j
  ·subst hj
   rw[Qxz hi]at e
   cases e
   exact⟨a,by rw[Qxz hs];rfl,ha⟩
  ·rw[Qxq hj]at e⊢
   exact S.sl j s e
 ·by_cases hj:i=j
  ·subst hj
   by_cases hk:i=k
   ·exact hk
   ·obtain⟨_,z⟩:=oE hi hs h1
    cases z
    exact absurd (lU h2 hk) (no k)
  ·by_cases hk:i=k
   ·subst hk
    obtain⟨_,z⟩:=oE hi hs h2
    cases z
    exact absurd (lU h1 hj) (no j)
   ·exact S.ne j k b (lU h1 hj) (lU h2 hk)
theorem Nz.put{x:Rv}{v:V}(S:Sat K env σ H)(N:Nx K env σ H δ H1)(hx:iG K σ H H1 x v)(hs:x.Bq=some s)(h:eG i s δ=some ε):Nz K env σ H ε (σ.set i (some v)) H1:=by
 obtain⟨rfl,hi,nb⟩:=sE h
 have hsl:i<σ.length:=by rw[<-N.gK.len];exact hi
 have bors:∀(j:Nat)xs,env[j]? =some _->(∃ys,(δ.set i s)[j]? =some _)/\(σ.set i (some v))[j]? =σ[j]? :=fun j xs e=>by
  obtain⟨ys,e1⟩:=N.bors j xs e
  have hj:i≠j:=fun z=>by subst z;exact nb ys e1
  exact⟨⟨ys,by rw[Qxq hj];exact e1⟩,by rw[Qxq hj]⟩
 cases x with
 |val d=>
  cases hs
  refine⟨N.gK.put hi hx,fun j a z=>.inl ?_,N.pers,N.keep,N.dom,bors⟩
  by_cases hj:i=j
  ·subst hj
   exact absurd rfl (oE hi hsl z).1
  ·exact N.sub j a (lU z hj)
 |new q=>
  cases hs
  obtain⟨a,rfl,oa,h0⟩:=hx
  refine⟨N.gK.BW hi oa fun k z=>S.pB h0 k (N.sub k a z),fun j b z=>?_,N.pers,N.keep,N.dom,bors⟩
  by_cases hj:i=j
  ·subst hj
   obtain⟨_,z⟩:=oE hi hsl z
   cases z
   exact .inr h0
  ·exact .inl (N.sub j b (lU z hj))
 |ref j=>cases hs
 |tmp q=>cases hs
end
section
theorem T9{env:Ev}{H:Hp}{D:Ends}{r:Out Rv}{R:VK}(h:tS K W env (r.fl f) D σ H)
  (k:∀x δ v H1,Nx K env σ H δ H1->iG K σ H H1 x v->tS K W env (f x δ) D σ H->R v H1):tM K W env r σ H R:=by
 obtain⟨S,h⟩:=h
 refine⟨S,?_⟩
 cases r with
 |bad=>exact h
 |exc c δ=>exact fun H' N=>h σ H' N.z
 |ok x δ=>exact fun v H1 N z=>k x δ v H1 N z ⟨S,h⟩
def Es{i:Nat}{D:Ends}{H:Hp}(q:tS K W env (ex c (.set i m) env) D σ H):tM K W env (ev c m env) σ H fun v H1=>D.nx (σ.set i (some v)) H1:=by
 refine T9 q fun x δ v H1 N z q1=>?_
 cases e1:x.Bq with
 |none=>rw[e1]at q1;exact q1.2.elim
 |some s=>
  rw[e1]at q1
  simp only[Option.bind]at q1
  cases e2:eG i s δ with
  |none=>rw[e2]at q1;exact q1.2.elim
  |some ε=>
   rw[e2]at q1
   exact q1.2 _ _ (Nz.put q1.1 N z e1 e2)
def M4{x:Str}(h:GE X W c m e)(hN:X.N.Nodup)(hi:X.N[i]? =some x)(hx:Loc X.env.scope x)(hf:X.fn x=true\/X.env.scope.names.lookup x=some .local)
  (hs:swapsWith e (some (.Name x pos')) pos.line X.env=pure false):GS X W c (.set i m) (.Assign [.Name x pos'] e pos):=fun env=>
 PS.imp (sU hN hi hx h.am hs hf) fun D σ H q=>⟨env,Es q⟩
def J5{env:Ev}{D:Ends}{H:Hp}(q:tS K W env (ex c (.setT is m) env) D σ H):tD K W env (ev c m env) σ H fun v H1=>tG K (.tup is) v σ H1 D.nx:=by
 refine rM q fun d δ v H1 N Dv q1=>?_
 cases e2:cY _ d δ with
 |none=>rw[e2]at q1;exact q1.2.elim
 |some ε=>
  rw[e2]at q1
  exact⟨δ,d,ε,q1.1,Dv,e2,fun ζ st=>q1.2 ζ H1 ⟨st.gK,fun i a z=>.inl (st.sub z),bR.refl _,fun _ _ z _=>z,fun _ z=>z,fun i xs e=>⟨⟨xs,(st.same i (st.bors i xs e)).1.trans e⟩,(st.same i (st.bors i xs e)).2⟩⟩⟩
def R4{tg:Expr}(h:GE X W c m e)(hg:GG X (.tup is) tg)(hs:swapsWithSole [tg] e pos.line X.env=pure false)(hw:swappedStores [tg] e X.env=pure none)
  (h1:(assignEach [tg] X.env).map (·.2)=[assign tg X.env]):GS X W c (.setT is m) (.Assign [tg] e pos):=fun env=>
 PS.imp (KY h.d hg hs hw h1) fun D σ H q=>⟨env,J5 q⟩
end
theorem Dn(env:Env):∀(names:List (Str×NameKind))(cs:List (Str×Addr)),(∀x∈names,x.2=.free->∃c,env.cells.lookup x.1=some c)->(∀x c,cs.lookup x=some c->env.cells.lookup x=some c)->
  ∃cl,(do
   let s<-forIn names cs (fun(x:Str×NameKind)cs=>match x with
    |(name,kind)=>if (kind==NameKind.free)=true then do
      let a<-cellOf env name
      pure (ForInStep.yield ((name,a)::cs))
     else pure (ForInStep.yield cs))
   pure s:Sem (List (Str×Addr)))=(pure cl:Sem _)/\
   (∀x c,cl.lookup x=some c->env.cells.lookup x=some c)/\(∀x,(x,NameKind.free)∈names->∃c,cl.lookup x=some c)/\∀x c,cs.lookup x=some c->∃c,cl.lookup x=some c:=by
 intro names
 induction names with
 |nil=>intro cs h1 h2;exact⟨cs,rfl,h2,by simp,fun x c e=>⟨c,e⟩⟩
 |cons p r ih=>
  intro cs h1 h2
  obtain⟨n,k⟩:=p
  by_cases hk:k=.free
  ·subst hk
   obtain⟨c,hc⟩:=h1 _ QYz rfl
   have q2:∀x d,((n,c)::cs).lookup x=some d->env.cells.lookup x=some d:=fun x d e=>by
    rw[QFz]at e
    cases hx:x==n with
    |true=>rw[hx]at e;cases e;rw[eq_of_beq hx];exact hc
    |false=>rw[hx]at e;exact h2 x d e
   obtain⟨cl,e1,e2,e3,e4⟩:=ih _ (fun x hx=>h1 x (QYq _ hx)) q2
   have own:=e4 n c (by simp[QFz])
   refine⟨cl,?_,e2,fun x hx=>?_,fun x d e=>?_⟩
   ·rw[<-e1]
    have:cellOf env n=pure c:=by unfold cellOf;rw[hc]
    simp only[List.forIn_cons]
    rw[if_pos (show(NameKind.free==NameKind.free)=true from rfl),this]
    rfl
   ·rcases QBz.mp hx with z|z
    ·cases z;exact own
    ·exact e3 x z
   ·cases hx:x==n with
    |true=>rw[eq_of_beq hx];exact own
    |false=>exact e4 x d (by rw[QFz,hx];exact e)
  ·obtain⟨cl,e1,e2,e3,e4⟩:=ih cs (fun x hx=>h1 x (QYq _ hx)) h2
   refine⟨cl,?_,e2,fun x hx=>?_,e4⟩
   ·rw[<-e1]
    simp only[List.forIn_cons]
    rw[if_neg (fun z=>hk (eq_of_beq z))]
    rfl
   ·rcases QBz.mp hx with z|z
    ·cases z;exact absurd rfl hk
    ·exact e3 x z
def afT{env:Env}(h:∀x∈scope.names,x.2=.free->∃c,env.cells.lookup x.1=some c):∃cl,Pj scope env cl:=by
 obtain⟨cl,e1,e2,e3,_⟩:=Dn env scope.names [] h (by simp)
 refine⟨cl,?_,e2,fun x hx=>e3 x (PySem.mem_of_lookup hx)⟩
 have q:closureFor scope env=(forIn scope.names [] (fun(x:Str×NameKind)cs=>match x with
    |(name,kind)=>if (kind==NameKind.free)=true then do
      let a<-cellOf env name
      pure (ForInStep.yield ((name,a)::cs))
     else pure (ForInStep.yield cs)))>>=pure:=rfl
 rw[q,e1]
 rfl
section
variable{it cond elt:E}{pos spos py:Pos}
theorem Gx{env:Ev}{H:Hp}{Q:VK}
  (q:tM K W env (ev c (.comp nl tg it cond elt) env) σ H Q)
  (k:∀J H1 δ xs ys τ,Nx K env σ H δ H1->Gives K J xs H1->aP tg (ev c cond) (ev c elt) xs [] (List.replicate nl Sl.un++δ)=.ok ys τ->
   (∀v H2,Nx K env σ H (τ.drop nl) H2->iG K σ H H2 (.new (.lst ys)) v->Q v H2)->R J H1):tI K W env (ev c it env) σ H R:=by
 simp only[nO]at q
 obtain⟨S,q⟩:=q
 refine⟨S,?_⟩
 cases r:ev c it env with
 |bad=>rw[r]at q;exact q
 |exc k δ=>rw[r]at q;exact q
 |ok x δ=>
  rw[r]at q
  have go:∀d,x.lw=some d->(match (match items d with
    |some xs=>match aP tg (ev c cond) (ev c elt) xs [] (List.replicate nl Sl.un++δ)with
     |.ok ys τ=>Out.ok (Rv.new (.lst ys)) (τ.drop nl)
     |_=>.bad
    |none=>.bad)with
   |.ok x env'=>∀v H',Nx K env σ H env' H'->iG K σ H H' x v->Q v H'
   |.exc c env'=>∀H',Nx K env σ H env' H'->W c env' σ H'
   |.bad=>False)->∃d xs,x.lw=some d/\items d=some xs/\∀J H',Nx K env σ H δ H'->Gives K J xs H'->R J H':=fun d ed z=>by
   cases e1:items d with
   |none=>rw[e1]at z;exact z.elim
   |some xs=>
    rw[e1]at z
    simp only at z
    cases e2:aP tg _ _ xs [] _ with
    |bad=>rw[e2]at z;exact z.elim
    |exc k τ=>rw[e2]at z;exact z.elim
    |ok ys τ=>
     rw[e2]at z
     exact⟨d,xs,ed,e1,fun J H1 N G=>k J H1 δ xs ys τ N G e2 z⟩
  cases x with
  |val d=>exact go d rfl q
  |new o=>exact go o.d rfl q
  |ref i=>exact q.elim
  |tmp o=>exact q.elim
def Inv.letGo{σ:St}{H:Hp}{C:Addr}(I:Inv X γ σ H s)(f:eE X γ H C)(hs:Heap.SameBut C s.heap h'):Inv X γ σ H {s with heap:=h'}:=by
 exact I.turned (fun b o hb e=>(hs.2 b hb).trans e) f.1 f.2.1 f.2.2.2.1 f.2.2.2.2.1 f.2.2.2.2.2
theorem Jp.cl{σ:St}{H:Hp}(sc:Jp X.env.scope scope η X.N)(I:Inv X γ σ H s):∃cl,Pj scope X.env cl:=
 afT fun x hx hf=>I.ok.has x.1 (sc.fre x hx hf)
def Sh(B:Aq X c scope η tg cond elt tgE Φ ifs)(hi:GI X W c it tgE ο)(hc:X.calm=true)(hs:∀x,foldedSetIterable ο X.env x=pure x):
  GE X W c (.comp η.length tg it cond elt) (.ListComp Φ [⟨tgE,ο,ifs,0⟩] scope pos):=by
 intro env γ s σ H Q I q
 obtain⟨cl,co⟩:=B.sc.cl I
 refine wpAny_comprehension_free rfl hs co.eq B.sc.kind B.sc.locs (cj (hi env γ s σ H _ I (Gx q (R:=fun J H1=>∃δ xs ys τ,Nx X.K env σ H δ H1/\Gives X.K J xs H1/\aP tg _ _ xs [] _=.ok ys τ/\
  (∀v H2,Nx X.K env σ H _ H2->iG X.K σ H H2 _ v->Q v H2)) fun J H1 δ xs ys τ N G e z=>⟨δ,xs,ys,τ,N,G,e,z⟩)) fun v s1 h1=>cj h1 fun itv s2 h2=>?_)
 obtain⟨ita,fp,tn,J,H1,rfl,I1,T,t0,hf,δ,xs,ys,τ,N,G,e,z⟩:=h2
 refine wF B hc co I1 N.gK T t0 hf G e fun D C s' H' vs m I' N' hD hl hn hC fC=>?_
 refine⟨m,hC,fun h' hs'=>⟨.ref D,H',Inv.letGo I' fC hs',rfl,z _ _ (N.trans N') ⟨D,rfl,⟨_,hD,vs,rfl,hl⟩,N.dom D hn⟩⟩⟩
def CQ{x:Str}(B:Aq X c scope η tg cond elt tgE Φ ifs)(hi:GI X W c it tgE ο)(hc:X.calm=true)(hs:∀x,foldedSetIterable ο X.env x=pure x)
  (hN:X.N.Nodup)(hx:X.N[i]? =some x)(hl:Loc X.env.scope x)(hf:X.fn x=true\/X.env.scope.names.lookup x=some .local)
  (hsw:swapsWith (.ListComp Φ [⟨tgE,ο,ifs,0⟩] scope pos) (some (.Name x py)) spos.line X.env=pure true):
  GS X W c (.set i (.comp η.length tg it cond elt)) (.Assign [.Name x py] (.ListComp Φ [⟨tgE,ο,ifs,0⟩] scope pos) spos):=by
 intro env γ s σ H D I q
 obtain⟨cl,co⟩:=B.sc.cl I
 rw[exec_Assign_Name_used _ _ _ _ hsw]
 refine QTz (wpAny_standAt (QTz ?_))
 refine QTz (QKz (wpAny_comprehension_free rfl hs co.eq B.sc.kind B.sc.locs
  (cj (hi env γ s σ H _ I (Gx (Es q) (R:=fun J H1=>∃δ xs ys τ,Nx X.K env σ H δ H1/\Gives X.K J xs H1/\aP tg _ _ xs [] _=.ok ys τ/\
  (∀v H2,Nx X.K env σ H _ H2->iG X.K σ H H2 _ v->D.nx _ H2)) fun J H1 δ xs ys τ N G e z=>⟨δ,xs,ys,τ,N,G,e,z⟩)) fun v s1 h1=>cj h1 fun itv s2 h2=>?_))
  (fun _ s' hq=>QKq (QKq hq)) fun _ _ e=>e)
 obtain⟨ita,fp,tn,J,H1,rfl,I1,T,t0,hf',δ,xs,ys,τ,N,G,e,z⟩:=h2
 refine wF B hc co I1 N.gK T t0 hf' G e fun A C s' H' vs m I' N' hD hl' hn hC fC=>?_
 refine wpAny_assign_Name (vm (v:=.ref A) I' hN hx hl rfl (fun s'' I''⟨a,ha,hor⟩=>?_) hf)
 have hCa:C≠a:=by
  rcases hor with rfl|hor
  ·exact fC.2.1
  ·exact fun z=>fC.2.2.2.2.1 x a hor z.symm
 refine⟨m,hC.sameBut ha hCa,fun h' hs'=>⟨_,H',Inv.letGo I'' fC hs',z _ _ (N.trans N') ⟨A,rfl,⟨_,hD,vs,rfl,hl'⟩,N.dom A hn⟩⟩⟩
end
section
theorem IW(hq:j5 K H a vs)(l:ao K H xs vs)(hz:vs.length<=sizeLine):Gives K (Itt K a) xs H where
 go:=fun H1 p i d e=>by
  obtain⟨v,ev,_⟩:=l.get e
  exact⟨vs,v,p.Wa hq,ev⟩
 yld:=fun H1 p i d e x H2 y=>by
  obtain⟨rfl,y⟩:=y
  obtain⟨v,ev,dv⟩:=l.get e
  have:=y vs (p.Wa hq)
  rw[ev]at this
  cases this
  exact⟨dv.mono p,.inl rfl⟩
 stop:=fun H1 p i hi=>⟨vs,p.Wa hq,by rw[<-l.length];exact hi⟩
 len:=by rw[l.length];exact hz
theorem I9(hq:Pa K H a vs)(l:ao K H xs vs)(hz:vs.length<=sizeLine):Gives K (Itl K a) xs H where
 go:=fun H1 p i d e=>by
  obtain⟨v,ev,_⟩:=l.get e
  exact⟨vs,v,(p.U5 hq).sq,ev⟩
 yld:=fun H1 p i d e x H2 y=>by
  obtain⟨rfl,y⟩:=y
  obtain⟨v,ev,dv⟩:=l.get e
  have:=y vs (p.U5 hq).sq
  rw[ev]at this
  cases this
  exact⟨dv.mono p,.inl rfl⟩
 stop:=fun H1 p i hi=>⟨vs,(p.U5 hq).sq,by rw[<-l.length];exact hi⟩
 len:=by rw[l.length];exact hz
noncomputable def Its(x:Str):It:=⟨fun i _=>i<x.cps.size,fun i H v H'=>H'=H/\∃c,x.cps[i]? =some c/\v=.str ⟨#[c]⟩,fun i _=>x.cps.size<=i⟩
def signs_get{i:Nat}(h:(signs x)[i]? =some d):∃c,x.cps[i]? =some c/\d=.str ⟨#[c]⟩:=by
 unfold signs at h
 rw[QEz]at h
 cases e:x.cps.toList[i]? with
 |none=>rw[e]at h;cases h
 |some c=>rw[e]at h;cases h;exact⟨c,by simpa using e,rfl⟩
def o9 x:(signs x).length=x.cps.size:=by simp[signs]
theorem wz{x:Str}(hz:x.cps.size<=sizeLine):Gives K (Its x) (signs x) H where
 go:=fun H1 p i d e=>by
  have:=(QCq.mp e).1
  rw[o9]at this
  exact this
 yld:=fun H1 p i d e v H2 y=>by
  obtain⟨rfl,c,e1,rfl⟩:=y
  obtain⟨c',e2,rfl⟩:=signs_get e
  rw[e1]at e2
  cases e2
  exact⟨rfl,.inl rfl⟩
 stop:=fun H1 p i hi=>by rw[o9]at hi;exact hi
 len:=by rw[o9];exact hz
noncomputable def Itk(a:Addr)(o:Obj)(kvs:List (Key×V)):It:=⟨fun i H=>H a=some (.frz o (.dK kvs))/\i<kvs.length,fun i H v H'=>H'=H/\∃k x,kvs[i]? =some (k,x)/\v=kV k,fun i H=>H a=some (.frz o (.dK kvs))/\kvs.length<=i⟩
def RQ(k:Key):bj K H (dB k) (kV k):=by cases k<;>rfl
theorem Ja{o:Obj}{kvs:List (Key×V)}(ha:H a=some (.frz o (.dK kvs)))(hz:kvs.length<=sizeLine):Gives K (Itk a o kvs) (kvs.map fun p=>dB p.1) H where
 go:=fun H1 p i d e=>by
  have:=(QCq.mp e).1
  rw[Qvz]at this
  exact⟨p.frzs _ _ _ ha,this⟩
 yld:=fun H1 p i d e v H2 y=>by
  obtain⟨rfl,k,x,e1,rfl⟩:=y
  rw[QEz,e1]at e
  cases e
  exact⟨RQ k,.inl rfl⟩
 stop:=fun H1 p i hi=>by rw[Qvz]at hi;exact⟨p.frzs _ _ _ ha,hi⟩
 len:=by rw[Qvz];exact hz
end
section
theorem yM it x t ty(W:∀A':Around,A'.handled=none->Walks P w A' it [it] [it] x.cps.size (SignAt x) (fun i h=>h.IsStrIter it ty x t i))
  (hn:["enumerate","zip","dict_itemiterator","dict_reverseitemiterator","odict_iterator","itertools.zip_longest","itertools.pairwise"].contains ty=false)
  (hself:∀(A:Around)(i:Nat)(s:Shared)(Q:QZq)(E:QZq),s.heap.IsStrIter it ty x t i->Q (.ref it) s->wpAny (model P w) A (pyIter (.ref it)) Q E s):
  Turn P w K tg (Its x) [it] it (fun i h=>h.IsStrIter it ty x t i/\i<=x.cps.size) where
 mem:=by simp
 obj:=fun i h st b hb=>by
  have e:b=it:=by simpa using hb
  subst e
  obtain⟨⟨o,e,_,d⟩,_⟩:=st
  exact⟨o,e,fun v z=>by rw[d]at z;cases z⟩
 keep:=fun i h h' st k=>⟨let ⟨o,e,r⟩:=st.1;⟨o,k it (by simp) o e,r⟩,st.2⟩
 item:=by
  intro X hP hw hK hc i γ s σ H E I hf st hg
  obtain⟨f0,f1,f2,f3,f4,f5⟩:=hf it (by simp)
  refine(W X.A (I.ok.hd hc)).item i s _ _ hg st.1 fun v h' tk hv st' kk=>?_
  obtain⟨c,t,hx,rfl⟩:=hv
  obtain⟨o,e,cl,d⟩:=id st'
  exact⟨_,rfl,zZ e cl d hn ⟨.str ⟨#[c]⟩,H,(I.turned (fun b o hb e=>kk b o (by simpa using hb) e) f0 f1 f3 f4 f5),⟨t,rfl⟩,⟨rfl,c,hx,rfl⟩,⟨st',hg⟩,fun b hb=>(hf b hb).1⟩⟩
 done:=by
  intro X hP hw hK hc i γ s σ H E I hf st hg
  obtain⟨f0,f1,f2,f3,f4,f5⟩:=hf it (by simp)
  have e:=Nat.le_antisymm st.2 hg
  subst e
  exact(W X.A (I.ok.hd hc)).done s _ _ st.1 fun h' tk kk=>⟨rfl,I.turned (fun b o hb e=>kk b o (by simpa using hb) e) f0 f1 f3 f4 f5⟩
 self:=fun A i s Q E st h=>hself A i s Q E st.1 h
def KV.at_{kvs:List (Key×V)}{vs:List (Key×Value)}(r:KV kvs vs):∀{i:Nat}{k:Key}{x:V},kvs[i]? =some (k,x)->∃u,vs[i]? =some (k,u):=by
 intro i k x e
 induction r generalizing i with
 |nil=>simp at e
 | @cons p q ps qs h t ih=>
  cases i with
  |zero=>
   simp at e
   subst e
   exact⟨q.2,by simp;rw[Prod.ext_iff];exact⟨h.1.symm,rfl⟩⟩
  |succ i=>exact ih (by simpa using e)
def wC{P:Program}{w:World}{h:Heap}{a:Addr}{o:Obj}{es:Array DictEntry}{ep:Nat}{vs:List (Key×Value)}(ho:h.get? a=some o)(hd:o.data=.dict es ep)(D:h.DictOf (cA P w) a vs):h.DictAt (cA P w) a vs ep:=by
 obtain⟨o',es',ep',e,x,d,r⟩:=D
 rw[ho]at e
 cases e
 rw[hd]at d
 cases d
 exact⟨o,es,ho,x,hd,r⟩
def RP{P:Program}{w:World}{k:Key}{v:Value}(h:(cA P w).is k v=true):RelV (kV k) v:=by
 rcases bZ (k:=k) (v:=v) h with ⟨i,t,rfl,rfl⟩|⟨x,t,rfl,rfl⟩
 ·exact⟨t,rfl⟩
 ·exact⟨t,rfl⟩
theorem JG(it a:Addr)(o:Obj)(es:Array DictEntry)(kvs:List (Key×V))(ep:Nat)(hep:o.data=.dict es ep):
  Turn P w K tg (Itk a o kvs) [it] it (fun i h=>h.IsKeyIter it a i kvs.length ep) where
 mem:=by simp
 obj:=fun i h st b hb=>by
  have e:b=it:=by simpa using hb
  subst e
  obtain⟨o,e,_,d⟩:=st
  exact⟨o,e,fun v z=>by rw[d]at z;cases z⟩
 keep:=fun i h h' st k=>st.at fun o e=>k it (by simp) o e
 item:=by
  intro X hP hw hK hc i γ s σ H E I hf st hg
  subst hP hw hK
  obtain⟨f0,f1,f2,f3,f4,f5⟩:=hf it (by simp)
  obtain⟨ha,hi⟩:=hg
  obtain⟨ho,hz,_,vs,r,D⟩:=I.hok a _ ha
  have hl:kvs.length=vs.length:=Paired.length r
  obtain⟨⟨k,x⟩,hx⟩:∃p,kvs[i]? =some p:=⟨kvs[i],by simp[hi]⟩
  obtain⟨u,hu⟩:=KV.at_ r hx
  rw[hl]at st
  refine wpAny_pyNext_dict_item st (wC ho hep D) hu fun key h' hk st' sb=>?_
  have I1:Inv X γ σ H {s with heap:=h'}:=I.turned (t':=s.toks) (fun b o hb e=>(sb.2 b hb).trans e) f0 f1 f3 f4 f5
  rw[<-hl]at st'
  obtain⟨oi,e,c,d⟩:=id st'
  exact⟨key,rfl,zZ (s:={s with heap:=h'}) e c d (by decide) ⟨kV k,H,I1,RP hk,⟨rfl,k,x,hx,rfl⟩,st',fun b hb=>(hf b hb).1⟩⟩
 done:=by
  intro X hP hw hK hc i γ s σ H E I hf st hg
  subst hP hw hK
  obtain⟨f0,f1,f2,f3,f4,f5⟩:=hf it (by simp)
  obtain⟨ha,hi⟩:=hg
  obtain⟨ho,hz,_,vs,r,D⟩:=I.hok a _ ha
  have hl:kvs.length=vs.length:=Paired.length r
  rw[hl]at st
  exact wpAny_pyNext_dict_end (I.ok.hd hc) st (wC ho hep D) (by simp;omega) fun h' eb=>⟨rfl,I.turned (t':=s.toks) (fun b o hb e=>eb b o hb e) f0 f1 f3 f4 f5⟩
 self:=fun A i s Q E st h=>wpAny_pyIter_keyiter st h
end
section
end
section
end
section
theorem Mp{γ:QQz}{σ:St}{H:Hp}{s:Shared}{R:It->Hp->Prop}{d:D}{xs:List D}{v:V}{u:Value}(I:Inv X γ σ H s)(rv:RelV v u)(hd:bj X.K H d v)(hi:items d=some xs)(q:∀J,Gives X.K J xs H->R J H):
  wpAny (model X.prog X.w) X.A (pyIter u) (PIE X γ σ tg R) X.xe s:=by
 have fp:∀(s':Shared),s.heap.objs.size<=s'.heap.objs.size->True:=fun _ _=>trivial
 cases d with
 |tup ds=>
  cases hi
  obtain⟨a,vs,rfl,hq,l⟩:=cX hd
  cases rv
  obtain⟨its,r,p,hz⟩:=I.tuple hq
  refine wpAny_pyIter_tuple (show s.heap.IsTuple a its.toArray from p) ?_
  refine⟨s.heap.objs.size,[s.heap.objs.size],_,_,H,rfl,I.kept (t':=s.toks) fun b o e=>QWq _ e,Bf a _,⟨_,Qqz _ rfl,rfl,rfl⟩,fun b hb=>?_,q _ (IW hq l hz)⟩
  have e:b=s.heap.objs.size:=by simpa using hb
  subst e
  exact I.uW (QVz _) (I.hok.fresh (QVz _))
 |lst ds=>
  cases hi
  obtain⟨a,vs,rfl,hq,l⟩:=dX hd
  cases rv
  obtain⟨its,r,p,hz⟩:=I.list hq.sq
  refine wpAny_pyIter_list p.isList ?_
  refine⟨s.heap.objs.size,[s.heap.objs.size],_,_,H,rfl,I.kept (t':=s.toks) fun b o e=>QWq _ e,o7 a _,⟨_,Qqz _ rfl,rfl,rfl⟩,fun b hb=>?_,q _ (I9 hq l hz)⟩
  have e:b=s.heap.objs.size:=by simpa using hb
  subst e
  exact I.uW (QVz _) (I.hok.fresh (QVz _))
 |str x=>
  simp only[items]at hi
  split at hi
  ·rename_i hf
   cases hi
   cases hd
   obtain⟨t,rfl⟩:=rv
   have hz:x.cps.size<=sizeLine:=gw hf
   have fin:∀b∈[s.heap.objs.size],eE X γ H b:=fun b hb=>by
    have e:b=s.heap.objs.size:=by simpa using hb
    subst e
    exact I.uW (QVz _) (I.hok.fresh (QVz _))
   cases ha:x.cps.all (· <128)
   ·refine wpAny_pyIter_wide ha ?_
    exact⟨s.heap.objs.size,[s.heap.objs.size],_,_,H,rfl,I.kept (t':=s.toks) fun b o e=>QWq _ e,yM _ x t "str_iterator" (fun A' hA=>Walks.strWide hA _ x t) (by decide) (fun A i s Q E st h=>wpAny_pyIter_striter_wide st h),⟨⟨_,Qqz _ rfl,rfl,rfl⟩,QHq _⟩,fin,q _ (wz hz)⟩
   ·refine wpAny_pyIter_ascii ha ?_
    exact⟨s.heap.objs.size,[s.heap.objs.size],_,_,H,rfl,I.kept (t':=s.toks) fun b o e=>QWq _ e,yM _ x t "str_ascii_iterator" (fun A' hA=>Walks.strAscii hA _ x t) (by decide) (fun A i s Q E st h=>wpAny_pyIter_striter_ascii st h),⟨⟨_,Qqz _ rfl,rfl,rfl⟩,QHq _⟩,fin,q _ (wz hz)⟩
  ·cases hi
 |cP ks ds=>
  cases hi
  unfold bj at hd
  obtain⟨a,o,kvs,rfl,ha,rfl,l⟩:=hd
  cases rv
  obtain⟨ho,hz,hS,vs,r,D⟩:=I.hok a _ ha
  have hl:kvs.length=vs.length:=Paired.length r
  obtain⟨ep,o',es,e1,e2,e3,e4⟩:=D.dictAt
  rw[ho]at e1
  cases e1
  refine wpAny_pyIter_dict hS ⟨o,es,ho,e2,e3,e4⟩ ?_
  rw[<-hl]
  refine⟨s.heap.objs.size,[s.heap.objs.size],_,_,H,rfl,I.kept (t':=s.toks) fun b o e=>QWq _ e,JG _ a o es kvs ep e3,⟨_,Qqz _ rfl,rfl,rfl⟩,fun b hb=>?_,q _ (Ja ha hz)⟩
  have e:b=s.heap.objs.size:=by simpa using hb
  subst e
  exact I.uW (QVz _) (I.hok.fresh (QVz _))
 |_=>cases hi
def abN(h:GE X W c m e):GI X W c m tg e:=by
 intro env γ s σ H R I q
 refine cj (h.d γ s σ H (fun v H'=>∃d xs,bj X.K H' d v/\items d=some xs/\∀J,Gives X.K J xs H'->R J H') I ⟨env,q.1,?_⟩) fun u s1⟨v,H1,I1,r1,d,xs,hd,hi,q1⟩=>Mp I1 r1 hd hi q1
 have q2:=q.2
 cases r:ev c m env with
 |bad=>rw[r]at q2;exact q2
 |exc k δ=>rw[r]at q2;exact q2
 |ok x δ=>
  rw[r]at q2
  obtain⟨d,xs,ed,ei,q3⟩:=q2
  cases x with
  |val d'=>cases ed;exact fun v H' N Dv=>⟨d,xs,Dv,ei,fun J G=>q3 J H' N G⟩
  |new o=>cases ed;exact fun v H' N Dv=>⟨o.d,xs,Dv,ei,fun J G=>q3 J H' N G⟩
  |ref i=>cases ed
  |tmp o=>cases ed
end
noncomputable def tyN:Ty->String
 |.tup=>"tuple"
 |.lst=>"list"
 |.str=>"str"
 |.bool=>"bool"
 |.int=>"int"
 |.cP=>"dict"
section
noncomputable def aeE(K:QQq):List V->Hp->VK->Prop:=fun xs H Q=>∃d v t,xs=[v,.ty (tyN t)]/\bj K H d v/\Q (.bl (qL t d)) H
def Oi:gP X (.builtin "isinstance") (aeE X.K):=by
 intro γ s σ H xs us Q I r h
 obtain⟨d,v,t,rfl,hd,q⟩:=h
 obtain⟨u,u',rfl,ru,rt⟩:=Vals.two r
 cases rt
 have fin:∀k,Q (.bl k) H->EP X γ σ Q (.bool k) {s with toks:=s.toks+1}:=fun k z=>⟨.bl k,H,I.tok _,rfl,z⟩
 have fin0:∀k,Q (.bl k) H->EP X γ σ Q (.bool k) s:=fun k z=>⟨.bl k,H,I,rfl,z⟩
 cases d with
 |non=>
  cases hd;cases ru
  cases t with
  |tup=>exact IsiPair.NoneType_tuple (fin _ q)
  |lst=>exact IsiPair.NoneType_list (fin _ q)
  |str=>exact IsiPair.NoneType_str (fin _ q)
  |bool=>exact IsiPair.NoneType_bool (fin _ q)
  |int=>exact IsiPair.NoneType_int (fin _ q)
  |cP=>exact IsiPair.NoneType_dict (fin _ q)
 |bl k=>
  cases hd;cases ru
  cases t with
  |tup=>exact IsiPair.bool_tuple (fin _ q)
  |lst=>exact IsiPair.bool_list (fin _ q)
  |str=>exact IsiPair.bool_str (fin _ q)
  |bool=>exact IsiPair.bool_bool (fin0 _ q)
  |int=>exact IsiPair.bool_int (fin0 _ q)
  |cP=>exact IsiPair.bool_dict (fin _ q)
 |int k=>
  cases hd;obtain⟨tk,rfl⟩:=ru
  cases t with
  |tup=>exact IsiPair.int_tuple (fin _ q)
  |lst=>exact IsiPair.int_list (fin _ q)
  |str=>exact IsiPair.int_str (fin _ q)
  |bool=>exact IsiPair.int_bool (fin _ q)
  |int=>exact IsiPair.int_int (fin0 _ q)
  |cP=>exact IsiPair.int_dict (fin _ q)
 |str k=>
  cases hd;obtain⟨tk,rfl⟩:=ru
  cases t with
  |tup=>exact IsiPair.str_tuple (fin _ q)
  |lst=>exact IsiPair.str_list (fin _ q)
  |str=>exact IsiPair.str_str (fin0 _ q)
  |bool=>exact IsiPair.str_bool (fin _ q)
  |int=>exact IsiPair.str_int (fin _ q)
  |cP=>exact IsiPair.str_dict (fin _ q)
 |tup ds=>
  obtain⟨a,vs,rfl,hq,_⟩:=cX hd
  cases ru
  obtain⟨its,_,⟨o,e,cl,_⟩,_⟩:=I.tuple hq
  cases t with
  |tup=>exact IsiPair.tuple_tuple e cl (fin0 _ q)
  |lst=>exact IsiPair.tuple_list e cl (fin _ q)
  |str=>exact IsiPair.tuple_str e cl (fin _ q)
  |bool=>exact IsiPair.tuple_bool e cl (fin _ q)
  |int=>exact IsiPair.tuple_int e cl (fin _ q)
  |cP=>exact IsiPair.tuple_dict e cl (fin _ q)
 |lst ds=>
  obtain⟨a,vs,rfl,hq,_⟩:=dX hd
  cases ru
  obtain⟨its,_,⟨o,n,e,cl,_⟩,_⟩:=I.list hq.sq
  cases t with
  |tup=>exact IsiPair.list_tuple e cl (fin _ q)
  |lst=>exact IsiPair.list_list e cl (fin0 _ q)
  |str=>exact IsiPair.list_str e cl (fin _ q)
  |bool=>exact IsiPair.list_bool e cl (fin _ q)
  |int=>exact IsiPair.list_int e cl (fin _ q)
  |cP=>exact IsiPair.list_dict e cl (fin _ q)
 |cP ks ds=>
  unfold bj at hd
  obtain⟨a,o,kvs,rfl,ha,_⟩:=hd
  cases ru
  obtain⟨e,_,_,_,_,o',_,_,e',ex,_⟩:=I.hok a _ ha
  rw[e]at e'
  cases e'
  have cl:=ex.1
  cases t with
  |tup=>exact IsiPair.dict_tuple e cl (fin _ q)
  |lst=>exact IsiPair.dict_list e cl (fin _ q)
  |str=>exact IsiPair.dict_str e cl (fin _ q)
  |bool=>exact IsiPair.dict_bool e cl (fin _ q)
  |int=>exact IsiPair.dict_int e cl (fin _ q)
  |cP=>exact IsiPair.dict_dict e cl (fin0 _ q)
def Yc{x:Str}(ha:GE X W c m a)(hx:x=Str.ofString (tyN t))(hg:Gl X x)(hm:X.mg x=none)(hi:Gl X "isinstance")(hmi:X.mg "isinstance"=none)
  (hs:starEach [a,.Name x p'] X.env=(false,eval a X.env)::starEach [.Name x p'] X.env):
  GE X W c (.isi m t) (.Call (.Name "isinstance" p) [a,.Name x p'] [] pos):=by
 intro env
 have hv:bootBuiltins x=some (.type (tyN t)):=by subst hx;cases t<;>kernel_rfl
 have N:PE X (.Name x p') (tC (.ty _)):=Rf hg hm hv rfl (by subst hx;cases t<;>decide+kernel) (by subst hx;cases t<;>decide+kernel)
 exact PE.imp (oA Oi hi hmi (by kernel_rfl) (aC ha.d (aC N bM rfl) hs) (by decide+kernel) (by decide+kernel) hs rfl) fun σ H Q q=>⟨env,aL q fun d δ v H1 N1 D1 q1=>⟨d,v,t,rfl,D1,fP q1 rfl⟩⟩
end
def qQ(X:Cx)(r:List V->Hp->VK->Prop)(f:D->Option Rv):Prop:=
 ∀(env:Ev)(σ:St)(H:Hp)(x:D)(z:Rv)(v:V)(Q:VK),Sat X.K env σ H->eY X.K H x v->f x=some z->(∀w H',Nx X.K env σ H env H'->iG X.K σ H H' z w->Q w H')->r [v] H Q
section
def Ol{r:List V->Hp->VK->Prop}(R:qQ X r (b1 bb)){σ:St}{Q:VK}(hv:m.az=none)(q:tM X.K W env (ev c (.bi bb m) env) σ H Q):aD X W c m σ H fun v H1=>r [v] H1 Q:=by
 simp only[o5,hv]at q
 refine⟨env,aL q fun d δ v H1 N1 D1 q1=>?_⟩
 obtain⟨z,ez,S,q3⟩:=cR q1
 exact R δ σ H1 d z v Q S (.inl D1) ez q3
def GF{r:List V->Hp->VK->Prop}(R:qQ X r (b1 bb)){σ:St}{Q:VK}(hv:m.az=some k)(q:tM X.K W env (ev c (.bi bb m) env) σ H Q):aY k σ H fun v H1=>r [v] H1 Q:=by
 simp only[o5,hv]at q
 obtain⟨z,ez,S,q3⟩:=cR q
 cases e0:aW k env with
 |none=>rw[e0]at ez;cases ez
 |some d0=>
  rw[e0]at ez
  obtain⟨u,eu,Du⟩:=fV S e0
  exact⟨u,eu,R env σ H d0 z u Q S Du ez q3⟩
theorem yc{id:String}{x:Str}(C:gP X (.builtin id) r)(R:qQ X r (b1 bb))(ha:GE X W c m a)(hv:∀k,m.az=some k->∃x p,a=.Name x p/\jU X k x)
  (hg:Gl X x)(hm:X.mg x=none)(hb:bootBuiltins x=some (.builtin id))(hn:x≠"__name__")(hd:(x==("__debug__":Str))=false)(hs:starEach [a] X.env=[(false,eval a X.env)]):
  GE X W c (.bi bb m) (.Call (.Name x p) [a] [] pos):=by
 intro env
 cases q:m.az with
 |none=>exact PE.imp (oA C hg hm hb (aC ha.d bM hs) hn hd hs rfl) fun σ H Q h=>Ol R q h
 |some k=>
  obtain⟨y,p',rfl,nm⟩:=hv k q
  exact PE.imp (oA C hg hm hb (aC nm.pe bM hs) hn hd hs rfl) fun σ H Q h=>GF R q h
theorem Dc{id:String}{x:Str}(C:gP X (.type id) r)(R:qQ X r (b1 bb))(ha:GE X W c m a)(hv:∀k,m.az=some k->∃x p,a=.Name x p/\jU X k x)
  (hg:Gl X x)(hm:X.mg x=none)(hb:bootBuiltins x=some (.type id))(hn:x≠"__name__")(hd:(x==("__debug__":Str))=false)(hs:starEach [a] X.env=[(false,eval a X.env)]):
  GE X W c (.bi bb m) (.Call (.Name x p) [a] [] pos):=by
 intro env
 cases q:m.az with
 |none=>exact PE.imp (lR C hg hm hb (aC ha.d bM hs) hn hd hs rfl) fun σ H Q h=>Ol R q h
 |some k=>
  obtain⟨y,p',rfl,nm⟩:=hv k q
  exact PE.imp (lR C hg hm hb (aC nm.pe bM hs) hn hd hs rfl) fun σ H Q h=>GF R q h
def eY.seq{H:Hp}{xs:List D}(h:eY K H d v)(e:bJ d=some xs):∃a vs,v=.ref a/\(lG K H a vs\/j5 K H a vs)/\ao K H xs vs:=by
 cases d with
 |tup ys=>cases e;exact h.Qy
 |lst ys=>cases e;exact h.J7
 |_=>cases e
theorem eY.cP{H:Hp}{v:V}(h:eY K H (.cP ks ds) v):∃a kvs,v=.ref a/\Rd H a (.dK kvs)/\ks=kvs.map (fun p=>dB p.1)/\ao K H ds (kvs.map (·.2)):=by
 rcases h with h|⟨o,a,q,rfl,u,ha,hq⟩
 ·unfold bj at h
  obtain⟨a,o,kvs,rfl,ha,k,l⟩:=h
  exact⟨a,kvs,rfl,.inr ⟨o,ha⟩,k,l⟩
 ·cases o<;>cases q
  obtain⟨kvs,rfl,k,l⟩:=hq
  exact⟨a,kvs,rfl,.inl ha,k,l⟩
noncomputable def Wm(K:QQq):List V->Hp->VK->Prop:=fun xs H Q=>(∃x n,xs=[x]/\Tq K x H n/\Q (.int n) H)\/∃a kvs,xs=[.ref a]/\Rd H a (.dK kvs)/\Q (.int kvs.length) H
def Jg:gP X (.builtin "len") (Wm X.K):=by
 intro γ s σ H xs us Q I r h
 rcases h with h|⟨a,kvs,rfl,e,q⟩
 ·exact Ai γ s σ H xs us Q I r h
 ·obtain⟨u,rfl,ru⟩:=vals1 r
  cases ru
  exact abX I e fun t s' I'=>⟨.int kvs.length,H,I',⟨t,rfl⟩,q⟩
def QK:qQ X (Wm X.K) (b1 .len):=by
 intro env σ H x z v Q S Dx e q
 have go:∀n,zP x=some n->Tq X.K v H n->Wm X.K [v] H Q:=fun n en ln=>by
  simp only[b1,en]at e
  cases e
  exact .inl ⟨v,n,rfl,ln,q _ H (Nx.refl S) rfl⟩
 cases x with
 |tup xs=>
  obtain⟨a,vs,rfl,hq,l⟩:=Dx.Qy
  refine go xs.length rfl ?_
  rcases hq with hq|hq
  ·exact .inl ⟨vs,hq,l.length⟩
  ·exact .inr ⟨vs,hq,l.length⟩
 |lst xs=>
  obtain⟨a,vs,rfl,hq,l⟩:=Dx.J7
  refine go xs.length rfl ?_
  rcases hq with hq|hq
  ·exact .inl ⟨vs,hq,l.length⟩
  ·exact .inr ⟨vs,hq,l.length⟩
 |str y=>
  have:=Dx.str
  subst this
  by_cases hf:fits y.length=true
  ·exact go y.length (by simp[zP,hf]) ⟨gw hf,rfl⟩
  ·simp[b1,zP,hf]at e
 |cP ks ds=>
  cases e
  obtain⟨a,kvs,rfl,hr,hk,l⟩:=Dx.cP
  have e2:ks.length=kvs.length:=by rw[hk,Qvz]
  exact .inr ⟨a,kvs,rfl,hr,by rw[<-e2];exact q _ H (Nx.refl S) rfl⟩
 |_=>cases e
def QL:qQ X (fun xs H Q=>(∃i,xs=[.int i]/\Q (.int i) H)\/∃k,xs=[.bl k]/\Q (.int (if k then 1 else 0)) H) (b1 .int):=by
 intro env σ H x z v Q S Dx e q
 cases x with
 |int i=>
  cases e
  have:=Dx.int
  subst this
  exact .inl ⟨i,rfl,q _ H (Nx.refl S) rfl⟩
 |bl k=>
  cases e
  rcases Dx with h|⟨o,a,q',_⟩
  ·cases h
   exact .inr ⟨k,rfl,q _ H (Nx.refl S) (by cases k<;>rfl)⟩
  ·cases o<;>cases q'
 |_=>cases e
def Ho:qQ X (fun xs H Q=>∃p ys,xs=[.ref p]/\((lG X.K H p ys/\∀l,H l=none->Q (.ref l) (upd H l (.tup ys)))\/(j5 X.K H p ys/\Q (.ref p) H))) (b1 .tuple):=by
 intro env σ H x z v Q S Dx e q
 simp only[b1]at e
 cases es:bJ x with
 |none=>rw[es]at e;cases e
 |some xs=>
  rw[es]at e
  cases e
  obtain⟨a,vs,rfl,hq,l⟩:=Dx.seq es
  refine⟨a,vs,rfl,?_⟩
  rcases hq with hq|hq
  ·refine .inl ⟨hq,fun p hp=>?_⟩
   have N:=Nx.laid (o:=.tup vs) S hp
   exact q _ _ N (fD (.inl (.inl aB)) (l.mono N.pers))
  ·exact .inr ⟨hq,q _ H (Nx.refl S) (fD hq l)⟩
def Ko:qQ X (fun xs H Q=>∃p ys,xs=[.ref p]/\(lG X.K H p ys\/j5 X.K H p ys)/\∀l,H l=none->Q (.ref l) (upd H l (.lst ys))) (b1 .list):=by
 intro env σ H x z v Q S Dx e q
 simp only[b1]at e
 have go:∀{xs:List D},bJ x=some xs->S7 .list xs=some z->∃p ys,[v]=[V.ref p]/\(lG X.K H p ys\/j5 X.K H p ys)/\∀l,H l=none->Q (.ref l) (upd H l (.lst ys)):=fun es e=>by
  cases e
  obtain⟨a,vs,rfl,hq,l⟩:=Dx.seq es
  exact⟨a,vs,rfl,hq,fun p hp=>q _ _ (Nx.laid S hp) (oG S l hp)⟩
 cases x with
 |tup xs=>exact go rfl e
 |lst xs=>exact go rfl e
 |_=>cases e
def BoolsAre.get{vs:List Value}{bs:List Bool}(h:BoolsAre vs bs):∀{i:Nat}{v:Value},vs[i]? =some v->∃b,bs[i]? =some b/\v=.bool b:=by
 induction h with
 |nil=>intro i v e;simp at e
 |cons b t ih=>
  intro i v e
  cases i with
  |zero=>simp at e;subst e;exact⟨b,rfl,rfl⟩
  |succ i=>exact ih (by simpa using e)
def range_all(bs:List Bool):((List.range bs.length).all fun i=>bs.getD i false)=bs.all id:=by
 rw[Bool.eq_iff_iff]
 simp only[List.all_eq_true,List.mem_range,id]
 constructor
 ·intro h b hb
  obtain⟨i,hi,e⟩:=List.mem_iff_getElem.mp hb
  have:=h i hi
  rw[List.getD_eq_getElem?_getD,QXq hi]at this
  simpa[e]using this
 ·intro h i hi
  rw[List.getD_eq_getElem?_getD,QXq hi]
  exact h _ (List.getElem_mem hi)
def range_any(bs:List Bool):((List.range bs.length).any fun i=>bs.getD i false)=bs.any id:=by
 rw[Bool.eq_iff_iff]
 simp only[List.any_eq_true,List.mem_range,id]
 constructor
 ·rintro ⟨i,hi,h⟩
  rw[List.getD_eq_getElem?_getD,QXq hi]at h
  exact⟨bs[i],List.getElem_mem hi,by simpa using h⟩
 ·rintro ⟨b,hb,h⟩
  obtain⟨i,hi,e⟩:=List.mem_iff_getElem.mp hb
  exact⟨i,hi,by rw[List.getD_eq_getElem?_getD,QXq hi];simpa[e]using h⟩
noncomputable def Ze(K:QQq)(f:List Bool->Bool):List V->Hp->VK->Prop:=fun xs H Q=>∃p vs ds bs,xs=[.ref p]/\(lG K H p vs\/j5 K H p vs)/\ao K H ds vs/\bools ds=some bs/\Q (.bl (f bs)) H
def pY{w:World}{its:List Value}(hb:BoolsAre its bs):TruthOf P w A (fun i v=>its.toArray[i]? =some v) fun i=>bs.getD i false:=by
 intro i v s Q E hv h
 obtain⟨b,e,rfl⟩:=hb.get (by simpa using hv)
 have h:Q (bs.getD i false) s:=h
 rw[List.getD_eq_getElem?_getD,e]at h
 exact wpAny_truthy_bool h
def ur{id:String}{g:Nat->(Nat->Bool)->Bool}(hc:X.calm=true)(hg:∀bs:List Bool,g bs.length (fun i=>bs.getD i false)=f bs)
  (hcall:∀{E:QZq}{s:Shared}{x:Value}{Q:QZq},
   wpAny (model X.prog X.w) X.A.in1 (pyIter x) (fun it Δ=>∃I fp wr n P St tr,it=.ref I/\Walks X.prog X.w X.A.in1 I fp wr n P St/\St 0 Δ.heap/\TruthOf X.prog X.w X.A.in1 P tr/\
    ∀h' tk,(∀b o,b∉wr->Δ.heap.get? b=some o->h'.get? b=some o)->Q (.bool (g n tr)) {Δ with heap:=h',toks:=tk}) E s->wpAny (model X.prog X.w) X.A (call (.builtin id) [x]) Q E s):
  gP X (.builtin id) (Ze X.K f):=by
 intro γ s σ H xs us Q I r h
 obtain⟨a,vs,ds,bs,rfl,hq,l,hb,q⟩:=h
 obtain⟨u,rfl,ru⟩:=Vals.one r
 cases ru
 have hh:X.A.in1.handled=none:=I.ok.hd hc
 refine hcall ?_
 have fin:∀its o,Vals vs its->∀h' tk,(∀b o',b∉[s.heap.objs.size]->(s.heap.push o).get? b=some o'->h'.get? b=some o')->EP X γ σ Q (.bool (g its.toArray.size fun i=>bs.getD i false)) {s with heap:=h',toks:=tk}:=fun its o rv h' tk k=>by
  have hl:its.toArray.size=bs.length:=by
   have:=(gY hb l rv).length
   simpa using this
  rw[hl,hg]
  refine⟨.bl (f bs),H,I.kept fun b o' e=>k b o' ?_ (QWq _ e),rfl,q⟩
  simp only[QDq]
  exact Qvq (Qqq e)
 rcases hq with hq|hq
 ·obtain⟨its,rv,p,hz⟩:=I.list hq
  have hlt:a≠s.heap.objs.size:=by
   obtain⟨o,n,e,_⟩:=p
   exact Qvq (Qqq e)
  refine wpAny_pyIter_list p.isList ⟨s.heap.objs.size,[s.heap.objs.size,a],[s.heap.objs.size],its.toArray.size,_,_,_,rfl,Walks.list hh _ a hlt its.toArray,⟨⟨_,Qqz _ rfl,rfl,rfl⟩,p.isList.at fun o e=>QWq _ e⟩,pY (gY hb l rv),fin its _ rv⟩
 ·obtain⟨its,rv,p,hz⟩:=I.tuple hq
  have hlt:a≠s.heap.objs.size:=by
   obtain⟨o,e,_⟩:=p
   exact Qvq (Qqq e)
  have p':s.heap.IsTuple a its.toArray:=p
  refine wpAny_pyIter_tuple p' ⟨s.heap.objs.size,[s.heap.objs.size,a],[s.heap.objs.size],its.toArray.size,_,_,_,rfl,Walks.tuple hh _ a hlt its.toArray,⟨⟨_,Qqz _ rfl,rfl,rfl⟩,p'.at fun o e=>QWq _ e⟩,pY (gY hb l rv),fin its _ rv⟩
def Jj(hc:X.calm=true):gP X (.builtin "all") (Ze X.K (·.all id)):=ur hc range_all call_all_walk
def Ji(hc:X.calm=true):gP X (.builtin "any") (Ze X.K (·.any id)):=ur hc range_any call_any_walk
def vB{f:List Bool->Bool}(hb:∀xs,S7 bb xs=(bools xs).map fun bs=>.val (.bl (f bs)))(h1:∀x,b1 bb x=(bJ x).bind (S7 bb)):qQ X (Ze X.K f) (b1 bb):=by
 intro env σ H x z v Q S Dx e q
 rw[h1]at e
 cases es:bJ x with
 |none=>rw[es]at e;cases e
 |some xs=>
  rw[es]at e
  simp only[Option.bind,hb]at e
  cases eb:bools xs with
  |none=>rw[eb]at e;cases e
  |some bs=>
   rw[eb]at e
   cases e
   obtain⟨a,vs,rfl,hq,l⟩:=Dx.seq es
   exact⟨a,vs,xs,bs,rfl,hq,l,eb,q _ H (Nx.refl S) rfl⟩
def QQ:qQ X (Ze X.K (·.all id)) (b1 .all):=vB (fun _=>rfl) fun _=>rfl
def QM:qQ X (Ze X.K (·.any id)) (b1 .any):=vB (fun _=>rfl) fun _=>rfl
end
end Mini
end
section
namespace HT
open PySem PySem.Spec PyProof.Rows
section
def mH{t sl:Addr}{vl vu:Value}{lo hi:Option Int}(ht:IsTup s.heap t items)(hs:s.heap.IsSliceOf sl vl vu .none)(pl:IsPart vl lo)(pu:IsPart vu hi)
  (hw:gG items.size 0 lo=0/\gG items.size items.size hi=items.size)(h:Q (.ref t) s):wpAny (model prog w) A (getItem (.ref t) (.ref sl)) Q E s:=by
 obtain⟨os,hos,hcs,hds⟩:=id hs
 unfold getItem
 try with_reducible refine QGz ?_
 first|refine QTz _|skip
 refine QTz (wpAny_sequenceKey ht.typeIs (by decide) ?_)
 refine QTz (wpAny_callSpecial?_slot ht.typeIs PyProof.Rows.slot_tuple_getitem
  (Qzq PyProof.Rows.slot_tuple_getitem ht.typeIs entry_tuple_getitem ?_ (args_tuple_getitem _ _)))
 show wpAny _ _ (Builtin.Tuple.tupleItemsOf _>>=_) _ _ s
 refine QTz (tupleItemsOf_ ht ?_)
 refine QTz (wpAny_typeOf ⟨os,hos,hcs⟩ ?_)
 refine QTz (jd hs pl pu ?_)
 have hno:((((gG items.size 0 lo):Int)==0&&(1:Int)==1&&(gG items.size items.size hi-gG items.size 0 lo)==items.size)=true):=by
  rw[hw.1,hw.2];simp
 show wpAny _ _ (if (((gG items.size 0 lo):Int)==0&&1==1&&_==items.size)=true then _ else _) _ _ s
 rw[if_pos hno]
 exact QTz (QTz (wpAny_typeOf ht.typeIs (QKq (QTz (wpAny_rule (QKq ⟨_,rfl,QKq h⟩))))))
end
end HT
namespace Mini
open PySem L2
section
noncomputable def Um(K:QQq):V->Option Int->Option Int->Hp->VK->Prop:=fun x lo hi H Q=>∃a xs,x=.ref a/\j5 K H a xs/\
 (HT.gG xs.length 0 lo=0/\HT.gG xs.length xs.length hi=xs.length)/\Q (.ref a) H
def Qs:Ti X (Um X.K):=by
 intro γ s σ H x v vl vu lo hi sl Q I rx hs pl pu h
 obtain⟨a,xs,rfl,hx,hw,q⟩:=h
 cases rx
 obtain⟨its,r,ht,hz⟩:=I.tuple hx
 have hlen:its.toArray.size=xs.length:=by rw[Qjz];exact r.length.symm
 exact⟨"tuple",_,PyProof.Rows.slot_tuple_getitem.lookup,ht.typeIs,HT.mH ht hs pl pu (by rw[hlen];exact hw) ⟨.ref a,H,I,rfl,q⟩⟩
noncomputable def aaU(K:QQq):V->Option Int->Option Int->Hp->VK->Prop:=fun x lo hi H Q=>aaS K x lo hi H Q\/Um K x lo hi H Q\/aaT K x lo hi H Q
def Wd:Ti X (aaU X.K):=Wc.or (Qs.or Qt)
def rB n i d:clip n i=HT.gG n d (some i):=by
 unfold clip HT.gG
 dsimp only
 by_cases h:i<0
 ·rw[if_pos h,if_pos h]
  split
  ·omega
  ·split<;>omega
 ·rw[if_neg h,if_neg h,if_neg h]
  split<;>omega
def Yr{α:Type}(xs:List α)a b:(xs.take b).drop a=(xs.drop a).take (b-a):=by
 rw[List.drop_take]
def yo{H:Hp}{vs:List V}(l:ao K H ds vs)lo hi:ao K H (cut ds lo hi) (yp vs lo hi):=by
 have hl:=l.length
 unfold cut yp
 rw[Yr]
 cases lo with
 |none=>
  cases hi with
  |none=>rw[HT.nY,HT.nY,<-hl];exact(l.drop _).take _
  |some j=>rw[HT.nY,<-hl,<-rB];exact(l.drop _).take _
 |some i=>
  cases hi with
  |none=>rw[HT.nY,<-hl,<-rB];exact(l.drop _).take _
  |some j=>rw[<-hl,<-rB,<-rB];exact(l.drop _).take _
def Jf{lo hi:Option Int}(h:HT.gG vs.length 0 lo=0/\HT.gG vs.length vs.length hi=vs.length):yp vs lo hi=vs:=by
 unfold yp
 rw[h.1,h.2]
 simp
def Bp{env:Ev}{H:Hp}{z:Rv}{lo hi:Option Int}(S:Sat K env σ H)(D1:bj K H d v)(e:jw d lo hi=some z)(q:∀w H',Nx K env σ H env H'->iG K σ H H' z w->Q w H'):aaU K v lo hi H Q:=by
 cases d with
 |tup xs=>
  cases e
  obtain⟨a,vs,rfl,hq,l⟩:=cX D1
  by_cases hw:HT.gG vs.length 0 lo=0/\HT.gG vs.length vs.length hi=vs.length
  ·refine .inr (.inl ⟨a,vs,rfl,hq,hw,q _ H (Nx.refl S) ?_⟩)
   have:=yo l lo hi
   rw[Jf hw]at this
   exact fD hq this
  ·refine .inl ⟨a,vs,rfl,hq,hw,fun p hp=>?_⟩
   have N:=Nx.laid (o:=.tup (yp vs lo hi)) S hp
   exact q _ _ N (fD (.inl (.inl aB)) ((yo l lo hi).mono N.pers))
 |lst xs=>
  cases e
  obtain⟨a,vs,rfl,hq,l⟩:=dX D1
  exact .inr (.inr ⟨a,vs,rfl,hq.sq,fun p hp=>q _ _ (Nx.laid S hp) (oG S (yo l lo hi) hp)⟩)
 |_=>cases e
def GO(X:Cx)(W:Wi)(c:Cf)(m:E)(eo:Option Expr):Prop:=(m=.noneE/\eo=Option.none)\/∃e,eo=Option.some e/\m.jG=false/\GE X W c m e
noncomputable def tPt(X:Cx)(W:Wi)(c:Cf)(m:E):TO:=fun σ H Q=>∃env,tD X.K W env (ev c m env) σ H fun v H1=>∀d,bj X.K H1 d v->∃o,eU m.jG d=some o/\Q o H1
def GO.po{eo:Option Expr}(h:GO X W c m eo):PO X eo (tPt X W c m):=by
 rcases h with ⟨rfl,rfl⟩|⟨e,rfl,hn,h⟩
 ·intro γ s σ H Q I q
  obtain⟨env,q⟩:=q
  simp only[v_0,v_1,Z6,v_3,v_4,v_5,v_6,Y8,v_8,Vv,Ba,JC,VF,Ha,VD,VB,Qh,JB,Jz,Qg,Vz,o5,Qf,Vy,Qe,Vx,Qd,nO]at q
  obtain⟨o,e,z⟩:=q.2 .non H (Nx.refl q.1) rfl .non rfl
  cases e
  exact Q4 γ s σ H Q I z
 ·intro γ s σ H Q I q
  obtain⟨env,q⟩:=q
  refine Q3 h.d γ s σ H Q I ⟨env,q.1,?_⟩
  have q2:=q.2
  have go:∀d v H',bj X.K H' d v->(∀d,bj X.K H' d v->∃o,eU m.jG d=some o/\Q o H')->∃i,v=.int i/\Q (some i) H':=fun d v H' Dv z=>by
   obtain⟨o,e,z⟩:=z d Dv
   rw[hn]at e
   cases d with
   |int i=>cases e;exact⟨i,Dv,z⟩
   |_=>cases e
  cases r:ev c m env with
  |bad=>rw[r]at q2;exact q2
  |exc k δ=>rw[r]at q2;exact q2
  |ok x δ=>
   rw[r]at q2
   cases x with
   |val d=>exact fun v H' N Dv=>go d v H' Dv (q2 v H' N Dv)
   |new o=>exact fun v H' N Dv=>go o.d v H' Dv (q2 v H' N Dv)
   |ref i=>exact q2
   |tmp o=>exact q2
def zF{K:QQq}{H:Hp}{jG:Bool}{d d':D}{v:V}{o:Option Int}(h:bj K H d v)(e:eU jG d=some o)(h':bj K H d' v):eU jG d'=some o:=by
 cases jG with
 |true=>exact e
 |false=>
  cases d with
  |int i=>
   have hv:v=.int i:=h
   subst hv
   cases d' with
   |int j=>cases (show V.int i=V.int j from h');exact e
   |non=>cases (show V.int i=V.non from h')
   |bl b=>cases (show V.int i=V.bl b from h')
   |str x=>cases (show V.int i=V.str x from h')
   |tup ds=>obtain⟨a,vs,z,_⟩:=cX h';cases z
   |lst ds=>obtain⟨a,vs,z,_⟩:=dX h';cases z
   |cP ks ds=>unfold bj at h';obtain⟨a,o,kvs,z,_⟩:=h';cases z
  |_=>cases e
def X3(ha:GE X W c m1 a)(hl:GO X W c m2 lo)(hh:GO X W c m3 hi):GE X W c (.slc m1 m2 m3) (.Subscript a (.Slice lo hi none p2) pos):=by
 intro env
 refine PE.imp (K5 Wd ha.d hl.po hh.po) fun σ H Q q=>?_
 refine⟨env,aL q fun d δ v H1 N1 D1 q1=>⟨δ,aL q1 fun dl ε vl H2 N2 D2 q2 dl' D2'=>?_⟩⟩
 cases el:eU m2.jG dl with
 |none=>rw[el]at q2;exact q2.2.elim
 |some l=>
  rw[el]at q2
  refine⟨l,zF D2 el D2',ε,aL q2 fun dh env3 vh H3 N3 D3 q3 dh' D3'=>?_⟩
  obtain⟨z,ez,S,q4⟩:=cR q3
  cases eh:eU m3.jG dh with
  |none=>rw[eh]at ez;cases ez
  |some h=>
   rw[eh]at ez
   exact⟨h,zF D3 eh D3',Bp S (D1.mono (N2.trans N3).pers) ez q4⟩
def acr(X:Cx)(x:Str)(d:D):Prop:=∃v u,X.mg x=some u/\RelV v u/\∀H,bj X.K H d v
def R8{x:Str}(hk:c.gl k=some d)(h:acr X x d)(hg:Gl X x)(hd:(x==("__debug__":Str))=false):GE X W c (.glob k) (.Name x pos):=by
 obtain⟨v,u,hm,r,hD⟩:=h
 intro env
 refine PE.imp (Ff hg hm r hd) fun σ H Q q=>?_
 simp only[Z6,hk]at q
 exact fP q (hD H)
end
def oh{a:Addr}(h:H a=some u)(hu:Pn u):bR H (upd H a u'):=by
 refine⟨fun b xs q=>?_,fun b o' w q=>?_⟩
 ·rw[au (fun z=>by subst z;rw[h]at q;cases q;exact hu.tup xs rfl)];exact q
 ·rw[au (fun z=>by subst z;rw[h]at q;cases q;exact hu.frz o' w rfl)];exact q
def rG{f:Ob->Option Ob}(h:dM k f env=some env'):∃o o',f o=some o'/\((env[k]? =some (.own o)/\env'=env.set k (.own o'))\/(env[k]? =some (.bor o)/\env'=env.set k (.bor o'))):=by
 unfold dM at h
 cases e:env[k]? with
 |none=>rw[e]at h;cases h
 |some s=>
  rw[e]at h
  cases s with
  |un=>cases h
  |val d=>cases h
  |own o=>
   cases e2:f o with
   |none=>simp only[e2]at h;cases h
   |some o'=>simp only[e2]at h;cases h;exact⟨o,o',e2,.inl ⟨rfl,rfl⟩⟩
  |bor o=>
   cases e2:f o with
   |none=>simp only[e2]at h;cases h
   |some o'=>simp only[e2]at h;cases h;exact⟨o,o',e2,.inr ⟨rfl,rfl⟩⟩
def Nx.turn{env:Ev}{H:Hp}{sl sl':Sl}{a:Addr}(S:Sat K env σ H)(hs:(sl=.own o/\sl'=.own o')\/(sl=.bor o/\sl'=.bor o'))(e:env[k]? =some sl)(es:σ[k]? =some (some (.ref a)))
  (ha:H a=some u)(hu:Pn u)(hd:Jq K H o' u'):Nx K env σ H (env.set k sl') (upd H a u'):=by
 have p:=oh (u':=u') ha hu
 have ow:isOwn sl=some o/\isOwn sl'=some o':=by rcases hs with ⟨rfl,rfl⟩|⟨rfl,rfl⟩<;>exact⟨rfl,rfl⟩
 have oa:aK env σ k a:=⟨⟨_,o,e,ow.1⟩,es⟩
 have hi:=(QCq.mp e).1
 have sub:∀j b,aK (env.set k sl') σ j b->aK env σ j b:=fun j b z=>by
  obtain⟨⟨s,ys,e1,e2⟩,e3⟩:=z
  by_cases hj:k=j
  ·subst hj;exact⟨⟨sl,o,e,ow.1⟩,e3⟩
  ·rw[Qxq hj]at e1;exact⟨⟨s,ys,e1,e2⟩,e3⟩
 refine⟨⟨by simpa using S.len,fun j s ej=>?_,fun j l b z w=>S.ne j l b (sub j b z) (sub l b w)⟩,sub,p,fun b w q n=>?_,fun b q=>?_,fun j ys ej=>?_⟩
 ·by_cases hj:k=j
  ·subst hj
   rw[Qxz hi]at ej
   cases ej
   have at_:jo K _ o' a:=⟨u',aB,hd.mono p⟩
   rcases hs with ⟨_,rfl⟩|⟨_,rfl⟩
   ·exact⟨a,by rw[es];rfl,at_⟩
   ·exact⟨a,by rw[es];rfl,at_⟩
  ·rw[Qxq hj]at ej
   refine(S.sl j s ej).keep p fun b w ho ev hb=>?_
   have nb:b≠a:=fun z=>by
    subst z
    exact hj (S.ne k j b oa (xH ej ho ev))
   rw[au nb];exact hb
 ·rw[au (fun z=>by subst z;exact n k oa)];exact q
 ·by_cases hb:b=a
  ·subst hb;rw[aB]at q;cases q
  ·rw[au hb]at q;exact q
 ·by_cases hj:k=j
  ·subst hj
   rw[e]at ej
   cases ej
   rcases hs with ⟨z,_⟩|⟨_,rfl⟩
   ·cases z
   ·exact⟨o',by rw[Qxz hi]⟩
  ·exact⟨ys,by rw[Qxq hj];exact ej⟩
def Eh{env env':Ev}{H:Hp}{f:Ob->Option Ob}(S:Sat K env σ H)(h:dM k f env=some env'):
  ∃o o' a u,f o=some o'/\σ[k]? =some (some (.ref a))/\H a=some u/\Jq K H o u/\aW k env=some o.d/\∀u',Jq K H o' u'->Nx K env σ H env' (upd H a u'):=by
 obtain⟨o,o',ef,hh⟩:=rG h
 rcases hh with ⟨e,rfl⟩|⟨e,rfl⟩
 ·obtain⟨a,e1,u,e2,e3⟩:=S.sl k _ e
  exact⟨o,o',a,u,ef,cH e1,e2,e3,by unfold aW;rw[e],fun u' hd=>Nx.turn S (.inl ⟨rfl,rfl⟩) e (cH e1) e2 e3.qj hd⟩
 ·obtain⟨a,e1,u,e2,e3⟩:=S.sl k _ e
  exact⟨o,o',a,u,ef,cH e1,e2,e3,by unfold aW;rw[e],fun u' hd=>Nx.turn S (.inr ⟨rfl,rfl⟩) e (cH e1) e2 e3.qj hd⟩
def Lf{f:List D->Option (List D)}{o o':Ob}(h:Cp f o=some o'):∃xs ys,o=.lst xs/\f xs=some ys/\o'=.lst ys:=by
 cases o with
 |lst xs=>
  simp only[Cp]at h
  cases e:f xs with
  |none=>rw[e]at h;cases h
  |some ys=>rw[e]at h;cases h;exact⟨xs,ys,rfl,e,rfl⟩
 |dct ks vs=>cases h
def yN{env env':Ev}{H:Hp}{f:List D->Option (List D)}(S:Sat K env σ H)(h:dM k (Cp f) env=some env'):
  ∃xs ys a vs,f xs=some ys/\σ[k]? =some (some (.ref a))/\H a=some (.lst vs)/\ao K H xs vs/\aW k env=some (.lst xs)/\∀ws,ao K H ys ws->Nx K env σ H env' (upd H a (.lst ws)):=by
 obtain⟨o,o',a,u,ef,es,ha,hd,lk,N⟩:=Eh S h
 obtain⟨xs,ys,rfl,e,rfl⟩:=Lf ef
 obtain⟨vs,rfl,l⟩:=hd
 exact⟨xs,ys,a,vs,e,es,ha,l,lk,fun ws hw=>N _ ⟨ws,rfl,hw⟩⟩
theorem eY.lst{K:QQq}{H:Hp}{xs:List D}{v:V}(h:eY K H (.lst xs) v):∃a vs,v=.ref a/\lG K H a vs/\ao K H xs vs:=by
 rcases h with h|⟨o,a,q,rfl,u,ha,hq⟩
 ·obtain⟨a,vs,rfl,hq,l⟩:=dX h
  exact⟨a,vs,rfl,hq.sq,l⟩
 ·cases o<;>cases q
  obtain⟨vs,rfl,l⟩:=hq
  exact⟨a,vs,rfl,.inl (.inl ha),l⟩
structure An(X:Cx)(o:Expr)(name:Str)(apos:Pos)(e:Expr)(cpos:Pos):Prop where
 base:attributeBase o name X.env (eval o X.env)=eval o X.env
 line:(apos.endLine==cpos.line)=true
 star:starEach [e] X.env=[(false,eval e X.env)]
section
def An.few(h:An X o name apos e cpos):((backTo cpos (starEach [e] X.env)).all (fun x=> !x.1)&&(backToKw cpos (keywordEach [] X.env)).all (fun x=>x.1.isSome)
   &&decide ([e].length+([]:List Keyword).length+(if ([]:List Keyword).isEmpty then 0 else 1)<30))=true:=by
 rw[h.star];rfl
def Fd{id:String}{to:TE}(M:An X o name apos e cpos)(slot:Slot "list" name id)(hty:typeOf (.builtin id)=pure (.type "method_descriptor"))(hm:ZW X id r)(ho:PE X o to)(he:PE X e te):
  PE X (.Call (.Attribute o name apos) [e] [] cpos) (tBM X.K "list" r to (aH te cW)):=
 aa5 PySem.F.plainAttrs_list slot hty hm ho (aC he bM M.star) M.base M.few M.line M.star rfl
def countV{K:QQq}{H:Hp}{p:D}{x:V}(Dp:bj K H p x)(fp:flat p=true):∀{ds:List D}{vs:List V}{us:List Value},ao K H ds vs->Vals vs us->ds.all flat=true->vs.all jk=true/\us.countP (Ju x)=iy p ds:=by
 intro ds
 induction ds with
 |nil=>intro vs us l r _;rw[ao.bQ.mp l]at r⊢;cases r;exact⟨rfl,rfl⟩
 |cons d ds ih=>
  intro vs us l r f
  obtain⟨v,vs',rfl,hd,l'⟩:=ao.aZ.mp l
  rw[List.all_cons,QUq]at f
  cases r with
  |cons r1 r2=>
   obtain⟨i1,i2⟩:=ih l' r2 f.2
   obtain⟨j1,j2⟩:=uc Dp fp (ao.bA hd ao.eX) (by simp[f.1])
   simp only[List.all_cons,List.all_nil,Bool.and_true]at j1
   have j3:Jt v x=fZ d p:=by simpa[inV,cC]using j2
   refine⟨by rw[List.all_cons,j1,i1];rfl,?_⟩
   rw[List.countP_cons,i2,yg r1 j1,j3,iy]
   split<;>omega
noncomputable def QZ(K:QQq):V->List V->Hp->VK->Prop:=fun x ys H Q=>∃a vs ds d y,x=.ref a/\ys=[y]/\(lG K H a vs\/j5 K H a vs)/\ao K H ds vs/\bj K H d y/\flat d=true/\ds.all flat=true/\Q (.int (iy d ds)) H
def Dd{H:Hp}{v:V}(h:bj K H d v)(f:flat d=true):jk v=true:=by
 cases d with
 |non=>cases h;rfl
 |bl b=>cases h;rfl
 |int i=>cases h;rfl
 |str x=>cases h;rfl
 |_=>cases f
def HS:ZW X "list.count" (fun x ys H Q=>(∃a vs,x=.ref a/\lG X.K H a vs)/\QZ X.K x ys H Q):=by
 intro γ s σ H x ys v us Q I rx ry h
 obtain⟨⟨a,vs,rfl,hq⟩,a',vs',ds,d,y,e1,rfl,hq',l,hd,f1,f2,q⟩:=h
 cases e1
 cases rx
 obtain⟨u,rfl,ru⟩:=Vals.one ry
 have hv:vs'=vs:=by
  rcases hq' with z|z
  ·exact I.zO z hq
  ·obtain⟨_,_,⟨o,e,c,_⟩,_⟩:=I.tuple z
   obtain⟨_,_,⟨o',_,e',c',_⟩,_⟩:=I.list hq
   rw[e]at e';cases e';rw[c]at c';injection c' with z;exact absurd z (by decide)
 subst hv
 obtain⟨its,r,pl,hz⟩:=I.list hq
 obtain⟨⟨cls,dd,data,sl⟩,n,ho,hc,hdd,hdt⟩:=id pl
 subst hc hdt
 obtain⟨g1,g2⟩:=countV hd f1 l r f2
 refine call_meets PySem.F.slot_list_count ⟨_,ho,rfl⟩ PySem.F.entry_list_count (PySem.F.args_list_count_2 _ _) (SeqAt.list_countAt a its.toArray n dd sl u _) ⟨ho,fun w hw=>gB ru (Dd hd f1) r g1 w (by simpa using hw),?_⟩
 refine⟨.int _,H,I.tok _,⟨s.toks,?_⟩,q⟩
 rw[show its.toArray.toList=its from rfl,g2]
def HR:ZW X "tuple.count" (fun x ys H Q=>(∃a vs,x=.ref a/\j5 X.K H a vs)/\QZ X.K x ys H Q):=by
 intro γ s σ H x ys v us Q I rx ry h
 obtain⟨⟨a,vs,rfl,hq⟩,a',vs',ds,d,y,e1,rfl,hq',l,hd,f1,f2,q⟩:=h
 cases e1
 cases rx
 obtain⟨u,rfl,ru⟩:=Vals.one ry
 have hv:vs'=vs:=by
  rcases hq' with z|z
  ·obtain⟨_,_,⟨o,e,c,_⟩,_⟩:=I.tuple hq
   obtain⟨_,_,⟨o',_,e',c',_⟩,_⟩:=I.list z
   rw[e]at e';cases e';rw[c]at c';injection c' with z;exact absurd z (by decide)
  ·exact I.vf z hq
 subst hv
 obtain⟨its,r,pl,hz⟩:=I.tuple hq
 obtain⟨⟨cls,dd,data,sl⟩,ho,hc,n,hdt⟩:=id pl
 subst hc hdt
 obtain⟨g1,g2⟩:=countV hd f1 l r f2
 refine call_meets PySem.F.slot_tuple_count ⟨_,ho,rfl⟩ PySem.F.entry_tuple_count (PySem.F.args_tuple_count_2 _ _) (SeqAt.tuple_countAt a its.toArray n dd sl u _) ⟨ho,fun w hw=>gB ru (Dd hd f1) r g1 w (by simpa using hw),?_⟩
 refine⟨.int _,H,I.tok _,⟨s.toks,?_⟩,q⟩
 rw[show its.toArray.toList=its from rfl,g2]
noncomputable def adQ(K:QQq)(to te:TE):TE:=fun σ H Q=>to σ H fun x H1=>∃a vs,x=.ref a/\((lG K H1 a vs/\te σ H1 fun y H2=>(∃a vs,x=.ref a/\lG K H2 a vs)/\QZ K x [y] H2 Q)\/(j5 K H1 a vs/\te σ H1 fun y H2=>(∃a vs,x=.ref a/\j5 K H2 a vs)/\QZ K x [y] H2 Q))
def WD(M:An X o "count" apos e cpos)(ho:PE X o to)(he:PE X e te):PE X (.Call (.Attribute o "count" apos) [e] [] cpos) (adQ X.K to te):=by
 intro γ s σ H Q I h
 refine wpAny_Call_method_late M.base M.few M.line rfl (cj (ho γ s σ H _ I h) fun v s1⟨x,H1,I1,r1,a,vs,ex,q1⟩=>?_)
 subst ex
 cases r1
 have arg:∀{id:String}{r:V->List V->Hp->VK->Prop},ZW X id r->(te σ H1 fun y H2=>r _ [y] H2 Q)->wpAny _ X.A (callWith cpos _ [.ref a] (backTo cpos (starEach [e] X.env)) _) _ X.xe s1:=fun{id r}hm z=>by
  have hA:=aC he bM M.star cpos γ s1 σ H1 (fun vs H2=>r (.ref a) vs H2 Q) I1 z
  rw[M.star]at hA⊢
  exact Calls.callWith_builtin rfl (Calls.evalArgs_plain (cj hA fun us s2⟨vs,H2,I2,r2,q2⟩=>hm γ s2 σ H2 (.ref a) vs _ us Q I2 rfl r2 q2))
 rcases q1 with ⟨hq,z⟩|⟨hq,z⟩
 ·obtain⟨its,r,pl,hz⟩:=I1.list hq
  refine⟨"list","list.count",PySem.F.plainAttrs_list,PySem.F.slot_list_count,PySem.F.type_list_count,pl.isList.typeIs,fun b eb=>?_,arg HS z⟩
  cases eb
  obtain⟨o,n,e,c,hd,_⟩:=pl
  exact⟨o,e,hd⟩
 ·obtain⟨its,r,⟨o,eo,ec,hd,n,dt⟩,hz⟩:=I1.Bh hq
  refine⟨"tuple","tuple.count",PySem.F.plainAttrs_tuple,PySem.F.slot_tuple_count,PySem.F.type_tuple_count,⟨o,eo,ec⟩,fun b eb=>?_,arg HR z⟩
  cases eb
  exact⟨o,eo,hd⟩
def Ng(M:An X o "count" apos e cpos)(ho:GE X W c m1 o)(he:GE X W c m2 e):GE X W c (.count m1 m2) (.Call (.Attribute o "count" apos) [e] [] cpos):=by
 intro env
 refine PE.imp (WD M ho.d he.d) fun σ H Q q=>?_
 refine⟨env,aL q fun d δ v H1 N1 D1 q1=>?_⟩
 cases d with
 |tup xs=>
  obtain⟨a,vs,rfl,hq,l⟩:=cX D1
  refine⟨a,vs,rfl,.inr ⟨hq,δ,aL q1 fun d2 ε y H2 N2 D2 q2=>?_⟩⟩
  obtain⟨z,ez,S,q3⟩:=cR q2
  simp only[Af]at ez
  split at ez
  ·rename_i hf
   cases ez
   rw[QUq]at hf
   exact⟨⟨a,vs,rfl,N2.pers.Wa hq⟩,a,vs,xs,d2,y,rfl,rfl,.inr (N2.pers.Wa hq),l.mono N2.pers,D2,hf.1,hf.2,q3 _ H2 (Nx.refl S) rfl⟩
  ·cases ez
 |lst xs=>
  obtain⟨a,vs,rfl,hq,l⟩:=dX D1
  refine⟨a,vs,rfl,.inl ⟨hq.sq,δ,aL q1 fun d2 ε y H2 N2 D2 q2=>?_⟩⟩
  obtain⟨z,ez,S,q3⟩:=cR q2
  simp only[Af]at ez
  split at ez
  ·rename_i hf
   cases ez
   rw[QUq]at hf
   exact⟨⟨a,vs,rfl,(N2.pers.U5 hq).sq⟩,a,vs,xs,d2,y,rfl,rfl,.inl (N2.pers.U5 hq).sq,l.mono N2.pers,D2,hf.1,hf.2,q3 _ H2 (Nx.refl S) rfl⟩
  ·cases ez
 |_=>exact q1.2.elim
def Ml{i:Int}(h:ix? n i=some j)(hn:n<=sizeLine): -(2 ^63)<=i/\i<2 ^63/\seqIndex? i n=some j/\j<n:=by
 have hl:=sizeLine_eq
 unfold ix? at h
 by_cases h0:i<0
 ·simp only[h0,if_true]at h
  by_cases hj:0<=i+n/\i+n<n
  ·rw[if_pos hj]at h
   have e:=QDz h
   exact⟨by omega,by omega,by rw[seqIndex_neg (by omega) (by omega),e],by omega⟩
  ·rw[if_neg hj]at h;cases h
 ·simp only[h0,if_false]at h
  by_cases hj:0<=i/\i<n
  ·rw[if_pos hj]at h
   have e:=QDz h
   exact⟨by omega,by omega,by rw[seqIndex_of (by omega) (by omega),e],by omega⟩
  ·rw[if_neg hj]at h;cases h
def tW(h:gC d=true):∃xs,d=some (.lst xs):=by
 cases d with
 |none=>cases h
 |some d=>cases d with
  |lst xs=>exact⟨xs,rfl⟩
  |_=>cases h
def Xj k k':fZ (dB k') (dB k)=decide (k'=k):=by
 cases k'<;>cases k<;>simp[dB,fZ,Bool.beq_eq_decide_eq]
def M9{x:Str}(M:An X (.Name x p) "pop" apos e cpos)(nm:jU X k x)(he:GE X W c m e):GE X W c (.popAt k m) (.Call (.Attribute (.Name x p) "pop" apos) [e] [] cpos):=by
 intro env γ s σ H Q I q
 refine PE.imp (Fd M PySem.F.slot_list_pop PySem.F.type_list_pop Lw nm.pe he.d) (t':=fun ζ H' Q'=>ζ=σ/\H'=H/\Q'=Q) (fun ζ H' Q'⟨e1,e2,e3⟩=>?_) γ s σ H Q I ⟨rfl,rfl,rfl⟩
 subst e1 e2 e3
 simp only[Qd]at q
 cases hl:gC _ with
 |false=>rw[hl]at q;exact q.2.elim
 |true=>
  rw[hl]at q
  obtain⟨xs0,e0⟩:=tW hl
  obtain⟨u,eu,Du⟩:=fV q.1 e0
  obtain⟨a0,vs0,rfl,hq0,l0⟩:=Du.lst
  refine⟨.ref a0,eu,.inl ⟨rfl,vs0,hq0⟩,env,aL q fun d δ y H1 N1 D1 q1=>?_⟩
  unfold sV at q1
  cases d with
  |int i=>
   cases e1:aW k δ with
   |none=>rw[e1]at q1;exact q1.2.elim
   |some d1=>
    rw[e1]at q1
    cases d1 with
    |lst xs=>
     simp only at q1
     cases hz:fits xs.length with
     |false=>rw[hz]at q1;exact q1.2.elim
     |true=>
     rw[hz]at q1
     cases e2:ix? xs.length i with
     |none=>rw[e2]at q1;exact q1.2.elim
     |some j=>
      rw[e2]at q1
      simp only at q1
      cases e3:xs[j]? with
      |none=>rw[e3]at q1;exact q1.2.elim
      |some dd=>
       cases e4:dM k _ δ with
       |none=>rw[e3,e4]at q1;exact q1.2.elim
       |some ε=>
        rw[e3,e4]at q1
        obtain⟨zs,ys,a,vs,ef,es,ha,l,lk,N⟩:=yN q1.1 e4
        rw[e1]at lk
        cases lk
        cases ef
        rw[eu]at es
        cases es
        subst D1
        obtain⟨w,ew,dw⟩:=l.get e3
        obtain⟨b1,b2,b3,b4⟩:=Ml e2 (gw hz)
        exact⟨a0,vs,i,j,w,rfl,rfl,ha,b1,b2,by rw[<-l.length];exact b3,ew,q1.2 w _ (N _ (l.eraseIdx j)) (dw.mono (N _ (l.eraseIdx j)).pers)⟩
    |_=>exact q1.2.elim
  |_=>exact q1.2.elim
def IV{x:Str}(M:An X (.Name x p) "append" apos e cpos)(nm:jU X k x)(he:GE X W c m e):GS X W c (.append k m) (.Expr (.Call (.Attribute (.Name x p) "append" apos) [e] [] cpos) pos):=by
 intro env
 refine PS.imp (lQ (Fd M PySem.F.slot_list_append PySem.F.type_list_append pD nm.pe he.d) rfl) fun D σ H q=>?_
 simp only[x_9]at q
 cases hl:gC _ with
 |false=>rw[hl]at q;exact q.2.elim
 |true=>
  rw[hl]at q
  obtain⟨xs0,e0⟩:=tW hl
  obtain⟨u,eu,Du⟩:=fV q.1 e0
  obtain⟨a0,vs0,rfl,hq0,l0⟩:=Du.lst
  refine⟨.ref a0,eu,.inl ⟨rfl,vs0,hq0⟩,env,rM q fun d δ y H1 N1 D1 q1=>?_⟩
  cases e4:dM k _ δ with
  |none=>rw[e4]at q1;exact q1.2.elim
  |some ε=>
   rw[e4]at q1
   obtain⟨zs,ys,a,vs,ef,es,ha,l,lk,N⟩:=yN q1.1 e4
   rw[eu]at es
   cases es
   split at ef
   ·rename_i hf
    cases ef
    have:=gw hf
    refine⟨a0,vs,y,rfl,rfl,ha,by rw[<-l.length];omega,q1.2 _ _ (N _ (l.append (ao.bA D1 ao.eX))).z⟩
   ·cases ef
noncomputable def Up:V->V->V->Hp->(Hp->Prop)->Prop:=fun o i v H Q=>∃a H',o=.ref a/\Ph H a i v H'/\Q H'
def Qw(hu:X.A.units+1<cLine):Tp X Up:=by
 intro γ s σ H o i v ov iv u Q I ro ri rv h
 obtain⟨a,H',rfl,g,q⟩:=h
 cases ro
 exact Je hu I g ri rv fun s4 I4=>⟨H',I4,q⟩
def aaV(K:QQq):V->V->V->Hp->(Hp->Prop)->Prop:=fun o i v H Q=>Uo o i v H Q\/Up o i v H Q
def Qx(hu:X.A.units+2<cLine):Tp X (aaV X.K):=by
 intro γ s σ H o i v ov iv u Q I ro ri rv h
 rcases h with h|h
 ·exact set_list γ s σ H o i v ov iv u Q I ro ri rv h
 ·exact Qw (by omega) γ s σ H o i v ov iv u Q I ro ri rv h
def Xn{i:Int}(h:ix? n i=some j):RV n i=some j:=by
 unfold ix? at h
 unfold RV
 by_cases h0:i<0
 ·simp only[h0,if_true]at h
  rw[if_neg (by omega)]
  by_cases hj:0<=i+n/\i+n<n
  ·rw[if_pos hj]at h;rw[if_pos (by omega)];exact h
  ·rw[if_neg hj]at h;cases h
 ·simp only[h0,if_false]at h
  rw[if_pos (by omega)]
  by_cases hj:0<=i/\i<n
  ·rw[if_pos hj]at h;rw[if_pos hj.2];exact h
  ·rw[if_neg hj]at h;cases h
theorem zj{H:Hp}{d:D}(hv:bj K H d v):∀{kvs:List (Key×V)}{ds:List D},ao K H ds (kvs.map (·.2))->
  ao K H (Ez (dB k) d (kvs.map fun p=>dB p.1) ds) ((kvs.map fun kv=>if kv.1=k then(kv.1,v)else kv).map (·.2))
 |[],ds,l=>by
  have:ds=[]:=by have:=l.length;cases ds<;>simp_all
  exact ao.eX
 |(k',u)::r,ds,l=>by
  cases ds with
  |nil=>have:=l.length;simp at this
  |cons x ds=>
   obtain⟨w,ws,e,h1,h2⟩:=ao.aZ.mp l
   cases e
   have ih:=zj (k:=k) hv h2
   simp only[Qyq,Ez,Xj]
   by_cases q:k'=k
   ·simp only[q,decide_true,if_true]
    exact ao.bA hv ih
   ·simp only[q,decide_false,Qyz,if_false]
    exact ao.bA h1 ih
theorem vG{v:V}:∀(kvs:List (Key×V)),(kvs.map fun kv=>if kv.1=k then(kv.1,v)else kv).map (fun p=>dB p.1)=kvs.map fun p=>dB p.1
 |[]=>rfl
 |(k',u)::r=>by
  simp only[Qyq,vG r]
  split<;>rfl
def Fb{H:Hp}{d:D}(hv:bj K H d v){ds:List D}(l:ao K H ds (kvs.map (·.2))):
  (putD (dB k) d (kvs.map fun p=>dB p.1) ds).1=(putK kvs k v).map (fun p=>dB p.1)/\ao K H (putD (dB k) d (kvs.map fun p=>dB p.1) ds).2 ((putK kvs k v).map (·.2)):=by
 unfold putD putK
 rw[<-lK,<-rF]
 split
 ·rename_i h
  exact⟨(vG kvs).symm,zj hv l⟩
 ·refine⟨by simp,?_⟩
  rw[List.map_append]
  exact l.append (ao.bA hv ao.eX)
theorem M3{k:Nat}{x:Str}{ix:E}{ixe:Expr}{tp:Pos}(nm:jU X k x)(he:GE X W c m e)(hi:GE X W c ix ixe)
  (ha:∀v,assign (.Subscript (.Name x p) ixe tp) X.env v=(do
   let ov<-holding [v] (eval (.Name x p) X.env)
   let iv<-holding [v,ov] (eval ixe X.env)
   standAt tp
   holding [v,ov,iv] (setItem ov iv v)
   release [v,ov,iv] []))
  (hs:swapsWithSole [.Subscript (.Name x p) ixe tp] e pos.line X.env=pure false)(hw:swappedStores [.Subscript (.Name x p) ixe tp] e X.env=pure none)(hu:X.A.units+2<cLine)
  (h1:(assignEach [.Subscript (.Name x p) ixe tp] X.env).map (·.2)=[assign (.Subscript (.Name x p) ixe tp) X.env]):
  GS X W c (.setIx k ix m) (.Assign [.Subscript (.Name x p) ixe tp] e pos):=by
 intro env
 refine PS.imp (KY he.d (Wz nm.pe hi.d (Qx hu) ha) hs hw h1) fun D σ H q=>?_
 simp only[x_7]at q
 refine⟨env,rM q fun d δ v H1 N1 D1 q1=>?_⟩
 cases e0:aW k δ with
 |none=>rw[e0]at q1;exact q1.2.elim
 |some d0=>
  rw[e0]at q1
  simp only[Option.isNone_some,Qyz,if_false]at q1
  obtain⟨u,eu,Du⟩:=fV q1.1 e0
  refine⟨u,eu,δ,rM q1 fun d2 ε y H2 N2 D2 q2=>?_⟩
  cases e4:dM k (zA d2 d) ε with
  |none=>rw[e4]at q2;exact q2.2.elim
  |some env3=>
   rw[e4]at q2
   obtain⟨o,o',a,w,ef,es,hA,hd,lk,N⟩:=Eh q2.1 e4
   rw[eu]at es
   cases es
   cases o with
   |lst xs=>
    obtain⟨vs,rfl,l⟩:=hd
    cases d2 with
    |int i=>
     simp only[zA]at ef
     cases e5:ix? xs.length i with
     |none=>rw[e5]at ef;cases ef
     |some j=>
      rw[e5]at ef
      cases ef
      have D2':y=.int i:=D2
      subst D2'
      exact .inl ⟨a,vs,i,j,rfl,rfl,hA,by rw[<-l.length];exact Xn e5,q2.2 _ _ (N _ ⟨_,rfl,l.set (D1.mono N2.pers) j⟩).z⟩
    |_=>cases ef
   |dct ks ds=>
    obtain⟨kvs,rfl,rfl,l⟩:=hd
    simp only[zA]at ef
    split at ef
    ·rename_i hk
     rw[QUq]at hk
     cases ef
     obtain⟨kk,rfl⟩:=gW hk.1
     have ek:=mq D2
     subst ek
     obtain⟨g1,g2⟩:=Fb (k:=kk) (D1.mono N2.pers) l
     have hf:=gw hk.2
     rw[Qvz]at hf
     exact .inr ⟨a,_,rfl,Ph.k hA (by omega),q2.2 _ _ (N _ ⟨_,rfl,g1,g2⟩).z⟩
    ·cases ef
end
section
def XH(he:GE X W c m e)(hv:∀k,m.az=some k->∃x p,e=.Name x p/\jU X k x):GS X W c (.ret m) (.Return (some e) pos):=by
 intro env
 have plain:∀D σ H,tS X.K W env ((ev c m env).fl uN) D σ H->Ql (aM X W c m) D σ H:=fun D σ H q=>by
  refine⟨env,T9 q fun x δ v H1 N z q1=>?_⟩
  cases x with
  |val d=>exact q1.2 v σ H1 N.z z
  |new o=>
   obtain⟨a,e1,e2,e3⟩:=z
   exact q1.2 v σ H1 N.z ⟨a,e1,e2,.inl e3⟩
  |ref i=>exact q1.2.elim
  |tmp o=>exact q1.2.elim
 cases q0:m.az with
 |none=>exact PS.imp (iT he.am) fun D σ H q=>plain D σ H (by simpa only[Ay,q0]using q)
 |some k=>
  cases e0:env[k]? with
  |none=>exact PS.imp (iT he.am) fun D σ H q=>plain D σ H (by simpa only[Ay,q0,e0]using q)
  |some sl=>
   cases sl with
   |un=>exact PS.imp (iT he.am) fun D σ H q=>plain D σ H (by simpa only[Ay,q0,e0]using q)
   |val d=>exact PS.imp (iT he.am) fun D σ H q=>plain D σ H (by simpa only[Ay,q0,e0]using q)
   |bor o=>exact PS.imp (iT he.am) fun D σ H q=>plain D σ H (by simpa only[Ay,q0,e0]using q)
   |own o=>
    obtain⟨x,p,rfl,nm⟩:=hv k q0
    refine PS.imp (iT nm.pe) fun D σ H q=>?_
    simp only[Ay,q0,e0]at q
    obtain⟨a,e1,e2⟩:=q.1.sl k _ e0
    have es:=cH e1
    have hi:=(QCq.mp e0).1
    have sub:∀j b,aK (env.set k .un) σ j b->aK env σ j b:=fun j b z=>by
     obtain⟨⟨s,ys,z1,z2⟩,z3⟩:=z
     by_cases hj:k=j
     ·subst hj;rw[Qxz hi]at z1;cases z1;cases z2
     ·rw[Qxq hj]at z1;exact⟨⟨s,ys,z1,z2⟩,z3⟩
    refine⟨.ref a,es,q.2 _ σ H ⟨⟨by simpa using q.1.len,fun j s ej=>?_,fun j l b z w=>q.1.ne j l b (sub j b z) (sub l b w)⟩,fun j b z=>.inl (sub j b z),bR.refl H,fun _ _ z _=>z,fun _ z=>z,fun j ys ej=>?_⟩ ⟨a,rfl,e2,.inr ⟨k,o,e0,es⟩⟩⟩
    ·by_cases hj:k=j
     ·subst hj;rw[Qxz hi]at ej;cases ej;trivial
     ·rw[Qxq hj]at ej;exact q.1.sl j s ej
    ·exact⟨⟨ys,by rw[Qxq (fun z=>by subst z;rw[e0]at ej;cases ej)];exact ej⟩,rfl⟩
def R5:GS X W c (.ret ABs) (.Return none pos):=fun env=>PS.imp Q0 fun D σ H q=>by
 simp only[Ay,E.az,v_0,v_1,Z6,v_3,v_4,v_5,v_6,Y8,v_8,Vv,Ba,JC,VF,Ha,VD,VB,Qh,JB,Jz,Qg,Vz,o5,Qf,Vy,Qe,Vx,Qd,nO,Out.fl,uN]at q
 exact q.2 .non σ H (Nz.refl q.1) rfl
theorem mY lo:∀(n i:Nat)(d:D),(bK lo n)[i]? =some d->d=.int (lo+i)/\i<n
 |0,i=>fun d h=>by simp[bK]at h
 |n+1,0=>fun d h=>by simp[bK]at h;exact⟨by rw[<-h];simp,by omega⟩
 |n+1,i+1=>fun d h=>by
  obtain⟨e,l⟩:=mY _ n i d h
  refine⟨by rw[e];congr 1;push_cast;omega,by omega⟩
theorem mX lo:∀n,(bK lo n).length=n
 |0=>rfl
 |n+1=>by rw[bK,QAz,mX]
theorem z6{H:Hp}{n:Nat}(hz:n<=sizeLine):Gives K (Itr lo n) (bK lo n) H where
 go:=fun H1 p i d e=>(mY lo n i d e).2
 yld:=fun H1 p i d e x H2 y=>by
  obtain⟨rfl,rfl⟩:=y
  rw[(mY lo n i d e).1]
  exact⟨rfl,.inl rfl⟩
 stop:=fun H1 p i hi=>by rw[mX]at hi;exact hi
 len:=by rw[mX];exact hz
def LC(h:uJ i=true): -(2 ^62)<=i/\i<2 ^62:=by
 simp only[uJ,QUz]at h
 omega
def Jb{tg:Expr}(ha:GE X W c m a)(hg:Gl X "range")(hm:X.mg "range"=none)(hs:starEach [a] X.env=[(false,eval a X.env)]):GI X W c (.range1 m) tg (.Call (.Name "range" p) [a] [] pos):=by
 intro env γ s σ H R I q
 refine HB hg hm (aC ha.d bM hs) hs γ s σ H R I ⟨env,q.1,?_⟩
 have q2:=q.2
 simp only[Qf]at q2
 have go:∀d δ v H',Nx X.K env σ H δ H'->bj X.K H' d v->(match (lift δ (match d with|.int n=>if fits n.toNat&&uJ n then some (Rv.val (.lst (bK 0 n.toNat)))else none|_=>none))with
   |.ok x env'=>∃d xs,x.lw=some d/\items d=some xs/\∀J H',Nx X.K env σ H env' H'->Gives X.K J xs H'->R J H'
   |.exc c env'=>∀H',Nx X.K env σ H env' H'->W c env' σ H'
   |.bad=>False)->∃j:Int,[v]=[.int j]/\ -(2 ^62)<=j/\j<2 ^62/\R (Itr 0 j.toNat) H':=fun d δ v H' N Dv z=>by
  cases d with
  |int n=>
   simp only at z
   by_cases hf:(fits n.toNat&&uJ n)=true
   ·rw[if_pos hf]at z
    rw[QUq]at hf
    obtain⟨d',xs,e1,e2,z⟩:=z
    cases e1
    cases e2
    have hv:v=.int n:=Dv
    subst hv
    exact⟨n,rfl,(LC hf.2).1,(LC hf.2).2,z _ H' N (z6 (gw hf.1))⟩
   ·rw[if_neg hf]at z;exact z.elim
  |_=>exact z.elim
 cases r:ev c m env with
 |bad=>rw[r]at q2;exact q2
 |exc k δ=>rw[r]at q2;exact q2
 |ok x δ=>
  rw[r]at q2
  cases x with
  |val d=>exact fun v H' N Dv=>go d δ v H' N Dv q2
  |new o=>exact fun v H' N Dv=>go o.d δ v H' N Dv q2
  |ref i=>exact q2
  |tmp o=>exact q2
theorem jY.z{tg:Tg}{σ ζ:St}(st:jY K tg env σ env' ζ H):Nz K env σ H env' ζ H:=
 ⟨st.gK,fun i a z=>.inl (st.sub z),bR.refl _,fun _ _ z _=>z,fun _ z=>z,fun i xs e=>⟨⟨xs,(st.same i (st.bors i xs e)).1.trans e⟩,(st.same i (st.bors i xs e)).2⟩⟩
theorem Ej{env:Ev}{H:Hp}{f:Fl}{D:Ends}(q:tS K W env (f.turn g) D σ H)
  (k:∀ε υ H2,Nz K env σ H ε υ H2->tS K W ε (g ε) D υ H2->N υ H2):tS K W env f {D with nx:=N,ct:=N,bk:=D.nx} σ H:=by
 refine⟨q.1,?_⟩
 cases f with
 |next ε=>exact fun υ H2 N2=>k ε υ H2 N2 (rK q N2)
 |cont ε=>exact fun υ H2 N2=>k ε υ H2 N2 (rK q N2)
 |brk ε=>exact q.2
 |ret r ε=>exact q.2
 |exc j ε=>exact q.2
 |bad=>exact q.2
theorem XJ{tg:Tg}{it:E}{b:S}(hp:PassesOwn (model X.prog X.w) X.A X.env X.xe)(hc:X.calm=true)(hi:GI X W c it tgE ο)(hg:GG X tg tgE)(hb:PB X W c b body)
  (hs:∀x,foldedSetIterable ο X.env x=pure x):GS X W c (.for_ tg it b) (.For tgE ο body [] pos):=by
 intro env γ s σ H D I q
 refine(Ww (pos:=pos) hp hc (wi:=fun ζ H' R=>ζ=σ/\H'=H/\tI X.K W env (ev c it env) σ H R) (fun γ s ζ H' R I'⟨e1,e2,z⟩=>by subst e1 e2;exact hi env γ s _ _ R I' z) hg (tb:=fun D σ H=>∃env,tS X.K W env _ D σ H) (fun γ s σ H D I⟨env,z⟩=>hb env γ s σ H D I z) hs) γ s σ H D I ⟨rfl,rfl,?_⟩
 simp only[adA]at q
 have tur:∀δ xs J H1,Nx X.K env σ H δ H1->Gives X.K J xs H1->tS X.K W δ _ D σ H1->∃W':Nat->Nat->St->Hp->Prop,(∃m,W' 0 m σ H1)/\∀i m σ H,W' i m σ H->
   (J.stop i H/\D.nx σ H)\/(J.go i H/\∃N:St->Hp->Prop,(∀ζ H',N ζ H'->∃m',m'<m/\W' (i+1) m' ζ H')/\∀x H',J.yld i H x H'->tG X.K tg x σ H' fun υ H2=>∃env,tS X.K W env (ex c b env) {D with nx:=N,ct:=N,bk:=D.nx} υ H2):=fun δ xs J H1 N1 G z=>by
  refine⟨fun i m ζ H'=>i<=xs.length/\m=xs.length-i/\bR H1 H'/\∃env',tS X.K W env' (dC tg (ex c b) (xs.drop i) env') D ζ H',⟨xs.length,QHq _,by simp,bR.refl _,δ,z⟩,?_⟩
  rintro i m ζ H' ⟨hi,rfl,pe,env',z⟩
  by_cases hl:i<xs.length
  ·obtain⟨d,hd⟩:∃d,xs[i]? =some d:=⟨xs[i],by simp[hl]⟩
   rw[wB hd,dC]at z
   cases e:cY tg d env' with
   |none=>rw[e]at z;exact z.2.elim
   |some ε=>
    rw[e]at z
    refine .inr ⟨G.go H' pe i d hd,fun υ H2=>bR H1 H2/\∃env3,tS X.K W env3 _ D υ H2,fun υ H2⟨p2,w⟩=>⟨xs.length- (i+1),by omega,hl,rfl,p2,w⟩,fun x H2 y=>?_⟩
    obtain⟨Dx,lay⟩:=G.yld H' pe i d hd x H2 y
    have N2:=z.1.lay lay
    refine⟨env',d,ε,N2.gK,Dx,e,fun υ st=>⟨ε,Ej (rK z (N2.z.trans st.z)) fun env3 σ3 H3 N3 w=>⟨(pe.trans N2.pers).trans N3.pers,env3,w⟩⟩⟩
  ·have e:i=xs.length:=by omega
   subst e
   rw[List.drop_length,dC]at z
   exact .inl ⟨G.stop H' pe _ (QVz _),z.2 ζ H' (Nz.refl z.1)⟩
 refine⟨q.1,?_⟩
 have go:∀(x:Rv)δ d,x.lw=some d->(match (match items d with|some xs=>dC tg (ex c b) xs δ|none=>Fl.bad)with
   |.next env'=>∀ζ H',Nz X.K env σ H env' ζ H'->D.nx ζ H'
   |.ret r env'=>∀v ζ H',Nz X.K env σ H env' ζ H'->O7 X.K env σ H H' r v->D.rt v H'
   |.brk env'=>∀ζ H',Nz X.K env σ H env' ζ H'->D.bk ζ H'
   |.cont env'=>∀ζ H',Nz X.K env σ H env' ζ H'->D.ct ζ H'
   |.exc c env'=>∀ζ H',Nz X.K env σ H env' ζ H'->W c env' ζ H'
   |.bad=>False)->∃d xs,x.lw=some d/\items d=some xs/\∀J H',Nx X.K env σ H δ H'->Gives X.K J xs H'->∃W':Nat->Nat->St->Hp->Prop,(∃m,W' 0 m σ H')/\∀i m σ H,W' i m σ H->
   (J.stop i H/\D.nx σ H)\/(J.go i H/\∃N:St->Hp->Prop,(∀ζ H',N ζ H'->∃m',m'<m/\W' (i+1) m' ζ H')/\∀x H',J.yld i H x H'->tG X.K tg x σ H' fun υ H2=>∃env,tS X.K W env (ex c b env) {D with nx:=N,ct:=N,bk:=D.nx} υ H2):=fun x δ d ed z=>by
  cases e1:items d with
  |none=>rw[e1]at z;exact z.elim
  |some xs=>
   rw[e1]at z
   exact⟨d,xs,ed,e1,fun J H1 N G=>tur δ xs J H1 N G (rK ⟨q.1,z⟩ N.z)⟩
 have q2:=q.2
 cases r:ev c it env with
 |bad=>rw[r]at q2;exact q2
 |exc k δ=>rw[r]at q2;exact fun H' N=>q2 σ H' N.z
 |ok x δ=>
  rw[r]at q2
  cases x with
  |val d=>exact go _ δ d rfl q2
  |new o=>exact go _ δ o.d rfl q2
  |ref i=>exact q2.elim
  |tmp o=>exact q2.elim
def MT{t:E}{b:S}(hp:PassesOwn (model X.prog X.w) X.A X.env X.xe)(ht:GT X W c t te)(hb:PB X W c b body):GS X W c (.while_ t b) (.While te body [] pos):=by
 intro env
 refine PS.imp (zB hp ht (tb:=fun D σ H=>∃env,tS X.K W env _ D σ H) (fun γ s σ H D I⟨env,z⟩=>hb env γ s σ H D I z)) fun D σ H q=>?_
 refine⟨fun n ζ H'=>∃env',tS X.K W env' (gq _ _ n env') D ζ H',⟨c.turns,env,q⟩,?_⟩
 rintro n ξ H1 ⟨δ,q1⟩
 cases n with
 |zero=>exact q1.2.elim
 |succ n=>
  refine⟨δ,JW q1 fun k ε H2 N2 q2=>?_⟩
  cases k with
  |true=>
   refine⟨fun ζ H'=>∃env',tS X.K W env' _ D ζ H',fun ζ H' w=>⟨n,Nat.lt_succ_self n,w⟩,ε,Ej q2 fun env3 σ3 H3 N3 w=>⟨env3,w⟩⟩
  |false=>
   exact q2.2 ξ H2 (Nz.refl q2.1)
end
structure Cz(K:QQq)(ps:List Sl)(vs:List V)(H:Hp)(qs:List Sl)(H':Hp):Prop where
 bor:∀(i:Nat)o,ps[i]? =some (.bor o)->∃o' a,qs[i]? =some (.bor o')/\vs[i]? =some (.ref a)/\jo K H' o' a
 pers:bR H H'
 keep:∀b u,H b=some u->(∀i,¬aK ps (vs.map some) i b)->H' b=some u
 dom:∀b,H' b=none->H b=none
noncomputable def acj(K:QQq)(H H':Hp):Rv->V->Prop
 |.val d,v=>bj K H' d v
 |.new q,v=>∃a,v=.ref a/\jo K H' q a/\H a=none
 |_,_=>False
def noOwn(ps:List Sl):Prop:=∀(i:Nat)o,ps[i]? ≠some (.own o)
noncomputable def cG(K:QQq)(n:Nat)(f:List Sl->Res):Sp:=fun vs H Q _=>∃ps,vs.length=n/\Sat K ps (vs.map some) H/\noOwn ps/\match f ps with
 |.ok r qs=>∀v H',Cz K ps vs H qs H'->acj K H H' r v->Q v H'
 |.exc _ qs=>∀H',Cz K ps vs H qs H'->False
 |.bad=>False
def xG{ps:List Sl}{vs:List V}{b:Addr}(hl:ps.length=vs.length):aK (ps++List.replicate k .un) (vs.map some++List.replicate k none) i b↔aK ps (vs.map some) i b:=by
 constructor
 ·rintro ⟨⟨s,o,e1,e2⟩,e3⟩
  by_cases hi:i<ps.length
  ·rw[Qwq hi]at e1
   rw[Qwq (by simpa[<-hl]using hi)]at e3
   exact⟨⟨s,o,e1,e2⟩,e3⟩
  ·rw[QHz (by omega),List.getElem?_replicate]at e1
   split at e1
   ·cases e1;cases e2
   ·cases e1
 ·rintro ⟨⟨s,o,e1,e2⟩,e3⟩
  have hi:=(QCq.mp e1).1
  exact⟨⟨s,o,by rw[Qwq hi];exact e1,e2⟩,by rw[Qwq (by simpa[<-hl]using hi)];exact e3⟩
def Sat.pad{ps:List Sl}{vs:List V}(S:Sat K ps (vs.map some) H)k:Sat K (ps++List.replicate k .un) (vs.map some++List.replicate k none) H:=by
 have hl:ps.length=vs.length:=by simpa using S.len
 refine⟨by simp[hl],fun i s e=>?_,fun i j a h1 h2=>S.ne i j a ((xG hl).mp h1) ((xG hl).mp h2)⟩
 by_cases hi:i<ps.length
 ·rw[Qwq hi]at e
  rw[Qwq (by simpa[<-hl]using hi)]
  exact S.sl i s e
 ·rw[QHz (by omega),List.getElem?_replicate]at e
  split at e
  ·cases e;trivial
  ·cases e
def Nz.cz{ps:List Sl}{H H':Hp}{k n:Nat}{ζ:St}(S:Sat K ps (vs.map some) H)(hn:vs.length=n)(N:Nz K (ps++List.replicate k .un) (vs.map some++List.replicate k none) H env' ζ H'):Cz K ps vs H (env'.take n) H':=by
 have hl:ps.length=vs.length:=by simpa using S.len
 refine⟨fun i o e=>?_,N.pers,fun b u hb no=>N.keep b u hb fun i z=>no i ((xG hl).mp z),N.dom⟩
 have hi:=(QCq.mp e).1
 obtain⟨⟨o',e1⟩,e2⟩:=N.bors i o (by rw[Qwq hi];exact e)
 obtain⟨a,z1,z2⟩:=N.gK.sl i _ e1
 rw[e2,Qwq (by simpa[<-hl]using hi),QEz]at z1
 refine⟨o',a,by rw[List.getElem?_take_of_lt (by omega)];exact e1,?_,z2⟩
 cases q:vs[i]? with
 |none=>rw[q]at z1;cases z1
 |some v=>rw[q]at z1;simp at z1;rw[z1]
section
theorem Su{st:Stmt}{fd:FuncData}{k:Nat}{g:Fn}(F:GP K x qual st f fd)(S:eF N ps (aq st))(hp:g.pars=ps.length)(hn:g.names=N.length)
  (hb:∀(cdv:Value)(A:Around)(outer:List Env)(s:Shared)(H:Hp)(E:XK),dH k (A.deeper (PyProof.Rows.envOfC qual (aq st) s.heap.objs.size f cdv))->PB (gD gn P w K mg base N qual (aq st) f cdv A outer s H E).qU W0 c g.body (cF st)):
  cD P w K mg base gn (k+1) f fd ps (cG K ps.length (il c g)):=by
 refine F.ok S (fun vs H Q E h=>?_) (fun cdv A outer s H vs Q E hr h=>?_)
 ·obtain⟨_,h,_⟩:=h
  exact h
 ·obtain⟨sl,hl,S0,no,q⟩:=h
  refine⟨_,hb cdv A outer s H E hr (sl++List.replicate (g.names-g.pars) .un),?_⟩
  have hlen:sl.length=vs.length:=by simpa using S0.len
  have hst:L2.start N vs=vs.map some++List.replicate (g.names-g.pars) none:=by
   unfold L2.start
   rw[hn,hp,hl]
  have e0:il c g sl=match ex c g.body (sl++List.replicate (g.names-g.pars) .un)with
    |.next σ=>.ok (.val .non) (σ.take g.pars)
    |.ret r σ=>.ok r (σ.take g.pars)
    |.exc k σ=>.exc k (σ.take g.pars)
    |_=>.bad:=by
   unfold il
   rw[if_pos (by rw[hp,<-hl,hlen])]<;>cases ex c g.body _<;>rfl
  rw[e0]at q
  rw[hst]
  refine⟨S0.pad _,?_⟩
  have hg:vs.length=g.pars:=by rw[hl,hp]
  cases r:ex c g.body _ with
  |next env'=>rw[r]at q;exact fun ζ H' N=>q .non H' (N.cz S0 hg) rfl
  |ret rv env'=>
   rw[r]at q
   refine fun v ζ H' N z=>q v H' (N.cz S0 hg) ?_
   cases rv with
   |val d=>exact z
   |new o=>
    obtain⟨a,e1,e2,e3⟩:=z
    refine⟨a,e1,e2,?_⟩
    rcases e3 with e3|⟨i,ys,e3,_⟩
    ·exact e3
    ·by_cases hi:i<sl.length
     ·rw[Qwq hi]at e3
      exact absurd e3 (no i ys)
     ·rw[QHz (by omega),List.getElem?_replicate]at e3
      split at e3<;>cases e3
   |ref i=>exact z.elim
   |tmp o=>exact z.elim
  |brk env'=>rw[r]at q;exact q.elim
  |cont env'=>rw[r]at q;exact q.elim
  |exc j env'=>rw[r]at q;exact fun ζ H' N=>q H' (N.cz S0 hg)
  |bad=>rw[r]at q;exact q.elim
end
inductive En(K:QQq)(env:Ev)(σ:St)(H0 H:Hp):List Rv->List Sl->List V->Prop
 |nil:En K env σ H0 H [] [] []
 |val {d:D} {v:V} {rs:List Rv} {ps:List Sl} {vs:List V}:bj K H d v->En K env σ H0 H rs ps vs->En K env σ H0 H (.val d::rs) (.val d::ps) (v::vs)
 |tmp {o:Ob} {a:Addr} {rs:List Rv} {ps:List Sl} {vs:List V}:jo K H o a->H0 a=none->(∀q,Rv.tmp q∉rs)->En K env σ H0 H rs ps vs->En K env σ H0 H (.tmp o::rs) (.bor o::ps) (.ref a::vs)
 |ref {o:Ob} {j:Nat} {a:Addr} {s:Sl} {rs:List Rv} {ps:List Sl} {vs:List V}:env[j]? =some s->isOwn s=some o->σ[j]? =some (some (.ref a))->jo K H o a->Rv.ref j∉rs->En K env σ H0 H rs ps vs->En K env σ H0 H (.ref j::rs) (.bor o::ps) (.ref a::vs)
section
theorem lu(S:Sat K env σ H):∀{rs:List Rv}{ps:List Sl}{vs:List V},enter rs env=some ps->jZ K σ H0 H rs vs->En K env σ H0 H rs ps vs
 |[],ps,vs,h,r=>by
  cases h
  have:=r
  subst this
  exact .nil
 |x::rs,ps,vs,h,r=>by
  obtain⟨v,vr,rfl,h1,h2⟩:=r
  cases x with
  |val d=>
   simp only[enter]at h
   cases e:enter rs env with
   |none=>rw[e]at h;cases h
   |some ps'=>rw[e]at h;cases h;exact .val h1 (lu S e h2)
  |new o=>cases h
  |tmp o=>
   simp only[enter]at h
   split at h
   ·cases h
   ·rename_i hn
    cases e:enter rs env with
    |none=>rw[e]at h;cases h
    |some ps'=>
     rw[e]at h
     cases h
     obtain⟨a,rfl,oa,ha⟩:=h1
     exact .tmp oa ha (fun q hq=>hn (List.any_eq_true.mpr ⟨_,hq,rfl⟩)) (lu S e h2)
  |ref j=>
   simp only[enter]at h
   split at h
   ·cases h
   ·rename_i hn
    have nr:Rv.ref j∉rs:=fun hq=>hn (List.any_eq_true.mpr ⟨_,hq,by simp[jF]⟩)
    cases e1:env[j]? with
    |none=>rw[e1]at h;cases h
    |some s=>
     rw[e1]at h
     have h1':=h1
     cases s with
     |un=>cases h
     |val d=>cases h
     |own o=>
      cases e:enter rs env with
      |none=>simp only[e]at h;cases h
      |some ps'=>
       simp only[e]at h
       cases h
       obtain⟨a,z1,z2⟩:=S.sl j _ e1
       rw[h1']at z1
       cases z1
       exact .ref e1 rfl h1' z2 nr (lu S e h2)
     |bor o=>
      cases e:enter rs env with
      |none=>simp only[e]at h;cases h
      |some ps'=>
       simp only[e]at h
       cases h
       obtain⟨a,z1,z2⟩:=S.sl j _ e1
       rw[h1']at z1
       cases z1
       exact .ref e1 rfl h1' z2 nr (lu S e h2)
def En.len{ps:List Sl}(h:En K env σ H0 H rs ps vs):ps.length=vs.length/\rs.length=vs.length:=by
 induction h with
 |nil=>exact⟨rfl,rfl⟩
 |val _ _ ih=>simp[ih.1,ih.2]
 |tmp _ _ _ _ ih=>simp[ih.1,ih.2]
 |ref _ _ _ _ _ _ ih=>simp[ih.1,ih.2]
theorem En.noOwn{ps:List Sl}(h:En K env σ H0 H rs ps vs):noOwn ps:=by
 induction h with
 |nil=>intro i o e;simp at e
 |val _ _ ih=>intro i o e;cases i with
  |zero=>simp at e
  |succ i=>exact ih i o (by simpa using e)
 |tmp _ _ _ _ ih=>intro i o e;cases i with
  |zero=>simp at e
  |succ i=>exact ih i o (by simpa using e)
 |ref _ _ _ _ _ _ ih=>intro i o e;cases i with
  |zero=>simp at e
  |succ i=>exact ih i o (by simpa using e)
def En.lent{ps:List Sl}(h:En K env σ H0 H rs ps vs):∀{i:Nat}{a:Addr},aK ps (vs.map some) i a->(∃o,rs[i]? =some (.tmp o)/\H0 a=none)\/∃j,rs[i]? =some (.ref j)/\aK env σ j a:=by
 induction h with
 |nil=>rintro i a ⟨⟨s,o,e,_⟩,_⟩;simp at e
 |val _ _ ih=>
  rintro i a ⟨⟨s,o,e1,e2⟩,e3⟩
  cases i with
  |zero=>simp at e1;subst e1;cases e2
  |succ i=>simpa using ih ⟨⟨s,o,by simpa using e1,e2⟩,by simpa using e3⟩
 | @tmp o b rs ps vs oa h0 _ _ ih=>
  rintro i a ⟨⟨s,o',e1,e2⟩,e3⟩
  cases i with
  |zero=>
   simp at e3
   subst e3
   exact .inl ⟨o,rfl,h0⟩
  |succ i=>simpa using ih ⟨⟨s,o',by simpa using e1,e2⟩,by simpa using e3⟩
 | @ref o j b s rs ps vs e1 e2 e3 oa nr _ ih=>
  rintro i a ⟨⟨s',o',z1,z2⟩,z3⟩
  cases i with
  |zero=>
   simp at z3
   subst z3
   exact .inr ⟨j,rfl,⟨⟨s,o,e1,e2⟩,e3⟩⟩
  |succ i=>simpa using ih ⟨⟨s',o',by simpa using z1,z2⟩,by simpa using z3⟩
def En.gK(S0:Sat K env0 σ H0)(S:Sat K env σ H)(sub:∀(i:Nat)a,aK env σ i a->aK env0 σ i a){ps:List Sl}(h:En K env σ H0 H rs ps vs):Sat K ps (vs.map some) H:=by
 refine⟨by simpa using h.len.1,?_,?_⟩
 ·clear S0 sub
  induction h with
  |nil=>intro i s e;simp at e
  |val hd _ ih=>
   intro i s e
   cases i with
   |zero=>simp at e;subst e;exact⟨_,rfl,hd⟩
   |succ i=>simpa using ih i s (by simpa using e)
  |tmp oa _ _ _ ih=>
   intro i s e
   cases i with
   |zero=>simp at e;subst e;exact⟨_,rfl,oa⟩
   |succ i=>simpa using ih i s (by simpa using e)
  |ref _ _ _ oa _ _ ih=>
   intro i s e
   cases i with
   |zero=>simp at e;subst e;exact⟨_,rfl,oa⟩
   |succ i=>simpa using ih i s (by simpa using e)
 ·--no two slots have one address
  have fresh:=fun a ha j z=>S0.pB ha j (sub j a z)
  induction h with
  |nil=>rintro i j a ⟨⟨s,o,e,_⟩,_⟩;simp at e
  |val hd t ih=>
   rintro i j a ⟨⟨s,o,e1,e2⟩,e3⟩ ⟨⟨s',o',e1',e2'⟩,e3'⟩
   cases i with
   |zero=>simp at e1;subst e1;cases e2
   |succ i=>cases j with
    |zero=>simp at e1';subst e1';cases e2'
    |succ j=>rw[ih i j a ⟨⟨s,o,by simpa using e1,e2⟩,by simpa using e3⟩ ⟨⟨s',o',by simpa using e1',e2'⟩,by simpa using e3'⟩]
  | @tmp o b rs ps vs oa h0 nt t ih=>
   have clash:∀i,¬aK ps _ i b:=fun i z=>by
    rcases t.lent z with ⟨q,e,_⟩|⟨q,_,ow⟩
    ·exact nt q (QBq e)
    ·exact fresh b h0 q ow
   rintro i j a ⟨⟨s,o,e1,e2⟩,e3⟩ ⟨⟨s',o',e1',e2'⟩,e3'⟩
   cases i with
   |zero=>
    simp at e3
    subst e3
    cases j with
    |zero=>rfl
    |succ j=>exact absurd ⟨⟨s',o',by simpa using e1',e2'⟩,by simpa using e3'⟩ (clash j)
   |succ i=>cases j with
    |zero=>
     simp at e3'
     subst e3'
     exact absurd ⟨⟨s,o,by simpa using e1,e2⟩,by simpa using e3⟩ (clash i)
    |succ j=>rw[ih i j a ⟨⟨s,o,by simpa using e1,e2⟩,by simpa using e3⟩ ⟨⟨s',o',by simpa using e1',e2'⟩,by simpa using e3'⟩]
  | @ref o k b s0 rs ps vs z1 z2 z3 oa nr t ih=>
   have ok:aK env σ k b:=⟨⟨s0,o,z1,z2⟩,z3⟩
   have clash:∀i,¬aK ps _ i b:=fun i z=>by
    rcases t.lent z with ⟨q,e,h0⟩|⟨q,e,ow⟩
    ·exact fresh b h0 k ok
    ·have:=S.ne k q b ok ow
     subst this
     exact nr (QBq e)
   rintro i j a ⟨⟨s,o,e1,e2⟩,e3⟩ ⟨⟨s',o',e1',e2'⟩,e3'⟩
   cases i with
   |zero=>
    simp at e3
    subst e3
    cases j with
    |zero=>rfl
    |succ j=>exact absurd ⟨⟨s',o',by simpa using e1',e2'⟩,by simpa using e3'⟩ (clash j)
   |succ i=>cases j with
    |zero=>
     simp at e3'
     subst e3'
     exact absurd ⟨⟨s,o,by simpa using e1,e2⟩,by simpa using e3⟩ (clash i)
    |succ j=>rw[ih i j a ⟨⟨s,o,by simpa using e1,e2⟩,by simpa using e3⟩ ⟨⟨s',o',by simpa using e1',e2'⟩,by simpa using e3'⟩]
end
def Sl.FQ(o':Ob):Sl->Option Sl
 |.own _=>some (.own o')
 |.bor _=>some (.bor o')
 |_=>none
def JF{o':Ob}(h:dM j (fun _=>some o') env=some env'):∃s s',env[j]? =some s/\s.FQ o'=some s'/\env'=env.set j s':=by
 obtain⟨o,q,e,hh⟩:=rG h
 cases e
 rcases hh with ⟨e,rfl⟩|⟨e,rfl⟩
 ·exact⟨_,_,e,rfl,rfl⟩
 ·exact⟨_,_,e,rfl,rfl⟩
theorem pL:∀{rs:List Rv}{qs:List Sl}{env ε:Ev},giveBack rs qs env=some ε->ε.length=env.length/\∀j:Nat,
  ((∀i:Nat,rs[i]? ≠some (Rv.ref j))/\ε[j]? =env[j]?)\/∃(i:Nat)(o':Ob)(s s':Sl),rs[i]? =some (.ref j)/\qs[i]? =some (.bor o')/\env[j]? =some s/\s.FQ o'=some s'/\ε[j]? =some s'
 |[],[],env,ε,h=>by
  cases h
  exact⟨rfl,fun j=>.inl ⟨fun i=>by simp,rfl⟩⟩
 |[],_::_,env,ε,h=>by cases h
 |x::rs,[],env,ε,h=>by cases x<;>cases h
 |x::rs,q::qs,env,ε,h=>by
  have skip:giveBack rs qs env=some ε->(∀j,x≠ .ref j)->ε.length=env.length/\∀j:Nat,
    ((∀i:Nat,(x::rs)[i]? ≠some _)/\ε[j]? =env[j]?)\/∃(i:Nat)(o':Ob)(s s':Sl),(x::rs)[i]? =some _/\(q::qs)[i]? =some (.bor o')/\env[j]? =some s/\s.FQ o'=some s'/\ε[j]? =some s':=fun h nx=>by
   obtain⟨l,g⟩:=pL h
   refine⟨l,fun j=>?_⟩
   rcases g j with ⟨g1,g2⟩|⟨i,o',s,s',g1,g2,g3⟩
   ·refine .inl ⟨fun i e=>?_,g2⟩
    cases i with
    |zero=>simp at e;exact nx j e
    |succ i=>exact g1 i (by simpa using e)
   ·exact .inr ⟨i+1,o',s,s',by simpa using g1,by simpa using g2,g3⟩
  cases x with
  |val d=>exact skip h fun j z=>by cases z
  |new o=>exact skip h fun j z=>by cases z
  |tmp o=>exact skip h fun j z=>by cases z
  |ref k=>
   cases q with
   |bor o=>
    change Option.bind _ _=some ε at h
    cases e:dM k _ env with
    |none=>rw[e]at h;cases h
    |some δ=>
     rw[e]at h
     obtain⟨s0,s1,z1,z2,rfl⟩:=JF e
     have hk:=(QCq.mp z1).1
     obtain⟨l,g⟩:=pL h
     refine⟨by simpa using l,fun j=>?_⟩
     rcases g j with ⟨g1,g2⟩|⟨i,o',s,s',g1,g2,g3,g4,g5⟩
     ·by_cases hj:k=j
      ·subst hj
       rw[Qxz hk]at g2
       exact .inr ⟨0,o,s0,s1,rfl,rfl,z1,z2,g2⟩
      ·rw[Qxq hj]at g2
       refine .inl ⟨fun i e=>?_,g2⟩
       cases i with
       |zero=>simp at e;exact hj e
       |succ i=>exact g1 i (by simpa using e)
     ·by_cases hj:k=j
      ·subst hj
       rw[Qxz hk]at g3
       cases g3
       refine .inr ⟨i+1,o',s0,s',by simpa using g1,by simpa using g2,z1,?_,g5⟩
       cases s0 with
       |own q=>cases z2;exact g4
       |bor q=>cases z2;exact g4
       |un=>cases z2
       |val d=>cases z2
      ·rw[Qxq hj]at g3
       exact .inr ⟨i+1,o',s,s',by simpa using g1,by simpa using g2,g3,g4,g5⟩
   |un=>cases h
   |val d=>cases h
   |own o=>cases h
def LQ{o':Ob}(h:s.FQ o'=some s'):(∃o,isOwn s=some o)/\isOwn s'=some o':=by
 cases s with
 |own q=>cases h;exact⟨⟨q,rfl⟩,rfl⟩
 |bor q=>cases h;exact⟨⟨q,rfl⟩,rfl⟩
 |un=>cases h
 |val d=>cases h
section
def En.Wg(h:En K env σ H0 H rs ps vs):∀{i j:Nat},rs[i]? =some (.ref j)->∃o a,ps[i]? =some (.bor o)/\vs[i]? =some (.ref a)/\σ[j]? =some (some (.ref a)):=by
 induction h with
 |nil=>intro i j e;simp at e
 |val _ _ ih=>intro i j e;cases i with
  |zero=>simp at e
  |succ i=>simpa using ih (by simpa using e)
 |tmp _ _ _ _ ih=>intro i j e;cases i with
  |zero=>simp at e
  |succ i=>simpa using ih (by simpa using e)
 | @ref o k a s rs ps vs e1 e2 e3 oa nr t ih=>
  intro i j e
  cases i with
  |zero=>simp at e;subst e;exact⟨o,a,rfl,rfl,e3⟩
  |succ i=>simpa using ih (by simpa using e)
def S5(S0:Sat K env0 σ H0)(N:Nx K env0 σ H0 env H)(E:En K env σ H0 H rs ps vs)(C:Cz K ps vs H qs H2)(g:giveBack rs qs env=some ε):Nx K env0 σ H0 ε H2:=by
 have S:=N.gK
 have sub:=N.sub
 obtain⟨gl,gs⟩:=pL g
 have own2:∀j b,aK ε σ j b->aK env σ j b:=fun j b z=>by
  obtain⟨⟨s,o,e1,e2⟩,e3⟩:=z
  rcases gs j with ⟨_,g2⟩|⟨i,o',s0,s1,_,_,g3,g4,g5⟩
  ·rw[g2]at e1;exact⟨⟨s,o,e1,e2⟩,e3⟩
  ·obtain⟨⟨q,hq⟩,_⟩:=LQ g4
   exact⟨⟨s0,q,g3,hq⟩,e3⟩
 have notLent:∀j b,aK env σ j b->(∀i:Nat,rs[i]? ≠some _)->∀i,¬aK ps _ i b:=fun j b ow nr i z=>by
  rcases E.lent z with ⟨q,_,h0⟩|⟨k,e,ow'⟩
  ·exact(fun a ha j z=>S0.pB ha j (sub j a z)) b h0 j ow
  ·have:=S.ne j k b ow ow'
   subst this
   exact nr i e
 refine⟨⟨by rw[gl];exact S.len,fun j s e=>?_,fun j k b z w=>S.ne j k b (own2 j b z) (own2 k b w)⟩,fun j b z=>sub j b (own2 j b z),N.pers.trans C.pers,fun b u hb no=>C.keep b u (N.keep b u hb no) fun i z=>?_,fun b z=>N.dom b (C.dom b z),fun j xs e=>?_⟩
 ·rcases gs j with ⟨g1,g2⟩|⟨i,o',s0,s1,g1,g2,g3,g4,g5⟩
  ·rw[g2]at e
   exact(S.sl j s e).keep C.pers fun b u ho ev hb=>C.keep b u hb (notLent j b (xH e ho ev) g1)
  ·rw[g5]at e
   cases e
   obtain⟨o,a,p1,p2,p3⟩:=E.Wg g1
   obtain⟨o'',a',c1,c2,c3⟩:=C.bor i o p1
   rw[g2]at c1
   cases c1
   rw[p2]at c2
   cases c2
   cases s0 with
   |own q=>cases g4;exact⟨a,by rw[p3];rfl,c3⟩
   |bor q=>cases g4;exact⟨a,by rw[p3];rfl,c3⟩
   |un=>cases g4
   |val d=>cases g4
 ·rcases E.lent z with ⟨q,_,h0⟩|⟨k,e,ow⟩
  ·rw[h0]at hb;cases hb
  ·exact no k (sub k b ow)
 ·obtain⟨xs,e⟩:=N.bors j xs e
  rcases gs j with ⟨g1,g2⟩|⟨i,o',s0,s1,g1,g2,g3,g4,g5⟩
  ·exact⟨xs,by rw[g2];exact e⟩
  ·rw[e]at g3
   cases g3
   cases g4
   exact⟨o',g5⟩
end
section
theorem Sq(F:cD X.prog X.w X.K X.mg X.base gn k f fd ps (cG X.K ps.length (c.fn g)))(hr:dH k X.A)(hg:Gl X x)(hm:X.mg x=some (.ref f))(hk:PySem.W.keepIn X.K (.ref f)=true)(hb:Binds X.K fd ps [])
  (hd:(x==("__debug__":Str))=false)(ha:GA X W c m (e::es))(he:starEach (e::es) X.env=(false,eval e X.env)::starEach es X.env)(hpl:(backTo pos (starEach es X.env)).any (·.1)=false)(hn:∀sl,c.fn g sl=.bad\/sl.length=ps.length):
  GE X W c (.call g m) (.Call (.Name x p) (e::es) [] pos):=by
 intro env γ s σ H Q I q
 refine gQ F hr hg hm hk hb .nil iH (t:=fun ζ H' R=>ζ=σ/\H'=H/\tMs X.K W env (evs c m env) σ H R) (fun p γ s ζ H' R I'⟨e1,e2,z⟩=>by subst e1 e2;exact ha env p γ s _ _ R I' z) hd he hpl γ s σ H Q I ⟨rfl,rfl,?_⟩
 simp only[Qh]at q
 obtain⟨S,q⟩:=q
 refine⟨S,?_⟩
 cases r:evs c m env with
 |bad=>rw[r]at q;exact q
 |exc j δ=>rw[r]at q;exact q
 |ok rs δ=>
  rw[r]at q
  simp only[Out.bind,ux]at q
  intro vs H1 N rv
  rw[List.append_nil]
  cases e1:enter rs δ with
  |none=>rw[e1]at q;exact q.elim
  |some sl=>
   rw[e1]at q
   simp only at q
   have E:=lu N.gK e1 rv
   refine⟨sl,?_,E.gK S N.gK N.sub,E.noOwn,?_⟩
   ·rcases hn sl with z|z
    ·rw[z]at q;exact q.elim
    ·rw[<-E.len.1,z]
   ·cases e2:c.fn g sl with
    |bad=>rw[e2]at q;exact q.elim
    |ok rv qs=>
     rw[e2]at q
     simp only at q
     intro v H2 C z
     cases e3:giveBack rs qs δ with
     |none=>rw[e3]at q;exact q.elim
     |some ε=>
      rw[e3]at q
      refine q v H2 (S5 S N E C e3) ?_
      cases rv with
      |val d=>exact z
      |new o=>obtain⟨a,z1,z2,z3⟩:=z;exact⟨a,z1,z2,N.dom a z3⟩
      |ref i=>exact z.elim
      |tmp o=>exact z.elim
    |exc j qs=>rw[e2]at q;exact q.elim
end
def Hn c g sl:il c g sl=.bad\/sl.length=g.pars:=by
 unfold il
 split
 ·exact .inr (by assumption)
 ·exact .inl rfl
end Mini
end
section
namespace Mini
open PySem L2 PyProof.Rows
structure Am(z TI TO i1 i2:Addr)(b1 b2:Bool)(l1 l2:Addr)(k:Nat)(h:Heap):Prop where
 zr:∃f0 f1,jT h z TI TO f0 f1/\F0 f0
 ti:IsPair h TI (.ref i1) (.ref i2)
 to:∃a b,IsPair h TO a b
 it1:uG b1 h i1 l1 k
 it2:uG b2 h i2 l2 k
section
variable{E:QZq}
def wI{b1 b2:Bool}{xs ys:Array Value}(hl1:yH b1 s.heap l1 xs)(hl2:yH b2 s.heap l2 ys)
  (h:∀h',Am (s.heap.objs.size+4) (s.heap.objs.size+2) (s.heap.objs.size+3) s.heap.objs.size (s.heap.objs.size+1) b1 b2 l1 l2 0 h'->h'.objs.size=s.heap.objs.size+5->
   (∀c o,s.heap.get? c=some o->h'.get? c=some o)->Q (.ref (s.heap.objs.size+4)) {s with heap:=h'}):
  wpAny (model prog w) A (call (.type "zip") [.ref l1,.ref l2]) Q E s:=by
 refine callType_new PySem.F.called_zip (by decide) (PySem.F.typeCall_zip_2 _ _) (PySem.F.newCall_zip_2 _ _) (fun obj=>PySem.F.args_object_init_3 obj _ _) PySem.F.entry_zip_new
  (Jv b1 b2 l1 l2 xs ys) ⟨hl1,hl2,?_⟩
 have z1:(zH1 b1 s.heap l1).objs.size=s.heap.objs.size+1:=Heap.size_push ..
 have z2:(zH2 b1 b2 s.heap l1 l2).objs.size=s.heap.objs.size+2:=by rw[Heap.size_push,z1]
 have z3:(zH3 b1 b2 s.heap l1 l2).objs.size=s.heap.objs.size+3:=by rw[Heap.size_push,z2]
 have z4:(zH4 b1 b2 s.heap l1 l2).objs.size=s.heap.objs.size+4:=by rw[Heap.size_push,z3]
 have g5:(YQ b1 b2 s.heap l1 l2).get? (zH4 b1 b2 s.heap l1 l2).objs.size=some _:=Qqz _ rfl
 have g4:(YQ b1 b2 s.heap l1 l2).get? (zH3 b1 b2 s.heap l1 l2).objs.size=some _:=QWq _ (Qqz _ rfl)
 have g3:(YQ b1 b2 s.heap l1 l2).get? (zH2 b1 b2 s.heap l1 l2).objs.size=some _:=QWq _ (QWq _ (Qqz _ rfl))
 have g2:(YQ b1 b2 s.heap l1 l2).get? (zH1 b1 s.heap l1).objs.size=some _:=QWq _ (QWq _ (QWq _ (Qqz _ rfl)))
 rw[z2,z3,z4]at g5
 rw[z1,z2]at g3
 rw[z3]at g4
 rw[z1]at g2
 rw[z4]
 have i1:uG b1 (YQ b1 b2 s.heap l1 l2) s.heap.objs.size l1 0:=by cases b1<;>exact⟨_,(QWq _ (QWq _ (QWq _ (QWq _ (Qqz _ rfl))))),rfl,rfl⟩
 exact⟨⟨_,g5,rfl⟩,h _ ⟨⟨_,_,g5,.inl rfl⟩,g3,⟨_,_,g4⟩,i1,(by cases b2<;>exact⟨_,g2,rfl,rfl⟩)⟩ (by rw[Heap.size_push,z4]) fun c o x=>
  QWq _ (QWq _ (QWq _ (QWq _ (QWq _ x))))⟩
end
def u0(h1:l1<n)(h2:l2<n):ZipApart (n+4) (n+2) (n+3) n (n+1) l1 l2:=zipApart_new h1 h2
def Inv.nP{X:Cx}{σ:L2.St}{H:Hp}{h':Heap}{ch:List Addr}(I:Inv X γ σ H s)(k:∀b o,b∉ch->s.heap.get? b=some o->h'.get? b=some o)(hf:∀b∈ch,eE X γ H b):
  Inv X γ σ H {s with heap:=h',toks:=t'}:=by
 have nit:∀b u,H b=some u->b∉ch:=fun b u e z=>by rw[(hf b z).1]at e;cases e
 refine I.step (fun b hb=>⟨(hf b hb).2.2.2.1,(hf b hb).2.1,(hf b hb).2.2.2.2.1,(hf b hb).2.2.2.2.2⟩) (fun b o _ _ hc e _=>k b o hc e) (fun b o _ _ hc e _=>⟨o.slots,k b o hc e⟩) (fun _ _ _ _ n=>n)
  (fun b o hc e=>⟨o,k b o hc e⟩) (fun _ _ e=>e) (fun _ _ _ e=>e) (fun b ps e=>⟨#[],by rw[e];simp⟩) (fun m hm=>?_) (fun b u e=>?_) I.bare
 ·obtain⟨o,es,ep,ho,r⟩:=hm
  exact⟨o,es,ep,k _ o (fun z=>(hf _ z).2.1 rfl) ho,r⟩
 ·refine(I.hok b u e).stay (fun c v hc q=>k c v ?_ q) (fun _ q=>q) fun _ _ q=>q
  rcases hc with z|z
  ·rw[z];exact nit b u e
  ·exact nit c _ z
def Inv.Hc{X:Cx}{σ:L2.St}{H:Hp}{h':Heap}{ch:List Addr}{a:Addr}(I:Inv X γ σ H s)(k:∀b o,b∉ch->s.heap.get? b=some o->h'.get? b=some o)(hf:∀b∈ch,eE X γ H b)
  (ha:s.heap.objs.size<=a)(new:dg X.prog X.w (upd H a u) h' a u):Inv X γ σ (upd H a u) {s with heap:=h',toks:=t'}:=by
 have nit:∀b u,H b=some u->b∉ch:=fun b u e z=>by rw[(hf b z).1]at e;cases e
 have ne:∀b w,H b=some w->b≠a:=fun b w e z=>by subst z;rw[I.hok.fresh ha]at e;cases e
 refine I.step (fun b hb=>⟨(hf b hb).2.2.2.1,(hf b hb).2.1,(hf b hb).2.2.2.2.1,(hf b hb).2.2.2.2.2⟩) (fun b o _ _ hc e _=>k b o hc e) (fun b o _ _ hc e _=>⟨o.slots,k b o hc e⟩)
  (fun b o _ e n=>by rw[au (Qvq (Qwz (Qqq e) ha))];exact n)
  (fun b o hc e=>⟨o,k b o hc e⟩) (fun b xs e=>by rw[au (ne b _ e)];exact e) (fun b o w e=>by rw[au (ne b _ e)];exact e) (fun b ps e=>⟨#[],by rw[au (ne b _ e),e];simp⟩) (fun m hm=>?_) (fun b w e=>?_) I.bare
 ·obtain⟨o,es,ep,ho,r⟩:=hm
  exact⟨o,es,ep,k _ o (fun z=>(hf _ z).2.1 rfl) ho,r⟩
 ·by_cases hb:b=a
  ·subst hb
   rw[aB]at e
   cases e
   exact new
  ·rw[au hb]at e
   refine(I.hok b w e).stay (fun c v hc q=>k c v ?_ q) (fun c q=>by rw[au (ne c _ q)];exact q) fun c xs q=>by rw[au (ne c _ q)];exact q
   rcases hc with z|z
   ·rw[z];exact nit b w e
   ·exact nit c _ z
def O5(K:QQq)(b:Bool)(H:Hp)(l:Addr)(vs:List V):Prop:=match b with|true=>Pa K H l vs|false=>j5 K H l vs
def bR.w6{K:QQq}{b:Bool}{l:Addr}(p:bR H H')(h:O5 K b H l vs):O5 K b H' l vs:=by
 cases b with
 |true=>exact p.U5 h
 |false=>exact p.Wa h
def Inv.w6{X:Cx}{σ:L2.St}{H:Hp}{b:Bool}{l:Addr}(I:Inv X γ σ H s)(h:O5 X.K b H l vs):∃its:List Value,Vals vs its/\yH b s.heap l its.toArray/\vs.length<=sizeLine/\l<s.heap.objs.size:=by
 cases b with
 |true=>
  obtain⟨its,r,p,z⟩:=I.list (Pa.sq h)
  obtain⟨o,e,_⟩:=p.isList
  exact⟨its,r,p.isList,z,Qqq e⟩
 |false=>
  obtain⟨its,r,p,z⟩:=I.tuple h
  obtain⟨o,e,_⟩:=id p
  exact⟨its,r,p,z,Qqq e⟩
noncomputable def Itz(K:QQq)(b1 b2:Bool)(l1 l2:Addr)(vs ws:List V):It:=
 ⟨fun i H=>O5 K b1 H l1 vs/\O5 K b2 H l2 ws/\∃v u,vs[i]? =some v/\ws[i]? =some u,
  fun i H x H'=>∃p v u,H p=none/\x=.ref p/\vs[i]? =some v/\ws[i]? =some u/\H'=upd H p (.tup [v,u]),
  fun i H=>O5 K b1 H l1 vs/\O5 K b2 H l2 ws/\(vs.length<=i\/ws.length<=i)⟩
theorem j7{w:World}{K:QQq}{z TI TO i1 i2 l1 l2:Addr}{b1 b2:Bool}(D:ZipApart z TI TO i1 i2 l1 l2):
  Turn P w K tg (Itz K b1 b2 l1 l2 vs ws) [z,TI,TO,i1,i2] z (fun i h=>Am z TI TO i1 i2 b1 b2 l1 l2 i h) where
 mem:=by simp
 obj:=fun i h st b hb=>by
  obtain⟨f0,f1,zr,_⟩:=st.zr
  obtain⟨x,y,to⟩:=st.to
  simp only[QBz,QAq,or_false]at hb
  rcases hb with rfl|rfl|rfl|rfl|rfl
  ·exact⟨_,zr,fun v z=>by cases z⟩
  ·exact⟨_,st.ti,fun v z=>by cases z⟩
  ·exact⟨_,to,fun v z=>by cases z⟩
  ·exact st.it1.obj
  ·exact st.it2.obj
 keep:=fun i h h' st k=>by
  obtain⟨f0,f1,zr,hf⟩:=st.zr
  obtain⟨x,y,to⟩:=st.to
  exact⟨⟨f0,f1,k z (by simp) _ zr,hf⟩,k TI (by simp) _ st.ti,⟨x,y,k TO (by simp) _ to⟩,st.it1.at fun o e=>k i1 (by simp) o e,st.it2.at fun o e=>k i2 (by simp) o e⟩
 item:=by
  intro X hP hw hK hc i γ s σ H E I hf st hg
  subst hP hw hK
  obtain⟨hq1,hq2,v,u,ev,eu⟩:=hg
  obtain⟨its,r1,p1,_,_⟩:=Inv.w6 I hq1
  obtain⟨its2,r2,p2,_,_⟩:=Inv.w6 I hq2
  obtain⟨x,ex,rx⟩:=r1.get ev
  obtain⟨y,ey,ry⟩:=r2.get eu
  obtain⟨f0,f1,zr,h0⟩:=st.zr
  obtain⟨a,b,to⟩:=st.to
  refine qI D zr h0 st.ti to st.it1 st.it2 p1 p2 (by simpa using ex) (by simpa using ey) fun h' T=>?_
  obtain⟨g0,g1,zr',h0'⟩:=T.zr
  refine⟨_,rfl,Ig zr' h0' fun h'' q0 zr'' hq0 sb=>?_⟩
  have f1':∀b∈[z,TO,i1,i2],eE X γ H b:=fun b hb=>hf b (by
   simp only[QBz,QAq,or_false]at hb⊢
   rcases hb with h|h|h|h<;>simp[h])
  have kk:∀b o,b∉[z,TO,i1,i2]->s.heap.get? b=some o->h''.get? b=some o:=fun b o hb e=>by
   simp only[QBz,QAq,or_false,not_or]at hb
   exact sb.extBut _ _ hb.1 (T.keep b o hb.1 hb.2.1 hb.2.2.1 hb.2.2.2 e)
  have new'':=sb.extBut _ _ (by
   obtain⟨q,e,_⟩:∃q,s.heap.get? z=some q/\True:=⟨_,zr,trivial⟩
   exact Nat.ne_of_gt (Qqq e)) T.new
  have I1:Inv X γ σ (upd H s.heap.objs.size (.tup [v,u])) {s with heap:=h''}:=by
   refine Inv.Hc I kk f1' (QVz _) ⟨by show 2<=sizeLine;rw[sizeLine_eq];decide,[x,y],.cons rx (.cons ry .nil),_,new'',rfl,rfl,_,rfl⟩
  refine⟨.ref s.heap.objs.size,upd H s.heap.objs.size _,I1,rfl,⟨_,v,u,I.hok.fresh (QVz _),rfl,ev,eu,rfl⟩,?_,fun b hb=>?_⟩
  ·have up:∀c o,c≠z->h'.get? c=some o->h''.get? c=some o:=fun c o hcz e=>sb.extBut _ _ hcz e
   obtain⟨a',b',to'⟩:=T.to
   exact⟨⟨q0,g1,zr'',hq0⟩,up _ _ D.TIz T.ti,⟨a',b',up _ _ D.TOz to'⟩,T.it1.at fun o e=>up _ o D.i1z e,T.it2.at fun o e=>up _ o D.i2z e⟩
  ·have lt:b<s.heap.objs.size:=by
    simp only[QBz,QAq,or_false]at hb
    rcases hb with rfl|rfl|rfl|rfl|rfl
    ·exact Qqq zr
    ·exact Qqq st.ti
    ·exact Qqq to
    ·exact st.it1.lt
    ·exact st.it2.lt
   rw[au (Qvq lt)]
   exact(hf b hb).1
 done:=by
  intro X hP hw hK hc i γ s σ H E I hf st hg
  subst hP hw hK
  obtain⟨hq1,hq2,hend⟩:=hg
  obtain⟨its,r1,p1,_,_⟩:=Inv.w6 I hq1
  obtain⟨its2,r2,p2,_,_⟩:=Inv.w6 I hq2
  have l1:=r1.length
  have l2:=r2.length
  obtain⟨f0,f1,zr,h0⟩:=st.zr
  obtain⟨a,b,to⟩:=st.to
  refine sS (I.ok.hd hc) D zr h0 st.ti to st.it1 st.it2 p1 p2 ?_ fun h' kk=>⟨rfl,?_⟩
  ·rcases hend with h|h
   ·exact .inl (by simp;omega)
   ·exact .inr (by simp;omega)
  ·refine Inv.nP (ch:=[z,TO,i1,i2]) I (fun b o hb e=>?_) fun b hb=>hf b (by
    simp only[QBz,QAq,or_false]at hb⊢
    rcases hb with h|h|h|h<;>simp[h])
   simp only[QBz,QAq,or_false,not_or]at hb
   exact kk b o hb.1 hb.2.1 hb.2.2.1 hb.2.2.2 e
 self:=fun A i s Q E st h=>by
  obtain⟨f0,f1,zr,h0⟩:=st.zr
  exact jy zr h
end Mini
end
section
namespace Mini
open PySem L2
theorem rE:∀{xs ys:List D}{i:Nat}{d:D},(aR xs ys)[i]? =some d->∃x y,xs[i]? =some x/\ys[i]? =some y/\d=.tup [x,y]
 |[],_,i,d,h=>by simp[aR]at h
 |_::_,[],i,d,h=>by simp[aR]at h
 |x::xs,y::ys,0,d,h=>by simp[aR]at h;exact⟨x,y,rfl,rfl,h.symm⟩
 |x::xs,y::ys,i+1,d,h=>by
  rw[aR,List.getElem?_cons_succ]at h
  simpa using rE h
theorem rD:∀(xs ys:List D),(aR xs ys).length=min xs.length ys.length
 |[],ys=>by simp[aR]
 |_::_,[]=>by simp[aR]
 |x::xs,y::ys=>by rw[aR,QAz,rD xs ys,QAz,QAz];omega
theorem wy{H:Hp}{b1 b2:Bool}{vs ws:List V}(h1:O5 K b1 H l1 vs)(h2:O5 K b2 H l2 ws)(d1:ao K H xs vs)(d2:ao K H ys ws)(hz:vs.length<=sizeLine):
  Gives K (Itz K b1 b2 l1 l2 vs ws) (aR xs ys) H where
 go:=fun H1 p i d e=>by
  obtain⟨x,y,ex,ey,_⟩:=rE e
  obtain⟨v,ev,_⟩:=d1.get ex
  obtain⟨u,eu,_⟩:=d2.get ey
  exact⟨p.w6 h1,p.w6 h2,v,u,ev,eu⟩
 yld:=fun H1 p i d e x H2 y=>by
  obtain⟨a,v,u,hn,rfl,ev,eu,rfl⟩:=y
  obtain⟨dx,dy,ex,ey,rfl⟩:=rE e
  obtain⟨v',ev',dv⟩:=d1.get ex
  obtain⟨u',eu',du⟩:=d2.get ey
  rw[ev]at ev'
  rw[eu]at eu'
  cases ev'
  cases eu'
  have pp:bR H1 (upd H1 a (.tup [v,u])):=by
   refine⟨fun b xs q=>?_,fun b o w q=>?_⟩
   ·rw[au (fun z=>by subst z;rw[hn]at q;cases q)];exact q
   ·rw[au (fun z=>by subst z;rw[hn]at q;cases q)];exact q
  exact⟨fD (.inl (.inl aB)) (ao.bA ((dv.mono p).mono pp) (ao.bA ((du.mono p).mono pp) ao.eX)),.inr ⟨a,_,hn,rfl⟩⟩
 stop:=fun H1 p i hi=>by
  rw[rD]at hi
  have:=d1.length
  have:=d2.length
  exact⟨p.w6 h1,p.w6 h2,by omega⟩
 len:=by rw[rD];have:=d1.length;omega
def bj.w6{H:Hp}{xs:List D}(h:bj K H d v)(e:bJ d=some xs):∃b l vs,v=.ref l/\O5 K b H l vs/\ao K H xs vs:=by
 cases d with
 |tup ys=>cases e;obtain⟨a,vs,rfl,hq,l⟩:=cX h;exact⟨false,a,vs,rfl,hq,l⟩
 |lst ys=>cases e;obtain⟨a,vs,rfl,hq,l⟩:=dX h;exact⟨true,a,vs,rfl,hq,l⟩
 |_=>cases e
section
def aan{H1:Hp}(h:tI K W env r σ H R)(N:Nx K env σ H δ H1):tI K W δ r σ H1 R:=by
 obtain⟨_,h⟩:=h
 refine⟨N.gK,?_⟩
 cases r with
 |bad=>exact h
 |exc c ε=>exact fun H' N'=>h H' (N.trans N')
 |ok x ε=>
  obtain⟨d,xs,e1,e2,z⟩:=h
  exact⟨d,xs,e1,e2,fun J H' N' G=>z J H' (N.trans N') G⟩
theorem yW{f:D->Ev->Out Rv}(h:tI K W env (r.ak f) σ H R)
  (k:∀d δ v H1,Nx K env σ H δ H1->bj K H1 d v->tI K W δ (f d δ) σ H1 R->R' v H1):tD K W env r σ H R':=by
 have step:∀d δ,r.ak f=f d δ->∀v H1,Nx K env σ H δ H1->bj K H1 d v->R' v H1:=fun d δ e v H1 N D=>by
  rw[e]at h
  exact k d δ v H1 N D (aan h N)
 obtain⟨S,h⟩:=h
 refine⟨S,?_⟩
 cases r with
 |bad=>exact h
 |exc c δ=>exact h
 |ok x δ=>
  cases x with
  |val d=>exact fun v H1 N D=>step d δ rfl v H1 N D
  |new xs=>exact fun v H1 N D=>step xs.d δ rfl v H1 N D
  |ref i=>exact h
  |tmp xs=>exact h
end
section
theorem XQ(ha:GE X W c m1 a)(hb:GE X W c m2 b)(hg:Gl X "zip")(hm:X.mg "zip"=none)(hs:starEach [a,b] X.env=[(false,eval a X.env),(false,eval b X.env)])(hs2:starEach [b] X.env=[(false,eval b X.env)]):
  GI X W c (.zip m1 m2) tg (.Call (.Name "zip" p) [a,b] [] pos):=by
 intro env γ s σ H R I q
 let RR:List V->Hp->Prop:=fun vs H'=>∃ε d1 d2 xs ys v1 v2,vs=[v1,v2]/\bj X.K H' d1 v1/\bj X.K H' d2 v2/\bJ d1=some xs/\bJ d2=some ys/\Sat X.K ε σ H'/\∀J H2,Nx X.K ε σ H' ε H2->Gives X.K J (aR xs ys) H2->R J H2
 have go:aD X W c m1 σ H fun v1 H1=>aD X W c m2 σ H1 fun v2 H2=>RR [v1,v2] H2:=by
  refine⟨env,yW q fun d1 δ v1 H1 N1 D1 q1=>⟨δ,yW q1 fun d2 ε v2 H2 N2 D2 q2=>?_⟩⟩
  cases e1:bJ d1 with
  |none=>rw[e1]at q2;exact q2.2.elim
  |some xs=>
   cases e2:bJ d2 with
   |none=>rw[e1,e2]at q2;exact q2.2.elim
   |some ys=>
    rw[e1,e2]at q2
    obtain⟨S,d,zs,z1,z2,z3⟩:=q2
    cases z1
    cases z2
    exact⟨ε,d1,d2,xs,ys,v1,v2,rfl,D1.mono N2.pers,D2,e1,e2,S,z3⟩
 refine wpAny_Call_Name_kw (jC I hg hm PyProof.Rows.boot_zip ?_ (by decide) (by decide))
 refine PyProof.Rows.callWith_type1 (cj (aC ha.d (aC hb.d bM hs2) (by rw[hs,hs2]) pos γ s σ H RR I go) fun us s1⟨vs,H1,I1,r1,q1⟩=>?_) (by rw[hs,hs2]) (by rw[hs2];rfl)
 obtain⟨ε,d1,d2,xs,ys,v1,v2,rfl,D1,D2,e1,e2,S2,q3⟩:=q1
 obtain⟨b1,l1,vs,rfl,h1,dl1⟩:=D1.w6 e1
 obtain⟨b2,l2,ws,rfl,h2,dl2⟩:=D2.w6 e2
 obtain⟨u1,u2,rfl,ru1,ru2⟩:=Vals.two r1
 cases ru1
 cases ru2
 obtain⟨its,rr1,p1,z1,lt1⟩:=Inv.w6 I1 h1
 obtain⟨its2,rr2,p2,z2,lt2⟩:=Inv.w6 I1 h2
 refine wI p1 p2 fun h' st sz kk=>?_
 obtain⟨f0,f1,zr,h0⟩:=st.zr
 refine jy zr ?_
 refine⟨s1.heap.objs.size+4,[s1.heap.objs.size+4,s1.heap.objs.size+2,s1.heap.objs.size+3,s1.heap.objs.size,s1.heap.objs.size+1],_,_,H1,rfl,I1.kept kk,j7 (u0 lt1 lt2),st,fun b hb=>?_,q3 _ H1 (Nx.refl S2) (wy h1 h2 dl1 dl2 z1)⟩
 have hb':s1.heap.objs.size<=b:=by
  simp only[QBz,QAq,or_false]at hb
  rcases hb with rfl|rfl|rfl|rfl|rfl<;>omega
 exact I1.uW hb' (I1.hok.fresh hb')
end
def Nx.chg{env:Ev}{H0 H:Hp}{u u':HO}(N:Nx K env σ H0 env H)(S:Sat K env σ H0)(h0:H0 d=none)(h:H d=some u)(hu:Pn u):Nx K env σ H0 env (upd H d u'):=by
 have p:=oh (u':=u') h hu
 refine⟨N.gK.keep p fun i b w ow hb=>?_,N.sub,N.pers.trans p,fun b w q n=>?_,fun b q=>?_,N.bors⟩
 ·rw[au (fun z=>by subst z;exact S.pB h0 i (N.sub i b ow))];exact hb
 ·rw[au (fun z=>by subst z;rw[h0]at q;cases q)];exact N.keep b w q n
 ·refine N.dom b ?_
  by_cases hb:b=d
  ·subst hb;rw[aB]at q;cases q
  ·rw[au hb]at q;exact q
def Od:Pn (.dK kvs):=by
 constructor
 all_goals (intros;intro z;cases z)
def GC:Pn (.lst vs):=by
 constructor
 all_goals (intros;intro z;cases z)
def Cx.under(X:Cx)(A:Around):Cx:={X with A:=A}
theorem Inv.under{A:Around}{σ:St}{H:Hp}(I:Inv X γ σ H s)(h1:A.handled=X.A.handled)(h2:A.frames=X.A.frames):Inv (Cx.under X A) γ σ H s:=
 ⟨⟨I.ok.mod,I.ok.kind,I.ok.glob,I.ok.blt,I.ok.above,I.ok.inj,I.ok.has,I.ok.cab,fun hc=>h1.trans (I.ok.hd hc),h2.trans I.ok.frames,I.ok.stk,I.ok.exf,I.ok.bs,I.ok.bsz,I.ok.noex,I.ok.exfs,I.ok.mJ,I.ok.frf⟩,
  I.os,I.bare,I.base,I.loc,I.cell,I.free,I.freeC,I.pin,I.hok,I.len⟩
def Inv.back{A:Around}{σ:St}{H:Hp}(I:Inv (Cx.under X A) γ σ H s)(h1:X.A.handled=A.handled)(h2:X.A.frames=A.frames):Inv X γ σ H s:=
 Inv.under (X:=Cx.under X A) I h1 h2
def q8{M:Model}{β:Type}{p:Pos}{m:Sem β}{Q:β->Shared->Prop}{E:QZq}
  (h:wpAny M A (letOwnedTupleGo (.Name x p) it u) (fun _ s=>wpAny M A m Q E s) E s):wpAny M A m Q E s:=by
 have:=QTz h
 exact this
def jX:entryFor table "dict.update.loop"=some Builtin.«dict.update.loop»:=entryFor_of_tree (by kernel_rfl)
def fH:plainId "dict.update.loop"=true:=by decide+kernel
def Ae{d:D}(h:dictOf ks vs (d::r)=some p):∃k v,d=.tup [k,v]/\keyOk k=true/\dictOf (putD k v ks vs).1 (putD k v ks vs).2 r=some p:=by
 unfold dictOf at h
 split at h
 ·rename_i e;cases e
 ·rename_i k v r' e
  cases e
  split at h
  ·rename_i hk
   exact⟨k,v,rfl,hk,h⟩
  ·cases h
 ·cases h
def Gq{xs:List D}(h:i<xs.length):∃d,xs[i]? =some d/\xs.drop i=d::xs.drop (i+1):=⟨xs[i],QXq h,List.drop_eq_getElem_cons h⟩
section
theorem Jc(hA:X.A=A.in1)(hc:X.calm=true)(T:Turn X.prog X.w X.K (.Name x p) J fp it tn)(G:Gives X.K J xs H1)(S:Sat X.K env τ H0)(h0:H0 d=none)
  (fin:∀s H,Inv X γ σ H s->Nx X.K env τ H0 env H->jo X.K H (.dct ks' vs') d->R (.ok (.ret .none)) s):
  ∀(n i:Nat)(s:Shared)(H:Hp)(kvs:List (Key×V))(vs:List D),xs.length-i=n->Inv X γ σ H s->(∀b∈fp,eE X γ H b)->tn i s.heap->bR H1 H->Nx X.K env τ H0 env H->H d=some (.dK kvs)->
   ao X.K H vs (kvs.map (·.2))->dictOf (kvs.map fun q=>dB q.1) vs (xs.drop i)=some (ks',vs')->kvs.length<=i->i<=xs.length->
   codeAny (model X.prog X.w) A (.builtin "dict.update.loop" ⟨[.ref d,.ref it,rawInt ((i:Nat):Int),.none],[]⟩) R s:=by
 intro n
 induction n with
 |zero=>
  intro i s H kvs vs hn I hf st P N hd dl ho hk hi
  refine codeAny_builtin jX ?_
  rw[Around.under_plainId fH _,<-hA]
  refine QTz (QKz (T.done X rfl rfl rfl hc i γ s σ H _ I hf st (G.stop H P i (by omega))) (fun r s1 h=>?_) fun _ _ h=>h)
  obtain⟨rfl,I1⟩:=h
  rw[List.drop_eq_nil_of_le (by omega)]at ho
  cases ho
  exact QTz (QKq (QKq (fin s1 H I1 N ⟨_,hd,kvs,rfl,rfl,dl⟩)))
 |succ n ih=>
  intro i s H kvs vs hn I hf st P N hd dl ho hk hi
  have hlt:i<xs.length:=by omega
  obtain⟨dd,ed,edr⟩:=Gq hlt
  rw[edr]at ho
  obtain⟨k,v,rfl,hkk,ho'⟩:=Ae ho
  refine codeAny_builtin jX ?_
  rw[Around.under_plainId fH _,<-hA]
  refine QTz (QKz (T.item X rfl rfl rfl hc i γ s σ H _ I hf st (G.go H P i _ ed)) (fun r s1 h=>?_) fun _ _ h=>h)
  obtain⟨u,rfl,h⟩:=h
  refine q8 (QKz h (fun _ s2 h2=>?_) fun _ _ h=>h)
  obtain⟨y,H',I',ry,yl,st',nf⟩:=h2
  obtain⟨Dy,hH⟩:=G.yld H P i _ ed y H' yl
  obtain⟨a,ws,rfl,hq,l⟩:=cX Dy
  cases ry
  obtain⟨vk,r1,rfl,Dk,l⟩:=ao.aZ.mp l
  obtain⟨vv,r2,rfl,Dv,l⟩:=ao.aZ.mp l
  have:=ao.bQ.mp l
  subst this
  obtain⟨kk,rfl⟩:=gW hkk
  have ek:=mq Dk
  subst ek
  obtain⟨its,rr,pt,_⟩:=I'.tuple hq
  obtain⟨uk,uv,rfl,rk,rv⟩:=Vals.two rr
  obtain⟨o,eo,ec,nn,edt⟩:=pt
  have N':Nx X.K env τ H0 env H'/\bR H H'/\H' d=some (.dK kvs):=by
   rcases hH with rfl|⟨q,ws,hq0,rfl⟩
   ·exact⟨N,bR.refl _,hd⟩
   ·have NL:=Nx.laid (o:=.tup ws) N.gK hq0
    exact⟨N.trans NL,NL.pers,by rw[au (fun z=>by subst z;rw[hq0]at hd;cases hd)];exact hd⟩
  obtain⟨N',PP,hd'⟩:=N'
  refine QTz (QGz ?_)
  refine QTz (wpAny_tryCatch ?_)
  refine QTz (wpAny_typeOf ⟨o,eo,ec⟩ ?_)
  refine QTz (wpAny_seqItems eo edt (QKq ?_))
  refine QGz ?_
  obtain⟨z,hds,vvs,rel,dd⟩:=NK I'.hok hd'
  have hz:vvs.length<=sizeLine:=by rw[<-rel.length];exact z
  have hG:=G.len
  have hl:(putK kvs kk vv).length<=i+1:=by have:=kY kvs kk vv;omega
  refine wpAny_dictSet_pairs (qu rk) dd fun h' dd' hs=>?_
  have he:∃q,h'.get? d=some q:=let ⟨q,_,_,hq,_⟩:=dd';⟨q,hq⟩
  have p2:=oh (u':=.dK (putK kvs kk vv)) hd' Od
  obtain⟨g1,g2⟩:=Fb Dv (dl.mono PP)
  refine QKq ⟨plainId_quiet fH _,?_⟩
  refine ih (i+1) _ _ _ _ (by omega) (rn I' (by rw[hd'];exact True.intro) hs he (De (by omega) hds (rel.put kk rv) dd')) (fun b hb=>?_) (T.keep _ _ _ st' fun b hb o e=>?_) ((P.trans PP).trans p2) (Nx.chg (u':=.dK (putK kvs kk vv)) N' S h0 hd' Od) aB (g2.mono p2) ?_ hl (by omega)
  ·exact⟨by rw[au (fun e=>by subst e;rw[nf b hb]at hd';cases hd')];exact nf b hb,(hf b hb).2⟩
  ·exact(hs.2 b (fun e=>by subst e;rw[nf b hb]at hd';cases hd')).trans e
  ·rw[<-g1];exact ho'
end
section
variable{E:QZq}
def uw(hc:X.calm=true)(I:Inv X γ σ H s)(S:Sat X.K env τ H)(ho:s.heap.get? o=some ob)(hcl:ob.cls=.type T)(hT:(T !="dict")=true)(hd:dictOf [] [] xs=some pr)
  (hkey:∀(s1:Shared)(E:QZq)(Q:Option Value->Shared->Prop),s1.heap.get? o=some ob->(∀h' tk,(∀b u,s1.heap.get? b=some u->h'.get? b=some u)->Q none {s1 with heap:=h',toks:=tk})->
   wpAny (model X.prog X.w) X.A.in1.in1 (getAttr? (.ref o) "keys") Q E s1)
  (hit:∀(s1:Shared)(u:HO)(E:QZq)(Q:QZq),Inv (Cx.under X X.A.in1.in1) γ σ (upd H s.heap.objs.size u) s1->Nx X.K env τ H env (upd H s.heap.objs.size u)->(∀b u,s.heap.get? b=some u->s1.heap.get? b=some u)->
   (∀s2 it fp tn J,Inv (Cx.under X X.A.in1.in1) γ σ (upd H s.heap.objs.size u) s2->Turn X.prog X.w X.K (.Name x p) J fp it tn->tn 0 s2.heap->(∀b∈fp,eE X γ (upd H s.heap.objs.size u) b)->Gives X.K J xs (upd H s.heap.objs.size u)->Q (.ref it) s2)->
   wpAny (model X.prog X.w) X.A.in1.in1 (pyIter (.ref o)) Q E s1)
  (h:∀a s' H',Inv X γ σ H' s'->Nx X.K env τ H env H'->jo X.K H' (.dct pr.1 pr.2) a->H a=none->Q (.ref a) s'):
  wpAny (model X.prog X.w) X.A (call (.type "dict") [.ref o]) Q E s:=by
 refine callType_codes (Q₁:=fun obj θ=>obj=.ref s.heap.objs.size/\θ={s with heap:=s.heap.push {cls:=.type "dict",data:=.dict #[]}}) PySem.F.kt_called_dict (PySem.F.kt_typeCall_dict_1 _) PySem.F.entry_dict_init (kt_code_dict_new _ ⟨rfl,rfl⟩) ?_
 rintro obj θ ⟨rfl,rfl⟩
 have hnew:(s.heap.push {cls:=.type "dict",data:=.dict #[]}).DictOf (cA X.prog X.w) s.heap.objs.size []:=Heap.DictOf.new s.heap
 have k1:∀b u,s.heap.get? b=some u->(s.heap.push {cls:=.type "dict",data:=.dict #[]}).get? b=some u:=fun _ _ q=>QWq _ q
 have hfr:=I.hok.fresh (QVz _)
 have N1:=Nx.laid (o:=.dK []) S hfr
 refine⟨hnew.typeIs,PySem.F.args_dict_init_2 _ _,?_⟩
 refine QTz ?_
 refine QTz (wpAny_notOrdered_dict hnew.typeIs ?_)
 refine QKq ?_
 show wpAny _ _ _ _ _ _
 refine QTz (wpAny_typeOf ⟨ob,k1 o ob ho,hcl⟩ ?_)
 have ht:((Value.type T) !=(Value.type "dict"))=true:=by
  have:T≠"dict":=by simpa using hT
  simpa using this
 rw[if_pos ht]
 refine QTz (hkey _ _ _ (k1 o ob ho) fun h2 tk k2=>?_)
 refine QTz (wpAny_rule ?_)
 refine QTz (hit _ _ _ _ (Inv.under ((I.laid (t':=s.toks) k1 (QVz _) (Ac s.heap I.big)).kept (t':=tk) k2) rfl rfl) N1 (fun b u q=>k2 b u (k1 b u q)) fun s3 it fp tn J I3 Tn st hf G=>?_)
 exact QTz (QKq (QKq ⟨plainId_quiet fH _,Jc (X:=Cx.under X X.A.in1.in1) rfl hc Tn G S hfr (fun s4 H4 I4 N4 O4=>⟨rfl,h _ s4 H4 (Inv.back I4 rfl rfl) N4 O4 hfr⟩) xs.length 0 s3 _ [] [] rfl I3 hf st (bR.refl _) N1 aB ao.eX hd (QVz _) (QHq _)⟩))
end
def Ax:typeLookup (.type "zip") "__len__"=pure none:=by rw[typeLookup_type,builtinLookup_eq_fast];kernel_rfl
def yI:typeLookup (.type "zip") "__length_hint__"=pure none:=by rw[typeLookup_type,builtinLookup_eq_fast];kernel_rfl
section
def Inv.aa2{s:Shared}{y:V}{u:Value}{E:QZq}(I:Inv X γ σ H s)(hd:H d=some (.lst vs))(ry:RelV y u)(hz:vs.length<sizeLine)
  (h:∀h',(∀b o,b≠d->s.heap.get? b=some o->h'.get? b=some o)->Inv X γ σ (upd H d (.lst (vs++[y]))) {s with heap:=h'}->Q () {s with heap:=h'}):
  wpAny (model X.prog X.w) A (updateSeq d (·.push u)) Q E s:=by
 obtain⟨z,its,n,r,e⟩:=(I.hok d _ hd)
 have hl:=r.length
 refine wpAny_updateSeq e rfl ?_ (by show its.toArray.size<=_;rw[Qjz];omega) (by show(its.toArray.push u).size<=_;rw[Array.size_push,Qjz];omega)
 have es:=Heap.get?_update_self (Obj.mapSeq (·.push u)) e rfl
 have oth:∀b o,b≠d->s.heap.get? b=some o->(s.heap.update d (Obj.mapSeq (·.push u))).get? b=some o:=fun b o hb q=>(Heap.get?_update_other _ _ (Ne.symm hb)).trans q
 refine h _ oth (I.write (by rw[hd];exact True.intro) (.inl rfl) (fun b q hb z=>oth b q hb z) ⟨_,es⟩ ?_)
 have ea:(its++[u]).toArray=its.toArray.push u:=by simp
 exact⟨by simp;omega,its++[u],_,Vals.append r (.cons ry .nil),by rw[ea];exact es⟩
theorem Ie(hA:X.A=A.in1)(hc:X.calm=true)(T:Turn X.prog X.w X.K (.Name x p) J fp it tn)(G:Gives X.K J xs H1)(S:Sat X.K env τ H0)(h0:H0 d=none)
  (fin:∀s H,Inv X γ σ H s->Nx X.K env τ H0 env H->jo X.K H (.lst xs) d->R (.ok (.ret .none)) s):
  ∀(n i:Nat)(s:Shared)(H:Hp)(vs:List V),xs.length-i=n->Inv X γ σ H s->(∀b∈fp,eE X γ H b)->tn i s.heap->bR H1 H->Nx X.K env τ H0 env H->H d=some (.lst vs)->
   ao X.K H (xs.take i) vs->i<=xs.length->
   codeAny (model X.prog X.w) A (.builtin "list.extend.loop" ⟨[.ref d,.ref it,.none],[]⟩) R s:=by
 intro n
 induction n with
 |zero=>
  intro i s H vs hn I hf st P N hd dl hi
  refine codeAny_builtin PySem.F.entry_extend_loop ?_
  rw[Around.under_plainId PySem.F.plain_extend_loop _,<-hA]
  refine QTz (QKz (T.done X rfl rfl rfl hc i γ s σ H _ I hf st (G.stop H P i (by omega))) (fun r s1 h=>?_) fun _ _ h=>h)
  obtain⟨rfl,I1⟩:=h
  rw[List.take_of_length_le (by omega)]at dl
  exact QKq (fin s1 H I1 N ⟨_,hd,vs,rfl,dl⟩)
 |succ n ih=>
  intro i s H vs hn I hf st P N hd dl hi
  have hlt:i<xs.length:=by omega
  obtain⟨dd,ed,edr⟩:=Gq hlt
  refine codeAny_builtin PySem.F.entry_extend_loop ?_
  rw[Around.under_plainId PySem.F.plain_extend_loop _,<-hA]
  refine QTz (QKz (T.item X rfl rfl rfl hc i γ s σ H _ I hf st (G.go H P i _ ed)) (fun r s1 h=>?_) fun _ _ h=>h)
  obtain⟨u,rfl,h⟩:=h
  refine q8 (QKz h (fun _ s2 h2=>?_) fun _ _ h=>h)
  obtain⟨y,H',I',ry,yl,st',nf⟩:=h2
  obtain⟨Dy,hH⟩:=G.yld H P i _ ed y H' yl
  have N':Nx X.K env τ H0 env H'/\bR H H'/\H' d=some (.lst vs):=by
   rcases hH with rfl|⟨q,ws,hq0,rfl⟩
   ·exact⟨N,bR.refl _,hd⟩
   ·have NL:=Nx.laid (o:=.tup ws) N.gK hq0
    exact⟨N.trans NL,NL.pers,by rw[au (fun z=>by subst z;rw[hq0]at hd;cases hd)];exact hd⟩
  obtain⟨N',PP,hd'⟩:=N'
  have hG:=G.len
  have lv:=dl.length
  rw[List.length_take]at lv
  refine QTz (Inv.aa2 I' hd' ry (by omega) fun h' oth I2=>?_)
  have p2:=oh (u':=.lst (vs++[y])) hd' GC
  refine QKq ⟨plainId_quiet PySem.F.plain_extend_loop _,?_⟩
  refine ih _ _ _ _ (by omega) I2 (fun b hb=>?_) (T.keep _ _ _ st' fun b hb o e=>?_) ((P.trans PP).trans p2) (Nx.chg (u':=.lst (vs++[y])) N' S h0 hd' GC) aB ?_ (by omega)
  ·exact⟨by rw[au (fun e=>by subst e;rw[nf b hb]at hd';cases hd')];exact nf b hb,(hf b hb).2⟩
  ·exact oth b o (fun e=>by subst e;rw[nf b hb]at hd';cases hd') e
  ·have:xs.take (i+1)=xs.take i++[dd]:=by rw[List.take_add_one,ed];rfl
   rw[this]
   exact((dl.mono PP).append (ao.bA Dy ao.eX)).mono p2
end
section
variable{E:QZq}
def Dz(hc:X.calm=true)(I:Inv X γ σ H s)(S:Sat X.K env τ H)(ho:s.heap.get? o=some ob)(hcl:ob.cls=.type "zip")
  (hself:∀(s1:Shared)(E:QZq)(Q:QZq),(∀b u,s.heap.get? b=some u->s1.heap.get? b=some u)->Q (.ref o) s1->wpAny (model X.prog X.w) X.A.in1.in1 (pyIter (.ref o)) Q E s1)
  (hit:∀(s1:Shared)(u:HO),Nx X.K env τ H env (upd H s.heap.objs.size u)->(∀b u,s.heap.get? b=some u->s1.heap.get? b=some u)->
   ∃fp tn J,Turn X.prog X.w X.K (.Name x p) J fp o tn/\tn 0 s1.heap/\(∀b∈fp,eE X γ (upd H s.heap.objs.size u) b)/\Gives X.K J xs (upd H s.heap.objs.size u))
  (h:∀a s' H',Inv X γ σ H' s'->Nx X.K env τ H env H'->jo X.K H' (.lst xs) a->H a=none->Q (.ref a) s'):
  wpAny (model X.prog X.w) X.A (call (.type "list") [.ref o]) Q E s:=by
 refine callType_codes (Q₁:=fun obj θ=>obj=.ref s.heap.objs.size/\θ={s with heap:=s.heap.push {cls:=.type "list",data:=.seq #[]}}) PySem.F.called_list (PySem.F.typeCall_list_1 _) PySem.F.entry_list_init
  (code_list_new _ ⟨rfl,rfl⟩) fun obj θ Θ=>?_
 obtain⟨rfl,rfl⟩:=Θ
 have hS:(s.heap.push {cls:=.type "list",data:=.seq #[]}).get? s.heap.objs.size=some {cls:=.type "list",data:=.seq #[]}:=Qqz _ rfl
 have hfr:=I.hok.fresh (QVz _)
 have hne:s.heap.objs.size≠o:=fun e=>absurd (Qqq ho) (by rw[e];exact Nat.lt_irrefl _)
 have oth:∀f(h':Heap)b u,b≠s.heap.objs.size->h'.get? b=some u->(h'.update s.heap.objs.size (Obj.mapSeq f)).get? b=some u:=
  fun f h' b u hb e=>(Heap.get?_update_other _ _ (Ne.symm hb)).trans e
 have old:∀b u,s.heap.get? b=some u->b≠s.heap.objs.size:=fun b u e=>Qvq (Qqq e)
 refine⟨⟨_,hS,rfl⟩,PySem.F.args_list_init_2 _ _,?_⟩
 refine QTz ?_
 refine QTz (wpAny_seqItems hS rfl (QKq ?_))
 refine QTz (wpAny_updateSeq hS rfl ?_)
 have hS₂:=Heap.get?_update_self (Obj.mapSeq (fun _=>(#[]))) hS rfl
 have k2:∀b u,s.heap.get? b=some u->((s.heap.push {cls:=.type "list",data:=.seq #[]}).update s.heap.objs.size (Obj.mapSeq (fun _=>(#[])))).get? b=some u:=fun b u e=>oth _ _ b u (old b u e) ((fun _ _ q=>QWq _ q) b u e)
 refine QTz (wpAny_letGo ?_)
 have hty:(⟨(s.heap.push {cls:=.type "list",data:=.seq #[]}).update s.heap.objs.size (Obj.mapSeq (fun _=>(#[]))),s.gens,s.drawn,s.toks,s.os⟩:Shared).TypeIs (.ref o) "zip":=⟨ob,k2 o ob ho,hcl⟩
 refine QTz (wpAny_typeOf hty ?_)
 have h1:Builtin.List.listSameRef (.ref s.heap.objs.size) (.ref o)=false:=by simp[Builtin.List.listSameRef,hne]
 have h2:(Value.type "zip"==Value.type "list")=false:=by decide
 have h3:(Value.type "zip"==Value.type "tuple")=false:=by decide
 simp only[h1,h2,h3,Bool.or_false,Qyz,if_false]
 refine QTz (hself _ _ _ k2 ?_)
 refine QTz (QGz ?_)
 refine QTz (wpAny_specialOf hty Ax ?_)
 refine QTz (wpAny_specialOf hty yI ?_)
 refine QKq ?_
 refine QTz (wpAny_rule ?_)
 refine QTz ?_
 refine QTz (wpAny_updateSeq hS₂ rfl ?_)
 have hS₃:=Heap.get?_update_self (Obj.mapSeq (·.push Value.none)) hS₂ rfl
 refine wpAny_updateSeq hS₃ rfl ?_
 have k4:∀b u,s.heap.get? b=some u->((((s.heap.push {cls:=.type "list",data:=.seq #[]}).update s.heap.objs.size (Obj.mapSeq (fun _=>(#[])))).update s.heap.objs.size (Obj.mapSeq (·.push Value.none))).update s.heap.objs.size (Obj.mapSeq (·.pop))).get? b=some u:=
  fun b u e=>oth _ _ b u (old b u e) (oth _ _ b u (old b u e) (k2 b u e))
 have N1:=Nx.laid (o:=.lst []) S hfr
 obtain⟨fp,tn,J,Tn,st,hf,G⟩:=hit {s with heap:=_} _ N1 k4
 refine QKq ⟨plainId_quiet PySem.F.plain_extend_loop _,?_⟩
 exact Ie (X:=Cx.under X X.A.in1.in1) rfl hc Tn G S hfr (fun s4 H4 I4 N4 O4=>⟨rfl,h _ s4 H4 (Inv.back I4 rfl rfl) N4 O4 hfr⟩) xs.length 0 _ _ [] rfl (Inv.under (I.laid (o:=.lst []) (t':=s.toks) k4 (QVz _) ⟨QHq _,[],_,.nil,Heap.get?_update_self (Obj.mapSeq (·.pop)) hS₃ rfl⟩) rfl rfl) hf st (bR.refl _) N1 aB ao.eX (QHq _)
end
def Gives.mono{J:It}{H H':Hp}(g:Gives K J xs H)(p:bR H H'):Gives K J xs H':=
 ⟨fun H1 q=>g.go H1 (p.trans q),fun H1 q=>g.yld H1 (p.trans q),fun H1 q=>g.stop H1 (p.trans q),g.len⟩
def Inv.Ed{E:QZq}{σ:St}{H:Hp}(I:Inv X γ σ H s):Inv {X with xe:=E} γ σ H s:=
 ⟨⟨I.ok.mod,I.ok.kind,I.ok.glob,I.ok.blt,I.ok.above,I.ok.inj,I.ok.has,I.ok.cab,I.ok.hd,I.ok.frames,I.ok.stk,I.ok.exf,I.ok.bs,I.ok.bsz,I.ok.noex,I.ok.exfs,I.ok.mJ,I.ok.frf⟩,
  I.os,I.bare,I.base,I.loc,I.cell,I.free,I.freeC,I.pin,I.hok,I.len⟩
def Inv.unE{E:QZq}{σ:St}{H:Hp}(I:Inv {X with xe:=E} γ σ H s):Inv X γ σ H s:=Inv.Ed (X:={X with xe:=E}) I
theorem Inv.seqObj{X:Cx}{σ:St}{H:Hp}{b:Bool}{l:Addr}(I:Inv X γ σ H s)(h:O5 X.K b H l vs):
  ∃(its:Array Value)(k:Nat)(sl:Array (Option Value)),s.heap.get? l=some {cls:=.type (if b then "list" else "tuple"),dict:=none,data:=.seq its k,slots:=sl}:=by
 cases b with
 |true=>
  obtain⟨its,r,⟨o,n,e,c,d,dt⟩,z⟩:=I.list (Pa.sq h)
  obtain⟨oc,od,odt,os⟩:=o
  subst c d dt
  exact⟨_,_,_,e⟩
 |false=>
  obtain⟨its,r,⟨o,e,c,d,n,dt⟩,z⟩:=I.Bh h
  obtain⟨oc,od,odt,os⟩:=o
  subst c d dt
  exact⟨_,_,_,e⟩
def xY{xs:List D}(h:bJ d=some xs):items d=some xs:=by
 cases d<;>simp[bJ]at h<;>simp[items,h]
noncomputable def Ur(K:QQq):List V->Hp->VK->Prop:=fun us H Q=>∃env τ v d xs pr,us=[v]/\Sat K env τ H/\bj K H d v/\bJ d=some xs/\dictOf [] [] xs=some pr/\
 ∀a H',Nx K env τ H env H'->jo K H' (.dct pr.1 pr.2) a->H a=none->Q (.ref a) H'
section
def DG(hc:X.calm=true):gP X (.type "dict") (Ur X.K):=by
 intro γ s σ H us ws Q I r h
 obtain⟨env,τ,v,d,xs,pr,rfl,S,Dv,es,hd,q⟩:=h
 obtain⟨u,rfl,ru⟩:=vals1 r
 obtain⟨bb,l,vs,rfl,hq,dl⟩:=Dv.w6 es
 cases ru
 obtain⟨its,k,sl,eo⟩:=Inv.seqObj I hq
 refine uw (x:=("_")) (p:=default) hc I S eo rfl (by cases bb<;>decide) hd (fun s1 E Q e1 k1=>?_) (fun s1 u E Q I1 N1 k1 hQ=>?_) fun a s' H' I' N' O' h'=>⟨.ref a,H',I',rfl,q a H' N' O' h'⟩
 ·cases bb with
  |true=>exact tR e1 (I.ok.hd hc) k1
  |false=>exact qK e1 (I.ok.hd hc) k1
 ·refine QKz (Mp (tg:=.Name ("_") default) (R:=fun J H'=>Gives X.K J xs H'/\H'=upd H s.heap.objs.size u) (Inv.Ed I1) (show RelV (.ref l) _ from rfl) (Dv.mono N1.pers) (xY es) fun J g=>⟨g,rfl⟩) (fun v2 s2 h2=>?_) fun _ _ h=>h
  obtain⟨it,fp,tn,J,H',rfl,I2,T,st,hf,g,rfl⟩:=h2
  exact hQ s2 it fp tn J (Inv.unE I2) T st hf g
def NP{σ:St}{Q:VK}(hv:m.az=none)(q:tM X.K W env (ev c (.bi .dict m) env) σ H Q):aD X W c m σ H fun v H1=>Ur X.K [v] H1 Q:=by
 simp only[o5,hv]at q
 refine⟨env,aL q fun d δ v H1 N1 D1 q1=>?_⟩
 obtain⟨z,ez,S,q3⟩:=cR q1
 simp only[b1]at ez
 cases es:bJ d with
 |none=>rw[es]at ez;cases ez
 |some xs=>
  rw[es]at ez
  simp only[QFq,S7]at ez
  cases ed:dictOf [] [] xs with
  |none=>rw[ed]at ez;cases ez
  |some pr=>
   rw[ed]at ez
   cases ez
   exact⟨δ,σ,v,d,xs,pr,rfl,S,D1,es,ed,fun a H' N O h0=>q3 _ H' N ⟨a,rfl,O,h0⟩⟩
def Sg(hc:X.calm=true)(ha:GE X W c m a)(hv:m.az=none)(hg:Gl X "dict")(hm:X.mg "dict"=none)(hs:starEach [a] X.env=[(false,eval a X.env)]):
  GE X W c (.bi .dict m) (.Call (.Name "dict" p) [a] [] pos):=fun env=>
 PE.imp (lR (DG hc) hg hm PyProof.Rows.boot_dict (aC ha.d bM hs) (by decide) (by decide) hs rfl) fun σ H Q h=>NP hv h
structure af7(X:Cx)(W:Wi)(γ:QQz)(σ:St)(Q:VK)(f:D->Ev->Out Rv)(v:Value)(s:Shared):Prop where
 go:∃z TI TO i1 i2 b1 b2 l1 l2 vs ws xs ys env H,v=.ref z/\Inv X γ σ H s/\Am z TI TO i1 i2 b1 b2 l1 l2 0 s.heap/\ZipApart z TI TO i1 i2 l1 l2/\(∀b∈[z,TI,TO,i1,i2],eE X γ H b)/\
  Gives X.K (Itz X.K b1 b2 l1 l2 vs ws) (aR xs ys) H/\tM X.K W env (f (.lst (aR xs ys)) env) σ H Q
theorem yJ{env:Ev}{s:Shared}{σ:St}{Q:VK}(ha:GE X W c m1 a)(hb:GE X W c m2 b)(hg:Gl X "zip")(hm:X.mg "zip"=none)
  (hs:starEach [a,b] X.env=[(false,eval a X.env),(false,eval b X.env)])(hs2:starEach [b] X.env=[(false,eval b X.env)])(I:Inv X γ σ H s)(q:tM X.K W env ((ev c (.zip m1 m2) env).ak f) σ H Q):
  wpAny (model X.prog X.w) X.A (eval (.Call (.Name "zip" p) [a,b] [] pos) X.env) (af7 X W γ σ Q f) X.xe s:=by
 simp only[Qe]at q
 let RR:List V->Hp->Prop:=fun vs H'=>∃ε d1 d2 xs ys v1 v2,vs=[v1,v2]/\bj X.K H' d1 v1/\bj X.K H' d2 v2/\bJ d1=some xs/\bJ d2=some ys/\tM X.K W ε (f (.lst (aR xs ys)) ε) σ H' Q
 have asc:∀(o:Out Rv)g,(o.ak g).ak f=o.ak fun d e=>(g d e).ak f:=fun o g=>by
  cases o with
  |ok x e=>cases x<;>rfl
  |exc c e=>rfl
  |bad=>rfl
 rw[asc]at q
 have go:aD X W c m1 σ H fun v1 H1=>aD X W c m2 σ H1 fun v2 H2=>RR [v1,v2] H2:=by
  refine⟨env,aL q fun d1 δ v1 H1 N1 D1 q1=>⟨δ,?_⟩⟩
  rw[asc]at q1
  refine aL q1 fun d2 ε v2 H2 N2 D2 q2=>?_
  cases e1:bJ d1 with
  |none=>rw[e1]at q2;exact q2.2.elim
  |some xs=>
   cases e2:bJ d2 with
   |none=>rw[e1,e2]at q2;exact q2.2.elim
   |some ys=>
    rw[e1,e2]at q2
    exact⟨ε,d1,d2,xs,ys,v1,v2,rfl,D1.mono N2.pers,D2,e1,e2,q2⟩
 refine wpAny_Call_Name_kw (jC I hg hm PyProof.Rows.boot_zip ?_ (by decide) (by decide))
 refine PyProof.Rows.callWith_type1 (cj (aC ha.d (aC hb.d bM hs2) (by rw[hs,hs2]) pos γ s σ H RR I go) fun us s1⟨vs,H1,I1,r1,q1⟩=>?_) (by rw[hs,hs2]) (by rw[hs2];rfl)
 obtain⟨ε,d1,d2,xs,ys,v1,v2,rfl,D1,D2,e1,e2,q3⟩:=q1
 obtain⟨b1,l1,vs,rfl,h1,dl1⟩:=D1.w6 e1
 obtain⟨b2,l2,ws,rfl,h2,dl2⟩:=D2.w6 e2
 obtain⟨u1,u2,rfl,ru1,ru2⟩:=Vals.two r1
 cases ru1
 cases ru2
 obtain⟨its,rr1,p1,z1,lt1⟩:=Inv.w6 I1 h1
 obtain⟨its2,rr2,p2,z2,lt2⟩:=Inv.w6 I1 h2
 refine wI p1 p2 fun h' st sz kk=>?_
 refine⟨s1.heap.objs.size+4,s1.heap.objs.size+2,s1.heap.objs.size+3,s1.heap.objs.size,s1.heap.objs.size+1,b1,b2,l1,l2,vs,ws,xs,ys,ε,H1,rfl,I1.kept kk,st,u0 lt1 lt2,fun b hb=>?_,wy h1 h2 dl1 dl2 z1,q3⟩
 have hb':s1.heap.objs.size<=b:=by
  simp only[QBz,QAq,or_false]at hb
  rcases hb with rfl|rfl|rfl|rfl|rfl<;>omega
 exact I1.uW hb' (I1.hok.fresh hb')
theorem Am.lt{z TI TO i1 i2:Addr}{b1 b2:Bool}{k:Nat}(st:Am z TI TO i1 i2 b1 b2 l1 l2 k h):∀b∈[z,TI,TO,i1,i2],b<h.objs.size:=by
 intro b hb
 obtain⟨f0,f1,zr,_⟩:=st.zr
 obtain⟨x,y,to⟩:=st.to
 simp only[QBz,QAq,or_false]at hb
 rcases hb with rfl|rfl|rfl|rfl|rfl
 ·exact Qqq zr
 ·exact Qqq st.ti
 ·exact Qqq to
 ·exact st.it1.lt
 ·exact st.it2.lt
theorem CZ(hc:X.calm=true)(ha:GE X W c m1 a)(hb:GE X W c m2 b)(hg:Gl X "zip")(hm:X.mg "zip"=none)
  (hs:starEach [a,b] X.env=[(false,eval a X.env),(false,eval b X.env)])(hs2:starEach [b] X.env=[(false,eval b X.env)])(hg':Gl X "dict")(hm':X.mg "dict"=none)
  (hs':starEach [.Call (.Name "zip" q1) [a,b] [] q2] X.env=[(false,eval (.Call (.Name "zip" q1) [a,b] [] q2) X.env)]):
  GE X W c (.bi .dict (.zip m1 m2)) (.Call (.Name "dict" p) [.Call (.Name "zip" q1) [a,b] [] q2] [] pos):=by
 intro env γ s σ H Q I q
 simp only[o5,E.az]at q
 refine wpAny_Call_Name_kw (jC I hg' hm' PyProof.Rows.boot_dict ?_ (by decide) (by decide))
 refine PyProof.Rows.callWith_type1 ?_ hs' rfl
 refine Calls.spliced_cons (cj (yJ ha hb hg hm hs hs2 I (by simpa only[o5]using q)) fun u s1 h1=>Calls.spliced_nil ?_)
 obtain⟨z,TI,TO,i1,i2,b1,b2,l1,l2,vs,ws,xs,ys,δ,H1,rfl,I1,st,ap,hf,G,q1⟩:=h1.go
 obtain⟨r,er,S,q3⟩:=cR q1
 simp only[Mini.b1,bJ,QFq,S7]at er
 cases ed:dictOf [] [] _ with
 |none=>rw[ed]at er;cases er
 |some pr=>
  rw[ed]at er
  cases er
  obtain⟨f0,f1,zr,h0⟩:=st.zr
  refine uw (x:=("_")) (p:=default) hc I1 S zr rfl (by decide) ed (fun s2 E Q e1 k1=>uU e1 (I1.ok.hd hc) k1) (fun s2 u E Q I2 N2 k2 hQ=>?_)
   fun a s' H' I' N' O' h'=>⟨.ref a,H',I',rfl,q3 _ H' N' ⟨a,rfl,O',h'⟩⟩
  refine jy (k2 _ _ zr) (hQ s2 z [z,TI,TO,i1,i2] _ _ I2 (j7 ap) ((j7 (P:=X.prog) (w:=X.w) (K:=X.K) (tg:=.Name ("_") default) (vs:=vs) (ws:=ws) ap).keep 0 _ _ st fun b _ o e=>k2 b o e) (fun b hb=>⟨?_,(hf b hb).2⟩) (G.mono N2.pers))
  rw[au (Qvq (st.lt b hb))]
  exact(hf b hb).1
def CW(hc:X.calm=true)(ha:GE X W c m1 a)(hb:GE X W c m2 b)(hg:Gl X "zip")(hm:X.mg "zip"=none)
  (hs:starEach [a,b] X.env=[(false,eval a X.env),(false,eval b X.env)])(hs2:starEach [b] X.env=[(false,eval b X.env)])(hg':Gl X "list")(hm':X.mg "list"=none)
  (hs':starEach [.Call (.Name "zip" q1) [a,b] [] q2] X.env=[(false,eval (.Call (.Name "zip" q1) [a,b] [] q2) X.env)]):
  GE X W c (.bi .list (.zip m1 m2)) (.Call (.Name "list" p) [.Call (.Name "zip" q1) [a,b] [] q2] [] pos):=by
 intro env γ s σ H Q I q
 simp only[o5,E.az]at q
 refine wpAny_Call_Name_kw (jC I hg' hm' PyProof.Rows.boot_list ?_ (by decide) (by decide))
 refine PyProof.Rows.callWith_type1 ?_ hs' rfl
 refine Calls.spliced_cons (cj (yJ ha hb hg hm hs hs2 I (by simpa only[o5]using q)) fun u s1 h1=>Calls.spliced_nil ?_)
 obtain⟨z,TI,TO,i1,i2,b1,b2,l1,l2,vs,ws,xs,ys,δ,H1,rfl,I1,st,ap,hf,G,q1⟩:=h1.go
 obtain⟨r,er,S,q3⟩:=cR q1
 cases er
 obtain⟨f0,f1,zr,h0⟩:=st.zr
 refine Dz (x:=("_")) (p:=default) hc I1 S zr rfl (fun s2 E Q k2 hQ=>jy (k2 _ _ zr) hQ) (fun s2 u N2 k2=>?_)
  fun a s' H' I' N' O' h'=>⟨.ref a,H',I',rfl,q3 _ H' N' ⟨a,rfl,O',h'⟩⟩
 refine⟨[z,TI,TO,i1,i2],_,_,j7 ap,(j7 (P:=X.prog) (w:=X.w) (K:=X.K) (tg:=.Name ("_") default) (vs:=vs) (ws:=ws) ap).keep 0 _ _ st fun b _ o e=>k2 b o e,fun b hb=>⟨?_,(hf b hb).2⟩,G.mono N2.pers⟩
 rw[au (Qvq (st.lt b hb))]
 exact(hf b hb).1
end
section
variable{E:QZq}
def yw{Q:QZq}(h:Q (.bool (!a&&b)) s):wpAny (model prog w) A (call (.builtin "int.__lt__") [.bool a,.bool b]) Q E s:=by
 refine Qzq PySem.F.slot_bool_lt (PyProof.Rows.typeIs_bool' s a) PySem.F.entry_int_lt ?_ (PySem.F.args_int_lt_2 _ _)
 have e:(decide ((if a=true then 1 else 0)< (if b=true then(1:Int)else 0)))=(!a&&b):=by cases a<;>cases b<;>rfl
 show wpAny _ _ (ret (.bool (decide ((if a=true then 1 else 0)< (if b=true then 1 else 0))))) _ _ s
 rw[e]
 exact QKq ⟨_,rfl,h⟩
def zJ{Q:Bool->Shared->Prop}(h:Q (!a&&b) s):wpAny (model prog w) A (PyProof.Rows.oneLt' true (.bool a) (.bool b)) Q E s:=by
 rw[PyProof.Rows.oneLt'_eq]
 refine QTz (wpAny_cRoomFor_byValue rfl ?_)
 refine QTz (wpAny_callSpecialIfBound?_slot (PyProof.Rows.typeIs_bool' s a) PySem.F.slot_bool_lt (yw ?_))
 exact wpAny_truthy_bool h
def Ck{Q:Bool->Shared->Prop}(h:Q (!a&&b) s):wpAny (model prog w) A (PyProof.Rows.oneLt' c (.bool a) (.bool b)) Q E s:=by
 cases c with
 |true=>exact zJ h
 |false=>exact PySem.W.kat_one _ _ (vH A s a b prog w _ _ h)
theorem wj{b fin:Bool}{Q:Bool->Shared->Prop}{nx ny:Nat}:∀{vs ws:List Value}{ns ms:List Bool}(i:Nat),BoolsAre vs ns->BoolsAre ws ms->ns.length+ny=ms.length+nx->fin=decide (nx<ny)->Q (mF ns ms) s->
  PySem.W.KatLex prog w A b fin Q (vs.zip ws) i s
 |_,_,_,_,i,.nil,hw=>fun hl hf h=>by
  refine PySem.W.kat_nil ?_
  cases hw with
  |nil=>rw[FT]at h;rw[hf];simp at hl;rw[QEq (by omega)];exact h
  |cons c hw=>rw[FW]at h;rw[hf];simp at hl;rw[decide_eq_true (by omega)];exact h
 |_,_,_,_,i,.cons a hv,.nil=>fun hl hf h=>by
  refine PySem.W.kat_nil ?_
  rw[hf]
  simp at hl
  rw[QEq (by omega)]
  exact h
 |_,_,_,_,i,.cons a hv,.cons c hw=>fun hl hf h=>by
  rw[vU]at h
  simp only[QAz]at hl
  refine PySem.W.kat_cons (SeqAt.EqAt.bool_bool a c prog w _ _ ?_)
  by_cases hac:a=c
  ·subst hac
   rw[if_pos rfl]at h
   rw[beq_self_eq_true]
   exact PySem.W.kat_yes (wj _ hv hw (by omega) hf h)
  ·rw[if_neg hac]at h
   rw[beq_eq_false_iff_ne.mpr hac]
   exact PySem.W.kat_no (Ck h)
def zR{x y:Addr}{ns ms:List Bool}(hx:∃o n,s.heap.get? x=some o/\o.data=.seq xs n)(hy:∃o n,s.heap.get? y=some o/\o.data=.seq ys n)(bx:BoolsAre xs.toList ns)(by':BoolsAre ys.toList ms)
  (h:Q (mF ns ms) s):wpAny (model prog w) A (PyProof.Rows.keyLt' (PyProof.Rows.tuples' b) (.ref x) (.ref y)) Q E s:=by
 obtain⟨ox,nx,ex,dx⟩:=hx
 obtain⟨oy,ny,ey,dy⟩:=hy
 have l1:=bx.length
 have l2:=by'.length
 simp at l1 l2
 exact PySem.W.kat_lt ex dx ey dy (wj 0 bx by' (by omega) rfl h)
end
end Mini
end
section
namespace Mini
open PySem L2 PyProof.Rows
section
variable{E:QZq}
def xQ{vs out:List Value}{P:PySem.Fin->Shared->Prop}(ho:s.heap.get? a=some (seqObj "list" vs.toArray n))(h64:vs.length<64)(hl:out.length=vs.length)
  (h1:vs.length<2->out=vs)
  (h2:2<=vs.length->∀h':Heap,(∀b o,b≠a->s.heap.get? b=some o->h'.get? b=some o)->wpAny (model prog w) A (keyKind' vs.toArray) (fun κ s'=>s'={s with heap:=h'}/\
   (PySem.W.kas_sort vs.length).kasWp (PySem.W.kas_ask prog w A κ vs) (fun p s''=>s''={s with heap:=h'}/\(p.toList.map fun i=>vs.getD i Value.none)=out) s') (fun _ _=>False) {s with heap:=h'})
  (h:P (.done (.ret .none)) {s with heap:=sortedHeap s.heap a vs out.toArray}):
  wpAny (model prog w) A (Builtin.«list.sort» ⟨[.ref a],[]⟩) P E s:=by
 rw[list_sort_plain]
 have ha:=Qqq ho
 have hz:vs.length<=sizeLine:=by rw[sizeLine_eq];omega
 refine QTz (listItems_at ho rfl ?_)
 refine QTz (listUpdate_at ho rfl ?_ (by rw[Qjz];exact hz) (QHq _))
 obtain⟨e1,ho1⟩:∃e1,(s.heap.update a _).get? a=some (seqObj "list" #[] e1):=⟨_,get?_update_seq ho (fun _=> #[])⟩
 refine QTz (seqEpoch_at ho1 rfl ?_)
 refine QTz (wpAny_newTuple ?_ (by show vs.length<=_;exact hz))
 refine QTz (wpAny_newList ?_ (QHq _))
 refine QGz ?_
 have ho6:(((s.heap.update a (Obj.mapSeq fun _=> #[])).push (seqObj "tuple" vs.toArray 0)).push (seqObj "list" #[] 0)).get? a=some (seqObj "list" #[] e1):=by
  rw[Heap.get?_push_ne _ _ _ (by rw[size_push',Heap.size_update];exact Qvq (Nat.lt_succ_of_lt ha)),Heap.get?_push_ne _ _ _ (by rw[Heap.size_update];exact Qvq ha)]
  exact ho1
 have kp:∀b o,b≠a->s.heap.get? b=some o->(((s.heap.update a (Obj.mapSeq fun _=> #[])).push (seqObj "tuple" vs.toArray 0)).push (seqObj "list" #[] 0)).get? b=some o:=fun b o hb e=>
  QWq _ (QWq _ ((Heap.get?_update_other _ _ (Ne.symm hb)).trans e))
 by_cases hn:vs.toArray.size<2
 ·rw[if_pos hn,if_pos hn]
  refine QTz (QKq ?_)
  refine QTz (QKq ?_)
  have em:(arrOf (SortSt.mk' general' (vs.toArray.zip vs.toArray) #[] 7 none)).map (·.2)=out.toArray:=by
   rw[h1 (by simpa using hn)]
   apply Array.toList_inj.mp
   simp[List.map_snd_zip]
  refine QTz (seqEpoch_at ho6 rfl ?_)
  rw[em]
  refine QTz (listUpdate_at ho6 rfl ?_ (QHq _) (by show out.toArray.size<=_;rw[Qjz];omega))
  simp only[bne_self_eq_false,Qyz,if_false]
  exact QKq h
 ·rw[if_neg hn,if_neg hn]
  have hn2:2<=vs.length:=by simpa using hn
  refine QTz (QKz (h2 hn2 _ kp) (fun κ s0 hk=>?_) fun _ _ x=>x.elim)
  obtain⟨rfl,hk⟩:=hk
  refine QTz (QKz (PySem.W.kat_run (Q:=fun st' s'=>∃p:Array Nat,arrOf st'=p.map _/\failedOf st'=none/\s'={s with heap:=((s.heap.update a _).push _).push _}/\(p.toList.map fun i=>vs.getD i Value.none)=out)
   rfl hn2 h64 (fun p' st' s' a1 a2 a3 a4=>⟨p',a2,a3,a4.1,a4.2⟩) hk) ?_ fun _ _ e=>e)
  rintro ⟨⟨⟩,st'⟩ s' ⟨p,har,hf,rfl,hp⟩
  have em:(arrOf st').map (·.2)=out.toArray:=by rw[PySem.W.kat_snds rfl har,hp]
  refine QTz (seqEpoch_at ho6 rfl ?_)
  rw[em]
  refine QTz (listUpdate_at ho6 rfl ?_ (QHq _) (by show out.toArray.size<=_;rw[Qjz];omega))
  rw[hf]
  simp only[bne_self_eq_false,Qyz,if_false]
  exact QKq h
def vp{vs out:List Value}(hls:s.heap.IsList l vs.toArray)(h64:vs.length<64)(hl:out.length=vs.length)(h1:vs.length<2->out=vs)
  (h2:2<=vs.length->∀h':Heap,(∀b o,s.heap.get? b=some o->h'.get? b=some o)->wpAny (model prog w) A.in1.in1 (keyKind' vs.toArray) (fun κ s'=>s'={s with heap:=h'}/\
   (PySem.W.kas_sort vs.length).kasWp (PySem.W.kas_ask prog w A.in1.in1 κ vs) (fun p s''=>s''={s with heap:=h'}/\(p.toList.map fun i=>vs.getD i Value.none)=out) s') (fun _ _=>False) {s with heap:=h'})
  (h:Q (.ref (s.heap.objs.size+1)) {s with heap:=sortedAll s.heap vs out.toArray}):
  wpAny (model prog w) A (call (.builtin "sorted") [.ref l]) Q E s:=by
 refine Calls.call_function_entry kind_sorted plain_sorted entry_sorted (args_sorted1 _) ?_
 have hz:vs.length<=sizeLine:=by rw[sizeLine_eq];omega
 refine QTz (QKq ?_)
 refine QTz (collect_list hls ?_ hz)
 refine QTz (wpAny_newList ?_ hz)
 have hsz:((s.heap.push (seqObj "list" #[] 0)).update s.heap.objs.size (Obj.mapSeq (· ++vs.toArray))).objs.size=s.heap.objs.size+1:=by
  rw[Heap.size_update,size_push']
 have hoL:(((s.heap.push (seqObj "list" #[] 0)).update s.heap.objs.size (Obj.mapSeq (· ++vs.toArray))).push (seqObj "list" vs.toArray 0)).get? (s.heap.objs.size+1)=some (seqObj "list" vs.toArray 0):=by
  rw[<-hsz];exact Qqz _ rfl
 have keep:∀b o,s.heap.get? b=some o->(((s.heap.push _).update s.heap.objs.size _).push (seqObj "list" vs.toArray 0)).get? b=some o:=fun b o q=>by
  have hlt:=Qqq q
  rw[Heap.get?_push_ne _ _ _ (by rw[hsz];exact Qvq (Nat.lt_succ_of_lt hlt)),Heap.get?_update_ne _ _ _ _ (Qvq hlt),Heap.get?_push_ne _ _ _ (Qvq hlt)]
  exact q
 rw[hsz]
 refine QTz (QGz (Qzq slot_list_sort ⟨_,hoL,rfl⟩ entry_list_sort (xQ hoL h64 hl h1 (fun hn h' kp=>?_) ⟨_,rfl,?_⟩) (args_list_sort _)))
 ·exact h2 hn h' fun b o e=>kp b o (Qvq (Nat.lt_succ_of_lt (Qqq e))) (keep b o e)
 ·exact QKq ⟨_,rfl,h⟩
theorem tU{α:Type}{cmp:Nat->Nat->(Bool->Shared->Prop)->Shared->Prop}{f:Nat->Nat->Option Bool}{Q:α->Shared->Prop}{a:α}(hc:∀i j b(C:Bool->Shared->Prop),f i j=some b->C b s->cmp i j C s):
  ∀(t:PySem.W.KasT α),Km f t=some a->Q a s->t.kasWp cmp Q s
 |.ret x,e,q=>by cases e;exact q
 |.ask i j k,e,q=>by
  simp only[Km]at e
  cases z:f i j with
  |none=>rw[z]at e;cases e
  |some b=>rw[z]at e;exact hc i j b _ z (tU hc (k b) e q)
end
end Mini
end
section
namespace Mini
open PySem L2
inductive gJ(h:Heap):List Value->List (List Bool)->Prop
 |nil:gJ h [] []
 |cons {a:Addr} {o:Obj} {arr:Array Value} {n:Nat} {b:Bool} {bs:List Bool} {vs:List Value} {rs:List (List Bool)}:h.get? a=some o->o.cls=.type "tuple"->o.data=.seq arr n->BoolsAre arr.toList (b::bs)->gJ h vs rs->gJ h (.ref a::vs) ((b::bs)::rs)
theorem gJ.mono(k:∀b o,h.get? b=some o->h'.get? b=some o):∀{vs:List Value}{rs:List (List Bool)},gJ h vs rs->gJ h' vs rs
 |_,_,.nil=>.nil
 |_,_,.cons e c d b r=>.cons (k _ _ e) c d b (gJ.mono k r)
theorem gJ.tups:∀{vs:List Value}{rs:List (List Bool)},gJ h vs rs->∃fs,PySem.W.KatTups h vs fs/\fs.length=vs.length/\∀v∈fs,∃b,v=.bool b
 |_,_,.nil=>⟨[],PySem.W.KatTups.nil,rfl,fun v z=>nomatch z⟩
 |_,_,.cons (b:=b) e c d bb r=>by
  obtain⟨fs,t,l,f⟩:=r.tups
  have h0:∃x,(‹Array Value›)[0]? =some x/\x=.bool b:=by
   rename_i arr _ _ _ _
   cases q:arr.toList with
   |nil=>rw[q]at bb;cases bb
   |cons x xs=>
    rw[q]at bb
    cases bb
    refine⟨.bool b,?_,rfl⟩
    have:arr=(Value.bool b::xs).toArray:=by rw[<-q]
    rw[this]
    rfl
  obtain⟨x,hx,rfl⟩:=h0
  refine⟨.bool b::fs,PySem.W.KatTups.cons e c d hx t,by simp[l],fun v z=>?_⟩
  rcases QBz.mp z with rfl|z
  ·exact⟨b,rfl⟩
  ·exact f v z
theorem gJ.at{h:Heap}:∀{vs:List Value}{rs:List (List Bool)},gJ h vs rs->∀{i:Nat}{r:List Bool},rs[i]? =some r->∃a o arr n,vs.getD i Value.none=.ref a/\h.get? a=some o/\o.data=.seq arr n/\BoolsAre arr.toList r
 |_,_,.cons e c d b t,0,r,q=>by cases q;exact⟨_,_,_,_,rfl,e,d,b⟩
 |_,_,.cons e c d b t,i+1,r,q=>by
  obtain⟨a,o,arr,n,z⟩:=t.at (by simpa using q)
  exact⟨a,o,arr,n,by simpa using z⟩
theorem uy{K:QQq}{H:Hp}:∀{ys:List D}{bs:List Bool}{vs:List V}{us:List Value},bools ys=some bs->ao K H ys vs->Vals vs us->BoolsAre us bs
 |[],bs,vs,us,e,d,v=>by
  cases e
  rw[ao.bQ.mp d]at v
  cases v
  exact .nil
 |y::ys,bs,vs,us,e,d,v=>by
  obtain⟨w,ws,rfl,h1,h2⟩:=ao.aZ.mp d
  cases v with
  |cons r t=>
   cases y with
   |bl b=>
    simp only[bools]at e
    cases q:bools ys with
    |none=>rw[q]at e;cases e
    |some bs'=>
     rw[q]at e
     cases e
     cases h1
     cases r
     exact .cons b (uy q h2 t)
   |_=>simp[bools]at e
theorem Ey{X:Cx}{γ:QQz}{σ:St}{H:Hp}{s:Shared}(I:Inv X γ σ H s):∀{xs:List D}{rs:List (List Bool)}{vs:List V}{us:List Value},jW xs=some rs->ao X.K H xs vs->Vals vs us->gJ s.heap us rs
 |[],rs,vs,us,e,d,v=>by
  cases e
  rw[ao.bQ.mp d]at v
  cases v
  exact .nil
 |y::ys,rs,vs,us,e,d,v=>by
  obtain⟨w,ws,rfl,h1,h2⟩:=ao.aZ.mp d
  cases v with
  |cons r t=>
   cases y with
   |tup zs=>
    simp only[jW]at e
    cases q:bools zs with
    |none=>rw[q]at e;cases e
    |some bs=>
     cases bs with
     |nil=>rw[q]at e;cases e
     |cons b bs=>
      rw[q]at e
      cases q2:jW ys with
      |none=>rw[q2]at e;cases e
      |some rs'=>
       rw[q2]at e
       cases e
       obtain⟨a,us',rfl,hq,l⟩:=cX h1
       cases r
       obtain⟨its,rr,⟨o,eo,c,n,dt⟩,_⟩:=I.tuple hq
       exact .cons eo c dt (by simpa using uy q l rr) (Ey I q2 h2 t)
   |_=>simp[jW]at e
theorem qw{H:Hp}{vs:List V}(d:ao K H xs vs)(v:Vals vs us):∀{is:List Nat}{ys:List D},ue xs is=some ys->∃ws,ao K H ys ws/\Vals ws (is.map fun i=>us.getD i Value.none)
 |[],ys,e=>by cases e;exact⟨[],ao.eX,.nil⟩
 |i::is,ys,e=>by
  simp only[ue]at e
  cases q:xs[i]? with
  |none=>rw[q]at e;cases e
  |some x=>
   rw[q]at e
   cases q2:ue xs is with
   |none=>rw[q2]at e;cases e
   |some ys'=>
    rw[q2]at e
    cases e
    obtain⟨ws,h1,h2⟩:=qw d v q2
    obtain⟨w,ew,dw⟩:=d.get q
    obtain⟨u,eu,ru⟩:=v.get ew
    refine⟨w::ws,ao.bA dw h1,?_⟩
    rw[Qyq]
    have:us.getD i Value.none=u:=by simp[List.getD,eu]
    rw[this]
    exact .cons ru h2
def eY.aeM{H:Hp}{v:V}(h:eY K H (.lst xs) v):∃a vs,v=.ref a/\lG K H a vs/\ao K H xs vs:=by
 rcases h with h|⟨o,a,q,rfl,u,ha,hq⟩
 ·obtain⟨a,vs,rfl,hq,l⟩:=dX h
  exact⟨a,vs,rfl,hq.sq,l⟩
 ·cases o<;>cases q
  obtain⟨vs,rfl,l⟩:=hq
  exact⟨a,vs,rfl,.inl (.inl ha),l⟩
noncomputable def Ul(K:QQq):List V->Hp->VK->Prop:=fun us H Q=>∃l vs xs ys,us=[.ref l]/\lG K H l vs/\ao K H xs vs/\qg xs=some ys/\∀ws,ao K H ys ws->∀a,H a=none->Q (.ref a) (upd H a (.lst ws))
section
def yt:gP X (.builtin "sorted") (Ul X.K):=by
 intro γ s σ H us ws Q I r h
 obtain⟨l,vs,xs,ys,rfl,hq,dl,es,q⟩:=h
 obtain⟨u,rfl,ru⟩:=vals1 r
 cases ru
 obtain⟨its,rr,pl,hz⟩:=I.list hq
 have lx:=dl.length
 have lv:=rr.length
 have fin:∀zs out,ao X.K H ys zs->Vals zs out->out.length<=sizeLine->EP X γ σ Q _ {s with heap:=PyProof.Rows.sortedAll s.heap its out.toArray}:=fun zs out d v lz=>by
  obtain⟨e,ea⟩:=PyProof.Rows.sortedAll_at s.heap its out.toArray
  exact⟨.ref _,_,I.laid (fun b o x=>PyProof.Rows.sortedAll_old x) (Nat.le_succ _) (show dg X.prog X.w _ _ _ (.lst zs)from⟨by rw[v.length];exact lz,out,e,v,ea⟩),rfl,q zs d _ (I.hok.fresh (Nat.le_succ _))⟩
 unfold qg at es
 by_cases h1:xs.length<2
 ·rw[if_pos h1]at es
  cases es
  exact vp pl.isList (by omega) rfl (fun _=>rfl) (fun z=>absurd z (by omega)) (fin vs its dl rr (by omega))
 ·rw[if_neg h1]at es
  by_cases h64:xs.length<64
  ·rw[if_pos h64]at es
   unfold ab7 at es
   cases e1:jW xs with
   |none=>
    rw[e1]at es
    cases es
   |some rs=>
    rw[e1]at es
    simp only[QFq]at es
    cases e2:Km _ _ with
    |none=>rw[e2]at es;cases es
    |some p=>
     rw[e2]at es
     simp only[QFq]at es
     by_cases e3:p.size=xs.length
     ·rw[if_pos e3]at es
      obtain⟨zs,d,v⟩:=qw dl rr es
      have lo:(p.toList.map fun i=>its.getD i Value.none).length=its.length:=by rw[Qvz,Array.length_toList];omega
      refine vp pl.isList (by omega) lo (fun z=>absurd z (by omega)) (fun _ h' kp=>?_) (fin zs _ d v (by omega))
      have RA':=(Ey I e1 dl rr).mono kp
      obtain⟨fs,t,lf,fb⟩:=RA'.tups
      refine PySem.W.kat_kind (T:=.type "bool") t (by omega) (fun v hv=>?_) (by decide) ⟨rfl,?_⟩
      ·obtain⟨b,rfl⟩:=fb v hv
       exact PySem.W.Looks.of_pure rfl
      ·have el:its.length=xs.length:=by omega
       rw[el]
       refine tU (fun i j b C e c=>?_) _ e2 ⟨rfl,rfl⟩
       unfold ab8 at e
       cases ei:rs[i]? with
       |none=>rw[ei]at e;cases e
       |some ri=>
        cases ej:rs[j]? with
        |none=>rw[ei,ej]at e;cases e
        |some rj=>
         rw[ei,ej]at e
         cases e
         obtain⟨ai,oi,arri,ni,x1,x2,x3,x4⟩:=RA'.at ei
         obtain⟨aj,oj,arrj,nj,y1,y2,y3,y4⟩:=RA'.at ej
         show wpAny _ _ _ _ _ _
         rw[x1,y1]
         exact zR ⟨oi,ni,x2,x3⟩ ⟨oj,nj,y2,y3⟩ x4 y4 c
     ·rw[if_neg e3]at es;cases es
  ·rw[if_neg h64]at es;cases es
def Bt:qQ X (Ul X.K) (b1 .sorted):=by
 intro env σ H x z v Q S Dx e q
 simp only[b1]at e
 cases x with
 |lst xs=>
  simp only[jf,QFq,S7]at e
  cases es:qg xs with
  |none=>rw[es]at e;cases e
  |some ys=>
   rw[es]at e
   cases e
   obtain⟨a,vs,rfl,hq,l⟩:=Dx.aeM
   exact⟨a,vs,xs,ys,rfl,hq,l,es,fun ws d p hp=>q _ _ (Nx.laid S hp) (oG S d hp)⟩
 |_=>simp[jf]at e
end
section
def X4{x:Str}(nm:jU X k x):GE X W c (.ref k) (.Name x pos):=by
 intro env
 refine PE.imp nm.pe fun σ H Q q=>?_
 simp only[JB]at q
 have go:∀o,(env[k]? =some (.own o)\/env[k]? =some (.bor o))->tM X.K W env (.ok (.ref k) env) σ H Q->aY k σ H Q:=fun o e q=>by
  have:∃a,(σ[k]?).join=some (.ref a):=by
   rcases e with e|e
   ·obtain⟨a,z,_⟩:=q.1.sl k _ e;exact⟨a,z⟩
   ·obtain⟨a,z,_⟩:=q.1.sl k _ e;exact⟨a,z⟩
  obtain⟨a,z⟩:=this
  exact⟨.ref a,cH z,q.2 _ H (Nx.refl q.1) (cH z)⟩
 cases e:env[k]? with
 |none=>rw[e]at q;exact q.2.elim
 |some s=>
  rw[e]at q
  cases s with
  |un=>exact q.2.elim
  |val d=>exact q.2.elim
  |own o=>exact go o (.inl e) q
  |bor o=>exact go o (.inr e) q
def XX(h:GE X W c m e):GE X W c (.tmp m) e:=by
 intro env
 refine PE.imp (h env) fun σ H Q q=>?_
 simp only[Qg]at q
 refine⟨q.1,?_⟩
 have q2:=q.2
 cases r:ev c m env with
 |bad=>rw[r]at q2;exact q2
 |exc k δ=>rw[r]at q2;exact q2
 |ok x δ=>
  rw[r]at q2
  cases x with
  |val d=>exact False.elim q2
  |ref i=>exact False.elim q2
  |tmp o=>exact False.elim q2
  |new o=>exact q2
theorem JV{env:Ev}{H:Hp}{f:Bool->Ev->Out Rv}(h:tT K W env (r.cT jq f) σ H Q)
  (k:∀b δ H1,Nx K env σ H δ H1->tT K W δ (f b δ) σ H1 Q->R b H1):tT K W env r σ H R:=by
 have step:∀d δ x,x.lw=some d->r=.ok x δ->∃b,jq d=some b/\∀H1,Nx K env σ H δ H1->R b H1:=fun d δ x ex er=>by
  subst er
  cases q:jq d with
  |none=>
   cases x with
   |val d'=>cases ex;simp only[Out.cT,Out.ak,q]at h;exact h.2.elim
   |new xs=>cases ex;simp only[Out.cT,Out.ak,q]at h;exact h.2.elim
   |ref i=>cases ex
   |tmp xs=>cases ex
  |some b=>
   refine⟨b,rfl,fun H1 N=>k b δ H1 N (T8 ?_ N)⟩
   cases x with
   |val d'=>cases ex;simp only[Out.cT,Out.ak,q]at h;exact h
   |new xs=>cases ex;simp only[Out.cT,Out.ak,q]at h;exact h
   |ref i=>cases ex
   |tmp xs=>cases ex
 refine⟨h.1,?_⟩
 cases r with
 |bad=>exact h.2
 |exc c δ=>exact h.2
 |ok x δ=>
  cases x with
  |val d=>obtain⟨b,e,q⟩:=step d δ _ rfl rfl;exact⟨d,b,rfl,e,q⟩
  |new xs=>obtain⟨b,e,q⟩:=step xs.d δ _ rfl rfl;exact⟨xs.d,b,rfl,e,q⟩
  |ref i=>exact h.2.elim
  |tmp xs=>exact h.2.elim
def XC(ht:GT X W c m1 t)(ha:GT X W c m2 a)(hb:GT X W c m3 b):GT X W c (.ite m1 m2 m3) (.IfExp t a b pos):=by
 intro γ s σ H Q I ⟨env,q⟩
 have e:∀w,isTrue (.IfExp t a b pos) X.env w=(isTrue t X.env _>>=fun q=>if q=true then isTrue a X.env _ else isTrue b X.env _):=fun w=>by first|rfl|rw[PySem.isTrue]|simp only[PySem.isTrue]
 refine QTz (cj (ht γ s σ H (fun k H1=>∃δ,tT X.K W δ _ σ H1 Q) I ⟨env,JV q fun k δ H1 N q1=>⟨δ,q1⟩⟩) fun k s1⟨H1,I1,δ,q1⟩=>?_)
 cases k with
 |true=>rw[if_pos rfl]at q1⊢;exact ha γ s1 σ H1 Q I1 ⟨δ,q1⟩
 |false=>rw[if_neg Qjq]at q1⊢;exact hb γ s1 σ H1 Q I1 ⟨δ,q1⟩
end
section
variable{X:Cx}{W:Wi}{c:Cf}{m m1 m2 m3:E}{o a b e:Expr}{pos p p2 apos cpos:Pos}{name:Str}
def Yj{K:QQq}{H:Hp}{p:D}{x:V}(Dp:bj K H p x)(fp:flat p=true):∀{ds:List D}{vs:List V}{us:List Value},ao K H ds vs->Vals vs us->ds.all flat=true->vs.all jk=true/\us.map (Ju x)=ds.map fun d=>fZ d p:=by
 intro ds
 induction ds with
 |nil=>intro vs us l r _;rw[ao.bQ.mp l]at r⊢;cases r;exact⟨rfl,rfl⟩
 |cons d ds ih=>
  intro vs us l r f
  obtain⟨v,vs',rfl,hd,l'⟩:=ao.aZ.mp l
  rw[List.all_cons,QUq]at f
  cases r with
  |cons r1 r2=>
   obtain⟨i1,i2⟩:=ih l' r2 f.2
   obtain⟨j1,j2⟩:=uc Dp fp (ao.bA hd ao.eX) (by simp[f.1])
   simp only[List.all_cons,List.all_nil,Bool.and_true]at j1
   have j3:Jt v x=fZ d p:=by simpa[inV,cC]using j2
   refine⟨by rw[List.all_cons,j1,i1];rfl,?_⟩
   rw[Qyq,Qyq,i2,yg r1 j1,j3]
theorem tY{p:D}:∀{ds:List D},cC p ds=true->(ds.map fun d=>fZ d p)[di p ds]? =some true/\∀m,m<di p ds->(ds.map fun d=>fZ d p)[m]? =some false
 |[]=>fun h=>by cases h
 |d::ds=>fun h=>by
  cases q:fZ d p with
  |true=>simp[di,q]
  |false=>
   simp only[cC,q,Bool.false_or]at h
   obtain⟨i1,i2⟩:=tY h
   have e:di p (d::ds)=di p ds+1:=by simp[di,q]
   rw[e]
   refine⟨by simpa using i1,fun m hm=>?_⟩
   cases m with
   |zero=>simp[q]
   |succ m=>simpa using i2 m (by omega)
noncomputable def aeF(K:QQq):V->List V->Hp->VK->Prop:=fun x ys H Q=>∃a vs ds d y,x=.ref a/\ys=[y]/\lG K H a vs/\ao K H ds vs/\bj K H d y/\flat d=true/\ds.all flat=true/\cC d ds=true/\Q (.int (di d ds)) H
def Lx:ZW X "list.index" (aeF X.K):=by
 intro γ s σ H x ys v us Q I rx ry h
 obtain⟨a,vs,ds,d,y,rfl,rfl,hq,l,hd,f1,f2,f3,q⟩:=h
 cases rx
 obtain⟨u,rfl,ru⟩:=Vals.one ry
 obtain⟨its,r,pl,hz⟩:=I.list hq
 obtain⟨⟨cls,dd,data,sl⟩,n,ho,hc,hdd,hdt⟩:=id pl
 simp only at hc hdt
 subst hc hdt
 obtain⟨g1,g2⟩:=Yj hd f1 l r f2
 obtain⟨i1,i2⟩:=tY f3
 rw[<-g2,QEz,QJz]at i1
 obtain⟨w,w1,w2⟩:=i1
 obtain⟨hj,ew⟩:=QCq.mp w1
 have hr:=r.length
 have hsl:sizeLine=16777216:=sizeLine_eq
 refine call_meets PySem.F.slot_list_index ⟨_,ho,rfl⟩ PySem.F.entry_list_index (PySem.F.args_list_index_2 _ _) (SeqAt.list_indexAt a its.toArray n dd sl u (Ju y) (di d ds) (by simpa using hj) (by omega) ?_ fun k hk hlt=>?_) ⟨ho,fun w hw=>gB ru (Dd hd f1) r g1 w (by simpa using hw),?_⟩
 ·show Ju y its[di d ds]=true
  rw[ew];exact w2
 ·have z:=i2 k hlt
  rw[<-g2,QEz,QJz]at z
  obtain⟨w',z1,z2⟩:=z
  obtain⟨hk',ek⟩:=QCq.mp z1
  show Ju y its[k]=false
  rw[ek];exact z2
 ·exact⟨.int (di d ds),H,I.tok _,⟨s.toks,rfl⟩,q⟩
def Nb(M:An X o "index" apos e cpos)(ho:GE X W c m1 o)(he:GE X W c m2 e):GE X W c (.index m1 m2) (.Call (.Attribute o "index" apos) [e] [] cpos):=by
 intro env
 refine PE.imp (Fd M PySem.F.slot_list_index PySem.F.type_list_index Lx ho.d he.d) fun σ H Q q=>?_
 simp only[adF]at q
 refine⟨env,aL q fun d δ v H1 N1 D1 q1=>?_⟩
 cases d with
 |lst xs=>
  simp only[jf,Option.isNone_some,Qyz,if_false]at q1
  obtain⟨a,vs,rfl,hq,l⟩:=dX D1
  refine⟨.inl ⟨rfl,vs,hq.sq⟩,δ,aL q1 fun d2 ε y H2 N2 D2 q2=>?_⟩
  obtain⟨z,ez,S,q3⟩:=cR q2
  simp only[Mz]at ez
  split at ez
  ·rename_i hf
   cases ez
   simp only[QUq]at hf
   exact⟨a,vs,xs,d2,y,rfl,rfl,(N2.pers.U5 hq).sq,l.mono N2.pers,D2,hf.1.1,hf.1.2,hf.2,q3 _ H2 (Nx.refl S) rfl⟩
  ·cases ez
 |_=>exact q1.2.elim
end
section
def M7{H:Hp}{v y w:V}{Q:VK}(D1:eY K H d v)(D2:bj K H k y)(D3:bj K H x w)(e:oR d k x=some z)(q:∀u,bj K H z u->Q u H):∃a,v=.ref a/\∃o,lJ H a y o/\Q (o.getD w) H:=by
 cases d with
 |cP ks ds=>
  simp only[oR]at e
  split at e
  ·rename_i hk
   cases e
   obtain⟨kk,rfl⟩:=gW hk
   have ek:=mq D2
   subst ek
   obtain⟨a,kvs,rfl,ha,rfl,l⟩:=oW D1
   refine⟨a,rfl,fJ kvs kk,.inl ⟨kvs,kk,ha,rfl,rfl⟩,q _ ?_⟩
   cases e1:eN _ _ ds with
   |some d=>
    obtain⟨w,e2,e3⟩:=pG kk e1 l
    rw[e2]
    exact e3
   |none=>
    have n:=lK (kvs:=kvs) kk
    have e4:∀{ks vs:List D},vs.length=ks.length->eN (dB kk) ks vs=none->cC (dB kk) ks=false:=by
     intro ks
     induction ks with
     |nil=>intro vs _ _;rfl
     |cons k' ks ih=>
      intro vs hl h
      cases vs with
      |nil=>simp at hl
      |cons v vs=>
       simp only[eN]at h
       split at h
       ·cases h
       ·rename_i ne
        simp[cC,ne,ih (by simpa using hl) h]
    rw[e4 (by have:=l.length;simpa using this) e1]at n
    have e5:fJ kvs kk=none:=by
     cases e6:fJ kvs kk with
     |none=>rfl
     |some w=>rw[e6]at n;cases n
    rw[e5]
    exact D3
  ·cases e
 |_=>cases e
def Mr{H:Hp}{v:V}(D1:eY K H d v)(e:oM (some d)=true):∃a,v=.ref a/\IsD H a:=by
 cases d with
 |cP ks ds=>
  obtain⟨a,kvs,rfl,ha,_⟩:=oW D1
  exact⟨a,rfl,.inl ⟨kvs,ha⟩⟩
 |_=>cases e
def R9(hu:X.A.units+1<cLine)(M:M2 X o "get" apos e f cpos)(hv:∀k,m1.az=some k->∃x p,o=.Name x p/\jU X k x)(hd:GE X W c m1 o)(hk:GE X W c m2 e)(hx:GE X W c m3 f):GE X W c (.get2 m1 m2 m3) (.Call (.Attribute o "get" apos) [e,f] [] cpos):=by
 intro env
 cases qv:m1.az with
 |some i=>
  obtain⟨x,p,rfl,nm⟩:=hv i qv
  refine PE.imp (La hu nm.pe hk.d hx.d M) fun σ H Q q=>?_
  simp only[Vw,qv]at q
  cases e0:oM _ with
  |false=>rw[e0]at q;exact q.2.elim
  |true=>
   rw[e0]at q
   cases e1:aW i env with
   |none=>rw[e1]at e0;cases e0
   |some d0=>
    rw[e1]at e0
    obtain⟨u,eu,D0⟩:=fV q.1 e1
    obtain⟨a,rfl,ia⟩:=Mr D0 e0
    refine⟨.ref a,eu,a,rfl,ia,env,aL q fun k ε y H2 N2 D2 q2=>⟨ε,aL q2 fun x env3 z H3 N3 D3 q3=>?_⟩⟩
    obtain⟨r,er,S,q4⟩:=cR q3
    cases e2:aW i env3 with
    |none=>rw[e2]at er;cases er
    |some d3=>
     rw[e2]at er
     simp only[Option.bind]at er
     obtain⟨u',eu',D4⟩:=fV S e2
     rw[eu]at eu'
     cases eu'
     cases e3:oR d3 k x with
     |none=>rw[e3]at er;cases er
     |some w=>
      rw[e3]at er
      cases er
      obtain⟨a',ea,o,g,q5⟩:=M7 D4 (D2.mono N3.pers) D3 e3 fun u hu=>q4 u H3 (Nx.refl S) hu
      cases ea
      exact⟨o,g,q5⟩
 |none=>
  intro γ s σ H Q I q
  simp only[Vw,qv]at q
  exact q.2.elim
def aA(X:Cx)(W:Wi)(c:Cf)(m:E):TE:=fun σ H Q=>∃env,tA X.K W env (ev c m env) σ H Q
inductive Kv(X:Cx)(W:Wi)(c:Cf):E->List (Option Expr)->List Expr->List (TE×TE)->Prop
 |nil:Kv X W c .nil [] [] []
 |cons {k v r:E} {ke ve:Expr} {ks:List (Option Expr)} {vs:List Expr} {Hd:List (TE×TE)}:GE X W c k ke->GE X W c v ve->Kv X W c r ks vs Hd->Kv X W c (.cons k (.cons v r)) (some ke::ks) (ve::vs) ((aA X W c k,aA X W c v)::Hd)
def Nf:GE X W c .emp (.Dict [] [] pos):=by
 intro env
 refine PE.imp K9 fun σ H Q q p hp=>?_
 obtain⟨S,q⟩:=q
 exact q _ _ (Nx.laid S hp) ⟨p,rfl,⟨_,aB,[],rfl,rfl,ao.eX⟩,hp⟩
end
end Mini
end
section
namespace Mini
open PySem
structure Ct where
 N:List Str
 sc:Scope
 fns:List (Str×List Bool)
 gr:List Str
 exs:List Str:=[]
 rz:List Str:=[]
noncomputable def pJ:List Str->Str->Option Nat
 |[],_=>none
 |y::r,x=>if x=y then some 0 else(pJ r x).map (· +1)
noncomputable def N8:Const->Option D
 |.none=>some .non
 |.bool b=>some (.bl b)
 |.int i=>some (.int i)
 |.str x=>some (.str x)
 |_=>none
noncomputable def Vu(sc:Scope)(x:Str):Bool:=match sc.names.lookup x with
 |some .local=>true
 |some .cell=>true
 |some .free=>true
 |_=>false
def Aw(sc:Scope)(x:Str):Bool:=sc.names.lookup x==some .globalImplicit
def HQ(x:Str):Bool:= !(x==("__debug__":Str))&& !(x==("__classdict__":Str))
noncomputable def j8(C:Ct)(x:Str):Option E:=
 if HQ x then
  match pJ C.N x with
  |some k=>if Vu C.sc x then some (.var k)else none
  |none=>if Aw C.sc x then(pJ C.gr x).map .glob else none
 else none
noncomputable def opB:Operator->Option YK
 |.Add=>some .add
 |.Sub=>some .sub
 |.Mult=>some .mul
 |.Mod=>some .mod
 |.FloorDiv=>some .fdiv
 |.Pow=>some .pow
 |_=>none
noncomputable def cmB:CmpOp->Option Cm
 |.Eq=>some .eq
 |.NotEq=>some .ne
 |.Lt=>some .lt
 |.LtE=>some .le
 |.Gt=>some .gt
 |.GtE=>some .ge
 |.In=>some .isin
 |.NotIn=>some .notin
 |.Is=>some .jG
 |.IsNot=>some .notN
noncomputable def tyB(x:Str):Option Ty:=
 if x="tuple" then some .tup else if x="list" then some .lst else if x="str" then some .str else if x="bool" then some .bool else if x="int" then some .int else if x="dict" then some .cP else none
noncomputable def Zy(x:Str):Option Bi:=
 if x="len" then some .len else if x="int" then some .int else if x="tuple" then some .tuple else if x="list" then some .list else if x="all" then some .all else if x="any" then some .any
 else if x="sorted" then some .sorted else if x="dict" then some .dict else none
noncomputable def plain:Expr->Bool
 |.BoolOp .. |.BinOp .. |.UnaryOp .. |.IfExp .. |.ListComp .. |.Compare .. |.Call .. |.Constant .. |.Subscript .. |.Name .. |.List .. |.Tuple .. |.Dict .. =>true
 |_=>false
def E.Mv:E->Bool
 |.nil=>true
 |_=>false
noncomputable def fnAt(C:Ct)(x:Str):Option (Nat×List Bool):=(pJ (C.fns.map (·.1)) x).bind fun g=>(C.fns[g]?).map fun p=>(g,p.2)
noncomputable def sG(scope outer:Scope):Scope:=
 {scope with names:=scope.names.map fun(n,k)=>if (k== .free&&outer.kind== .function&&outer.names.lookup n==some .cell)then(n,.cell)else(n,k)}
def sy(η N:List Str):List Str:=η++N.map fun x=>if η.contains x then(".":Str)++x else x
def uR:Expr->Option Str
 |.Name x _=>some x
 |_=>none
noncomputable def VN:Expr->Option (List Str×Tg)
 |.Name x _=>some ([x],.name 0)
 |.Tuple es _ _=>(es.mapM uR).map fun xs=>(xs,.tup (List.range xs.length))
 |_=>none
noncomputable def Wf(outer inner:Scope)(η N:List Str):Bool:=
 decide (inner.kind=.function)&&decide ((sy η N).Nodup)
 &&(inner.names.all fun p=>(p.2 != .local)||((η.contains p.1||p.1==(".0":Str))&&inner.names.lookup p.1==some .local))
 &&(η.all fun x=>inner.names.lookup x==some .local)
 &&(inner.names.all fun p=>p.2 != .cell)
 &&(inner.names.all fun p=>(p.2 != .free)||outer.names.lookup p.1==some .cell||outer.names.lookup p.1==some .free)
 &&(N.all fun x=> !η.contains x||(inner.names.lookup ((".":Str)++x)).isNone)
 && !N.contains (".0":Str)
def isCall:Expr->Bool
 |.Call .. =>true
 |_=>false
def Lg(ap cp:Pos):Bool:=ap.endLine==cp.line
mutual
noncomputable def eO:Nat->Ct->Expr->Option E
 |0,_,_=>none
 |n+1,C,e=>match e with
  |.Constant k _ _=>(N8 k).map .con
  |.Name x _=>j8 C x
  |.Tuple es _ _=>(wW n C es).map .tup
  |.List es _=>(wW n C es).map .lis
  |.BinOp a o b _=>(opB o).bind fun o=>(eO n C a).bind fun a=>(eO n C b).map fun b=>.op o a b
  |.UnaryOp o a _=>match o with
   |.USub=>(eO n C a).map .neg
   |.Not=>(eO n C a).map .not
   |_=>none
  |.BoolOp o es _=>(wW n C es).bind fun m=>if m.Mv then none else match o with
   |.And=>some (.and m)
   |.Or=>some (.or m)
  |.Compare a ops cs _=>match ops,cs with
   |[o],[b]=>(cmB o).bind fun o=>(eO n C a).bind fun a=>(eO n C b).map fun b=>.cmp o a b
   |[o,o2],[b,d]=>(cmB o).bind fun o=>(cmB o2).bind fun o2=>(eO n C a).bind fun a=>(eO n C b).bind fun b=>(eO n C d).map fun d=>.chain o o2 a b d
   |_,_=>none
  |.IfExp t a b _=>(eO n C t).bind fun t=>(eO n C a).bind fun a=>(eO n C b).map fun b=>.ite t a b
  |.Subscript a i _=>match i with
   |.Slice lo hi st _=>match st with
    |none=>(eO n C a).bind fun a=>(Za n C lo).bind fun lo=>(Za n C hi).map fun hi=>.slc a lo hi
    |some _=>none
   |i=>(eO n C a).bind fun a=>(eO n C i).map fun i=>.idx a i
  |.Call f args kw cp=>match kw with
   |[]=>match f with
    |.Name x _=>if HQ x&&Aw C.sc x then(match fnAt C x with
      |some (g,fl)=>(Hf n C fl args).bind fun m=>if m.Mv then none else some (.call g m)
      |none=>trB n C x args)else none
    |.Attribute o name ap=>if Lg ap cp then(match args with
      |[e]=>if name="count" then(eO n C o).bind fun m1=>(if plain o&& !isCall o then some ()else none).bind fun _=>(eO n C e).map fun m2=>.count m1 m2
       else if name="pop" then(match o with
        |.Name x _=>(j8 C x).bind fun m=>match m with
         |.var k=>(eO n C e).map fun m2=>.popAt k m2
         |_=>none
        |_=>none)
       else if name="index" then(eO n C o).bind fun m1=>(if plain o&& !isCall o then some ()else none).bind fun _=>(eO n C e).map fun m2=>.index m1 m2
       else none
      |[e,f]=>if name="get" then(eO n C o).bind fun m1=>(if plain o&& !isCall o then some ()else none).bind fun _=>(eO n C e).bind fun m2=>(eO n C f).map fun m3=>.get2 m1 m2 m3 else none
      |_=>none)else none
    |_=>none
   |_=>none
  |.Dict ks vs _=>if ks.isEmpty&&vs.isEmpty then some .emp else none
  |.ListComp elt gens sc _=>match gens with
   |[g]=>trC n C elt g sc
   |_=>none
  |_=>none
noncomputable def JL:Nat->Ct->List (Option Expr)->List Expr->Option E
 |0,_,_,_=>none
 |n+1,C,ks,vs=>match ks,vs with
  |[],[]=>some .nil
  |some k::ks,v::vs=>(eO n C k).bind fun k=>(eO n C v).bind fun v=>(JL n C ks vs).map fun r=>.cons k (.cons v r)
  |_,_=>none
noncomputable def trC:Nat->Ct->Expr->Comprehension->Scope->Option E
 |0,_,_,_,_=>none
 |n+1,C,elt,g,sc=>if g.is_async=0 then(VN g.target).bind fun(η,tg)=>
   if Wf C.sc sc η C.N then
    let C2:Ct:={C with N:=sy η C.N,sc:=sG sc C.sc}
    (Zb n C g.iter).bind fun it=>(match g.ifs with
     |[]=>some (E.con (.bl true))
     |[c]=>eO n C2 c
     |_=>none).bind fun cond=>(eO n C2 elt).map fun m=>.comp η.length tg it cond m
   else none else none
noncomputable def Zb:Nat->Ct->Expr->Option E
 |0,_,_=>none
 |n+1,C,e=>match e with
  |.Call f args kw cp=>match f,args,kw with
   |.Name x _,[a],[]=>if x="range"&&Aw C.sc x&&(fnAt C x).isNone then(eO n C a).map .range1 else eO n C e
   |.Name x _,[a,b],[]=>if x="zip"&&Aw C.sc x&&(fnAt C x).isNone then(eO n C a).bind fun a=>(eO n C b).map fun b=>.zip a b else eO n C e
   |_,_,_=>eO n C e
  |_=>eO n C e
noncomputable def trB:Nat->Ct->Str->List Expr->Option E
 |0,_,_,_=>none
 |n+1,C,x,args=>match args with
  |[a,t]=>if x="isinstance" then(match t with
    |.Name y _=>if Aw C.sc y then(tyB y).bind fun t=>(eO n C a).map fun a=>.isi a t else none
    |_=>none)else none
  |[a]=>match a with
   |.Call f zs kw _=>(match f,zs,kw with
    |.Name z _,[p,q],[]=>if z="zip"&&Aw C.sc z&&(fnAt C z).isNone then
      (if x="dict" then(eO n C p).bind fun p=>(eO n C q).map fun q=>.bi .dict (.zip p q)
       else if x="list" then(eO n C p).bind fun p=>(eO n C q).map fun q=>.bi .list (.zip p q)else none)
     else(Zy x).bind fun b=>(eO n C a).bind fun m=>if b=.dict&&m.az.isSome then some (.bi b (.rd m))else some (.bi b m)
    |_,_,_=>(Zy x).bind fun b=>(eO n C a).bind fun m=>if b=.dict&&m.az.isSome then some (.bi b (.rd m))else some (.bi b m))
   |a=>(Zy x).bind fun b=>(eO n C a).bind fun m=>if b=.dict&&m.az.isSome then some (.bi b (.rd m))else some (.bi b m)
  |_=>none
noncomputable def Hf:Nat->Ct->List Bool->List Expr->Option E
 |0,_,_,_=>none
 |n+1,C,fl,es=>match fl,es with
  |[],[]=>some .nil
  |false::fl,e::es=>(eO n C e).bind fun m=>(Hf n C fl es).map fun ms=>.cons m ms
  |true::fl,e::es=>(match e with
    |.Name x _=>(j8 C x).bind fun m=>match m with
     |.var k=>some (E.ref k)
     |_=>none
    |e=>(eO n C e).map E.tmp).bind fun m=>(Hf n C fl es).map fun ms=>.cons m ms
  |_,_=>none
noncomputable def Za:Nat->Ct->Option Expr->Option E
 |0,_,_=>none
 |n+1,C,o=>match o with
  |none=>some .noneE
  |some e=>eO n C e
noncomputable def wW:Nat->Ct->List Expr->Option E
 |0,_,_=>none
 |n+1,C,es=>match es with
  |[]=>some .nil
  |e::es=>(eO n C e).bind fun m=>(wW n C es).map fun ms=>.cons m ms
end
noncomputable def Ku(C:Ct)(e f:Option Expr):Nat:=match e,f with
 |some (.Call (.Name x _) [.Constant (.str _) _ _] [] _),none=>if Aw C.sc x&&HQ x then(match pJ C.exs x with|some k=>k+1|none=>0)else 0
 |_,_=>0
def Ib(sc:Scope)(x:Str):Bool:=sc.names.lookup x==some .local||sc.names.lookup x==some .cell
noncomputable def slotsOf(C:Ct):List Expr->Option (List Nat)
 |[]=>some []
 |.Name x _::es=>if Ib C.sc x then(pJ C.N x).bind fun i=>(slotsOf C es).map (i:: ·)else none
 |_=>none
noncomputable def JP(C:Ct):Expr->Option Tg
 |.Name x _=>if Ib C.sc x then(pJ C.N x).map .name else none
 |.Tuple es _ _=>(slotsOf C es).map .tup
 |_=>none
def isTup:Expr->Bool
 |.Tuple .. =>true
 |_=>false
def pK:Expr->Bool
 |.ListComp .. =>true
 |_=>false
def isSlice:Expr->Bool
 |.Slice .. =>true
 |_=>false
def rzB(C:Ct):Expr->Bool
 |.Name x _=>C.rz.contains x
 |_=>false
noncomputable def trX(n:Nat)(C:Ct)(f:Expr)(args:List Expr)(kw:List Keyword):Option S:=
 match f,kw with
 |.Name x _,[]=>if HQ x&&Aw C.sc x then(match fnAt C x with
   |some (g,fl)=>(Hf n C fl args).bind fun m=>if m.Mv then none else some (.callx g m)
   |none=>none)else none
 |_,_=>none
mutual
noncomputable def T7:Nat->Ct->Stmt->Option S
 |0,_,_=>none
 |n+1,C,st=>match st with
  |.Return v _=>match v with
   |none=>some (.ret ABs)
   |some e=>(eO n C e).map .ret
  |.Assign ts e _=>match ts with
   |[t]=>match t with
    |.Name x _=>if Ib C.sc x then(pJ C.N x).bind fun i=>(eO n C e).map fun m=>.set i m else none
    |.Tuple es _ _=>if isTup e||pK e then none else(slotsOf C es).bind fun is=>(eO n C e).map fun m=>.setT is m
    |.Subscript o ix _=>match o with
     |.Name x _=>if pK e||isSlice ix then none else(j8 C x).bind fun v=>match v with
      |.var k=>(eO n C ix).bind fun i=>(eO n C e).map fun m=>.setIx k i m
      |_=>none
     |_=>none
    |_=>none
   |_=>none
  |.Expr e _=>match e with
   |.Call f args kw cp=>match f,args,kw with
    |.Attribute o name ap,[a],[]=>match o with
     |.Name x _=>if Lg ap cp&&name="append" then(j8 C x).bind fun v=>(match v with
       |.var k=>(eO n C a).map fun m=>.append k m
       |_=>none)
      else(eO n C e).map .expr
     |_=>none
    |f,args,kw=>if rzB C f then trX n C f args kw else(eO n C e).map .expr
   |_=>none
  |.If t a b _=>(eO n C t).bind fun t=>(rJ n C a).bind fun a=>(rJ n C b).map fun b=>.ite t a b
  |.For tg it b el _=>match el with
   |[]=>(JP C tg).bind fun tg'=>(Zb n C it).bind fun it=>(rJ n C b).map fun b=>.for_ tg' it b
   |_=>none
  |.While t b el _=>match el with
   |[]=>(eO n C t).bind fun t=>(rJ n C b).map fun b=>.while_ t b
   |_=>none
  |.Raise e f _=>some (.raise (Ku C e f))
  |_=>none
noncomputable def rJ:Nat->Ct->List Stmt->Option S
 |0,_,_=>none
 |n+1,C,ss=>match ss with
  |[]=>some .nil
  |s::ss=>(T7 n C s).bind fun m=>(rJ n C ss).map fun ms=>.cons m ms
end
end Mini
end
section
namespace Mini
open PySem L2
noncomputable def rC:List Str:=["isinstance","tuple","list","str","bool","int","dict","len","all","any","sorted","zip","range","enumerate"]
def YM(X:Cx)(c:Cf)(g:Nat)(x:Str):Prop:=∃k f fd ps,cD X.prog X.w X.K X.mg X.base gn k f fd ps (cG X.K ps.length (c.fn g))/\dH k X.A/\X.mg x=some (.ref f)/\PySem.W.keepIn X.K (.ref f)=true/\Binds X.K fd ps []/\∀sl,c.fn g sl=.bad\/sl.length=ps.length
structure jm(C:Ct)(X:Cx)(c:Cf):Prop where
 N:X.N=C.N
 sc:X.env.scope=C.sc
 nd:C.N.Nodup
 calm:X.calm=true
 hu:X.A.units+60<cLine
 bi:∀x∈rC,X.mg x=none
 gl:∀k x,C.gr[k]? =some x->∃d,c.gl k=some d/\acr X x d
 fn:∀g x fl,C.fns[g]? =some (x,fl)->YM X c g x
structure Sd(X:Cx)(c:Cf)(m:E)(e:Expr):Prop where
 ge:GE X W0 c m e
 gt:GT X W0 c m e
 pl:plain e=true
 va:∀k,m.az=some k->∃x p,e=.Name x p/\jU X k x
 nn:m.jG=false
theorem jD:∀{N:List Str}{x:Str}{k:Nat},pJ N x=some k->N[k]? =some x
 |[],_,_,h=>by cases h
 |y::r,x,k,h=>by
  unfold pJ at h
  split at h
  ·rename_i e;cases h;subst e;rfl
  ·cases q:pJ r x with
   |none=>rw[q]at h;cases h
   |some j=>rw[q]at h;cases h;simpa using jD q
def Vt{x:Str}(h:Vu sc x=true):Jo sc x:=by
 unfold Vu at h
 unfold Jo
 cases q:sc.names.lookup x with
 |none=>rw[q]at h;cases h
 |some k=>rw[q]at h;cases k<;>simp at h<;>simp
def Fo(h:HQ x=true):(x==("__debug__":Str))=false/\(x==("__classdict__":Str))=false:=by
 unfold HQ at h
 rw[QUq]at h
 exact⟨by simpa using h.1,by simpa using h.2⟩
section
def oN(O:jm C X c)(h:Aw C.sc x=true):Gl X x:=by
 unfold Aw at h
 show X.env.scope.names.lookup x=_
 rw[O.sc]
 simpa using h
def bG(h:plain e=true)es env:starEach (e::es) env=(false,eval e env)::starEach es env:=by
 cases e<;>first|rfl|exact absurd (h) Qjq
def tL(h:plain e=true)o:behindInMarks o e=false:=by
 cases e<;>first|rfl|exact absurd (h) Qjq
def yd(h:plain e=true)env x:foldedSetIterable e env x=pure x:=by
 cases e<;>first|rfl|exact absurd (h) Qjq
def BX(h:plain e=true):yC e:=by
 intro o i
 cases e<;>first|rfl|exact absurd (h) Qjq
def tame:Expr->Bool
 |.UnaryOp .Not .. |.BoolOp .. |.IfExp .. |.Compare .. =>false
 |_=>true
def MK(h:GE X W0 c m e)(hp:plain e=true)(ht:tame e=true):GT X W0 c m e:=by
 refine h.t fun whole=>?_
 cases e with
 |UnaryOp o a q=>cases o<;>first|rfl|exact absurd (ht) Qjq
 |_=>first|rfl|exact absurd (hp) Qjq|exact absurd (ht) Qjq
def Et(O:jm C X c)(h:j8 C x=some m):Sd X c m (.Name x p):=by
 unfold j8 at h
 split at h
 ·rename_i nb
  obtain⟨n1,n2⟩:=Fo nb
  cases q:pJ C.N x with
  |some k=>
   rw[q]at h
   simp only at h
   split at h
   ·rename_i hv
    cases h
    have nm:jU X k x:=⟨by rw[O.N];exact jD q,by rw[O.sc];exact Vt hv,n1,n2⟩
    exact⟨nm.ge,MK nm.ge rfl rfl,rfl,fun k' e=>by cases e;exact⟨x,p,rfl,nm⟩,rfl⟩
   ·cases h
  |none=>
   rw[q]at h
   simp only at h
   split at h
   ·rename_i hg
    cases q2:pJ C.gr x with
    |none=>rw[q2]at h;cases h
    |some k=>
     rw[q2]at h
     cases h
     obtain⟨d,hk,ok⟩:=O.gl k x (jD q2)
     have ge:GE X W0 c _ (.Name x p):=R8 hk ok (oN O hg) n1
     exact⟨ge,MK ge rfl rfl,rfl,fun k' e=>(by cases e),rfl⟩
   ·cases h
 ·cases h
def Fp(O:jm C X c)(h:j8 C x=some (.var k)):jU X k x:=by
 obtain⟨y,q,e,nm⟩:=(Et (p:=default) O h).va k rfl
 cases e
 exact nm
inductive Al(X:Cx)(c:Cf):E->List Expr->Prop
 |nil:Al X c .nil []
 |cons {m ms:E} {e:Expr} {es:List Expr}:Sd X c m e->Al X c ms es->Al X c (.cons m ms) (e::es)
theorem Al.ga:∀{ms:E}{es:List Expr},Al X c ms es->GA X W0 c ms es
 |_,_,.nil=>Ni
 |_,_,.cons h t=>Gj h.ge t.ga (bG h.pl _ _)
theorem Al.and{es:List Expr}:∀{m ms:E}{e:Expr},Al X c (.cons m ms) (e::es)->GE X W0 c (.and (.cons m ms)) (.BoolOp .And (e::es) pos)/\GW X W0 c (.and (.cons m ms)) (.BoolOp .And (e::es) pos):=by
 induction es with
 |nil=>intro m ms e h;cases h with|cons h t=>cases t;exact⟨Ss h.ge,R0 h.gt⟩
 |cons e2 es ih=>intro m ms e h;cases h with|cons h t=>cases t with|cons h2 t=>exact⟨Yh h.ge (ih (.cons h2 t)).1,XF h.gt (ih (.cons h2 t)).2⟩
theorem Al.or{es:List Expr}:∀{m ms:E}{e:Expr},Al X c (.cons m ms) (e::es)->GE X W0 c (.or (.cons m ms)) (.BoolOp .Or (e::es) pos)/\GW X W0 c (.or (.cons m ms)) (.BoolOp .Or (e::es) pos):=by
 induction es with
 |nil=>intro m ms e h;cases h with|cons h t=>cases t;exact⟨X5 h.ge,Xy h.gt⟩
 |cons e2 es ih=>intro m ms e h;cases h with|cons h t=>cases t with|cons h2 t=>exact⟨abO h.ge (ih (.cons h2 t)).1,abJ h.gt (ih (.cons h2 t)).2⟩
def W4{q:YK}(h:opB o=some q):o=abf q:=by
 cases o<;>first|(cases (h);rfl)|cases (h)
def Dm{q:Cm}(h:cmB o=some q):o=fX q:=by
 cases o<;>first|(cases (h);rfl)|cases (h)
def N7{d:D}(h:N8 k=some d):HJ d k=true:=by
 cases k<;>simp[N8]at h<;>subst h<;>simp[HJ]
def VJ(h:tyB x=some t):x=Str.ofString (tyN t)/\x∈rC:=by
 unfold tyB at h
 split at h
 ·rename_i e;cases h;subst e;exact⟨rfl,by decide⟩
 split at h
 ·rename_i e;cases h;subst e;exact⟨rfl,by decide⟩
 split at h
 ·rename_i e;cases h;subst e;exact⟨rfl,by decide⟩
 split at h
 ·rename_i e;cases h;subst e;exact⟨rfl,by decide⟩
 split at h
 ·rename_i e;cases h;subst e;exact⟨rfl,by decide⟩
 split at h
 ·rename_i e;cases h;subst e;exact⟨rfl,by decide⟩
 cases h
def U4(O:jm C X c){bb:Bi}(h:Zy x=some bb)(hg:Aw C.sc x=true)(ha:Sd X c m a)(hd:bb=.dict->m.az=none):GE X W0 c (.bi bb m) (.Call (.Name x p) [a] [] pos):=by
 have hs:=bG ha.pl [] X.env
 have hG:=oN O hg
 unfold Zy at h
 split at h
 ·rename_i e;cases h;subst e;exact yc Jg QK ha.ge ha.va hG (O.bi _ (by decide)) PySem.boot_len (by decide) (by decide) hs
 split at h
 ·rename_i e;cases h;subst e;exact Dc Jh QL ha.ge ha.va hG (O.bi _ (by decide)) PyProof.Rows.boot_int (by decide) (by decide) hs
 split at h
 ·rename_i e;cases h;subst e;exact Dc uY Ho ha.ge ha.va hG (O.bi _ (by decide)) PyProof.Rows.boot_tuple (by decide) (by decide) hs
 split at h
 ·rename_i e;cases h;subst e;exact Dc yu Ko ha.ge ha.va hG (O.bi _ (by decide)) PyProof.Rows.boot_list (by decide) (by decide) hs
 split at h
 ·rename_i e;cases h;subst e;exact yc (Jj O.calm) QQ ha.ge ha.va hG (O.bi _ (by decide)) PyProof.Rows.boot_all (by decide) (by decide) hs
 split at h
 ·rename_i e;cases h;subst e;exact yc (Ji O.calm) QM ha.ge ha.va hG (O.bi _ (by decide)) PyProof.Rows.boot_any (by decide) (by decide) hs
 split at h
 ·rename_i e;cases h;subst e;exact yc yt Bt ha.ge ha.va hG (O.bi _ (by decide)) PyProof.Rows.boot_sorted (by decide) (by decide) hs
 split at h
 ·rename_i e;cases h;subst e;exact Sg O.calm ha.ge (hd rfl) hG (O.bi _ (by decide)) hs
 cases h
end
def Bw{env:Env}(h:env.scope=outer):relabel sc env=sG sc outer:=by
 subst h
 rfl
def Kc{η N:List Str}(h:Wf outer inner η N=true):(sy η N).Nodup:=by
 unfold Wf at h
 simp only[QUq,QUz]at h
 exact h.1.1.1.1.1.1.2
def J9{η N:List Str}(h:Wf outer inner η N=true):Jp outer inner η N:=by
 unfold Wf at h
 simp only[QUq,QUz,List.all_eq_true,Bool.or_eq_true,bne_iff_ne,beq_iff_eq,Bool.not_eq_true',ne_eq]at h
 obtain⟨⟨⟨⟨⟨⟨⟨h1,h2⟩,h3⟩,h4⟩,h5⟩,h6⟩,h7⟩,h8⟩:=h
 refine⟨h1,h2,fun x hx=>?_,fun p hp hl=>?_,h4,h5,fun p hp hf=>?_,fun x hx ht=>?_,fun hx=>?_⟩
 ·rcases h3 _ (PySem.mem_of_lookup hx)with z|z
  ·exact absurd rfl z
  ·rcases z.1 with z|z
   ·exact .inl (by simpa using z)
   ·exact .inr z
 ·rcases h3 p hp with z|z
  ·exact absurd hl z
  ·exact z.2
 ·rcases h6 p hp with (z|z)|z
  ·exact absurd hf z
  ·exact .inl z
  ·exact .inr z
 ·rcases h7 x hx with z|z
  ·rw[ht]at z;cases z
  ·simpa using z
 ·have:N.contains (".0")=true:=by simpa using hx
  rw[this]at h8;cases h8
section
variable{sc:Scope}
theorem jm.blk(O:jm C X c)(hs:Wf C.sc sc η C.N=true){fp:List Addr}{H₀:Hp}:jm {C with N:=sy η C.N,sc:=sG sc C.sc} (Mini.blk X sc cl (cB η X.N) fp s₀ H₀) c:=
 ⟨by show cB η X.N=sy η C.N;rw[O.N];rfl,Bw O.sc,Kc hs,O.calm,O.hu,O.bi,O.gl,O.fn⟩
theorem tE{sc:Scope}{N:List Str}:∀{es:List Expr}{xs:List Str}(k:Nat),es.mapM uR=some xs->(∀j x,xs[j]? =some x->N[k+j]? =some x)->(∀x∈xs,sc.names.lookup x=some .local)->iI sc N (List.range' k xs.length) es=true
 |[],xs,k,h,_,_=>by
  simp at h;subst h;rfl
 |e::es,xs,k,h,hN,hl=>by
  rw[List.mapM_cons]at h
  cases q:uR e with
  |none=>rw[q]at h;cases h
  |some x=>
   rw[q]at h
   cases q2:es.mapM uR with
   |none=>rw[q2]at h;cases h
   |some ys=>
    rw[q2]at h
    cases h
    cases e<;>simp[uR]at q
    subst q
    rw[QAz,List.range'_succ]
    unfold iI
    rw[tE _ q2 (fun j y e=>by have:=hN (j+1) y (by simpa using e);rw[<-this];congr 1;omega) (fun y hy=>hl y (QYq _ hy))]
    have:=hN 0 _ rfl
    simp at this
    simp[this,hl _ QYz]
theorem tH:∀{es:List Expr}{xs:List Str},es.mapM uR=some xs->(assignEach es env).length=xs.length/\(assignEach es env).findIdx? (·.1)=none
 |[],xs,h=>by simp at h;subst h;exact⟨rfl,rfl⟩
 |e::es,xs,h=>by
  rw[List.mapM_cons]at h
  cases q:uR e with
  |none=>rw[q]at h;cases h
  |some x=>
   rw[q]at h
   cases q2:es.mapM uR with
   |none=>rw[q2]at h;cases h
   |some ys=>
    rw[q2]at h
    cases h
    obtain⟨i1,i2⟩:=tH (env:=env) q2
    cases e<;>simp[uR]at q
    constructor
    ·show(_::assignEach es env).length=_
     simp[i1]
    ·show(List.findIdx? (·.1) ((false,_)::assignEach es env))=none
     rw[List.findIdx?_cons]
     simp[i2]
def aah(O:jm C X c){tgE:Expr}(ht:VN tgE=some (η,tg))(hs:Wf C.sc sc η C.N=true):(∀i∈slots tg,i<η.length)/\∀(cl:List (Str×Addr))(fp:List Addr)(s₀:Shared)(H₀:Hp),GG (Mini.blk X sc cl (cB η X.N) fp s₀ H₀) tg tgE:=by
 have lc:∀x∈η,∀cl fp s₀ H₀,(Mini.blk X sc cl (cB η X.N) fp s₀ H₀).env.scope.names.lookup x=some .local:=fun x hx cl fp s₀ H₀=>lookup_relabel_local ((J9 hs).tg x hx)
 have nd:∀cl fp s₀ H₀,(Mini.blk X sc cl (cB η X.N) fp s₀ H₀).N.Nodup:=fun cl fp s₀ H₀=>by
  rw[O.N]
  exact Kc hs
 cases tgE<;>simp only[VN]at ht<;>try (cases ht;done)
 ·rename_i x q
  cases ht
  refine⟨fun i hi=>?_,fun cl fp s₀ H₀=>xZ (nd cl fp s₀ H₀) rfl (.inl (lc x (by simp) cl fp s₀ H₀)) (.inr (lc x (by simp) cl fp s₀ H₀))⟩
  simp[slots]at hi
  subst hi
  simp
 ·rename_i es k q
  cases qm:es.mapM uR with
  |none=>rw[qm]at ht;cases ht
  |some xs=>
   rw[qm]at ht
   cases ht
   refine⟨fun i hi=>by simpa[slots]using hi,fun cl fp s₀ H₀=>?_⟩
   obtain⟨l1,l2⟩:=tH qm
   refine CT (nd cl fp s₀ H₀) O.calm (Li ?_) (by simp[l1]) l2
   have:=tE (N:=(Mini.blk X sc cl (cB η X.N) fp s₀ H₀).N) 0 qm (fun j x e=>?_) (fun x hx=>lc x hx cl fp s₀ H₀)
   ·rwa[List.range_eq_range']
   ·show(cB η X.N)[0+j]? =some x
    unfold cB
    rw[Nat.zero_add,Qwq (QCq.mp e).1]
    exact e
end
inductive Ar(X:Cx)(c:Cf):E->List Expr->Prop
 |nil:Ar X c .nil []
 |cons {m ms:E} {e:Expr} {es:List Expr}:GE X W0 c m e->plain e=true->Ar X c ms es->Ar X c (.cons m ms) (e::es)
theorem Ar.ga{c:Cf}:∀{ms:E}{es:List Expr},Ar X c ms es->GA X W0 c ms es
 |_,_,.nil=>Ni
 |_,_,.cons h p t=>Gj h t.ga (bG p _ _)
theorem Ar.plain{c:Cf}:∀{ms:E}{es:List Expr},Ar X c ms es->(backTo pos (starEach es X.env)).any (·.1)=false
 |_,_,.nil=>rfl
 |_,_,.cons h p t=>by
  rw[bG p]
  have:=t.plain (pos:=pos)
  simpa[backTo]using this
def DY(X:Cx)(c:Cf)(m:E)(elt:Expr)(g:Comprehension)(sc:Scope):Prop:=
 ∃η tg it cond m',m=.comp η.length tg it cond m'/\Aq X c sc η tg cond m' g.target elt g.ifs/\GI X W0 c it g.target g.iter/\plain g.iter=true/\g.is_async=0
structure Ih(c:Cf)(n:Nat):Prop where
 e:∀C X e m,jm C X c->eO n C e=some m->Sd X c m e
 es:∀C X es m,jm C X c->wW n C es=some m->Al X c m es
 a:∀C X fl es m,jm C X c->Hf n C fl es=some m->Ar X c m es
 o:∀C X o m,jm C X c->Za n C o=some m->GO X W0 c m o
 b:∀C X x args m p pos,jm C X c->Aw C.sc x=true->trB n C x args=some m->GE X W0 c m (.Call (.Name x p) args [] pos)/\m.az=none/\m.jG=false
 i:∀C X tg e m,jm C X c->Zb n C e=some m->GI X W0 c m tg e/\plain e=true
 k:∀C X elt g sc m,jm C X c->trC n C elt g sc=some m->DY X c m elt g sc
 d:∀C X ks vs m,jm C X c->JL n C ks vs=some m->∃Hd,Kv X W0 c m ks vs Hd/\ks.all (·.isSome)=true
def ih0 c:Ih c 0:=by
 constructor
 all_goals (intros;rename_i h;first|(rw[eO]at h;cases h)|(rw[wW]at h;cases h)|(rw[Hf]at h;cases h)|(rw[Za]at h;cases h)|(rw[trB]at h;cases h)|(rw[Zb]at h;cases h)|(rw[trC]at h;cases h)|(rw[JL]at h;cases h))
section
def Qq(I:Ih c n)(O:jm C X c)(h:wW (n+1) C es=some m):Al X c m es:=by
 cases es with
 |nil=>rw[wW]at h;cases h;exact .nil
 |cons e es=>
  rw[wW]at h
  simp only[QJq,QJz]at h
  obtain⟨m1,h1,m2,h2,rfl⟩:=h
  exact .cons (I.e C X e m1 O h1) (I.es C X es m2 O h2)
def V7(I:Ih c n)(O:jm C X c){vs:List Expr}(h:JL (n+1) C ks vs=some m):∃Hd,Kv X W0 c m ks vs Hd/\ks.all (·.isSome)=true:=by
 unfold JL at h
 split at h
 ·cases h;exact⟨[],.nil,rfl⟩
 ·simp only[QJq,QJz]at h
  obtain⟨k1,h1,v1,h2,r,h3,rfl⟩:=h
  obtain⟨Hd,K,a⟩:=I.d C X _ _ r O h3
  exact⟨_,.cons (I.e C X _ k1 O h1).ge (I.e C X _ v1 O h2).ge K,by simpa using a⟩
 ·cases h
def V3(I:Ih c n)(O:jm C X c)(h:Za (n+1) C o=some m):GO X W0 c m o:=by
 cases o with
 |none=>rw[Za]at h;cases h;exact .inl ⟨rfl,rfl⟩
 |some e=>
  have s:=I.e C X e m O h
  exact .inr ⟨e,rfl,s.nn,s.ge⟩
def V9(I:Ih c n)(O:jm C X c){es:List Expr}(h:Hf (n+1) C fl es=some m):Ar X c m es:=by
 cases fl with
 |nil=>
  cases es with
  |nil=>rw[Hf]at h;cases h;exact .nil
  |cons e es=>rw[Hf]at h<;>first|cases h|(intros;simp_all)
 |cons f fl=>
  cases es with
  |nil=>rw[Hf]at h<;>first|cases h|(intros;simp_all)
  |cons e es=>
   cases f with
   |false=>
    rw[Hf]at h
    simp only[QJq,QJz]at h
    obtain⟨m1,h1,m2,h2,rfl⟩:=h
    have s:=I.e C X e m1 O h1
    exact .cons s.ge s.pl (I.a C X fl es m2 O h2)
   |true=>
    by_cases hN:∃x p,e=.Name x p
    ·obtain⟨x,p,rfl⟩:=hN
     rw[Hf]at h
     simp only[QJq,QJz]at h
     obtain⟨m1,⟨m3,h3,h4⟩,m2,h2,rfl⟩:=h
     split at h4
     ·cases h4
      exact .cons (X4 (Fp O h3)) rfl (I.a C X fl es m2 O h2)
     ·cases h4
    ·rw[Hf]at h
     ·simp only[QJq,QJz]at h
      obtain⟨m1,⟨m3,h3,rfl⟩,m2,h2,rfl⟩:=h
      have s:=I.e C X e m3 O h3
      exact .cons (XX s.ge) s.pl (I.a C X fl es m2 O h2)
     ·exact fun x p z=>hN ⟨x,p,z⟩
def Wj{x:Str}(O:jm C X c)(h:(decide (x="range")&&Aw C.sc x&&(fnAt C x).isNone)=true):x="range"/\Gl X "range":=by
 simp only[QUq,QUz]at h
 obtain⟨⟨rfl,h2⟩,_⟩:=h
 exact⟨rfl,oN O h2⟩
def ZZ{x:Str}(O:jm C X c)(h:(decide (x="zip")&&Aw C.sc x&&(fnAt C x).isNone)=true):x="zip"/\Gl X "zip":=by
 simp only[QUq,QUz]at h
 obtain⟨⟨rfl,h2⟩,_⟩:=h
 exact⟨rfl,oN O h2⟩
def V5(I:Ih c n)(O:jm C X c)(h:Zb (n+1) C e=some m):GI X W0 c m tg e/\plain e=true:=by
 have dflt:eO n C e=some m->GI X W0 c m tg e/\plain e=true:=fun h=>let s:=I.e C X e m O h;⟨abN s.ge,s.pl⟩
 unfold Zb at h
 split at h
 ·split at h
  ·split at h
   ·rename_i hr
    obtain⟨rfl,hg⟩:=Wj O hr
    simp only[QJz]at h
    obtain⟨m1,h1,rfl⟩:=h
    have s:=I.e C X _ m1 O h1
    exact⟨Jb s.ge hg (O.bi _ (by decide)) (bG s.pl _ _),rfl⟩
   ·exact dflt h
  ·split at h
   ·rename_i hr
    obtain⟨rfl,hg⟩:=ZZ O hr
    simp only[QJq,QJz]at h
    obtain⟨m1,h1,m2,h2,rfl⟩:=h
    have s1:=I.e C X _ m1 O h1
    have s2:=I.e C X _ m2 O h2
    exact⟨XQ s1.ge s2.ge hg (O.bi _ (by decide)) (by rw[bG s1.pl,bG s2.pl];rfl) (bG s2.pl _ _),rfl⟩
   ·exact dflt h
  ·exact dflt h
 ·exact dflt h
def V4(I:Ih c n)(O:jm C X c){g:Comprehension}(h:trC (n+1) C elt g sc=some m):DY X c m elt g sc:=by
 rw[trC]at h
 split at h
 ·rename_i ha
  simp only[QJq]at h
  obtain⟨⟨η,tg⟩,ht,h⟩:=h
  split at h
  ·rename_i hs
   simp only[QJq,QJz]at h
   obtain⟨it,h1,cond,h2,m',h3,rfl⟩:=h
   obtain⟨sm,gg⟩:=aah O ht hs
   obtain⟨gi,gp⟩:=I.i C X g.target g.iter it O h1
   refine⟨η,tg,it,cond,m',rfl,⟨by rw[O.sc,O.N];exact J9 hs,sm,fun cl fp s₀ H₀ _=>gg cl fp s₀ H₀,?_,fun cl fp s₀ H₀ _=>(I.e _ _ elt m' (O.blk hs) h3).ge⟩,gi,gp,ha⟩
   split at h2
   ·rename_i hi
    cases h2
    exact .inl ⟨hi,rfl⟩
   ·rename_i ce hi
    exact .inr ⟨ce,hi,fun cl fp s₀ H₀ _=>(I.e _ _ ce cond (O.blk hs) h2).gt⟩
   ·cases h2
  ·cases h
 ·cases h
end
section
theorem Le(I:Ih c n)(O:jm C X c){a:Expr}(hg:Aw C.sc x=true)(h:((Zy x).bind fun b=>(eO n C a).bind fun m=>if (decide (b=.dict)&&m.az.isSome)=true then some (E.bi b (.rd m))else some (E.bi b m))=some m):
  GE X W0 c m (.Call (.Name x p) [a] [] pos)/\m.az=none/\m.jG=false:=by
 simp only[QJq]at h
 obtain⟨bb,h1,m1,h2,h3⟩:=h
 split at h3
 ·cases h3
  have s:=I.e C X a m1 O h2
  exact⟨U4 O h1 hg ⟨(fun env=>PE.imp (s.ge env) fun σ H Q q=>by simpa only[Jz]using q),fun γ sh σ H Q I⟨env,q⟩=>s.gt γ sh σ H Q I ⟨env,by simpa only[Jz]using q⟩,s.pl,fun k z=>(by cases z),rfl⟩ fun _=>rfl,rfl,rfl⟩
 ·rename_i hn
  cases h3
  refine⟨U4 O h1 hg (I.e C X a m1 O h2) (fun z=>?_),rfl,rfl⟩
  subst z
  cases q:m1.az with
  |none=>rfl
  |some k=>rw[q]at hn;exact absurd rfl hn
def V8(I:Ih c n)(O:jm C X c){args:List Expr}(hg:Aw C.sc x=true)(h:trB (n+1) C x args=some m):GE X W0 c m (.Call (.Name x p) args [] pos)/\m.az=none/\m.jG=false:=by
 unfold trB at h
 split at h
 ·--isinstance
  split at h
  ·rename_i hx
   subst hx
   split at h
   ·split at h
    ·rename_i hy
     simp only[QJq,QJz]at h
     obtain⟨t,h1,m1,h2,rfl⟩:=h
     have s:=I.e C X _ m1 O h2
     obtain⟨e1,e2⟩:=VJ h1
     exact⟨Yc s.ge e1 (oN O hy) (O.bi _ e2) (oN O hg) (O.bi _ (by decide)) (bG s.pl _ _),rfl,rfl⟩
    ·cases h
   ·cases h
  ·cases h
 ·split at h
  ·split at h
   ·split at h
    ·rename_i hz
     obtain⟨rfl,hgz⟩:=ZZ O hz
     split at h
     ·rename_i hx
      subst hx
      simp only[QJq,QJz]at h
      obtain⟨m1,h1,m2,h2,rfl⟩:=h
      have s1:=I.e C X _ m1 O h1
      have s2:=I.e C X _ m2 O h2
      exact⟨CZ O.calm s1.ge s2.ge hgz (O.bi _ (by decide)) (by rw[bG s1.pl,bG s2.pl];rfl) (bG s2.pl _ _) (oN O hg) (O.bi _ (by decide)) rfl,rfl,rfl⟩
     ·split at h
      ·rename_i hx
       subst hx
       simp only[QJq,QJz]at h
       obtain⟨m1,h1,m2,h2,rfl⟩:=h
       have s1:=I.e C X _ m1 O h1
       have s2:=I.e C X _ m2 O h2
       exact⟨CW O.calm s1.ge s2.ge hgz (O.bi _ (by decide)) (by rw[bG s1.pl,bG s2.pl];rfl) (bG s2.pl _ _) (oN O hg) (O.bi _ (by decide)) rfl,rfl,rfl⟩
      ·cases h
    ·exact Le I O hg h
   ·exact Le I O hg h
  ·exact Le I O hg h
 ·cases h
def ik(ge:GE X W0 c m e)(hp:plain e=true)(hv:m.az=none)(hi:m.jG=false)(ht:tame e=true):Sd X c m e:=
 ⟨ge,MK ge hp ht,hp,fun k z=>(by rw[hv]at z;cases z),hi⟩
def hu1(O:jm C X c):X.A.units+1<cLine:=by have:=O.hu;omega
def Sv{g:Nat}(h:fnAt C x=some (g,fl)):C.fns[g]? =some (x,fl):=by
 unfold fnAt at h
 simp only[QJq,QJz]at h
 obtain⟨g',h1,⟨y,fl'⟩,h2,h3⟩:=h
 cases h3
 have:=jD h1
 rw[QEz,h2]at this
 simp at this
 rw[h2,this]
def mC{name:Str}(h:isCall o=false):attributeBase o name env (eval o env)=eval o env:=by
 cases o<;>first|rfl|simp[isCall]at h
def V6(I:Ih c n)(O:jm C X c){e:Expr}(h:eO (n+1) C e=some m):Sd X c m e:=by
 have no:∀{P:Prop},(none:Option E)=some m->P:=fun z=>nomatch z
 unfold eO at h
 split at h
 ·simp only[QJz]at h
  obtain⟨d,h1,rfl⟩:=h
  exact ik (Ye (N7 h1)) rfl rfl rfl rfl
 ·exact Et O h
 ·simp only[QJz]at h
  obtain⟨m1,h1,rfl⟩:=h
  exact ik (XS (I.es C X _ m1 O h1).ga) rfl rfl rfl rfl
 ·simp only[QJz]at h
  obtain⟨m1,h1,rfl⟩:=h
  exact ik (X8 (I.es C X _ m1 O h1).ga) rfl rfl rfl rfl
 ·simp only[QJq,QJz]at h
  obtain⟨o,h0,m1,h1,m2,h2,rfl⟩:=h
  rw[W4 h0]
  exact ik (abP (I.e C X _ m1 O h1).ge (I.e C X _ m2 O h2).ge) rfl rfl rfl rfl
 ·split at h
  ·simp only[QJz]at h
   obtain⟨m1,h1,rfl⟩:=h
   exact ik (X7 (I.e C X _ m1 O h1).ge) rfl rfl rfl rfl
  ·simp only[QJz]at h
   obtain⟨m1,h1,rfl⟩:=h
   have s:=I.e C X _ m1 O h1
   exact⟨X6 s.ge,Xz s.gt,rfl,fun k z=>(by cases z),rfl⟩
  ·exact no h
 ·simp only[QJq]at h
  obtain⟨m1,h1,h2⟩:=h
  have A:=I.es C X _ m1 O h1
  split at h2
  ·exact no h2
  ·rename_i hn
   cases A with
   |nil=>exact absurd rfl hn
   |cons s t=>
    split at h2
    ·cases h2
     exact⟨(Al.cons s t).and.1,(Al.cons s t).and.2.t,rfl,fun k z=>(by cases z),rfl⟩
    ·cases h2
     exact⟨(Al.cons s t).or.1,(Al.cons s t).or.2.t,rfl,fun k z=>(by cases z),rfl⟩
 ·split at h
  ·simp only[QJq,QJz]at h
   obtain⟨o,h0,m1,h1,m2,h2,rfl⟩:=h
   rw[Dm h0]
   have s1:=I.e C X _ m1 O h1
   have s2:=I.e C X _ m2 O h2
   exact⟨Yg (pq O.hu o) s1.ge s2.ge s2.va (tL s2.pl _),XD (pq O.hu o) s1.ge s2.ge s2.va (tL s2.pl _),rfl,fun k z=>(by cases z),rfl⟩
  ·simp only[QJq,QJz]at h
   obtain⟨o,h0,o2,h02,m1,h1,m2,h2,m3,h3,rfl⟩:=h
   rw[Dm h0,Dm h02]
   have s1:=I.e C X _ m1 O h1
   have s2:=I.e C X _ m2 O h2
   have s3:=I.e C X _ m3 O h3
   have hm:∀b,lastMarks [fX o,fX o2] [b,_]=false:=fun b=>tL s3.pl (fX o2)
   exact⟨Nh (pq O.hu o) (pq O.hu o2) s1.ge s2.ge s3.ge (hm _),MN (pq O.hu o) (pq O.hu o2) s1.ge s2.ge s3.ge (hm _),rfl,fun k z=>(by cases z),rfl⟩
  ·exact no h
 ·simp only[QJq,QJz]at h
  obtain⟨m1,h1,m2,h2,m3,h3,rfl⟩:=h
  have s1:=I.e C X _ m1 O h1
  have s2:=I.e C X _ m2 O h2
  have s3:=I.e C X _ m3 O h3
  exact⟨Yb s1.gt s2.ge s3.ge,XC s1.gt s2.gt s3.gt,rfl,fun k z=>(by cases z),rfl⟩
 ·split at h
  ·split at h
   ·simp only[QJq,QJz]at h
    obtain⟨m1,h1,m2,h2,m3,h3,rfl⟩:=h
    exact ik (X3 (I.e C X _ m1 O h1).ge (I.o C X _ m2 O h2) (I.o C X _ m3 O h3)) rfl rfl rfl rfl
   ·exact no h
  ·simp only[QJq,QJz]at h
   obtain⟨m1,h1,m2,h2,rfl⟩:=h
   have s1:=I.e C X _ m1 O h1
   have s2:=I.e C X _ m2 O h2
   exact ik (Yd (by have:=O.hu;omega) s1.ge s2.ge s1.va (BX s2.pl)) rfl rfl rfl rfl
 ·split at h
  ·split at h
   ·split at h
    ·rename_i hx
     rw[QUq]at hx
     split at h
     ·rename_i g fl hf
      simp only[QJq]at h
      obtain⟨m1,h1,h2⟩:=h
      split at h2
      ·exact no h2
      ·rename_i hn
       cases h2
       have A:=I.a C X _ _ m1 O h1
       obtain⟨k,f,fd,ps,F,hr,hm,hk,hb,hl⟩:=O.fn g _ fl (Sv hf)
       cases A with
       |nil=>exact absurd rfl hn
       |cons ge pl t=>
        exact ik (Sq F hr (oN O hx.2) hm hk hb (Fo hx.1).1 (Ar.cons ge pl t).ga (bG pl _ _) t.plain hl) rfl rfl rfl rfl
     ·obtain⟨ge,h1,h2⟩:=I.b C X _ _ m _ _ O hx.2 h
      exact ik ge rfl h1 h2 rfl
    ·exact no h
   ·split at h
    ·rename_i hl
     split at h
     ·split at h
      ·rename_i hx
       subst hx
       simp only[QJq,QJz]at h
       obtain⟨m1,h1,u,h0,m2,h2,rfl⟩:=h
       split at h0
       ·rename_i hp
        rw[QUq]at hp
        have s1:=I.e C X _ m1 O h1
        have s2:=I.e C X _ m2 O h2
        exact ik (Ng ⟨mC (by simpa using hp.2),hl,bG s2.pl _ _⟩ s1.ge s2.ge) rfl rfl rfl rfl
       ·cases h0
      ·split at h
       ·rename_i hx
        subst hx
        split at h
        ·simp only[QJq]at h
         obtain⟨v,h1,h2⟩:=h
         split at h2
         ·simp only[QJz]at h2
          obtain⟨m2,h3,rfl⟩:=h2
          have s2:=I.e C X _ m2 O h3
          exact ik (M9 ⟨rfl,hl,bG s2.pl _ _⟩ (Fp O h1) s2.ge) rfl rfl rfl rfl
         ·exact no h2
        ·exact no h
       ·split at h
        ·rename_i hx
         subst hx
         simp only[QJq,QJz]at h
         obtain⟨m1,h1,u,h0,m2,h2,rfl⟩:=h
         split at h0
         ·rename_i hp
          rw[QUq]at hp
          have s1:=I.e C X _ m1 O h1
          have s2:=I.e C X _ m2 O h2
          exact ik (Nb ⟨mC (by simpa using hp.2),hl,bG s2.pl _ _⟩ s1.ge s2.ge) rfl rfl rfl rfl
         ·cases h0
        ·exact no h
     ·split at h
      ·rename_i hx
       subst hx
       simp only[QJq,QJz]at h
       obtain⟨m1,h1,u,h0,m2,h2,m3,h3,rfl⟩:=h
       split at h0
       ·rename_i hp
        rw[QUq]at hp
        have s1:=I.e C X _ m1 O h1
        have s2:=I.e C X _ m2 O h2
        have s3:=I.e C X _ m3 O h3
        exact ik (R9 (hu1 O) ⟨mC (by simpa using hp.2),by rw[bG s2.pl,bG s3.pl];rfl,hl,by rw[bG s2.pl,bG s3.pl];rfl⟩ s1.va s1.ge s2.ge s3.ge) rfl rfl rfl rfl
       ·cases h0
      ·exact no h
     ·exact no h
    ·exact no h
   ·exact no h
  ·exact no h
 ·split at h
  ·rename_i hx
   simp only[QUq,List.isEmpty_iff]at hx
   obtain⟨rfl,rfl⟩:=hx
   cases h
   exact ik Nf rfl rfl rfl rfl
  ·exact no h
 ·split at h
  ·rename_i elt sc pos g
   obtain⟨η,tg,it,cond,m',rfl,B,gi,gp,ha⟩:=I.k C X _ _ _ m O h
   obtain⟨ta,ti,tf,tn⟩:=g
   simp only at ha
   subst ha
   exact ik (Sh B gi O.calm (fun x=>yd gp _ _)) rfl rfl rfl rfl
  ·exact no h
 ·exact no h
end
theorem ih c:∀n,Ih c n
 |0=>ih0 c
 |n+1=>let I:=ih c n
  ⟨fun C X e m O h=>V6 I O h,fun C X es m O h=>Qq I O h,fun C X fl es m O h=>V9 I O h,fun C X o m O h=>V3 I O h,fun C X x args m p pos O hg h=>V8 I O hg h,fun C X tg e m O h=>V5 I O h,fun C X elt g sc m O h=>V4 I O h,fun C X ks vs m O h=>V7 I O h⟩
def NE{α:Type}(r:Out α):Prop:=∀k σ,r≠ .exc k σ
section
theorem NE.ok(a:α)σ:NE (.ok a σ):=fun _ _ z=>nomatch z
theorem NE.bad:NE (.bad:Out α):=fun _ _ z=>nomatch z
theorem NE.lift σ(o:Option α):NE (lift σ o):=by cases o<;>(intro _ _ z;cases z)
theorem NE.bind{f:α->Ev->Out β}(h:NE r)(g:∀a σ,NE (f a σ)):NE (r.bind f):=by
 cases r with
 |ok a σ=>exact g a σ
 |exc k σ=>exact absurd rfl (h k σ)
 |bad=>exact NE.bad
theorem NE.ak{f:D->Ev->Out β}(h:NE r)(g:∀a σ,NE (f a σ)):NE (r.ak f):=by
 cases r with
 |ok a σ=>cases a<;>first|exact g _ _|exact NE.bad
 |exc k σ=>exact absurd rfl (h k σ)
 |bad=>exact NE.bad
theorem NE.cT{r:Out Rv}{f:Bool->Ev->Out β}(h:NE r)(g:∀a σ,NE (f a σ)):NE (r.cT tr f):=
 NE.ak h fun d σ=>by
  cases tr d with
  |none=>exact NE.bad
  |some b=>exact g b σ
def NE.ite{p:Prop}[Decidable p]{a b:Out α}(h:NE a)(g:NE b):NE (if p then a else b):=by split<;>assumption
end
def Ry c f as σ:NE (ux c f as σ):=by
 unfold ux
 split
 ·exact NE.bad
 ·split
  ·split
   ·exact NE.ok _ _
   ·exact NE.bad
  ·exact NE.bad
def W5 k y σ:NE (sV k y σ):=by
 unfold sV
 split
 ·refine NE.ite NE.bad ?_
  split
  ·split
   ·exact NE.ok _ _
   ·exact NE.bad
  ·exact NE.bad
 ·exact NE.bad
def Rx k σ:NE (sH k σ):=by
 unfold sH
 split<;>first|exact NE.ok _ _|exact NE.bad
def xO(c:Cf):∀(m:E)(σ:Ev),NE (ev c m σ)/\NE (evs c m σ)/\NE (iK c m σ)/\NE (oV c m σ):=by
 have k3:∀{m:E},(∀σ,NE (ev c m σ))->(∀σ,evs c m σ=.bad)->(∀σ,iK c m σ=.bad)->(∀σ,oV c m σ=.bad)->∀σ,NE (ev c m σ)/\NE (evs c m σ)/\NE (iK c m σ)/\NE (oV c m σ):=fun h a b d σ=>by
  rw[a,b,d]
  exact⟨h σ,NE.bad,NE.bad,NE.bad⟩
 intro m
 induction m with
 |var i=>exact k3 (fun σ=>Rx i σ) (fun _=>rfl) (fun _=>rfl) fun _=>rfl
 |con d=>exact k3 (fun σ=>NE.ok _ _) (fun _=>rfl) (fun _=>rfl) fun _=>rfl
 |glob k=>exact k3 (fun σ=>by rw[Z6];split<;>first|exact NE.ok _ _|exact NE.bad) (fun _=>rfl) (fun _=>rfl) fun _=>rfl
 |nil=>exact fun σ=>⟨NE.bad,NE.ok _ _,NE.bad,NE.bad⟩
 |cons h t ih jh=>
  intro σ
  refine⟨NE.bad,NE.bind (ih σ).1 fun x σ=>NE.bind (jh σ).2.1 fun _ _=>NE.ok _ _,?_,?_⟩
  ·cases t with
   |nil=>exact(ih σ).1
   |_=>exact NE.ak (ih σ).1 fun x σ=>(by split<;>first|exact(jh σ).2.2.1|exact NE.ok _ _|exact NE.bad)
  ·cases t with
   |nil=>exact(ih σ).1
   |_=>exact NE.ak (ih σ).1 fun x σ=>(by split<;>first|exact(jh σ).2.2.2|exact NE.ok _ _|exact NE.bad)
 |tup es ih=>exact k3 (fun σ=>NE.bind (ih σ).2.1 fun _ _=>NE.lift _ _) (fun _=>rfl) (fun _=>rfl) fun _=>rfl
 |lis es ih=>exact k3 (fun σ=>NE.bind (ih σ).2.1 fun _ _=>NE.lift _ _) (fun _=>rfl) (fun _=>rfl) fun _=>rfl
 |op o a b ih jh=>exact k3 (fun σ=>NE.ak (ih σ).1 fun _ σ=>NE.ak (jh σ).1 fun _ _=>NE.lift _ _) (fun _=>rfl) (fun _=>rfl) fun _=>rfl
 |neg a ih=>exact k3 (fun σ=>NE.ak (ih σ).1 fun _ σ=>NE.lift _ _) (fun _=>rfl) (fun _=>rfl) fun _=>rfl
 |cmp o a b ih jh=>exact k3 (fun σ=>NE.ak (ih σ).1 fun _ σ=>by split<;>first|exact NE.lift _ _|exact NE.ak (jh σ).1 fun _ _=>NE.lift _ _) (fun _=>rfl) (fun _=>rfl) fun _=>rfl
 |chain o p a b d ih jh kh=>exact k3 (fun σ=>NE.ak (ih σ).1 fun _ σ=>NE.ak (jh σ).1 fun _ σ=>NE.bind (NE.lift _ _) fun _ σ=>NE.ite (NE.ak (kh σ).1 fun _ _=>NE.lift _ _) (NE.ok _ _)) (fun _=>rfl) (fun _=>rfl) fun _=>rfl
 |and es ih=>exact k3 (fun σ=>(ih σ).2.2.1) (fun _=>rfl) (fun _=>rfl) fun _=>rfl
 |or es ih=>exact k3 (fun σ=>(ih σ).2.2.2) (fun _=>rfl) (fun _=>rfl) fun _=>rfl
 |not a ih=>exact k3 (fun σ=>NE.cT (ih σ).1 fun _ _=>NE.ok _ _) (fun _=>rfl) (fun _=>rfl) fun _=>rfl
 |ite t a b ih jh kh=>exact k3 (fun σ=>NE.cT (ih σ).1 fun _ σ=>NE.ite (jh σ).1 (kh σ).1) (fun _=>rfl) (fun _=>rfl) fun _=>rfl
 |idx a i ih jh=>exact k3 (fun σ=>by rw[Ha];split<;>first|exact NE.ite NE.bad (NE.ak (jh σ).1 fun _ _=>NE.lift _ _)|exact NE.ak (ih σ).1 fun _ σ=>NE.ak (jh σ).1 fun _ _=>NE.lift _ _) (fun _=>rfl) (fun _=>rfl) fun _=>rfl
 |slc a lo hi ih jh kh=>exact k3 (fun σ=>NE.ak (ih σ).1 fun _ σ=>NE.ak (jh σ).1 fun _ σ=>by split<;>first|exact NE.bad|exact NE.ak (kh σ).1 fun _ _=>NE.lift _ _) (fun _=>rfl) (fun _=>rfl) fun _=>rfl
 |noneE=>exact k3 (fun σ=>NE.ok _ _) (fun _=>rfl) (fun _=>rfl) fun _=>rfl
 |call f as ih=>exact k3 (fun σ=>NE.bind (ih σ).2.1 fun _ _=>Ry _ _ _ _) (fun _=>rfl) (fun _=>rfl) fun _=>rfl
 |ref i=>exact k3 (fun σ=>by rw[JB];split<;>first|exact NE.ok _ _|exact NE.bad) (fun _=>rfl) (fun _=>rfl) fun _=>rfl
 |tmp e ih=>exact k3 (fun σ=>NE.bind (ih σ).1 fun _ _=>NE.lift _ _) (fun _=>rfl) (fun _=>rfl) fun _=>rfl
 |rd e ih=>exact k3 (fun σ=>(ih σ).1) (fun _=>rfl) (fun _=>rfl) fun _=>rfl
 |isi a t ih=>exact k3 (fun σ=>NE.ak (ih σ).1 fun _ _=>NE.ok _ _) (fun _=>rfl) (fun _=>rfl) fun _=>rfl
 |bi b a ih=>exact k3 (fun σ=>by rw[o5];split<;>first|exact NE.lift _ _|exact NE.ak (ih σ).1 fun _ _=>NE.lift _ _) (fun _=>rfl) (fun _=>rfl) fun _=>rfl
 |range1 a ih=>exact k3 (fun σ=>NE.ak (ih σ).1 fun _ _=>NE.lift _ _) (fun _=>rfl) (fun _=>rfl) fun _=>rfl
 |range2 a b ih jh=>exact k3 (fun σ=>NE.ak (ih σ).1 fun _ σ=>NE.ak (jh σ).1 fun _ _=>NE.lift _ _) (fun _=>rfl) (fun _=>rfl) fun _=>rfl
 |zip a b ih jh=>exact k3 (fun σ=>NE.ak (ih σ).1 fun _ σ=>NE.ak (jh σ).1 fun _ _=>NE.lift _ _) (fun _=>rfl) (fun _=>rfl) fun _=>rfl
 |count a b ih jh=>exact k3 (fun σ=>NE.ak (ih σ).1 fun _ σ=>NE.ite NE.bad (NE.ak (jh σ).1 fun _ _=>NE.lift _ _)) (fun _=>rfl) (fun _=>rfl) fun _=>rfl
 |popAt i a ih=>exact k3 (fun σ=>NE.ite NE.bad (NE.ak (ih σ).1 fun _ _=>W5 _ _ _)) (fun _=>rfl) (fun _=>rfl) fun _=>rfl
 |index a b ih jh=>exact k3 (fun σ=>NE.ak (ih σ).1 fun _ σ=>NE.ite NE.bad (NE.ak (jh σ).1 fun _ _=>NE.lift _ _)) (fun _=>rfl) (fun _=>rfl) fun _=>rfl
 |get2 a b d ih jh kh=>
  refine k3 (fun σ=>?_) (fun _=>rfl) (fun _=>rfl) fun _=>rfl
  rw[Vw]
  split
  ·exact NE.ite NE.bad (NE.ak (jh σ).1 fun _ σ=>NE.ak (kh σ).1 fun _ _=>NE.lift _ _)
  ·exact NE.bad
 |dsp es ih=>exact k3 (fun σ=>NE.bind (ih σ).2.1 fun _ _=>NE.lift _ _) (fun _=>rfl) (fun _=>rfl) fun _=>rfl
 |emp=>exact k3 (fun σ=>NE.ok _ _) (fun _=>rfl) (fun _=>rfl) fun _=>rfl
 |comp nl tg it cond elt ih _ _=>
  refine k3 (fun σ=>?_) (fun _=>rfl) (fun _=>rfl) fun _=>rfl
  rw[nO]
  refine NE.ak (ih σ).1 fun _ σ=>?_
  split
  ·split
   ·exact NE.ok _ _
   ·exact NE.bad
  ·exact NE.bad
section
def GE.w(h:GE X W0 c m e):GE X W c m e:=fun env=>PE.imp (h env) fun σ H Q⟨S,q⟩=>by
 refine⟨S,?_⟩
 cases r:ev c m env with
 |exc k ζ=>exact absurd r ((xO c m env).1 k ζ)
 |_=>rw[r]at q;exact q
def GA.w(h:GA X W0 c m es):GA X W c m es:=fun env p γ s σ H R I q=>h env p γ s σ H R I (by
 obtain⟨S,q⟩:=q
 refine⟨S,?_⟩
 cases r:evs c m env with
 |exc k ζ=>exact absurd r ((xO c m env).2.1 k ζ)
 |_=>rw[r]at q;exact q)
def GT.w(h:GT X W0 c m e):GT X W c m e:=PT.imp h fun σ H Q⟨env,S,q⟩=>by
 refine⟨env,S,?_⟩
 cases r:ev c m env with
 |exc k ζ=>exact absurd r ((xO c m env).1 k ζ)
 |_=>rw[r]at q;exact q
def GI.w(h:GI X W0 c m tg e):GI X W c m tg e:=fun env γ s σ H R I q=>h env γ s σ H R I (by
 obtain⟨S,q⟩:=q
 refine⟨S,?_⟩
 cases r:ev c m env with
 |exc k ζ=>exact absurd r ((xO c m env).1 k ζ)
 |_=>rw[r]at q;exact q)
end
structure Top(C:Ct)(X:Cx)(W:Wi)(c:Cf):Prop where
 fn:∀x,X.fn x=true
 po:PassesOwn (model X.prog X.w) X.A X.env X.xe
 ra:∀e f p n m,T7 (n+1) C (.Raise e f p)=some m->GS X W c m (.Raise e f p)
 cx:∀f args kw cp p n m,Ih c n->rzB C f=true->trX n C f args kw=some m->GS X W c m (.Expr (.Call f args kw cp) p)
section
theorem SJ(O:jm C X c):∀{n:Nat}{elt:Expr}{gens:List Comprehension}{sc:Scope}{pos:Pos},eO n C (.ListComp elt gens sc pos)=some m->∃g,gens=[g]/\DY X c m elt g sc
 |0,_,_,_,_,h=>by rw[eO]at h;cases h
 |n+1,elt,gens,sc,pos,h=>by
  unfold eO at h
  simp only at h
  split at h
  ·exact⟨_,rfl,(ih c n).k C X _ _ _ m O h⟩
  ·cases h
def tO(O:jm C X c)(h:Ib C.sc x=true):Loc X.env.scope x:=by
 unfold Ib at h
 rw[O.sc]
 rw[Bool.or_eq_true]at h
 rcases h with h|h
 ·exact .inl (by simpa using h)
 ·exact .inr (by simpa using h)
def nT{t:Option Expr}{env:Env}(hp:plain e=true)(hc:pK e=false):swapsWith e t l env=pure false:=by
 cases e<;>first|rfl|exact absurd (hp) Qjq|exact absurd (hc) (fun h=>Qjq h.symm)
def Bm{es:List Expr}{q:Pos}(h:isTup e=false):swappedStores [.Tuple es k q] e env=pure none:=by
 cases e<;>first|rfl|exact absurd (h) (fun h=>Qjq h.symm)
def yZ{q:Pos}:swappedStores [.Subscript o i q] e env=pure none:=by
 cases e<;>rfl
def Er{l:Nat}:swapsWithSole [t] e l env=swapsWith e (some t) l env:=rfl
def Tc{tp:Pos}{v:Value}(h:isSlice i=false):assign (.Subscript o i tp) env v=(do
   let ov<-holding [v] (eval o env)
   let iv<-holding [v,ov] (eval i env)
   standAt tp
   holding [v,ov,iv] (setItem ov iv v)
   release [v,ov,iv] []):=by
 cases i<;>first|rfl|(simp[isSlice]at h;done)
theorem rY(O:jm C X c)(T:Top C X W c):∀{es:List Expr}{is:List Nat},slotsOf C es=some is->uF X is es/\(assignEach es X.env).length=is.length/\(assignEach es X.env).findIdx? (·.1)=none
 |[],is,h=>by cases h;exact⟨.nil,rfl,rfl⟩
 |e::es,is,h=>by
  cases e<;>simp only[slotsOf]at h<;>try (cases h;done)
  rename_i x q
  split at h
  ·rename_i hl
   simp only[QJq,QJz]at h
   obtain⟨i,h1,js,h2,rfl⟩:=h
   obtain⟨a1,a2,a3⟩:=rY O T h2
   refine⟨.cons (by rw[O.N];exact jD h1) (tO O hl) (.inl (T.fn x)) a1,?_,?_⟩
   ·show(_::assignEach es X.env).length=_
    simp[a2]
   ·show(List.findIdx? (·.1) ((false,_)::assignEach es X.env))=none
    rw[List.findIdx?_cons]
    simp[a3]
  ·cases h
def vO(O:jm C X c):X.N.Nodup:=by rw[O.N];exact O.nd
def JN(O:jm C X c)(T:Top C X W c){e:Expr}(h:JP C e=some tg):GG X tg e:=by
 cases e<;>simp only[JP]at h<;>try (cases h;done)
 ·rename_i x q
  split at h
  ·rename_i hl
   simp only[QJz]at h
   obtain⟨i,h1,rfl⟩:=h
   exact xZ (vO O) (by rw[O.N];exact jD h1) (tO O hl) (.inl (T.fn x))
  ·cases h
 ·simp only[QJz]at h
  obtain⟨is,h1,rfl⟩:=h
  obtain⟨a1,a2,a3⟩:=rY O T h1
  exact CT (vO O) O.calm a1 a2 a3
theorem IK(O:jm C X c)(T:Top C X W c){scope:Scope}{tg:Tg}{it cond elt:E}{ifs:List Expr}{i:Nat}(B:Aq X c scope η tg cond elt tgE Φ ifs)(hi:GI X W c it tgE ο)(gp:plain ο=true)
  (ge:GE X W c (.comp η.length tg it cond elt) (.ListComp Φ [⟨tgE,ο,ifs,0⟩] scope cp))(hN:X.N[i]? =some x)(hl:Ib C.sc x=true):
  GS X W c (.set i (.comp η.length tg it cond elt)) (.Assign [.Name x np] (.ListComp Φ [⟨tgE,ο,ifs,0⟩] scope cp) sp):=by
 have key:∃b:Bool,swapsWith (.ListComp Φ [⟨tgE,ο,ifs,0⟩] scope cp) (some (.Name x np)) sp.line X.env=pure b:=⟨_,rfl⟩
 obtain⟨b,hb⟩:=key
 cases b with
 |false=>exact M4 ge (vO O) hN (tO O hl) (.inl (T.fn x)) hb
 |true=>exact CQ B hi O.calm (fun x=>yd gp _ _) (vO O) hN (tO O hl) (.inl (T.fn x)) hb
structure IhS(c:Cf)(n:Nat):Prop where
 s:∀C X W st m,jm C X c->Top C X W c->T7 n C st=some m->GS X W c m st
 ss:∀C X W st m,jm C X c->Top C X W c->rJ n C st=some m->PB X W c m st
def afo c:IhS c 0:=by
 constructor
 all_goals (intros;rename_i h;first|(rw[T7]at h;cases h)|(rw[rJ]at h;cases h))
def Qo(I:IhS c n)(O:jm C X c)(T:Top C X W c){m:S}(h:rJ (n+1) C st=some m):PB X W c m st:=by
 cases st with
 |nil=>rw[rJ]at h;cases h;exact R3
 |cons s st=>
  rw[rJ]at h
  simp only[QJq,QJz]at h
  obtain⟨m1,h1,m2,h2,rfl⟩:=h
  exact MP (I.s C X W s m1 O T h1) (I.ss C X W st m2 O T h2)
def V2(I:IhS c n)(O:jm C X c)(T:Top C X W c){st:Stmt}{m:S}(h0:T7 (n+1) C st=some m):GS X W c m st:=by
 have J:=ih c n
 have no:∀{P:Prop},(none:Option S)=some m->P:=fun z=>nomatch z
 have h:=h0
 unfold T7 at h
 split at h
 ·split at h
  ·cases h;exact R5
  ·simp only[QJz]at h
   obtain⟨m1,h1,rfl⟩:=h
   have s:=J.e C X _ m1 O h1
   exact XH s.ge.w s.va
 ·split at h
  ·split at h
   ·rename_i e _ _ _ x _
    split at h
    ·rename_i hl
     simp only[QJq,QJz]at h
     obtain⟨i,h1,m1,h2,rfl⟩:=h
     have s:=J.e C X _ m1 O h2
     have hN:X.N[i]? =some x:=by rw[O.N];exact jD h1
     cases hc:pK e with
     |false=>exact M4 s.ge.w (vO O) hN (tO O hl) (.inl (T.fn x)) (nT s.pl hc)
     |true=>
      cases e<;>simp[pK]at hc
      rename_i elt gens sc cp
      obtain⟨g,rfl,η,tg,it,cond,m',rfl,B,gi,gp,ha⟩:=SJ O h2
      obtain⟨ta,ti,tf,tn⟩:=g
      simp only at ha
      subst ha
      exact IK O T B gi.w gp s.ge.w hN hl
    ·exact no h
   ·split at h
    ·exact no h
    ·rename_i hx
     rw[Bool.not_eq_true,Bool.or_eq_false_iff]at hx
     simp only[QJq,QJz]at h
     obtain⟨is,h1,m1,h2,rfl⟩:=h
     have s:=J.e C X _ m1 O h2
     obtain⟨a1,a2,a3⟩:=rY O T h1
     exact R4 s.ge.w (CT (vO O) O.calm a1 a2 a3) (by rw[Er];exact nT s.pl hx.2) (Bm hx.1) rfl
   ·split at h
    ·split at h
     ·exact no h
     ·rename_i hx
      rw[Bool.not_eq_true,Bool.or_eq_false_iff]at hx
      simp only[QJq]at h
      obtain⟨v,h1,h⟩:=h
      split at h
      ·simp only[QJq,QJz]at h
       obtain⟨i,h2,m1,h3,rfl⟩:=h
       have s1:=J.e C X _ i O h2
       have s:=J.e C X _ m1 O h3
       exact M3 (Fp O h1) s.ge.w s1.ge.w (fun v=>Tc hx.2) (by rw[Er];exact nT s.pl hx.1) yZ (by have:=O.hu;omega) rfl
      ·exact no h
    ·exact no h
   ·exact no h
  ·exact no h
 ·--an expression alone
  split at h
  ·have dflt:∀(e:Expr)(q:Pos),pK e=false->(eO n C e).map S.expr=some m->GS X W c m (.Expr e q):=fun e q hc z=>by
    simp only[QJz]at z
    obtain⟨m1,h1,rfl⟩:=z
    have s:=J.e C X _ m1 O h1
    exact R6 s.ge.w (nT s.pl hc)
   split at h
   ·split at h
    ·split at h
     ·rename_i hx
      simp only[QUq,QUz]at hx
      obtain⟨hl,rfl⟩:=hx
      simp only[QJq]at h
      obtain⟨v,h1,h⟩:=h
      split at h
      ·simp only[QJz]at h
       obtain⟨m1,h2,rfl⟩:=h
       have s:=J.e C X _ m1 O h2
       exact IV ⟨rfl,hl,bG s.pl _ _⟩ (Fp O h1) s.ge.w
      ·exact no h
     ·exact dflt _ _ rfl h
    ·exact no h
   ·split at h
    ·rename_i hz
     exact T.cx _ _ _ _ _ _ _ J hz h
    ·exact dflt _ _ rfl h
  ·exact no h
 ·simp only[QJq,QJz]at h
  obtain⟨t,h1,a,h2,b,h3,rfl⟩:=h
  exact abK (J.e C X _ t O h1).gt.w (I.ss C X W _ a O T h2) (I.ss C X W _ b O T h3)
 ·split at h
  ·simp only[QJq,QJz]at h
   obtain⟨tg,h1,it,h2,b,h3,rfl⟩:=h
   obtain⟨gi,gp⟩:=J.i C X _ _ it O h2
   exact XJ T.po O.calm gi.w (JN O T h1) (I.ss C X W _ b O T h3) (fun x=>yd gp _ _)
  ·exact no h
 ·split at h
  ·simp only[QJq,QJz]at h
   obtain⟨t,h1,b,h3,rfl⟩:=h
   exact MT T.po (J.e C X _ t O h1).gt.w (I.ss C X W _ b O T h3)
  ·exact no h
 ·exact T.ra _ _ _ _ _ h0
 ·exact no h
end
def QV{e f:Option Expr}{n:Nat}(h:T7 (n+1) C (.Raise e f p)=some m):m=.raise (Ku C e f):=by
 unfold T7 at h
 cases h
 rfl
def aaF(hz:C.rz=[])f:rzB C f=false:=by
 cases f<;>first|rfl|(unfold rzB;rw[hz];rfl)
def Top.plain{X:Cx}(hf:∀x,X.fn x=true)(hp:PassesOwn (model X.prog X.w) X.A X.env X.xe)(hz:C.rz=[]):Top C X W0 c:=
 ⟨hf,hp,fun e f p n m h=>by rw[QV h];exact M5,fun f _ _ _ _ _ _ _ z=>by rw[aaF hz f]at z;cases z⟩
theorem ihS c:∀n,IhS c n
 |0=>afo c
 |n+1=>let I:=ihS c n
  ⟨fun C X W st m O T h=>V2 I O T h,fun C X W st m O T h=>Qo I O T h⟩
structure Df where
 x:Str
 st:Stmt
 N:List Str
 ps:List Str
 fl:List Bool
 exs:List Str:=[]
 rz:List Str:=[]
def adU(ds:List Df):List (Str×List Bool):=ds.map fun d=>(d.x,d.fl)
noncomputable def Dh(ds:List Df)(gr:List Str)(d:Df):Ct:={N:=d.N,sc:=aq d.st,fns:=adU ds,gr:=gr,exs:=d.exs}
noncomputable def fnOf(ds:List Df)(gr:List Str)(d:Df):Option Fn:=(rJ 60 (Dh ds gr d) (cF d.st)).map fun b=>{pars:=d.ps.length,names:=d.N.length,body:=b}
structure wR(K:QQq)(mg:QZz)(d:Df)(f:Addr)(fd:FuncData):Prop where
 fu:GP K d.x d.x d.st f fd
 bi:Binds K fd d.ps []
 at_:mg d.x=some (.ref f)
section
variable{P:Program}{w:World}{base:Heap}{p:Pg}{fa:Nat->Addr}{fd:Nat->FuncData}
end
theorem Wb{K:QQq}{H:Hp}{ns:List Int}(hO:Only H)(hS:lG K H a (ns.map V.int))(hf:∃qs,f [.val (.lst (ns.map D.int))]=.ok (.val (.bl true)) qs)E:
  cG K 1 f [.ref a] H (fun v _=>v=.bl true) E:=by
 have den:bj K H (.lst (ns.map D.int)) (.ref a):=by
  have fr:Pa K H a (ns.map V.int):=by
   rcases hS with (h|⟨o,h⟩)|h
   ·rcases hO a with z|⟨o,xs,z⟩
    ·rw[z]at h;cases h
    ·rw[z]at h;cases h
   ·exact .inl ⟨o,h⟩
   ·exact .inr h
  have l:∀(ns:List Int),ao K H (ns.map D.int) (ns.map V.int):=fun ns=>by
   induction ns with
   |nil=>exact ao.eX
   |cons i r ih=>exact ao.bA rfl ih
  exact⟨a,_,rfl,fr,l ns⟩
 obtain⟨qs,hf⟩:=hf
 refine⟨[.val (.lst (ns.map D.int))],rfl,⟨rfl,fun i s e=>?_,fun i j b h1=>?_⟩,fun i o e=>?_,?_⟩
 ·cases i with
  |zero=>simp at e;subst e;exact⟨.ref a,rfl,den⟩
  |succ i=>simp at e
 ·obtain⟨⟨s,o,e1,e2⟩,_⟩:=h1
  cases i with
  |zero=>simp at e1;subst e1;cases e2
  |succ i=>simp at e1
 ·cases i with
  |zero=>simp at e
  |succ i=>simp at e
 ·rw[hf]
  exact fun v H' _ z=>z
def WN(a:Arguments):List Str:=a.args.map (·.arg)
noncomputable def namesOf(st:Stmt):List Str:=WN (dF st)++(((aq st).names.filter fun p=>(p.2== .local||p.2== .cell)&& !(WN (dF st)).contains p.1).map (·.1))
noncomputable def cL(x:Str)(st:Stmt)(fl:List Bool):Df:={x:=x,st:=st,N:=namesOf st,ps:=WN (dF st),fl:=fl}
noncomputable def J8(d:Df):Bool:=
 decide ((aq d.st).kind=.function)&& !(aq d.st).isCoroutine&& !(aq d.st).isGenerator&&decide d.N.Nodup&&decide (d.N.take d.ps.length=d.ps)
 &&(d.ps.all fun x=>(aq d.st).names.lookup x==some .local||(aq d.st).names.lookup x==some .cell)&&((aq d.st).names.all fun y=>y.2 != .free)
def Eu(h:J8 d=true):eF d.N d.ps (aq d.st):=by
 unfold J8 at h
 simp only[QUq,QUz,Bool.not_eq_true',List.all_eq_true,Bool.or_eq_true,beq_iff_eq,bne_iff_ne,ne_eq]at h
 obtain⟨⟨⟨⟨⟨⟨h1,h2⟩,h3⟩,h4⟩,h5⟩,h6⟩,h7⟩:=h
 exact⟨h1,h2,h3,h4,h5,h6,h7⟩
noncomputable def Z7:Value->D->Bool
 |.none,.non=>true
 |.bool a,.bl b=>a==b
 |.int i _,.int j=>i==j
 |.str x _,.str y=>decide (x=y)
 |_,_=>false
noncomputable def G9:List Value->List D->Bool
 |[],[]=>true
 |u::us,d::ds=>Z7 u d&&G9 us ds
 |_,_=>false
noncomputable def JH(o:Obj)(ds:List D):Bool:=o.cls== .type "tuple"&&o.dict.isNone&&match o.data with
 |.seq its _=>G9 its.toList ds&&decide (its.size<=1000)
 |_=>false
def Tr(K:QQq)(mg:QZz)(x:Str)(d:D):Prop:=∃v u,mg x=some u/\RelV v u/\∀H,bj K H d v
def JD{u:Value}(h:Z7 u d=true):∃v,RelV v u/\∀H,bj K H d v:=by
 cases u<;>cases d<;>simp[Z7]at h
 ·exact⟨.non,rfl,fun H=>rfl⟩
 ·subst h;exact⟨.bl _,rfl,fun H=>rfl⟩
 ·subst h;exact⟨.int _,⟨_,rfl⟩,fun H=>rfl⟩
 ·subst h;exact⟨.str _,⟨_,rfl⟩,fun H=>rfl⟩
theorem Eg:∀{us:List Value}{ds:List D},G9 us ds=true->∃vs,Vals vs us/\∀H,ao K H ds vs
 |[],[]=>fun _=>⟨[],.nil,fun H=>ao.eX⟩
 |u::us,d::ds=>fun h=>by
  unfold G9 at h
  rw[QUq]at h
  obtain⟨v,r,e⟩:=JD h.1
  obtain⟨vs,rs,es⟩:=Eg h.2
  exact⟨v::vs,.cons r rs,fun H=>ao.bA (e H) (es H)⟩
 |[],_::_=>fun h=>by simp[G9]at h
 |_::_,[]=>fun h=>by simp[G9]at h
section
def XM(X:K.In h)(G:h.Ns mainGlobals mg)(e:PySem.W.nsIn K mainGlobals x=some (some u))(hv:Z7 u d=true):Tr K mg x d:=by
 obtain⟨v,r,q⟩:=JD hv
 exact⟨v,u,PySem.W.mg_of X G e,r,q⟩
def XN(X:K.In h)(G:h.Ns mainGlobals mg)(e:PySem.W.nsIn K mainGlobals x=some (some (.ref a)))(l:K.lookup a=some o)(hv:JH o ds=true):Tr K mg x (.tup ds):=by
 unfold JH at hv
 simp only[QUq,beq_iff_eq,Option.isNone_iff_eq_none]at hv
 obtain⟨⟨hc,hd⟩,hv⟩:=hv
 split at hv
 ·rename_i its n hs
  rw[QUq,QUz]at hv
  obtain⟨vs,r,q⟩:=Eg hv.1
  exact⟨.ref a,_,PySem.W.mg_of X G e,rfl,fun H=>fD (.inr ⟨o,its,n,l,hc,hd,hs,Nat.le_of_lt (Hk hv.2),r⟩) (q H)⟩
 ·cases hv
end
noncomputable def GX(K:QQq)(mg:QZz):List Df->List (Addr×FuncData)->Prop
 |[],[]=>True
 |d::ds,(f,fd)::r=>wR K mg d f fd/\GX K mg ds r
 |_,_=>False
theorem GX.at{K:QQq}{mg:QZz}:∀{ds:List Df}{fs:List (Addr×FuncData)},GX K mg ds fs->∀(i:Nat)d,ds[i]? =some d->∃q,fs[i]? =some q/\wR K mg d q.1 q.2
 |[],_,_,i=>fun d e=>by simp at e
 |_::_,[],h,_=>fun _ _=>h.elim
 |d::ds,(f,fd)::r,h,0=>fun d' e=>by cases e;exact⟨(f,fd),rfl,h.1⟩
 |d::ds,_::r,h,i+1=>fun d' e=>h.2.at i d' e
noncomputable def GQ(K:QQq)(mg:QZz):List Str->List D->Prop
 |[],[]=>True
 |x::xs,d::ds=>Tr K mg x d/\GQ K mg xs ds
 |_,_=>False
theorem GQ.at{K:QQq}{mg:QZz}:∀{xs:List Str}{ds:List D},GQ K mg xs ds->∀(k:Nat)x,xs[k]? =some x->∃d,ds[k]? =some d/\Tr K mg x d
 |[],_,_,k=>fun x e=>by simp at e
 |_::_,[],h,_=>fun _ _=>h.elim
 |x::xs,d::ds,h,0=>fun x' e=>by cases e;exact⟨d,rfl,h.1⟩
 |x::xs,d::ds,h,k+1=>fun x' e=>h.2.at k x' e
def Pb(K:QQq)(x:Str)(st:Stmt):Prop:=∃(f:Addr)(od an:Option Addr)(sl:Array (Option Value))(oc kV dc pm cd ct:Value),
 PySem.W.nsIn K mainGlobals x=some (some (.ref f))/\K.lookup f=some ⟨oc,od,.func (PySem.W.fnOf x x (dF st) (cF st) (aq st) .none kV dc pm an cd ct),sl⟩/\PySem.W.codeIn K cd x=true/\PySem.W.keepIn K (.ref f)=true
def dIn{x:Str}{f:Addr}{od an:Option Addr}{oc kV dc pm cd ct:Value}(a:PySem.W.nsIn K mainGlobals x=some (some (.ref f)))
  (l:K.lookup f=some ⟨oc,od,.func (PySem.W.fnOf x x (dF st) (cF st) (aq st) .none kV dc pm an cd ct),sl⟩)(c:PySem.W.codeIn K cd x=true)(p:PySem.W.keepIn K (.ref f)=true):Pb K x st:=⟨f,od,an,sl,oc,kV,dc,pm,cd,ct,a,l,c,p⟩
def AllIn(K:QQq):List (Str×Stmt)->Prop
 |[]=>True
 |(x,s)::r=>Pb K x s/\AllIn K r
def Bd(d:Df):Prop:=∀(kV dc pm:Value)(an:Option Addr)(cd ct:Value)(us:List Value),us.length=d.ps.length->bindArgs (PySem.W.fnOf d.x d.x (dF d.st) (cF d.st) (aq d.st) .none kV dc pm an cd ct) ⟨us,[]⟩=pure (d.ps.zip us)
def qJ{us:List Value}(h:us.length=1):∃a,us=[a]:=List.length_eq_one_iff.mp h
def RK{us:List Value}(h:us.length=n+1):∃a r,us=a::r/\r.length=n:=by
 cases us with
 |nil=>simp at h
 |cons a r=>exact⟨a,r,rfl,by simpa using h⟩
def pH{us:List Value}(h:us.length=2):∃a b,us=[a,b]:=by
 obtain⟨a,r,rfl,h2⟩:=RK h;obtain⟨b,rfl⟩:=qJ h2;exact⟨a,b,rfl⟩
def j0{us:List Value}(h:us.length=3):∃a b c,us=[a,b,c]:=by
 obtain⟨a,r,rfl,h2⟩:=RK h;obtain⟨b,c,rfl⟩:=pH h2;exact⟨a,b,c,rfl⟩
def xT{us:List Value}(h:us.length=4):∃a b c d,us=[a,b,c,d]:=by
 obtain⟨a,r,rfl,h2⟩:=RK h;obtain⟨b,c,d,rfl⟩:=j0 h2;exact⟨a,b,c,d,rfl⟩
def aeO{us:List Value}(h:us.length=5):∃a b c d e,us=[a,b,c,d,e]:=by
 obtain⟨a,r,rfl,h2⟩:=RK h;obtain⟨b,c,d,e,rfl⟩:=xT h2;exact⟨a,b,c,d,e,rfl⟩
def GR:List Df->Prop
 |[]=>True
 |d::r=>Bd d/\GR r
inductive YL(K:QQq)(x:Str):D->Prop
 |v {u:Value} {d:D}:PySem.W.nsIn K mainGlobals x=some (some u)->Z7 u d=true->YL K x d
 |t {a:Addr} {o:Obj} {ds:List D}:PySem.W.nsIn K mainGlobals x=some (some (.ref a))->K.lookup a=some o->JH o ds=true->YL K x (.tup ds)
noncomputable def yE(K:QQq):List Str->List D->Prop
 |[],[]=>True
 |x::xs,d::ds=>YL K x d/\yE K xs ds
 |_,_=>False
noncomputable def Pq(K:QQq):List Str->Prop
 |[]=>True
 |x::r=>PySem.W.nsIn K mainGlobals x=some none/\Pq K r
section
theorem OD(X:K.In h)(G:h.Ns mainGlobals mg):∀(ds:List Df),GR ds->AllIn K (ds.map fun d=>(d.x,d.st))->
  ∃fs,GX K mg ds fs/\∀(i:Nat)d,ds[i]? =some d->∃q,fs[i]? =some q/\wR K mg d q.1 q.2/\∀(s:Shared)(us:List Value),us.length=d.ps.length->BindsTo s q.2 ⟨us,[]⟩ (d.ps.zip us)
 |[],_,_=>⟨[],trivial,fun i d e=>by simp at e⟩
 |d::ds,⟨b,bs⟩,⟨⟨f,od,an,sl,oc,kV,dc,pm,cd,ct,a,l,c,p⟩,is⟩=>by
  obtain⟨fs,A,B⟩:=OD X G ds bs is
  have F:=Nj l c p
  have D:wR K mg d f _:=⟨F,F.binds b,PySem.W.mg_of X G a⟩
  refine⟨(f,_)::fs,⟨D,A⟩,fun i e he=>?_⟩
  cases i with
  |zero=>cases he;exact⟨_,rfl,D,fun s us hl=>.of_eq (b kV dc pm an cd ct us hl)⟩
  |succ i=>exact B i e he
theorem Oz(X:K.In h)(G:h.Ns mainGlobals mg):∀(xs:List Str)(ds:List D),yE K xs ds->GQ K mg xs ds
 |[],[],_=>trivial
 |_::xs,_::ds,⟨g,r⟩=>⟨by cases g with
  |v e hv=>exact XM X G e hv
  |t e l hv=>exact XN X G e l hv,Oz X G xs ds r⟩
 |[],_::_,h=>h.elim
 |_::_,[],h=>h.elim
theorem Ox(X:K.In h)(G:h.Ns mainGlobals mg):∀(xs:List Str),Pq K xs->∀x∈xs,mg x=none
 |[],_=>fun x hx=>by cases hx
 |_::r,⟨e,es⟩=>fun x hx=>by
  rcases QBz.mp hx with rfl|hx
  ·exact PySem.W.mg_none_of X G e
  ·exact Ox X G r es x hx
end
section
@[simp]theorem adh{f:α->Ev->Out β}:(Out.ok a σ).bind f=f a σ:=rfl
@[simp]theorem ab4{f:α->Ev->Out β}:(Out.exc k σ).bind f=.exc k σ:=rfl
@[simp]theorem ab5{f:α->Ev->Out β}:(Out.bad:Out α).bind f=.bad:=rfl
@[simp]theorem cJ{f:D->Ev->Out β}:(Out.ok (.val d) σ).ak f=f d σ:=rfl
@[simp]theorem my{f:D->Ev->Out β}:(Out.ok (.new o) σ).ak f=f o.d σ:=rfl
@[simp]theorem Zw{f:D->Ev->Out β}:(Out.exc k σ).ak f=.exc k σ:=rfl
@[simp]theorem Zx{f:D->Ev->Out β}:(Out.bad).ak f=.bad:=rfl
@[simp]theorem fY{f:Bool->Ev->Out β}:(Out.ok (.val (.bl b)) σ).cT jq f=f b σ:=rfl
@[simp]theorem Zt{f:Bool->Ev->Out β}:(Out.ok (.val (.int i)) σ).cT jq f=f (i !=0) σ:=rfl
@[simp]theorem Zq{f:Bool->Ev->Out β}:(Out.ok (.val (.tup xs)) σ).cT jq f=f (!xs.isEmpty) σ:=rfl
@[simp]theorem Zr{f:Bool->Ev->Out β}:(Out.ok (.val (.lst xs)) σ).cT jq f=f (!xs.isEmpty) σ:=rfl
@[simp]theorem Zu{f:Bool->Ev->Out β}:(Out.exc k σ).cT jq f=.exc k σ:=rfl
@[simp]theorem Zv{f:Bool->Ev->Out β}:(Out.bad).cT jq f=.bad:=rfl
@[simp]theorem agq{a:α}:(Out.ok a σ).fl f=f a σ:=rfl
@[simp]theorem afy:(Out.exc k σ:Out α).fl f=.exc k σ:=rfl
@[simp]theorem afz:(Out.bad:Out α).fl f=.bad:=rfl
@[simp]theorem ac2:(Out.ok (.val d) σ).m9 f=f d σ:=rfl
@[simp]theorem ac3:(Out.ok (.new o) σ).m9 f=f o.d σ:=rfl
@[simp]theorem ac4:(Out.exc k σ).m9 f=.exc k σ:=rfl
@[simp]theorem ac5:(Out.bad).m9 f=.bad:=rfl
@[simp]theorem afA:(Out.ok (.val (.bl b)) σ).Nm f=f b σ:=rfl
@[simp]theorem ac0:(Out.exc k σ).Nm f=.exc k σ:=rfl
@[simp]theorem ac1:(Out.bad).Nm f=.bad:=rfl
@[simp]theorem vR{a:α}:Mini.lift σ (some a)=.ok a σ:=rfl
@[simp]theorem Zh:Mini.lift σ (none:Option α)=.bad:=rfl
@[simp]theorem aaC:(Fl.next σ).seq f=f σ:=rfl
@[simp]theorem acI{f:Ev->Fl}:(Fl.ret r σ).seq f=.ret r σ:=rfl
@[simp]theorem acJ:(Fl.exc k σ).seq f=.exc k σ:=rfl
@[simp]theorem acK:(Fl.brk σ).seq f=.brk σ:=rfl
@[simp]theorem aaD:(Fl.cont σ).seq f=.cont σ:=rfl
@[simp]theorem acL:(Fl.bad).seq f=.bad:=rfl
@[simp]theorem o6:(Fl.next σ).turn f=f σ:=rfl
@[simp]theorem Y9:(Fl.cont σ).turn f=f σ:=rfl
@[simp]theorem aab:(Fl.brk σ).turn f=.next σ:=rfl
@[simp]theorem Z9{f:Ev->Fl}:(Fl.ret r σ).turn f=.ret r σ:=rfl
@[simp]theorem aaa:(Fl.exc k σ).turn f=.exc k σ:=rfl
@[simp]theorem aac:(Fl.bad).turn f=.bad:=rfl
@[simp]theorem aaG:uN (.val d) σ=.ret (.val d) σ:=rfl
@[simp]theorem aaH:uN (.new o) σ=.ret (.new o) σ:=rfl
@[simp]theorem abh:yF (some τ)=.next τ:=rfl
@[simp]theorem abi:yF none=.bad:=rfl
@[simp]theorem ace:argv (.val d)=.val d:=rfl
@[simp]theorem ach:argv (.new o)=.val o.d:=rfl
@[simp]theorem acg:argv (.ref k)=.ref k:=rfl
@[simp]theorem acf:argv (.tmp o)=.tmp o:=rfl
@[simp]theorem aaw:Rv.Bq (.val d)=some (.val d):=rfl
@[simp]theorem aax:Rv.Bq (.new o)=some (.own o):=rfl
@[simp]theorem ade:Rv.lw (.val d)=some d:=rfl
@[simp]theorem adf:Rv.lw (.new o)=some o.d:=rfl
@[simp]theorem U6:Ob.d (.lst xs)=.lst xs:=rfl
@[simp]theorem agX:Ob.d (.dct xs ys)=.cP xs ys:=rfl
@[simp]theorem acT:zP (.tup xs)=some xs.length:=rfl
@[simp]theorem acU:zP (.lst xs)=some xs.length:=rfl
@[simp]theorem adl:b1 .len (.tup xs)=some (.val (.int xs.length)):=rfl
@[simp]theorem adm:b1 .len (.lst xs)=some (.val (.int xs.length)):=rfl
@[simp]theorem adn:b1 .int (.int i)=some (.val (.int i)):=rfl
@[simp]theorem ado:b1 .int (.bl b)=some (.val (.int (b2i b))):=rfl
@[simp]theorem ab6:b1 .tuple d=(bJ d).bind fun xs=>some (.val (.tup xs)):=rfl
@[simp]theorem adk:b1 .list d=(Qz d).bind fun xs=>some (.new (.lst xs)):=rfl
@[simp]theorem adV xs:Qz (.tup xs)=some xs:=rfl
@[simp]theorem adW xs:Qz (.lst xs)=some xs:=rfl
@[simp]theorem Ot:b1 .all d=(bJ d).bind fun xs=>(bools xs).map fun bs=>.val (.bl (bs.all id)):=rfl
@[simp]theorem af4:b1 .any d=(bJ d).bind fun xs=>(bools xs).map fun bs=>.val (.bl (bs.any id)):=rfl
@[simp]theorem adp:b1 .dict d=(bJ d).bind fun xs=>(dictOf [] [] xs).map fun p=>.new (.dct p.1 p.2):=rfl
@[simp]theorem Zz:b1 .sorted d=(jf d).bind fun xs=>(qg xs).map fun ys=>.new (.lst ys):=rfl
@[simp]theorem Zc:bJ (.tup xs)=some xs:=rfl
@[simp]theorem vA:bJ (.lst xs)=some xs:=rfl
@[simp]theorem Zg:jf (.lst xs)=some xs:=rfl
@[simp]theorem acY:getD (.tup xs) (.int i)=at? xs i:=rfl
@[simp]theorem acZ:getD (.lst xs) (.int i)=at? xs i:=rfl
@[simp]theorem add_int:binop .add (.int i) (.int j)=some (.val (.int (i+j))):=rfl
@[simp]theorem sub_int:binop .sub (.int i) (.int j)=some (.val (.int (i-j))):=rfl
@[simp]theorem mul_int:binop .mul (.int i) (.int j)=if small i||small j then some (.val (.int (i*j)))else none:=rfl
@[simp]theorem mod_int:binop .mod (.int i) (.int j)=if 0<j then some (.val (.int (i%j)))else none:=rfl
@[simp]theorem lt_int:aG .lt (.int i) (.int j)=some (decide (i<j)):=rfl
@[simp]theorem gt_int:aG .gt (.int i) (.int j)=some (decide (j<i)):=rfl
@[simp]theorem le_int:aG .le (.int i) (.int j)=some (decide (i<=j)):=rfl
@[simp]theorem ge_int:aG .ge (.int i) (.int j)=some (decide (j<=i)):=rfl
@[simp]theorem ago:aG .jG d .non=some (fj d):=rfl
@[simp]theorem aeH:aG .notN d .non=some (!fj d):=rfl
@[simp]theorem Zj:fj (.tup xs)=false:=rfl
@[simp]theorem Zk:fj .non=true:=rfl
@[simp]theorem eq_int:aG .eq (.int i) (.int j)=some (i==j):=rfl
@[simp]theorem ne_int:aG .ne (.int i) (.int j)=some (!(i==j)):=rfl
@[simp]theorem agW:aG .eq (.bl b) (.bl c)=some (b==c):=rfl
@[simp]theorem agm:aG .ne (.bl b) (.bl c)=some (!(b==c)):=rfl
@[simp]theorem eq_str:aG .eq (.str x) (.str y)=some (decide (x=y)):=rfl
@[simp]theorem ne_str:aG .ne (.str x) (.str y)=some (!decide (x=y)):=rfl
@[simp]theorem ZD:E.az (.var k)=some k:=rfl
@[simp]theorem ZR d:E.az (.con d)=none:=rfl
@[simp]theorem YF k:E.az (.glob k)=none:=rfl
@[simp]theorem ZF a:E.az (.tup a)=none:=rfl
@[simp]theorem ZL a:E.az (.lis a)=none:=rfl
@[simp]theorem acb o a b:E.az (.op o a b)=none:=rfl
@[simp]theorem ZK a:E.az (.neg a)=none:=rfl
@[simp]theorem ZS o a b:E.az (.cmp o a b)=none:=rfl
@[simp]theorem Vb o p a b c:E.az (.chain o p a b c)=none:=rfl
@[simp]theorem ZV a:E.az (.and a)=none:=rfl
@[simp]theorem aca a:E.az (.or a)=none:=rfl
@[simp]theorem ZJ a:E.az (.not a)=none:=rfl
@[simp]theorem ZM a b c:E.az (.ite a b c)=none:=rfl
@[simp]theorem ZQ a b:E.az (.idx a b)=none:=rfl
@[simp]theorem ZG a b c:E.az (.slc a b c)=none:=rfl
@[simp]theorem YG f a:E.az (.call f a)=none:=rfl
@[simp]theorem acd b a:E.az (.bi b a)=none:=rfl
@[simp]theorem ZP a t:E.az (.isi a t)=none:=rfl
@[simp]theorem ZC a b:E.az (.zip a b)=none:=rfl
@[simp]theorem Te a:E.az (.range1 a)=none:=rfl
@[simp]theorem Td(a b:E):E.az (.range2 a b)=none:=rfl
@[simp]theorem Va a b:E.az (.count a b)=none:=rfl
@[simp]theorem U9 i a:E.az (.popAt i a)=none:=rfl
@[simp]theorem uC n tg a b c:E.az (.comp n tg a b c)=none:=rfl
@[simp]theorem ab9 a:E.az (.rd a)=none:=rfl
def iW xs(j:Nat)(h:j<xs.length):at? xs (j:Int)=xs[j]? :=by
 unfold at? ix?
 rw[if_neg (by omega:¬(j:Int)<0),if_pos ⟨by omega,by omega⟩]
 simp
@[simp]theorem at0:at? (a::xs) 0=some a:=(iW _ 0 (by simp)).trans rfl
@[simp]theorem at1{a b:D}:at? (a::b::xs) 1=some b:=(iW _ 1 (by simp)).trans rfl
@[simp]theorem at2{a b c:D}:at? (a::b::c::xs) 2=some c:=(iW _ 2 (by simp)).trans rfl
@[simp]theorem at3{a b c e:D}:at? (a::b::c::e::xs) 3=some e:=(iW _ 3 (by simp)).trans rfl
end
def aN(bs:List Bool):D:=.tup (bs.map .bl)
noncomputable def fL:Nat->List (List Bool)
 |0=>[[]]
 |k+1=>(fL k).map (· ++[false])++(fL k).map (· ++[true])
noncomputable def masks:Nat->List (List Bool)
 |0=>[[]]
 |k+1=>(masks k).map (false:: ·)++(masks k).map (true:: ·)
theorem vQ:∀(bs:List Bool),bs∈masks bs.length
 |[]=>by simp[masks]
 |b::bs=>by
  have:=vQ bs
  cases b<;>simp[masks,this]
noncomputable def oJ{α:Type}:List Bool->List α->List α
 |b::bs,x::xs=>if b then x::oJ bs xs else oJ bs xs
 |_,_=>[]
def zW:List (List Bool)->Bool
 |a::b::r=>mF a b&&zW (b::r)
 |_=>true
noncomputable def rR(k:Nat)(bs:List Bool):Bool:=match qg (oJ bs ((fL k).map aN))with
 |some ws=>if ws.isEmpty then true else match jW ws with
  |some rs=>(rs.all fun r=>r.length==k)&&zW rs
  |none=>false
 |none=>false
def aav:(masks 2).all (rR 1)=true:=by decide+kernel
def aau:(masks 4).all (rR 2)=true:=by decide+kernel
def aat:(masks 8).all (rR 3)=true:=by decide+kernel
theorem wJ:∀{ys:List D}{bs:List Bool},bools ys=some bs->ys=bs.map .bl
 |[],bs,e=>by cases e;rfl
 |y::ys,bs,e=>by
  cases y with
  |bl b=>
   simp only[bools]at e
   cases q:bools ys with
   |none=>rw[q]at e;cases e
   |some r=>rw[q]at e;cases e;rw[wJ q];rfl
  |_=>cases e
theorem vD:∀{xs:List D}{rs:List (List Bool)},jW xs=some rs->xs=rs.map aN
 |[],rs,e=>by cases e;rfl
 |y::ys,rs,e=>by
  cases y with
  |tup zs=>
   simp only[jW]at e
   cases q:bools zs with
   |none=>rw[q]at e;cases e
   |some bs=>
    cases bs with
    |nil=>rw[q]at e;cases e
    |cons b bs=>
     rw[q]at e
     cases q2:jW ys with
     |none=>rw[q2]at e;cases e
     |some rs'=>
      rw[q2]at e
      cases e
      rw[vD q2,wJ q]
      rfl
  |_=>cases e
theorem ph:∀k,(fL k).length=2 ^k
 |0=>rfl
 |k+1=>by simp[fL,ph k];omega
def Hi k(h1:1<=k)(h3:k<=3)bs(hl:bs.length=2 ^k):∃rs,qg (oJ bs ((fL k).map aN))=some (rs.map aN)/\(∀r∈rs,r.length=k)/\zW rs=true:=by
 have ok:rR k bs=true:=by
  have hm:=vQ bs
  rw[hl]at hm
  rcases (by omega:k=1\/k=2\/k=3)with rfl|rfl|rfl
  ·exact List.all_eq_true.mp aav bs hm
  ·exact List.all_eq_true.mp aau bs hm
  ·exact List.all_eq_true.mp aat bs hm
 unfold rR at ok
 cases q:qg _ with
 |none=>rw[q]at ok;cases ok
 |some ws=>
  rw[q]at ok
  simp only at ok
  split at ok
  ·rename_i he
   have:ws=[]:=by simpa using he
   subst this
   exact⟨[],rfl,fun r h=>(by cases h),rfl⟩
  ·cases q2:jW ws with
   |none=>rw[q2]at ok;cases ok
   |some rs=>
    rw[q2]at ok
    simp only[QUq,List.all_eq_true,beq_iff_eq]at ok
    exact⟨rs,by rw[vD q2],ok.1,ok.2⟩
theorem filter_tt{α:Type}:∀(xs:List α),xs.filter (fun _=>true)=xs
 |[]=>rfl
 |x::xs=>by rw[List.filter_cons_of_pos rfl,filter_tt xs]
def dD(s:Sl):Prop:=s=.un\/∃d,s=.val d
def vy(h:dD s)d(r:Ev):cY (.name 0) d (s::r)=some (.val d::r):=by
 rcases h with rfl|⟨e,rfl⟩<;>rfl
def vz(h:dD s)(h':dD t)a b(r:Ev):cY (.tup [0,1]) (.tup [a,b]) (s::t::r)=some (.val a:: .val b::r):=by
 rcases h with rfl|⟨e,rfl⟩<;>rcases h' with rfl|⟨e',rfl⟩<;>rfl
def NZ c d σ:ev c (.con d) σ=.ok (.val d) σ:=rfl
section
variable{cond elt:Ev->Out Rv}
theorem go1{f:D->D}{p:D->Bool}:∀(xs acc:List D)(s:Sl),dD s->(∀x∈xs,cond (.val x::τ)=.ok (.val (.bl (p x))) (.val x::τ))->(∀x∈xs,p x=true->elt (.val x::τ)=.ok (.val (f x)) (.val x::τ))->
  ∃s',dD s'/\aP (.name 0) cond elt xs acc (s::τ)=.ok (acc++(xs.filter p).map f) (s'::τ)
 |[]=>fun acc s hs _ _=>⟨s,hs,by simp[aP]⟩
 |x::xs=>fun acc s hs hc he=>by
  rw[aP,vy hs]
  simp only
  rw[hc x QYz,fY]
  cases q:p x with
  |true=>
   obtain⟨s',a1,a2⟩:=go1 xs _ _ (.inr ⟨x,rfl⟩) (fun y hy=>hc y (QYq _ hy)) (fun y hy=>he y (QYq _ hy))
   refine⟨s',a1,?_⟩
   rw[if_pos rfl,he x QYz q,cJ,a2]
   simp[q]
  |false=>
   obtain⟨s',a1,a2⟩:=go1 xs acc _ (.inr ⟨x,rfl⟩) (fun y hy=>hc y (QYq _ hy)) (fun y hy=>he y (QYq _ hy))
   refine⟨s',a1,?_⟩
   rw[if_neg (by simp),a2]
   simp[q]
def pairD(p:D×D):D:=.tup [p.1,p.2]
theorem go2{f:D×D->D}{p:D×D->Bool}:∀(xs:List (D×D))(acc:List D)(s t:Sl),dD s->dD t->(∀x∈xs,cond (.val x.1:: .val x.2::τ)=.ok (.val (.bl (p x))) (.val x.1:: .val x.2::τ))->
  (∀x∈xs,p x=true->elt (.val x.1:: .val x.2::τ)=.ok (.val (f x)) (.val x.1:: .val x.2::τ))->
  ∃s' t',aP (.tup [0,1]) cond elt (xs.map pairD) acc (s::t::τ)=.ok (acc++(xs.filter p).map f) (s'::t'::τ)
 |[]=>fun acc s t hs ht _ _=>⟨s,t,by simp[aP]⟩
 |x::xs=>fun acc s t hs ht hc he=>by
  rw[Qyq,aP,show pairD x=.tup [x.1,x.2]from rfl,vz hs ht]
  simp only
  rw[hc x QYz,fY]
  cases q:p x with
  |true=>
   obtain⟨s',t',a2⟩:=go2 xs _ _ _ (.inr ⟨_,rfl⟩) (.inr ⟨_,rfl⟩) (fun y hy=>hc y (QYq _ hy)) (fun y hy=>he y (QYq _ hy))
   refine⟨s',t',?_⟩
   rw[if_pos rfl,he x QYz q,cJ,a2]
   simp[q]
  |false=>
   obtain⟨s',t',a2⟩:=go2 xs acc _ _ (.inr ⟨_,rfl⟩) (.inr ⟨_,rfl⟩) (fun y hy=>hc y (QYq _ hy)) (fun y hy=>he y (QYq _ hy))
   refine⟨s',t',?_⟩
   rw[if_neg (by simp),a2]
   simp[q]
end
section
def Dj f p(hi:ev c it σ=.ok r τ)(hr:r.lw=some d)(hd:items d=some xs)(hc:∀x∈xs,ev c co (.val x::τ)=.ok (.val (.bl (p x))) (.val x::τ))(he:∀x∈xs,p x=true->ev c el (.val x::τ)=.ok (.val (f x)) (.val x::τ)):
  ev c (.comp 1 (.name 0) it co el) σ=.ok (.new (.lst ((xs.filter p).map f))) τ:=by
 obtain⟨s',_,a⟩:=go1 xs [] .un (.inl rfl) hc he
 rw[nO,hi]
 have b:∀{β:Type}(g:D->Ev->Out β),(Out.ok r τ).ak g=g d τ:=fun g=>by cases r<;>simp[Rv.lw]at hr<;>subst hr<;>rfl
 rw[b]
 simp only[hd]
 rw[show List.replicate 1 Sl.un++τ=.un::τ from rfl,a]
 simp
def mR f(hi:ev c it σ=.ok r τ)(hr:r.lw=some d)(hd:items d=some xs)(he:∀x∈xs,ev c el (.val x::τ)=.ok (.val (f x)) (.val x::τ)):
  ev c (.comp 1 (.name 0) it AAH el) σ=.ok (.new (.lst (xs.map f))) τ:=by
 have:=Dj f (fun _=>true) hi hr hd (fun x _=>NZ c _ _) (fun x hx _=>he x hx)
 rw[filter_tt]at this
 exact this
def Yt{ps:List (D×D)}f p(hi:ev c it σ=.ok r τ)(hr:r.lw=some d)(hd:items d=some (ps.map pairD))(hc:∀x∈ps,ev c co (.val x.1:: .val x.2::τ)=.ok (.val (.bl (p x))) (.val x.1:: .val x.2::τ))
  (he:∀x∈ps,p x=true->ev c el (.val x.1:: .val x.2::τ)=.ok (.val (f x)) (.val x.1:: .val x.2::τ)):
  ev c (.comp 2 (.tup [0,1]) it co el) σ=.ok (.new (.lst ((ps.filter p).map f))) τ:=by
 obtain⟨s',t',a⟩:=go2 ps [] .un .un (.inl rfl) (.inl rfl) hc he
 rw[nO,hi]
 have b:∀{β:Type}(g:D->Ev->Out β),(Out.ok r τ).ak g=g d τ:=fun g=>by cases r<;>simp[Rv.lw]at hr<;>subst hr<;>rfl
 rw[b]
 simp only[hd]
 rw[show List.replicate 2 Sl.un++τ=.un:: .un::τ from rfl,a]
 simp
def U7{ps:List (D×D)}f(hi:ev c it σ=.ok r τ)(hr:r.lw=some d)(hd:items d=some (ps.map pairD))(he:∀x∈ps,ev c el (.val x.1:: .val x.2::τ)=.ok (.val (f x)) (.val x.1:: .val x.2::τ)):
  ev c (.comp 2 (.tup [0,1]) it AAH el) σ=.ok (.new (.lst (ps.map f))) τ:=by
 have:=Yt f (fun _=>true) hi hr hd (fun x _=>NZ c _ _) (fun x hx _=>he x hx)
 rw[filter_tt]at this
 exact this
end
section
theorem Ys{ps:List (D×D)}f p(hi:ev c it σ=.ok r τ0)(hr:r.lw=some d)(hd:items d=some ((x0::ps).map pairD))(hc0:ev c co (.val x0.1:: .val x0.2::τ0)=.ok (.val (.bl (p x0))) (.val x0.1:: .val x0.2::τ))
  (hc:∀x∈ps,ev c co (.val x.1:: .val x.2::τ)=.ok (.val (.bl (p x))) (.val x.1:: .val x.2::τ))
  (he:∀x∈x0::ps,p x=true->ev c el (.val x.1:: .val x.2::τ)=.ok (.val (f x)) (.val x.1:: .val x.2::τ)):ev c (.comp 2 (.tup [0,1]) it co el) σ=.ok (.new (.lst (((x0::ps).filter p).map f))) τ:=by
 rw[nO,hi]
 have b:∀{β:Type}(g:D->Ev->Out β),(Out.ok r τ0).ak g=g d τ0:=fun g=>by cases r<;>simp[Rv.lw]at hr<;>subst hr<;>rfl
 rw[b]
 simp only[hd]
 rw[show List.replicate 2 Sl.un++τ0=.un:: .un::τ0 from rfl,Qyq,aP,show pairD x0=.tup [x0.1,x0.2]from rfl,vz (.inl rfl) (.inl rfl)]
 simp only
 rw[hc0,fY]
 cases q:p x0 with
 |true=>
  obtain⟨s',t',a⟩:=go2 ps _ _ _ (.inr ⟨_,rfl⟩) (.inr ⟨_,rfl⟩) hc (fun x hx=>he x (QYq _ hx))
  rw[if_pos rfl,he x0 QYz q,cJ,a]
  simp[q]
 |false=>
  obtain⟨s',t',a⟩:=go2 ps [] _ _ (.inr ⟨_,rfl⟩) (.inr ⟨_,rfl⟩) hc (fun x hx=>he x (QYq _ hx))
  rw[if_neg (by simp),a]
  simp[q]
end
theorem jl:∀(bs:List Bool),bools (bs.map D.bl)=some bs
 |[]=>rfl
 |b::bs=>by simp[bools,jl bs]
theorem uz:∀{α:Type}(xs:List α),bools (xs.map fun _=>D.bl true)=some (xs.map fun _=>true)
 |_,[]=>rfl
 |_,x::xs=>by simp[bools,uz xs]
theorem DQ:∀{α:Type}(xs:List α),(xs.map fun _=>true).all id=true
 |_,[]=>rfl
 |_,x::xs=>by simpa using DQ xs
section
def all1(hi:ev c it σ=.ok r τ)(hr:r.lw=some d)(hd:items d=some xs)(he:∀x∈xs,ev c el (.val x::τ)=.ok (.val (.bl true)) (.val x::τ)):
  ev c (.bi .all (.comp 1 (.name 0) it AAH el)) σ=.ok (.val (.bl true)) τ:=by
 rw[o5]
 simp only[uC]
 rw[mR _ hi hr hd he,my]
 simp only[U6,Ot,vA,QFq]
 rw[uz]
 simp only[Option.map_some,vR,DQ]
def all2{ps:List (D×D)}(hi:ev c it σ=.ok r τ)(hr:r.lw=some d)(hd:items d=some (ps.map pairD))(he:∀x∈ps,ev c el (.val x.1:: .val x.2::τ)=.ok (.val (.bl true)) (.val x.1:: .val x.2::τ)):
  ev c (.bi .all (.comp 2 (.tup [0,1]) it AAH el)) σ=.ok (.val (.bl true)) τ:=by
 rw[o5]
 simp only[uC]
 rw[U7 _ hi hr hd he,my]
 simp only[U6,Ot,vA,QFq]
 rw[uz]
 simp only[Option.map_some,vR,DQ]
end
theorem dW:∀(xs ys:List D),aR xs ys=(xs.zip ys).map pairD
 |[],_=>by simp[aR]
 |_::_,[]=>by simp[aR]
 |x::xs,y::ys=>by simp[aR,dW xs ys,pairD]
end Mini
end
section
namespace Mini
open PySem
@[simp]def fin(k:Nat):Fl->Res
 |.next σ=>.ok (.val .non) (σ.take k)
 |.ret r σ=>.ok r (σ.take k)
 |.exc c σ=>.exc c (σ.take k)
 |_=>.bad
def QD c f ps(h:ps.length=f.pars):il c f ps=fin f.pars (ex c f.body (ps++List.replicate (f.names-f.pars) .un)):=by
 unfold il
 rw[if_pos h]
 cases ex c f.body _<;>rfl
def wO{α:Type}(b:Bool)(r:Out α):Out α:=if b then .bad else r
def S8(b:Bool)(r:Fl):Fl:=if b then .bad else r
def xK{α:Type}(b:Bool)(r:Option α):Option α:=if b then none else r
@[simp]theorem adi(r:Out α):wO false r=r:=rfl
@[simp]theorem af2 r:S8 false r=r:=rfl
@[simp]theorem abk(r:Option α):xK false r=r:=rfl
@[simp]theorem abj(r:Option α):xK true r=none:=rfl
@[simp]def aaJ(i:Nat)(σ:Ev):Option Sl->Out Rv
 |some (.val d)=>.ok (.val d) σ
 |some (.own o)=>.ok (.val o.d) (σ.set i (.val o.d))
 |_=>.bad
@[simp]theorem aaI i σ:sH i σ=aaJ i σ σ[i]? :=rfl
@[simp]def abp:Option Sl->Option D
 |some (.val d)=>some d
 |some (.own o)=>some o.d
 |some (.bor o)=>some o.d
 |_=>none
@[simp]theorem abo i σ:aW i σ=abp σ[i]? :=rfl
noncomputable def J6(i:Nat)(σ:Ev)(s:Sl):Option Sl->Option Ev
 |some (.bor _)=>none
 |some _=>some (σ.set i s)
 |none=>none
@[simp]theorem aay i s σ:eG i s σ=J6 i σ s σ[i]? :=rfl
@[simp]theorem aaz(i σ s d):J6 i σ s (some (.val d))=some (σ.set i s):=rfl
@[simp]theorem aaA(i σ s o):J6 i σ s (some (.own o))=some (σ.set i s):=rfl
@[simp]theorem acH(i σ s):J6 i σ s (some .un)=some (σ.set i s):=rfl
@[simp]theorem aaB(i σ s o):J6 i σ s (some (.bor o))=none:=rfl
@[simp]def BW(i:Nat)(σ:Ev)(q:Ob):Ev:=σ.set i (.own q)
@[simp]def Ws(i:Nat)(σ:Ev)(q:Ob):Ev:=σ.set i (.bor q)
@[simp]def aae(i:Nat)(f:Ob->Option Ob)(σ:Ev):Option Sl->Option Ev
 |some (.own o)=>(f o).map (BW i σ)
 |some (.bor o)=>(f o).map (Ws i σ)
 |_=>none
@[simp]theorem aad i f σ:dM i f σ=aae i f σ σ[i]? :=rfl
@[simp]def okB(r:Rv):Option Ev->Out Rv
 |some σ=>.ok r σ
 |none=>.bad
@[simp]def ab1(as:List Rv)(σ:Ev):Res->Out Rv
 |.ok r qs=>okB r (giveBack as qs σ)
 |_=>.bad
@[simp]def ab2(c:Cf)(f:Nat)(as:List Rv)(σ:Ev):Option (List Sl)->Out Rv
 |none=>.bad
 |some ps=>ab1 as σ (c.fn f ps)
@[simp]theorem ab3 c f as σ:ux c f as σ=ab2 c f as σ (enter as σ):=rfl
@[simp]theorem adc(σ):enter [] σ=some []:=rfl
@[simp]theorem adb(d as σ):enter (.val d::as) σ=(enter as σ).map (.val d:: ·):=rfl
@[simp]theorem ada(o as σ):enter (.tmp o::as) σ=xK (as.any zV) ((enter as σ).map (.bor o:: ·)):=rfl
@[simp]def afN(r:Option (List Sl)):Option Sl->Option (List Sl)
 |some (.own o)=>r.map (.bor o:: ·)
 |some (.bor o)=>r.map (.bor o:: ·)
 |_=>none
@[simp]theorem ac9(i as σ):enter (.ref i::as) σ=xK (as.any (jF i)) (afN (enter as σ) σ[i]?):=rfl
@[simp]theorem ait c(i σ):ev c (.var i) σ=sH i σ:=rfl
@[simp]theorem ais c(d σ):ev c (.con d) σ=.ok (.val d) σ:=rfl
@[simp]theorem air c(k σ):ev c (.glob k) σ=match c.gl k with|some d=>.ok (.val d) σ|none=>.bad:=rfl
@[simp]def adK(ds:List D):Option Rv:=if fits ds.length then some (.val (.tup ds))else none
@[simp]def Xc(ds:List D):Option Rv:=if fits ds.length then some (.new (.lst ds))else none
@[simp]def aeU(rs:List Rv)(σ:Ev):Out Rv:=lift σ ((aX rs).bind adK)
@[simp]def ae0(rs:List Rv)(σ:Ev):Out Rv:=lift σ ((aX rs).bind Xc)
@[simp]theorem aiq c(es σ):ev c (.tup es) σ=(evs c es σ).bind aeU:=rfl
@[simp]theorem aip c(es σ):ev c (.lis es) σ=(evs c es σ).bind ae0:=rfl
@[simp]def aeY(o:YK)(x y:D)(σ:Ev):Out Rv:=lift σ (binop o x y)
@[simp]def kOp(c:Cf)(o:YK)(b:E)(x:D)(σ:Ev):Out Rv:=(ev c b σ).ak (aeY o x)
@[simp]theorem aio c(o a b σ):ev c (.op o a b) σ=(ev c a σ).ak (kOp c o b):=rfl
@[simp]theorem ain c(a σ):ev c (.neg a) σ=(ev c a σ).ak fun x σ=>lift σ (match x with|.int i=>some (.val (.int (-i)))|_=>none):=rfl
@[simp]def qV(q:Bool):Rv:=.val (.bl q)
@[simp]def afS(o:Cm)(x d:D):Option Rv:=(aG o x d).map qV
@[simp]def Mh(o:Cm)(x y:D)(σ:Ev):Out Rv:=lift σ ((aG o x y).map qV)
@[simp]def afb(c:Cf)(o:Cm)(b:E)(x:D)(σ:Ev):Option Nat->Out Rv
 |some k=>lift σ ((aW k σ).bind (afS o x))
 |none=>(ev c b σ).ak (Mh o x)
@[simp]def abG(c:Cf)(o:Cm)(b:E)(x:D)(σ:Ev):Out Rv:=afb c o b x σ b.az
@[simp]theorem aim c(o a b σ):ev c (.cmp o a b) σ=(ev c a σ).ak (abG c o b):=rfl
noncomputable def Xl(c:Cf)(o:Cm)(d:E)(y:D)(q:Bool)(σ:Ev):Out Rv:=if q then(ev c d σ).ak (Mh o y)else .ok (.val (.bl false)) σ
@[simp]theorem afc(c o d y σ):Xl c o d y true σ=(ev c d σ).ak (Mh o y):=rfl
@[simp]theorem afd(c o d y σ):Xl c o d y false σ=.ok (.val (.bl false)) σ:=rfl
@[simp]def afe(c:Cf)(o p:Cm)(d:E)(x y:D)(σ:Ev):Out Rv:=(lift σ (aG o x y)).bind (Xl c p d y)
@[simp]def kCh(c:Cf)(o p:Cm)(b d:E)(x:D)(σ:Ev):Out Rv:=(ev c b σ).ak (afe c o p d x)
@[simp]theorem ail c(π ρ a b d σ):ev c (.chain π ρ a b d) σ=(ev c a σ).ak (kCh c π ρ b d):=rfl
@[simp]theorem aik c(es σ):ev c (.and es) σ=iK c es σ:=rfl
@[simp]theorem agV c(es σ):ev c (.or es) σ=oV c es σ:=rfl
@[simp]def aeZ(b:Bool)(σ:Ev):Out Rv:=.ok (.val (.bl (!b))) σ
@[simp]theorem agU c(a σ):ev c (.not a) σ=(ev c a σ).cT jq aeZ:=rfl
def Mg(c:Cf)(a b:E)(q:Bool)(σ:Ev):Out Rv:=if q then ev c a σ else ev c b σ
@[simp]theorem acV(c a b σ):Mg c a b true σ=ev c a σ:=rfl
@[simp]theorem acW(c a b σ):Mg c a b false σ=ev c b σ:=rfl
@[simp]theorem agT c(t a b σ):ev c (.ite t a b) σ=(ev c t σ).cT jq (Mg c a b):=rfl
@[simp]def afu(y d:D):Option Rv:=(getD d y).map Rv.val
@[simp]def ae5(k:Nat)(y:D)(σ:Ev):Out Rv:=lift σ ((aW k σ).bind (afu y))
@[simp]def abA(x y:D)(σ:Ev):Out Rv:=lift σ ((getD x y).map Rv.val)
@[simp]def abB(c:Cf)(i:E)(x:D)(σ:Ev):Out Rv:=(ev c i σ).ak (abA x)
@[simp]def afp(c:Cf)(a i:E)(σ:Ev):Option Nat->Out Rv
 |some k=>wO (aW k σ).isNone ((ev c i σ).ak (ae5 k))
 |none=>(ev c a σ).ak (abB c i)
@[simp]theorem agS c(a i σ):ev c (.idx a i) σ=afp c a i σ a.az:=rfl
@[simp]def aeV(hi:E)(x:D)(l:Option Int)(h:D)(σ:Ev):Out Rv:=lift σ ((eU hi.jG h).bind (jw x l))
@[simp]def slM(c:Cf)(hi:E)(x:D)(σ:Ev):Option (Option Int)->Out Rv
 |none=>.bad
 |some l=>(ev c hi σ).ak (aeV hi x l)
@[simp]def aeW(c:Cf)(lo hi:E)(x l:D)(σ:Ev):Out Rv:=slM c hi x σ (eU lo.jG l)
@[simp]def kSl(c:Cf)(lo hi:E)(x:D)(σ:Ev):Out Rv:=(ev c lo σ).ak (aeW c lo hi x)
@[simp]theorem agR c(a lo hi σ):ev c (.slc a lo hi) σ=(ev c a σ).ak (kSl c lo hi):=rfl
@[simp]theorem agQ c(σ):ev c .noneE σ=.ok (.val .non) σ:=rfl
@[simp]theorem agP c(f as σ):ev c (.call f as) σ=(evs c as σ).bind (ux c f):=rfl
@[simp]def aeB(i:Nat)(σ:Ev):Option Sl->Out Rv
 |some (.own _)=>.ok (.ref i) σ
 |some (.bor _)=>.ok (.ref i) σ
 |_=>.bad
@[simp]theorem agO c(i σ):ev c (.ref i) σ=aeB i σ σ[i]? :=rfl
@[simp]theorem agN c(e σ):ev c (.rd e) σ=ev c e σ:=rfl
def abt(x:Rv)(σ:Ev):Out Rv:=lift σ (match x with|.new o=>some (.tmp o)|_=>none)
@[simp]theorem abr(o σ):abt (.new o) σ=.ok (.tmp o) σ:=rfl
@[simp]theorem agM c(e σ):ev c (.tmp e) σ=(ev c e σ).bind abt:=rfl
@[simp]def ae4(t:Ty)(x:D)(σ:Ev):Out Rv:=.ok (.val (.bl (qL t x))) σ
@[simp]theorem agL c(a t σ):ev c (.isi a t) σ=(ev c a σ).ak (ae4 t):=rfl
@[simp]def kBi(b:Bi)(x:D)(σ:Ev):Out Rv:=lift σ (b1 b x)
@[simp]def biM(c:Cf)(b:Bi)(a:E)(σ:Ev):Option Nat->Out Rv
 |some k=>lift σ ((aW k σ).bind (b1 b))
 |none=>(ev c a σ).ak (kBi b)
@[simp]theorem agK c(b a σ):ev c (.bi b a) σ=biM c b a σ a.az:=rfl
noncomputable def abw(x:D)(σ:Ev):Out Rv:=lift σ (match x with|.int n=>if fits n.toNat&&uJ n then some (.val (.lst (bK 0 n.toNat)))else none|_=>none)
@[simp]theorem abv n(σ):abw (.int n) σ=lift σ (if fits n.toNat&&uJ n then some (.val (.lst (bK 0 n.toNat)))else none):=rfl
@[simp]theorem agJ c(a σ):ev c (.range1 a) σ=(ev c a σ).ak abw:=rfl
@[simp]theorem agI(c:Cf)(a b σ):ev c (.range2 a b) σ=(ev c a σ).ak fun x σ=>(ev c b σ).ak fun y σ=>lift σ (match x,y with|.int m,.int n=>if fits (n-m).toNat&&uJ m&&uJ n then some (.val (.lst (bK m (n-m).toNat)))else none|_,_=>none):=rfl
@[simp]def ady(xs ys:List D):Rv:=.val (.lst (aR xs ys))
@[simp]def adz(y:D)(xs:List D):Option Rv:=(bJ y).map (ady xs)
@[simp]def abq(x y:D)(σ:Ev):Out Rv:=lift σ ((bJ x).bind (adz y))
@[simp]def aeS(c:Cf)(b:E)(x:D)(σ:Ev):Out Rv:=(ev c b σ).ak (abq x)
@[simp]theorem agH c(a b σ):ev c (.zip a b) σ=(ev c a σ).ak (aeS c b):=rfl
@[simp]def abF(x y:D)(σ:Ev):Out Rv:=lift σ (Af x y)
@[simp]def afa(c:Cf)(b:E)(x:D)(σ:Ev):Out Rv:=wO (bJ x).isNone ((ev c b σ).ak (abF x))
@[simp]theorem agG c(a b σ):ev c (.count a b) σ=(ev c a σ).ak (afa c b):=rfl
@[simp]theorem acX(ks vs):oM (some (.cP ks vs))=true:=rfl
@[simp]theorem agF c(k a σ):ev c (.popAt k a) σ=wO (!gC (aW k σ)) ((ev c a σ).ak (sV k)):=rfl
@[simp]def abE(c:Cf)(nl:Nat)(tg:Tg)(cond elt:E)(x:D)(σ:Ev):Out Rv:=match items x with
  |some xs=>match aP tg (ev c cond) (ev c elt) xs [] (List.replicate nl .un++σ)with
   |.ok ys τ=>.ok (.new (.lst ys)) (τ.drop nl)
   |_=>.bad
  |none=>.bad
@[simp]theorem agE c(nl tg it cond elt σ):ev c (.comp nl tg it cond elt) σ=(ev c it σ).ak (abE c nl tg cond elt):=rfl
@[simp]def abD(x:Rv)(xs:List Rv)(σ:Ev):Out (List Rv):=.ok (argv x::xs) σ
@[simp]def ae8(c:Cf)(t:E)(x:Rv)(σ:Ev):Out (List Rv):=(evs c t σ).bind (abD x)
@[simp]theorem agz c(σ):evs c .nil σ=.ok [] σ:=rfl
@[simp]theorem agy c(h t σ):evs c (.cons h t) σ=(ev c h σ).bind (ae8 c t):=rfl
@[simp]theorem aij c(σ):ex c .nil σ=.next σ:=rfl
@[simp]theorem aii c(h t σ):ex c (.cons h t) σ=(ex c h σ).seq (ex c t):=rfl
@[simp]theorem aih c(σ):ex c .pass σ=.next σ:=rfl
@[simp]theorem aig c(σ):ex c .brk σ=.brk σ:=rfl
@[simp]theorem aif c(σ):ex c .cont σ=.cont σ:=rfl
@[simp]def We(i:Nat)(σ:Ev)(s:Sl):Option Ev:=eG i s σ
@[simp]def aeX(i:Nat)(x:Rv)(σ:Ev):Fl:=yF (x.Bq.bind (We i σ))
@[simp]theorem aie c(i e σ):ex c (.set i e) σ=(ev c e σ).fl (aeX i):=rfl
@[simp]def abu(is:List Nat)(x:D)(σ:Ev):Fl:=yF (cY (.tup is) x σ)
@[simp]theorem aid c(is e σ):ex c (.setT is e) σ=(ev c e σ).m9 (abu is):=rfl
@[simp]def ae1(k:Nat)(x y:D)(σ:Ev):Fl:=yF (dM k (zA y x) σ)
@[simp]def kIx(c:Cf)(k:Nat)(ix:E)(x:D)(σ:Ev):Fl:=S8 (aW k σ).isNone ((ev c ix σ).m9 (ae1 k x))
@[simp]theorem aic c(k ix e σ):ex c (.setIx k ix e) σ=(ev c e σ).m9 (kIx c k ix):=rfl
@[simp]def abx(_:D)(σ:Ev):Fl:=.next σ
@[simp]theorem aib c(e σ):ex c (.expr e) σ=(ev c e σ).m9 abx:=rfl
@[simp]def af5(x:D)(xs:List D):Option (List D):=if fits (xs.length+1)then some (xs++[x])else none
@[simp]def afg(k:Nat)(x:D)(σ:Ev):Fl:=yF (dM k (Cp (af5 x)) σ)
@[simp]theorem aia c(k e σ):ex c (.append k e) σ=S8 (!gC (aW k σ)) ((ev c e σ).m9 (afg k)):=rfl
@[simp]theorem agx(c:Cf)(k e σ):ex c (.extend k e) σ=if !gC (aW k σ)then .bad else(ev c e σ).m9 fun x σ=>yF ((jf x).bind fun ys=>dM k (Cp fun xs=>if fits (xs.length+ys.length)then some (xs++ys)else none) σ):=rfl
@[simp]def aez(c:Cf)(e:E)(i:Nat)(σ:Ev):Option Sl->Fl
 |some (.own o)=>.ret (.new o) (σ.set i .un)
 |_=>(ev c e σ).fl uN
@[simp]def aeA(c:Cf)(e:E)(σ:Ev):Option Nat->Fl
 |some i=>aez c e i σ σ[i]?
 |none=>(ev c e σ).fl uN
@[simp]theorem agw c(e σ):ex c (.ret e) σ=aeA c e σ e.az:=rfl
def Xk(c:Cf)(a b:S)(q:Bool)(σ:Ev):Fl:=if q then ex c a σ else ex c b σ
@[simp]theorem ae2(c a b σ):Xk c a b true σ=ex c a σ:=rfl
@[simp]theorem ae3(c a b σ):Xk c a b false σ=ex c b σ:=rfl
@[simp]theorem agv c(t a b σ):ex c (.ite t a b) σ=(ev c t σ).Nm (Xk c a b):=rfl
@[simp]def kFor(c:Cf)(tg:Tg)(b:S)(σ:Ev):Option (List D)->Fl
 |some xs=>dC tg (ex c b) xs σ
 |none=>.bad
@[simp]def abC(c:Cf)(tg:Tg)(b:S)(x:D)(σ:Ev):Fl:=kFor c tg b σ (items x)
@[simp]theorem agu c(tg it b σ):ex c (.for_ tg it b) σ=(ev c it σ).m9 (abC c tg b):=rfl
@[simp]theorem agt c(t b σ):ex c (.while_ t b) σ=gq (ev c t) (ex c b) c.turns σ:=rfl
@[simp]theorem ags c(k σ):ex c (.raise k) σ=.exc k σ:=rfl
@[simp]def afh(c:Cf)(e:E)(x:D)(σ:Ev):Out Rv:=match x with|.bl true=>iK c e σ|.bl false=>.ok (.val (.bl false)) σ|_=>.bad
@[simp]def kOr(c:Cf)(e:E)(x:D)(σ:Ev):Out Rv:=match x with|.bl true=>.ok (.val (.bl true)) σ|.bl false=>oV c e σ|_=>.bad
@[simp]theorem ac8 c(h σ):iK c (.cons h .nil) σ=ev c h σ:=rfl
@[simp]theorem ac7 c(h a b σ):iK c (.cons h (.cons a b)) σ=(ev c h σ).ak (afh c (.cons a b)):=rfl
@[simp]theorem afM c(h σ):oV c (.cons h .nil) σ=ev c h σ:=rfl
@[simp]theorem afL c(h a b σ):oV c (.cons h (.cons a b)) σ=(ev c h σ).ak (kOr c (.cons a b)):=rfl
@[simp high]theorem ajc x0:at? [x0] 0=some x0:=rfl
@[simp high]theorem ajb x0 x1:at? [x0,x1] 0=some x0:=rfl
@[simp high]theorem aja x0 x1:at? [x0,x1] 1=some x1:=rfl
@[simp high]theorem ai9 x0 x1 x2:at? [x0,x1,x2] 0=some x0:=rfl
@[simp high]theorem ai8 x0 x1 x2:at? [x0,x1,x2] 1=some x1:=rfl
@[simp high]theorem ai7 x0 x1 x2:at? [x0,x1,x2] 2=some x2:=rfl
@[simp high]theorem ai6 x0 x1 x2 x3:at? [x0,x1,x2,x3] 0=some x0:=rfl
@[simp high]theorem ai5 x0 x1 x2 x3:at? [x0,x1,x2,x3] 1=some x1:=rfl
@[simp high]theorem ai4 x0 x1 x2 x3:at? [x0,x1,x2,x3] 2=some x2:=rfl
@[simp high]theorem ai3 x0 x1 x2 x3:at? [x0,x1,x2,x3] 3=some x3:=rfl
@[simp]theorem ah9(σ):giveBack [] [] σ=some σ:=rfl
@[simp]theorem ah8(i as o ps σ):giveBack (.ref i::as) (.bor o::ps) σ=(dM i (fun _=>some o) σ).bind (giveBack as ps):=rfl
@[simp]theorem ah7(d as p ps σ):giveBack (.val d::as) (p::ps) σ=giveBack as ps σ:=rfl
@[simp]theorem ah6(o as p ps σ):giveBack (.tmp o::as) (p::ps) σ=giveBack as ps σ:=rfl
@[simp]theorem ahB(i j):jF i (.ref j)=(i==j):=rfl
@[simp]theorem ahA(i d):jF i (.val d)=false:=rfl
@[simp]theorem ahz(i o):jF i (.tmp o)=false:=rfl
@[simp]theorem ahy(i o):jF i (.new o)=false:=rfl
@[simp]theorem ahN(o):zV (.tmp o)=true:=rfl
@[simp]theorem ahM(d):zV (.val d)=false:=rfl
@[simp]theorem ahL(i):zV (.ref i)=false:=rfl
@[simp]theorem ahh(xs):qL .tup (.tup xs)=true:=rfl
@[simp]theorem ahg(xs):qL .lst (.lst xs)=true:=rfl
@[simp]theorem ahf(x):qL .str (.str x)=true:=rfl
@[simp]theorem ahe(b):qL .bool (.bl b)=true:=rfl
def adI(i):qL .bool (.int i)=false:=rfl
@[simp]theorem ahd(i):qL .int (.int i)=true:=rfl
@[simp]theorem afJ:fits 0=true:=rfl
@[simp]theorem afI:fits 1=true:=rfl
@[simp]theorem afH:fits 2=true:=rfl
@[simp]theorem afG:fits 3=true:=rfl
@[simp]theorem afF:fits 4=true:=rfl
@[simp]theorem afE:fits 5=true:=rfl
@[simp]theorem afD:fits 6=true:=rfl
@[simp]theorem afC:fits 7=true:=rfl
@[simp]theorem afB:fits 8=true:=rfl
@[simp]theorem abS i j:binop .fdiv (.int i) (.int j)=if 0<j/\j<1073741824 then some (.val (.int (i/j)))else none:=rfl
@[simp]theorem pow_int i j:binop .pow (.int i) (.int j)=if 0<=j/\j<=64/\small i=true then some (.val (.int (i ^j.toNat)))else none:=rfl
@[simp↓]theorem ite_tt{α:Type}(a b:α):(if true=true then a else b)=a:=rfl
@[simp↓]theorem ite_ff{α:Type}(a b:α):(if false=true then a else b)=b:=rfl
@[simp]theorem adt xs ys:binop .add (.tup xs) (.tup ys)=if fits (xs.length+ys.length)then some (.val (.tup (xs++ys)))else none:=rfl
@[simp]theorem adu xs ys:binop .add (.lst xs) (.lst ys)=if fits (xs.length+ys.length)then some (.new (.lst (xs++ys)))else none:=rfl
@[simp]def aby(x y:D)(σ:Ev):Out Rv:=lift σ (Mz x y)
@[simp]def abz(c:Cf)(b:E)(x:D)(σ:Ev):Out Rv:=wO (jf x).isNone ((ev c b σ).ak (aby x))
@[simp]theorem agD(c:Cf)(a b σ):ev c (.index a b) σ=(ev c a σ).ak (abz c b):=rfl
@[simp]def aeT(k:Nat)(x:D)(σ:Ev):Fl:=yF (dM k (Z8 x) σ)
@[simp]theorem agr(c:Cf)(k e σ):ex c (.update k e) σ=S8 (!oM (aW k σ)) ((ev c e σ).m9 (aeT k)):=rfl
@[simp]theorem adq ks vs:b1 .copy (.cP ks vs)=some (.new (.dct ks vs)):=rfl
@[simp]def gtK(k x y:D):Option Rv:=(oR y k x).map Rv.val
@[simp]def ae6(i:Nat)(k x:D)(σ:Ev):Out Rv:=lift σ ((aW i σ).bind (gtK k x))
@[simp]def ae7(c:Cf)(i:Nat)(x:E)(k:D)(σ:Ev):Out Rv:=(ev c x σ).ak (ae6 i k)
@[simp]def aft(c:Cf)(d k x:E)(σ:Ev):Option Nat->Out Rv
 |some i=>wO (!oM (aW i σ)) ((ev c k σ).ak (ae7 c i x))
 |none=>.bad
@[simp]theorem agC c(d k x σ):ev c (.get2 d k x) σ=aft c d k x σ d.az:=rfl
@[simp]def ae9(rs:List Rv)(σ:Ev):Out Rv:=lift σ ((aX rs).bind abU)
@[simp]theorem agB c(es σ):ev c (.dsp es) σ=(evs c es σ).bind ae9:=rfl
@[simp]theorem agA c(σ):ev c .emp σ=.ok (.new (.dct [] [])) σ:=rfl
@[simp high]theorem ah5 a0(r:Ev):(a0::r)[0]? =some a0:=rfl
@[simp high]theorem ahw a0 v(r:Ev):List.set (a0::r) 0 v=v::r:=rfl
@[simp high]theorem ah4 a0 a1(r:Ev):(a0::a1::r)[1]? =some a1:=rfl
@[simp high]theorem ahv a0 a1 v(r:Ev):List.set (a0::a1::r) 1 v=a0::v::r:=rfl
@[simp high]theorem ah3 a0 a1 a2(r:Ev):(a0::a1::a2::r)[2]? =some a2:=rfl
@[simp high]theorem ahu a0 a1 a2 v(r:Ev):List.set (a0::a1::a2::r) 2 v=a0::a1::v::r:=rfl
@[simp high]theorem ah2 a0 a1 a2 a3(r:Ev):(a0::a1::a2::a3::r)[3]? =some a3:=rfl
@[simp high]theorem aht a0 a1 a2 a3 v(r:Ev):List.set (a0::a1::a2::a3::r) 3 v=a0::a1::a2::v::r:=rfl
@[simp high]theorem ah1 a0 a1 a2 a3 a4(r:Ev):(a0::a1::a2::a3::a4::r)[4]? =some a4:=rfl
@[simp high]theorem ahs a0 a1 a2 a3 a4 v(r:Ev):List.set (a0::a1::a2::a3::a4::r) 4 v=a0::a1::a2::a3::v::r:=rfl
@[simp high]theorem ah0 a0 a1 a2 a3 a4 a5(r:Ev):(a0::a1::a2::a3::a4::a5::r)[5]? =some a5:=rfl
@[simp high]theorem ahr a0 a1 a2 a3 a4 a5 v(r:Ev):List.set (a0::a1::a2::a3::a4::a5::r) 5 v=a0::a1::a2::a3::a4::v::r:=rfl
@[simp high]theorem ahZ a0 a1 a2 a3 a4 a5 a6(r:Ev):(a0::a1::a2::a3::a4::a5::a6::r)[6]? =some a6:=rfl
@[simp high]theorem ahq a0 a1 a2 a3 a4 a5 a6 v(r:Ev):List.set (a0::a1::a2::a3::a4::a5::a6::r) 6 v=a0::a1::a2::a3::a4::a5::v::r:=rfl
@[simp high]theorem ahY a0 a1 a2 a3 a4 a5 a6 a7(r:Ev):(a0::a1::a2::a3::a4::a5::a6::a7::r)[7]? =some a7:=rfl
@[simp high]theorem ahp a0 a1 a2 a3 a4 a5 a6 a7 v(r:Ev):List.set (a0::a1::a2::a3::a4::a5::a6::a7::r) 7 v=a0::a1::a2::a3::a4::a5::a6::v::r:=rfl
@[simp high]theorem ahX a0 a1 a2 a3 a4 a5 a6 a7 a8(r:Ev):(a0::a1::a2::a3::a4::a5::a6::a7::a8::r)[8]? =some a8:=rfl
@[simp high]theorem aho a0 a1 a2 a3 a4 a5 a6 a7 a8 v(r:Ev):List.set (a0::a1::a2::a3::a4::a5::a6::a7::a8::r) 8 v=a0::a1::a2::a3::a4::a5::a6::a7::v::r:=rfl
@[simp high]theorem ahW a0 a1 a2 a3 a4 a5 a6 a7 a8 a9(r:Ev):(a0::a1::a2::a3::a4::a5::a6::a7::a8::a9::r)[9]? =some a9:=rfl
@[simp high]theorem ahn a0 a1 a2 a3 a4 a5 a6 a7 a8 a9 v(r:Ev):List.set (a0::a1::a2::a3::a4::a5::a6::a7::a8::a9::r) 9 v=a0::a1::a2::a3::a4::a5::a6::a7::a8::v::r:=rfl
abbrev gF:=List (Str×Int)
noncomputable def nR:List D->List D->Option gF
 |[],[]=>some []
 |.str x::ks,.int i::vs=>(nR ks vs).map ((x,i):: ·)
 |_,_=>none
def gA(l:gF):List D:=l.map fun p=>.str p.1
def jr(l:gF):List D:=l.map fun p=>.int p.2
def aU(x:Str):gF->Option Int
 |[]=>none
 |p::r=>if p.1=x then some p.2 else aU x r
def fB(ls ss:gF)(i:Nat):Int:=match ss[i]? with
 |some p=>p.2+(aU p.1 ls).getD 0
 |none=>0
def iu(f:Nat->Int):Nat->Nat
 |0=>0
 |n+1=>if f n<f (iu f n)then n else iu f n
structure Gs where
 cs:List D
 sd:D
 ss:gF
structure Gf where
 led:List Sl->Res
 stp:List Sl->Res
 snw:List Sl->Res
def Lj:Res->Option gF
 |.ok (.new (.dct ks vs)) _=>nR ks vs
 |_=>none
def Az:Res->Option D
 |.ok (.val d) _=>some d
 |_=>none
def HY:Res->Option (List D)
 |.ok (.new (.lst xs)) _=>some xs
 |_=>none
def okT(ls ss:gF):Bool:=ss.all fun p=>aU p.1 ss==some p.2&&(aU p.1 ls).isSome
noncomputable def xP(f:Gf)(n t sd:D):Option (List D):=if fj sd then some []else HY (f.stp [.val n,.val t,.val sd])
noncomputable def sr(f:Gf)(nm:List D)(ss:gF)(tm:Int):Option gF:=Lj (f.snw [.val (.lst nm),.bor (.dct (gA ss) (jr ss)),.val (.int tm)])
noncomputable def kj(f:Gf)(n t:D)(ls:gF)(g:Gs):Option Gs:=
 if okT ls g.ss&&fits (g.cs.length+1)then match g.ss[iu (fB ls g.ss) g.ss.length]? with
  |none=>none
  |some p=>(Az (f.led [.val n,.val t,.val g.sd,.val (.str p.1)])).bind fun sd=>(xP f n t sd).bind fun nm=>
    (sr f nm (g.ss.filter fun q=>decide (q.1≠p.1)) (fB ls g.ss (iu (fB ls g.ss) g.ss.length))).map fun ss=>
     ⟨g.cs++[.tup [.int (fB ls g.ss (iu (fB ls g.ss) g.ss.length)),.str p.1]],sd,ss⟩
 else none
noncomputable def mQ(st:Gs->Option Gs)(k:Int):Nat->Gs->Option Gs
 |0,_=>none
 |m+1,g=>if !g.ss.isEmpty&&decide ((g.cs.length:Int)<k)then(st g).bind (mQ st k m)else some g
def Nv(g:Gs):D:=if fj g.sd then .str "unasked" else if g.ss.isEmpty then .str "end" else .str "on"
structure Py where
 chk:Nat
 isn:Nat
 fst:Nat
 stp:Nat
 led:Nat
 snw:Nat
 mz:E
 top:Int
def Py.gf(T:Py)(c:Cf):Gf:=⟨c.fn T.led,c.fn T.stp,c.fn T.snw⟩
def Rw:Out Rv->Option gF
 |.ok (.new (.dct ks vs)) _=>nR ks vs
 |_=>none
noncomputable def RX(T:Py)(c:Cf)(n t w:D):Option (gF×Gs):=
 (Rw (ev c T.mz [.un,.val n,.val t,.val w])).bind fun ls=>(Az (c.fn T.fst [.val n])).bind fun sd=>(HY (c.fn T.stp [.val n,.val t,.val sd])).bind fun nm=>
  (sr (T.gf c) nm [] 0).map fun ss=>(ls,⟨[],sd,ss⟩)
def Mt:Res->Bool
 |.ok (.val _) _=>true
 |_=>false
def isT:Res->Bool
 |.ok (.val (.bl true)) _=>true
 |_=>false
noncomputable def eQ(T:Py)(c:Cf):List Sl->Res
 |[.val n,.val t,.val w,.val (.int k)]=>
  if Mt (c.fn T.chk [.val n,.val t,.val w])&&isT (c.fn T.isn [.val (.int k),.val (.int 0),.val (.int T.top)])then
   match (RX T c n t w).bind fun q=>mQ (kj (T.gf c) n t q.1) k c.turns q.2 with
   |some g=>.ok (.val (.tup [.lst g.cs,Nv g])) [.val n,.val t,.val w,.val (.int k)]
   |none=>.bad
  else .bad
 |_=>.bad
end Mini
end
section
namespace Mini
open PySem L2 PyProof.Rows
section
variable{X:Cx}{γ:QQz}{σ:L2.St}{H:Hp}{s:Shared}{b:Addr}{o:Obj}
def Inv.sX(I:L2.Inv X γ σ H s)(f:eE X γ H b)(e:s.heap.get? b=some o)(hn:∀v,o.data≠ .cell v):L2.Inv X (γ++[(b,o)]) σ H s:=
 I.xx fun p hp=>by
  rcases QXz.mp hp with hp|hp
  ·exact I.pin p (QVq _ hp)
  ·rw[QDq.mp hp]
   exact⟨e,f.1,f.2.1,f.2.2.1,hn⟩
def eE.sX(f:eE X γ H c)(h:b≠c):eE X (γ++[(b,o)]) H c:=
 ⟨f.1,f.2.1,f.2.2.1,f.2.2.2.1,f.2.2.2.2.1,fun p hp=>by
  rcases QXz.mp hp with hp|hp
  ·exact f.2.2.2.2.2 p (QWz _ hp)
  ·rcases QXz.mp hp with hp|hp
   ·exact f.2.2.2.2.2 p (QVq _ hp)
   ·rw[QDq.mp hp];exact h⟩
def Inv.last(I:L2.Inv X (γ++[(b,o)]) σ H s):s.heap.get? b=some o:=(I.pin (b,o) (QVq _ (QVq _ (.head _)))).1
end
section
variable{X:Cx}{A:Around}{γ:QQz}{σ:L2.St}{H:Hp}{l it S q:Addr}{xs:List V}{R:Result->Shared->Prop}{kf:Nat->Int}
theorem Lz(hA:X.A=A.in1)(hc:X.calm=true)(hl:H l=some (.lst xs))(hSI:S≠it)
  (turn:∀(i:Nat)(v:V)(u:Value)(ω:QQz)(s:Shared),xs[i]? =some v->L2.Inv X ω σ H s->RelV v u->wpAny (model X.prog X.w) X.A (call (.ref q) [u]) (EP X ω σ (fun r H'=>r=.int (kf i)/\H'=H)) (fun _ _=>False) s)
  (fin:∀(i:Nat)(v:V)(u:Value)(s:Shared),xs[i]? =some v->(∀j,j<xs.length->kf i<=kf j/\(j<i->kf i<kf j))->L2.Inv X γ σ H s->RelV v u->R (.ok (.ret u)) s):
  ∀(r j i:Nat)(s:Shared)(vb:V)(ub:Value)(tb:Tok)(c:Nat),xs.length- (j+1)=r->j+1<=xs.length->L2.Inv X γ σ H s->eE X γ H it->eE X γ H S->s.heap.IsListIter it l (j+1)->
   s.heap.get? S=some (seqObj "list" #[ub,.int (kf i) tb] c)->xs[i]? =some vb->RelV vb ub->i<=j->(∀j',j'<=j->kf i<=kf j'/\(j'<i->kf i<kf j'))->
   codeAny (model X.prog X.w) A (.builtin "min.loop" ⟨[.ref it,.ref q,.ref S],[]⟩) R s:=by
 have hname:(toString "min"++toString ".loop":String)="min.loop":=by decide
 have T:=o7 (P:=X.prog) (w:=X.w) (K:=X.K) (tg:=.Name "x" ⟨0,0,0,0⟩) l it
 intro r
 induction r with
 |zero=>
  intro j i s vb ub tb c hr hj I fI fS st eS hvb rb hij best
  refine codeAny_builtin PySem.F.entry_min_loop ?_
  rw[Around.under_plainId PySem.F.plain_min_loop _,<-hA]
  show wpAny _ X.A (seqItems? (.ref S)>>=_) _ _ _
  refine QTz (wpAny_seqItems eS rfl ?_)
  show wpAny _ X.A (tryCatch (pyNext (.ref it)) _>>=_) _ _ _
  have I1:=Inv.sX I fS eS (fun v z=>by cases z)
  refine QTz (wpAny_tryCatch (QKz (T.done X rfl rfl rfl hc (j+1) _ s σ H _ I1 (fun b hb=>by rw[QDq.mp hb];exact eE.sX fI hSI) st ⟨xs,.inl (.inl hl),by omega⟩) (fun r s1 h=>?_) fun _ _ h=>h))
  obtain⟨rfl,I2⟩:=h
  have e2:=Inv.last I2
  show wpAny _ X.A (updateSeq S (fun _=> #[])>>=_) _ _ _
  refine QTz ?_
  refine wpAny_updateSeq e2 rfl (QTz (wpAny_letGo (QKq ?_)))
  have s3:=Heap.SameBut.update s1.heap S (Obj.mapSeq fun _=>(#[]:Array Value))
  exact fin i vb ub _ hvb (fun j' hj'=>best j' (by omega)) (Inv.nP (ch:=[S]) I2.dJ (fun b o hb e=>(s3.2 b (by simpa using hb)).trans e) (fun b hb=>by rw[QDq.mp hb];exact fS)) rb
 |succ r ih=>
  intro j i s vb ub tb c hr hj I fI fS st eS hvb rb hij best
  have hlt:j+1<xs.length:=by omega
  refine codeAny_builtin PySem.F.entry_min_loop ?_
  rw[Around.under_plainId PySem.F.plain_min_loop _,<-hA]
  show wpAny _ X.A (seqItems? (.ref S)>>=_) _ _ _
  refine QTz (wpAny_seqItems eS rfl ?_)
  have I1:=Inv.sX I fS eS (fun v z=>by cases z)
  obtain⟨v,hv⟩:∃v,xs[j+1]? =some v:=⟨xs[j+1],QXq hlt⟩
  refine QTz (wpAny_tryCatch (QKz (T.item X rfl rfl rfl hc (j+1) _ s σ H (fun _ _=>False) I1 (fun b hb=>by rw[QDq.mp hb];exact eE.sX fI hSI) st ⟨xs,v,.inl (.inl hl),hv⟩) (fun r s1 h=>?_) fun _ _ h=>h.elim))
  obtain⟨u,rfl,h⟩:=h
  refine q8 (QKz h (fun _ s2 h2=>?_) fun _ _ h=>h.elim)
  obtain⟨y,H',I2,ry,⟨rfl,yl⟩,st2,nf⟩:=h2
  have ev:=QDz ((yl xs (.inl (.inl hl))).symm.trans hv)
  subst ev
  obtain⟨oI,eI,cI,dI⟩:=id st2
  have I3:=Inv.sX I2 (eE.sX (o:=seqObj "list" #[ub,.int (kf i) tb] c) fI hSI) eI (fun v z=>by rw[dI]at z;cases z)
  refine QTz (wpAny_tryCatch (QGz (QKz (turn (j+1) y u _ s2 hv I3 ry) (fun x s3 he=>?_) fun _ _ hF=>hF.elim)))
  obtain⟨z,H3,I4,rz,rfl,rfl⟩:=he
  obtain⟨t2,rfl⟩:=(show∃t,x=Value.int (kf (j+1)) t from rz)
  have eI4:=Inv.last I4
  have eS4:=Inv.last I4.dJ
  have I5:=I4.dJ.dJ
  have st4:s3.heap.IsListIter it l (j+1+1):=⟨oI,eI4,cI,dI⟩
  refine QTz (wpAny_tryCatch (QGz (QTz (CmpOf.ints_lt (prog:=X.prog) (w:=X.w) (A:=X.A) (P:=fun i v=>∃t,v=.int (kf i) t) kf (fun i v h=>h) (j+1) i _ _ _ _ _ ⟨t2,rfl⟩ ⟨tb,rfl⟩ ?_))))
  refine QTz (QGz (wpAny_truthy_bool ?_))
  refine QTz (wpAny_letGo (QKq ?_))
  by_cases hb:kf (j+1)<kf i
  ·have s5:=Heap.SameBut.update s3.heap S (Obj.mapSeq fun _=> #[u,.int (kf (j+1)) t2])
   obtain⟨c2,hc2⟩:∃c2,(s3.heap.update S (Obj.mapSeq fun _=> #[u,.int (kf (j+1)) t2])).get? S=some (seqObj "list" #[u,.int (kf (j+1)) t2] c2):=⟨_,get?_update_seq eS4 fun _=> #[u,.int (kf (j+1)) t2]⟩
   simp only[hb,decide_true,if_true]
   refine QTz ?_
   refine wpAny_updateSeq eS4 rfl (QTz (wpAny_letGo ?_))
   rw[hname]
   refine QKq ⟨plainId_quiet PySem.F.plain_min_loop _,?_⟩
   refine ih (j+1) (j+1) _ y u t2 c2 (by omega) hlt (Inv.nP (ch:=[S]) I5 (fun b o hb e=>(s5.2 b (by simpa using hb)).trans e) (fun b hb=>by rw[QDq.mp hb];exact fS)) fI fS ⟨oI,(s5.2 it (Ne.symm hSI)).trans eI4,cI,dI⟩ hc2 hv ry (QVz _) fun j' hj'=>?_
   by_cases e:j'=j+1
   ·subst e
    exact⟨by omega,fun _=>by omega⟩
   ·have b1:=best j' (by omega)
    have b2:=b1.1
    exact⟨by omega,fun _=>by omega⟩
  ·simp only[hb,decide_false,Qyz,if_false]
   refine QTz (wpAny_letGo ?_)
   rw[hname]
   refine QKq ⟨plainId_quiet PySem.F.plain_min_loop _,?_⟩
   refine ih (j+1) i _ vb ub tb c (by omega) hlt (I5.tok _) fI fS st4 eS4 hvb rb (by omega) fun j' hj'=>?_
   by_cases e:j'=j+1
   ·subst e
    exact⟨by omega,fun _=>by omega⟩
   ·exact best j' (by omega)
end
section
variable{X:Cx}{γ:QQz}{σ:L2.St}{H:Hp}{s:Shared}{l q:Addr}{xs:List V}{kf:Nat->Int}{Q:QZq}{E:QZq}
def Oh(hc:X.calm=true)(I:L2.Inv X γ σ H s)(hl:H l=some (.lst xs))(hne:0<xs.length)
  (turn:∀(i:Nat)(v:V)(u:Value)(ω:QQz)(s:Shared),xs[i]? =some v->L2.Inv (Cx.under X X.A.in1) ω σ H s->RelV v u->
   wpAny (model X.prog X.w) X.A.in1 (call (.ref q) [u]) (EP (Cx.under X X.A.in1) ω σ (fun r H'=>r=.int (kf i)/\H'=H)) (fun _ _=>False) s)
  (fin:∀(i:Nat)(v:V)(u:Value)(s:Shared),xs[i]? =some v->(∀j,j<xs.length->kf i<=kf j/\(j<i->kf i<kf j))->L2.Inv X γ σ H s->RelV v u->Q u s):
  wpAny (model X.prog X.w) X.A (call (.builtin "min") [.ref l] [(Str.ofString "key",.ref q)]) Q E s:=by
 have hname:(toString "min"++toString ".loop":String)="min.loop":=by decide
 obtain⟨its,rv,p,hz⟩:=I.list (xs:=xs) (.inl (.inl hl))
 refine kmk_tree PySem.F.kind_min PySem.F.plain_min PySem.F.entry_min (kmk_min_key _ _) ?_
 refine QTz (wpAny_of_eq (show Builtin.Builtins.bindParams "min" ["key","default"] 0 ⟨[],[(Str.ofString "key",.ref q)]⟩=pure [some (.ref q),none]from rfl) ?_)
 refine QTz (QKq ?_)
 refine QTz (wpAny_pyIter_list p.isList ?_)
 refine QTz (wpAny_newList ?_ (QHq _))
 rw[hname]
 generalize hh1:s.heap.push {cls:=.type "list_iterator",data:=.fields #[.ref l,.int 0 0]}=h1
 have z1:h1.objs.size=s.heap.objs.size+1:=by rw[<-hh1];exact Heap.size_push _ _
 have g1:h1.get? s.heap.objs.size=some {cls:=.type "list_iterator",data:=.fields #[.ref l,.int 0 0]}:=by rw[<-hh1];exact Qqz _ rfl
 have hSI:h1.objs.size≠s.heap.objs.size:=by rw[z1];exact Nat.succ_ne_self _
 have fI:=I.uW (QVz _) (I.hok.fresh (QVz _))
 have fS:eE X γ H h1.objs.size:=I.uW (by omega) (I.hok.fresh (by omega))
 have I0:L2.Inv (Cx.under X X.A.in1) γ σ H {s with heap:=h1.push (seqObj "list" #[] 0)}:=
  Inv.under (Inv.nP (ch:=[]) (t':=s.toks) I (fun b o _ e=>QWq _ (by rw[<-hh1];exact QWq _ e)) (fun b hb=>nomatch hb)) rfl rfl
 have eS:(h1.push (seqObj "list" #[] 0)).get? h1.objs.size=some (seqObj "list" #[] 0):=Qqz _ rfl
 have eI:(h1.push (seqObj "list" #[] 0)).get? s.heap.objs.size=some {cls:=.type "list_iterator",data:=.fields #[.ref l,.int 0 0]}:=QWq _ g1
 refine QKq ⟨plainId_quiet PySem.F.plain_min_loop _,?_⟩
 have T:=o7 (P:=X.prog) (w:=X.w) (K:=X.K) (tg:=.Name "x" ⟨0,0,0,0⟩) l s.heap.objs.size
 refine codeAny_builtin PySem.F.entry_min_loop ?_
 rw[Around.under_plainId PySem.F.plain_min_loop _]
 show wpAny _ X.A.in1 (seqItems? (.ref h1.objs.size)>>=_) _ _ _
 refine QTz (wpAny_seqItems eS rfl ?_)
 show wpAny _ X.A.in1 (tryCatch (pyNext (.ref s.heap.objs.size)) _>>=_) _ _ _
 have fI':=fI
 have fS':=fS
 have I1:=Inv.sX I0 fS' eS (fun v z=>by cases z)
 obtain⟨v,hv⟩:∃v,xs[0]? =some v:=⟨xs[0],QXq hne⟩
 refine QTz (wpAny_tryCatch (QKz (T.item (Cx.under X X.A.in1) rfl rfl rfl hc 0 _ _ σ H (fun _ _=>False) I1 (fun b hb=>by rw[QDq.mp hb];exact eE.sX fI' hSI) ⟨_,eI,rfl,rfl⟩ ⟨xs,v,.inl (.inl hl),hv⟩) (fun r s1 h=>?_) fun _ _ h=>h.elim))
 obtain⟨u,rfl,h⟩:=h
 refine q8 (QKz h (fun _ s2 h2=>?_) fun _ _ h=>h.elim)
 obtain⟨y,H',I2,ry,⟨rfl,yl⟩,st2,nf⟩:=h2
 have ev:=QDz ((yl xs (.inl (.inl hl))).symm.trans hv)
 subst ev
 obtain⟨oI,eI2,cI,dI⟩:=id st2
 have I3:=Inv.sX I2 (eE.sX (o:=seqObj "list" #[] 0) fI' hSI) eI2 (fun v z=>by rw[dI]at z;cases z)
 refine QTz (wpAny_tryCatch (QGz (QKz (turn 0 y u _ s2 hv I3 ry) (fun x s3 he=>?_) fun _ _ hF=>hF.elim)))
 obtain⟨z,H3,I4,rz,rfl,rfl⟩:=he
 obtain⟨t2,rfl⟩:=(show∃t,x=Value.int (kf 0) t from rz)
 have eI4:=Inv.last I4
 have eS4:=Inv.last I4.dJ
 have I5:=I4.dJ.dJ
 have s5:=Heap.SameBut.update s3.heap h1.objs.size (Obj.mapSeq fun _=> #[u,.int (kf 0) t2])
 obtain⟨c2,hc2⟩:∃c2,(s3.heap.update h1.objs.size (Obj.mapSeq fun _=> #[u,.int (kf 0) t2])).get? h1.objs.size=some (seqObj "list" #[u,.int (kf 0) t2] c2):=⟨_,get?_update_seq eS4 fun _=> #[u,.int (kf 0) t2]⟩
 refine QTz ?_
 refine wpAny_updateSeq eS4 rfl ?_
 rw[hname]
 refine QKq ⟨plainId_quiet PySem.F.plain_min_loop _,?_⟩
 refine Lz (X:=Cx.under X X.A.in1) (A:=X.A) rfl hc hl hSI turn (fun i v u s' e b J r=>fin i v u s' e b (Inv.back J rfl rfl) r) _ 0 0 _ y u t2 c2 rfl hne
  (Inv.nP (ch:=[h1.objs.size]) I5 (fun b o hb e=>(s5.2 b (by simpa using hb)).trans e) (fun b hb=>by rw[QDq.mp hb];exact fS')) fI' fS' ⟨oI,(s5.2 _ (Ne.symm hSI)).trans eI4,cI,dI⟩ hc2 hv ry (QVz _) fun j' hj'=>?_
 have e:j'=0:=by omega
 subst e
 exact⟨by omega,fun h=>absurd h (Nat.lt_irrefl _)⟩
end
structure Ve(K:QQq)(C:Addr)(m:Str)(g:Addr):Prop where
 me:Meth K C m g
 get:PySem.W.specialIn K (.ref g) "__get__"=some (some (.builtin "function.__get__"))
 tk:PySem.W.takesIn K (.ref g)=some false
 cp:PySem.W.copiedNames.contains m=false
section
variable{X:Cx}{γ:QQz}{σ:L2.St}{H:Hp}{s:Shared}{a C dx g:Addr}{fs:List (Str×V)}{m:Str}{A:Around}{Q:QZq}{E:QZq}
def z7(I:L2.Inv X γ σ H s)(e:H a=some (.ins C dx fs))(c:pX X.K C)(k:Ve X.K C m g)(l:fs.lookup m=none)
  (h:∀q s',H q=none->L2.Inv X γ σ (upd H q (.met g a)) s'->Q (.ref q) s'):wpAny (model X.prog X.w) A (getAttr (.ref a) m b) Q E s:=by
 obtain⟨mA,O,r,_,_,_⟩:=qW I.hok e
 have hn:=jn.none_of (by rw[<-l];exact r m)
 obtain⟨od,J,hl⟩:=O.look
 refine PySem.W.get_bind I.zT J (PySem.W.plainGet_of (c.get m)).1 (PySem.W.findObj_fn c.hd k.me.at_ k.get k.tk k.cp (by rw[hl,hn])) (PySem.W.plainGet_of (c.get m)).2 ?_
 refine wpAny_call (PySem.W.fn_get I.zT (beq_iff_eq.mp k.me.fn) (PySem.W.handed_on rfl (h s.heap.objs.size _ (I.hok.fresh (QVz _)) ?_)))
 exact I.laid (fun b u q=>QWq _ q) (QVz _) (Qqz _ rfl)
end
section
variable{X:Cx}{CX:Jr}{k:Nat}{C:Addr}{fd:FuncData}{ps:List Str}{sp:Sp}{E:XK}{m:Str}{p pos kpos:Pos}{e le ke:Expr}{ta:TE}{t tk:TA}{g:Addr}{ds:List Value}{dvs:List V}
noncomputable def V0(K:QQq)(ta:TE)(m:Str)(g:Addr):TE:=fun σ H Q=>ta σ H fun x H1=>∃a C dx fs,x=.ref a/\H1 a=some (.ins C dx fs)/\pX K C/\Ve K C m g/\fs.lookup m=none/\∀q,H1 q=none->Q (.ref q) (upd H1 q (.met g a))
def WF(he:PE X e ta)(hb:attributeBase e m X.env (eval e X.env)=eval e X.env):PE X (.Attribute e m pos) (V0 X.K ta m g):=by
 intro γ s σ H Q I h
 refine GJ hb (cj (he γ s σ H _ I h) fun u s1⟨x,H1,I1,rx,a,C,dx,fs,ex,ea,c,k,l,q⟩=>?_)
 subst ex
 obtain rfl:u=Value.ref a:=rx
 exact z7 I1 ea c k l fun q' s2 hq I2=>⟨.ref q',_,I2,rfl,q q' hq⟩
theorem Hm{σ:L2.St}{H:Hp}{Q:VK}{vs:List V}(F:cD X.prog X.w X.K X.mg X.base CX k g fd ps sp)(hr:dH k X.A)(hb:Binds X.K fd ps ds)(hd:Vals dvs ds)(hx:lH CX X E)
  (I:L2.Inv X γ σ H s)(eq:H q=some (.met g a))(r:Vals vs us)(h:sp ((.ref a::vs)++dvs) H Q E):wpAny (model X.prog X.w) X.A (call (.ref q) us) (EP X γ σ Q) X.xe s:=by
 have r2:Vals ((.ref a::vs)++dvs) _:=Vals.append (.cons rfl r) hd
 have hl:((Value.ref a::us)++ds).length=ps.length:=by rw[<-r2.length];exact F.len _ _ _ _ h
 have ho:=I.hok q _ eq
 refine wpAny_call (ks_codeAny_call_bound ho (codeAny_mono (F.run X.A X.stack s H ⟨.ref a::us,[]⟩ _ _ Q E hr I.env0 (hb s _ I.zT hl) r2 h) fun r s' hq=>?_))
 cases r with
 |error e=>exact hx γ σ H s e s' I hq
 |ok fl=>
  cases fl with
  |ret u=>exact I.after hq
  |next=>exact False.elim hq
  |brk=>exact False.elim hq
  |cont=>exact False.elim hq
def acp(X:Cx)(σ:L2.St)(H:Hp)(q:Addr)(xs:List V)(kf:Nat->Int):Prop:=
 ∀(i:Nat)(v:V)(u:Value)(ω:QQz)(s:Shared),xs[i]? =some v->L2.Inv (Cx.under X X.A.in1) ω σ H s->RelV v u->
  wpAny (model X.prog X.w) X.A.in1 (call (.ref q) [u]) (EP (Cx.under X X.A.in1) ω σ (fun r H'=>r=.int (kf i)/\H'=H)) (fun _ _=>False) s
end
def kZ{σ:L2.St}{q a g:Addr}{kf:Nat->Int}{fd:FuncData}{sp:Sp}(F:cD X.prog X.w X.K X.mg X.base gn k g fd ps sp)(hr:dH (k+1) X.A)(hb:Binds X.K fd ps [])(eq:H q=some (.met g a))
  (h:∀i v,xs[i]? =some v->sp [.ref a,v] H (fun r H'=>r=.int (kf i)/\H'=H) E0):acp X σ H q xs kf:=by
 intro i v u ω s hv I ru
 have I':L2.Inv {Cx.under X X.A.in1 with xe:=fun _ _=>False} ω σ H s:=Inv.Ed I
 exact QKz (Hm (X:={Cx.under X X.A.in1 with xe:=fun _ _=>False}) F hr.in1 hb .nil iH I' eq (.cons ru .nil) (h i v hv)) (fun r s'⟨z,H',J,rz,e⟩=>⟨z,H',Inv.Ed J,rz,e⟩) fun _ _ z=>z
noncomputable def qe(K:QQq):Sp:=fun vs H Q _=>∃a w C dx fs sa la i j,vs=[.ref a,w]/\H a=some (.ins C dx fs)/\pX K C/\bf K C "since"/\bf K C "lengths"/\fs.lookup ("since":Str)=some (.ref sa)/\fs.lookup ("lengths":Str)=some (.ref la)/\
 lJ H sa w (some (.int i))/\lJ H la w (some (.int j))/\Q (.int (i+j)) H
def YB(st:Stmt):Prop:=∃p1 p2 p3 p4 p5 p6 p7 p8 p9 p10:Pos,cF st=[.Return (some (.BinOp (.Subscript (.Attribute (.Name "self" p1) "since" p2) (.Name "wire" p3) p4) .Add (.Subscript (.Attribute (.Name "self" p5) "lengths" p6) (.Name "wire" p7) p8) p9)) p10]
section
variable{P:Program}{w:World}{K:QQq}{mg:QZz}{base:Heap}
def Ym{st:Stmt}{f:Addr}{k:Nat}(F:GP K "due" qual st f fd)(S:eF ["self","wire"] ["self","wire"] (aq st))(v0:Jo (aq st) "self")(v1:Jo (aq st) "wire")(hb:YB st):
  cD P w K mg base gn (k+1) f fd ["self","wire"] (qe K):=by
 obtain⟨p1,p2,p3,p4,p5,p6,p7,p8,p9,p10,hb⟩:=hb
 refine F.ok S (fun vs H Q E⟨a,w,C,dx,fs,sa,la,i,j,e,_⟩=>by rw[e];rfl) fun cdv A outer s H vs Q E hr h=>?_
 rw[hb]
 have hu:(gD gn P w K mg base ["self","wire"] qual (aq st) f cdv A outer s H E).qU.A.units+1<cLine:=by have:=hr.units;exact Nat.lt_of_le_of_lt (Nat.add_le_add_left (by decide) _) this
 refine⟨_,jA (iT (WL (Fg hu (m7 (cZ (i:=0) rfl v0) rfl) (cZ (i:=1) rfl v1) (fun _ _=>rfl)) (Fg hu (m7 (cZ (i:=0) rfl v0) rfl) (cZ (i:=1) rfl v1) (fun _ _=>rfl)))),?_⟩
 obtain⟨a,w,C,dx,fs,sa,la,i,j,rfl,ea,cl,n1,n2,l1,l2,g1,g2,q⟩:=h
 exact⟨.ref a,rfl,a,C,dx,fs,.ref sa,rfl,ea,cl,n1,l1,w,rfl,sa,.int i,rfl,g1,.ref a,rfl,a,C,dx,fs,.ref la,rfl,ea,cl,n2,l2,w,rfl,la,.int j,rfl,g2,i,j,rfl,rfl,q⟩
end
noncomputable def Nu(v:V)(kvs:List (Key×V)):V:=if v=.non then .str "unasked" else if kvs.isEmpty then .str "end" else .str "on"
noncomputable def Eo(K:QQq):Sp:=fun vs H Q _=>∃a C dx fs v sa kvs,vs=[.ref a]/\H a=some (.ins C dx fs)/\pX K C/\bf K C "stand"/\bf K C "since"/\fs.lookup ("stand":Str)=some v/\fs.lookup ("since":Str)=some (.ref sa)/\
 H sa=some (.dK kvs)/\Q (Nu v kvs) H
def Yz(st:Stmt):Prop:=∃(k1 k2 k3 k4:Nat)(p1 p2 p3 p4 p5 p6 p7 p8 p9 p10 p11 p12 p13:Pos),cF st=[.If (.Compare (.Attribute (.Name "self" p1) "stand" p2) [.Is] [.Constant .none k1 p3] p4) [.Return (some (.Constant (.str "unasked") k2 p5)) p6] [] p7,
   .Return (some (.IfExp (.Attribute (.Name "self" p8) "since" p9) (.Constant (.str "on") k3 p10) (.Constant (.str "end") k4 p11) p12)) p13]
section
variable{P:Program}{w:World}{K:QQq}{mg:QZz}{base:Heap}
def Yl{st:Stmt}{f:Addr}{k:Nat}(F:GP K "ending" qual st f fd)(S:eF ["self"] ["self"] (aq st))(v0:Jo (aq st) "self")(hb:Yz st):
  cD P w K mg base gn (k+1) f fd ["self"] (Eo K):=by
 obtain⟨k1,k2,k3,k4,p1,p2,p3,p4,p5,p6,p7,p8,p9,p10,p11,p12,p13,hb⟩:=hb
 refine F.ok S (fun vs H Q E⟨a,C,dx,fs,v,sa,kvs,e,_⟩=>by rw[e];rfl) fun cdv A outer s H vs Q E hr h=>?_
 rw[hb]
 refine⟨_,bY (KR (xr Cj (m7 (cZ (i:=0) rfl v0) rfl) Cd rfl) (jA (iT xF)) xu) (jA (iT (sY (n8 (m7 (cZ (i:=0) rfl v0) rfl) (fun _=>rfl)) xF xF))),?_⟩
 obtain⟨a,C,dx,fs,v,sa,kvs,rfl,ea,cl,n1,n2,l1,l2,e2,q⟩:=h
 refine⟨.ref a,rfl,a,C,dx,fs,v,rfl,ea,cl,n1,l1,rfl,decide _,rfl,?_⟩
 unfold Nu at q
 by_cases hv:v=.non
 ·rw[if_pos hv]at q
  rw[if_pos (by simpa using hv)]
  exact q
 ·rw[if_neg hv]at q
  rw[if_neg (by simpa using hv)]
  refine⟨.ref a,rfl,a,C,dx,fs,.ref sa,rfl,ea,cl,n2,l2, !kvs.isEmpty,.inr (.inr ⟨kvs,e2,rfl⟩),?_⟩
  cases hk:kvs.isEmpty
  ·rw[hk]at q;exact q
  ·rw[hk]at q;exact q
end
def CJ{w:World}{v:Value}(h:(cA P w).is k v=true):RelV (kV k) v:=by
 rcases bZ h with ⟨i,t,rfl,rfl⟩|⟨x,t,rfl,rfl⟩<;>exact⟨t,rfl⟩
def Il{P:Program}{w:World}:∀{kvs:List (Key×V)}{vs:List (Key×Value)}{es:List DictEntry},KV kvs vs->Pairs (cA P w) es vs->Vals (kvs.map fun p=>kV p.1) (es.map (·.key)):=by
 intro kvs vs es r
 induction r generalizing es with
 |nil=>intro p;cases p;exact .nil
 |cons h t ih=>
  intro p
  cases p with
  |cons h1 h2 h3=>exact .cons (by dsimp only;rw[h.1];exact CJ h1) (ih h3)
section
variable{X:Cx}
def Dw(hc:X.calm=true):gP X (.type "list") (fun xs H Q=>∃a kvs,xs=[.ref a]/\H a=some (.dK kvs)/\∀l,H l=none->Q (.ref l) (upd H l (.lst (kvs.map fun p=>kV p.1)))):=by
 rintro γ s σ H xs us Q I r ⟨a,kvs,rfl,e,q⟩
 obtain⟨u,rfl,rx⟩:=vals1 r
 cases rx
 obtain⟨z,y,vs,rel,o,es,ep,h1,h2,h3,_,pr,_⟩:=(I.hok a _ e)
 have lk:=Paired.length rel
 have le:es.size=vs.length:=by rw[<-Array.length_toList];exact pr.length
 refine PySem.W.kdl_call (Om y) (I.ok.hd hc) ⟨o,h1,h2,h3⟩ (by omega) fun h' tk acc c' kp g it=>?_
 have ev:acc.toList=es.toList.map (·.key):=by
  refine List.ext_getElem? fun i=>?_
  rw[Array.getElem?_toList,QEz,Array.getElem?_toList]
  by_cases hi:i<acc.size
  ·obtain⟨e,e1,e2⟩:=it.2 i acc[i] (Array.getElem?_eq_getElem hi)
   rw[Array.getElem?_eq_getElem hi,e1,e2]
   rfl
  ·have:=it.1
   rw[Array.getElem?_eq_none (by omega),Array.getElem?_eq_none (by omega)]
   rfl
 have rv:Vals (kvs.map fun p=>kV p.1) acc.toList:=by rw[ev];exact Il rel pr
 refine⟨.ref s.heap.objs.size,_,I.laid kp (QVz _) (show dg X.prog X.w _ h' _ (.lst _)from⟨by rw[Qvz];omega,acc.toList,c',rv,by simpa using g⟩),rfl,q _ (I.hok.fresh (QVz _))⟩
end
section
variable{X:Cx}{k:Nat}{fd:FuncData}{ps:List Str}{sp:Sp}{p pos kpos:Pos}{le ke:Expr}{t tk:TA}{g:Addr}
noncomputable def JX(g:Addr)(sp:Sp)(t tk:TA):TE:=fun σ H Q=>t σ H fun vs H1=>tk σ H1 fun zs H2=>∃(l q a:Addr)(xs:List V)(kf:Nat->Int),vs=[.ref l]/\zs=[.ref q]/\H2 l=some (.lst xs)/\0<xs.length/\H2 q=some (.met g a)/\
 (∀(i:Nat)v,xs[i]? =some v->sp [.ref a,v] H2 (fun r H'=>r=.int (kf i)/\H'=H2) E0)/\∀(i:Nat)v,xs[i]? =some v->(∀j,j<xs.length->kf i<=kf j/\(j<i->kf i<kf j))->Q v H2
def Q9(hc:X.calm=true)(F:cD X.prog X.w X.K X.mg X.base gn k g fd ps sp)(hr:dH (k+1) X.A)(hb:Binds X.K fd ps [])(ha:PA X [le] t)(hkw:PK X [⟨some "key",ke,kpos⟩] tk)(hg:Gl X "min")(hm:X.mg "min"=none)
  (he:backTo pos (starEach [le] X.env)=(false,eval le X.env)::backTo pos (starEach [] X.env):=by rfl)(hplain:(backTo pos (starEach [le] X.env)).any (·.1)=false:=by rfl):
  PE X (.Call (.Name "min" p) [le] [⟨some "key",ke,kpos⟩] pos) (JX g sp t tk):=by
 intro γ s σ H Q I h
 refine wpAny_Call_Name_kw (jC I hg hm rfl ?_)
 refine callWith_kw (cj (ha pos γ s σ H _ I h) fun us s1⟨vs,H1,I1,r,q⟩=>?_) he hplain
 refine cj (hkw pos γ s1 σ H1 _ I1 q) fun ws s2⟨zs,H2,I2,rz,l,q',a,xs,kf,e1,e2,hl,hne,eq,hk,fin⟩=>?_
 subst e1 e2
 obtain⟨u1,rfl,r1⟩:=Vals.one r
 obtain⟨u2,rfl,r2⟩:=Vals.one rz
 obtain rfl:u1=Value.ref l:=r1
 obtain rfl:u2=Value.ref q':=r2
 exact Oh hc I2 hl hne (kZ F hr hb eq hk) fun i v u s' e b J rv=>⟨v,H2,J,rv,fin i v e b⟩
end
def Ug(K:QQq)(c:Cf)(m:E):TE:=fun σ H Q=>∃env,tM K W0 env (ev c m env) σ H Q
theorem GE.Ug{c:Cf}{e:Expr}(h:GE X W0 c m e):PE X e (Ug X.K c m):=fun γ s σ H Q I⟨env,q⟩=>h env γ s σ H Q I q
noncomputable def Ue(t:TE):TE:=fun σ H Q=>t σ H fun v H1=>∃a u,v=.ref a/\H1 a=some u/\Pn u/\∀o,Q v (upd H1 a (.frz o u))
def K7{e:Expr}(h:PE X e t):PE X e (Ue t):=by
 intro γ s σ H Q I q
 refine cj (h γ s σ H _ I q) fun u s1⟨v,H1,I1,r,a,w,ev,ha,hu,k⟩=>?_
 obtain⟨o,I2⟩:=Inv.freeze I1 ha hu
 exact⟨v,_,I2,r,k o⟩
abbrev sf(K:QQq)(f:Str):TE:=VP K (aY 0) f
abbrev rLk:List V->Hp->VK->Prop:=fun xs H Q=>∃a kvs,xs=[.ref a]/\H a=some (.dK kvs)/\∀l,H l=none->Q (.ref l) (upd H l (.lst (kvs.map fun p=>kV p.1)))
noncomputable def adR(K:QQq)(C g:Addr)(spD spL spS spW:Sp):TS:=
 j9 (wY (JX g spD (aH (tCB rLk (aH (sf K "since") cW)) cW) (aH (V0 K (aY 0) "due" g) cW)) (oU 1))
 (j9 (wY (qb C "due" spD [] E0 (aY 0) (aH (aY 1) cW)) (oU 2))
 (j9 (qd (tBM K "list" xq (sf K "changes") (aH (JT (aH (aY 2) (aH (aY 1) cW))) cW)))
 (j9 (mV K (aY 0) (ie spL [] E0 (aH (sf K "net") (aH (sf K "talk") (aH (sf K "stand") (aH (aY 1) cW))))) "stand")
 (j9 (qd (Bk (sf K "since") (aY 1)))
 (j9 (wY (tIf (Ei (Ua (fun x y H Q=>y=.non/\Q (.bl (decide (x=.non))) H) (sf K "stand") (tC .non))) (JZ cW) (ie spS [] E0 (aH (sf K "net") (aH (sf K "talk") (aH (sf K "stand") cW))))) (oU 3))
 (mV K (aY 0) (ie spW [] E0 (aH (Ue (aY 3)) (aH (sf K "since") (aH (aY 2) cW)))) "since"))))))
abbrev kJ:List Str:=["self","wire","time","names"]
noncomputable def vo(K:QQq)(C g:Addr)(spD spL spS spW:Sp):Sp:=fun vs H Q _=>vs.length=1/\adR K C g spD spL spS spW {nx:=fun _ H'=>Q .non H',rt:=Q} (L2.start kJ vs) H
inductive YC(st:Stmt):Prop
 |mk (x1 lc:Nat) (p1 p2 p3 p4 p5 p6 p7 p8 p9 p10 q1 q2 q6 a1 a2 a3 a4 a5 b1 b2 b3 b4 b5 b6 b7 b8 c1 c2 c3 c4 c5 c6 c7 c8 c9 c10 c11 c12 d1 d2 d3 d4 d5 d6 e1 e2 e3 e4 e5 e6 e7 e8 e9 e10 e11 e12 e13 e14 e15 g1 g2 g3 g4 g5 g6 g7 g8 g9:Pos) (h0_:cF st=[.Assign [.Name "wire" q1] (.Call (.Name "min" p1) [.Call (.Name "list" p2) [.Attribute (.Name "self" p3) "since" p4] [] p5] [⟨some "key",.Attribute (.Name "self" p6) "due" p7,p8⟩] p9) p10,
   .Assign [.Name "time" q2] (.Call (.Attribute (.Name "self" a1) "due" a2) [.Name "wire" a3] [] a4) a5,
   .Expr (.Call (.Attribute (.Attribute (.Name "self" b1) "changes" b2) "append" b3) [.Tuple [.Name "time" b4,.Name "wire" b5] lc b6] [] b7) b8,
   .Assign [.Attribute (.Name "self" c1) "stand" c2] (.Call (.Name "led_to" c3) [.Attribute (.Name "self" c4) "net" c5,.Attribute (.Name "self" c6) "talk" c7,.Attribute (.Name "self" c8) "stand" c9,.Name "wire" c10] [] c11) c12,
   .Expr (.Call (.Attribute (.Attribute (.Name "self" d1) "since" d2) "pop" d3) [.Name "wire" d4] [] d5) d6,
   .Assign [.Name "names" q6] (.IfExp (.Compare (.Attribute (.Name "self" e1) "stand" e2) [.Is] [.Constant .none x1 e3] e4) (.List [] e5) (.Call (.Name "steps_at" e6) [.Attribute (.Name "self" e7) "net" e8,.Attribute (.Name "self" e9) "talk" e10,.Attribute (.Name "self" e11) "stand" e12] [] e13) e14) e15,
   .Assign [.Attribute (.Name "self" g1) "since" g2] (.Call (.Name "since_when" g3) [.Name "names" g4,.Attribute (.Name "self" g5) "since" g6,.Name "time" g7] [] g8) g9]) (h1_:∀env:Env,∃pl:Sem Bool,eval (.Call (.Attribute (.Name "self" a1) "due" a2) [.Name "wire" a3] [] a4) env=(do
   let ov<-eval (.Name "self" a1) env
   standAt a2.atName
   let (f,first)<-holding [ov] (getMethod ov "due" pl)
   callWith a4 f first (backTo a4 (starEach [.Name "wire" a3] env)) (backToKw a4 (keywordEach [] env)))) (h2_:(b3.endLine==b7.line)=true) (h3_:(d3.endLine==d5.line)=true)
section
variable{P:Program}{w:World}{K:QQq}{mg:QZz}{base:Heap}
def Yv{st:Stmt}{f C g fl fs fw:Addr}{k:Nat}{spD spL spS spW:Sp}
  (F:GP K "change" qual st f fd)(S:eF kJ ["self"] (aq st))(lo:∀x∈kJ,(aq st).names.lookup x=some .local)
  (gl:∀x∈(["min","list","led_to","steps_at","since_when"]:List Str),(aq st).names.lookup x=some .globalImplicit)
  (cl:pX K C)(bd:Ve K C "due" g)(D:cD P w K mg base gn k g fdD ["self","wire"] spD)(bD:Binds K fdD ["self","wire"] [])
  (L:cD P w K mg base gn k fl fdL psL spL)(bL:Binds K fdL psL [])(mL:mg "led_to"=some (.ref fl))(kL:PySem.W.keepIn K (.ref fl)=true)
  (T:cD P w K mg base gn k fs fdS psS spS)(bT:Binds K fdS psS [])(mT:mg "steps_at"=some (.ref fs))(kT:PySem.W.keepIn K (.ref fs)=true)
  (W:cD P w K mg base gn k fw fdW psW spW)(bW:Binds K fdW psW [])(mW:mg "since_when"=some (.ref fw))(kW:PySem.W.keepIn K (.ref fw)=true)
  (m1:mg "min"=none)(m2:mg "list"=none)(hb:YC st):
  cD P w K mg base gn (k+2) f fd ["self"] (vo K C g spD spL spS spW):=by
 obtain⟨x1,lc,p1,p2,p3,p4,p5,p6,p7,p8,p9,p10,q1,q2,q6,a1,a2,a3,a4,a5,b1,b2,b3,b4,b5,b6,b7,b8,c1,c2,c3,c4,c5,c6,c7,c8,c9,c10,c11,c12,d1,d2,d3,d4,d5,d6,e1,e2,e3,e4,e5,e6,e7,e8,e9,e10,e11,e12,e13,e14,e15,g1,g2,g3,g4,g5,g6,g7,g8,g9,hb,hm,h3,h5⟩:=hb
 refine F.ok S (fun vs H Q E h=>h.1) fun cdv A outer s H vs Q E hr h=>?_
 rw[hb]
 refine⟨_,?_,h.2⟩
 have hr1:=hr.mono (Nat.le_succ k)
 have v:∀x∈kJ,Jo (aq st) x:=fun x hx=>.inl (lo x hx)
 have pv0:∀{p:Pos},PE (gD gn P w K mg base kJ qual (aq st) f cdv A outer s H E).qU (.Name "self" p) (aY 0):=fun{p}=>cZ (i:=0) rfl (v _ (by simp))
 have pv1:∀{p:Pos},PE (gD gn P w K mg base kJ qual (aq st) f cdv A outer s H E).qU (.Name "wire" p) (aY 1):=fun{p}=>cZ (i:=1) rfl (v _ (by simp))
 have pv2:∀{p:Pos},PE (gD gn P w K mg base kJ qual (aq st) f cdv A outer s H E).qU (.Name "time" p) (aY 2):=fun{p}=>cZ (i:=2) rfl (v _ (by simp))
 have pv3:∀{p:Pos},PE (gD gn P w K mg base kJ qual (aq st) f cdv A outer s H E).qU (.Name "names" p) (Ue (aY 3)):=fun{p}=>K7 (cZ (i:=3) rfl (v _ (by simp)))
 have pf:∀{p q:Pos}{x:Str},PE (gD gn P w K mg base kJ qual (aq st) f cdv A outer s H E).qU (.Attribute (.Name "self" p) x q) (sf K x):=fun{p q x}=>m7 pv0 rfl
 refine bY (sU S.nd rfl (.inl (lo _ (by simp))) (Q9 rfl D hr bD (aC (lR (Dw rfl) (gl _ (by simp)) m2 rfl (aC pf bM)) bM) (Q5 (WF pv0 rfl) Wx) (gl _ (by simp)) m1) rfl (.inr (lo _ (by simp)))) ?_
 obtain⟨pl,ht⟩:=hm (gD gn P w K mg base kJ qual (aq st) f cdv A outer s H E).qU.env
 refine bY (sU S.nd rfl (.inl (lo _ (by simp))) (Ra (pl:=pl) pv0 cl bd.me D hr1 bD .nil iH (aC pv1 bM) rfl rfl ht) rfl (.inr (lo _ (by simp)))) ?_
 refine bY (lQ (Fd ⟨rfl,h3,rfl⟩ PySem.F.slot_list_append PySem.F.type_list_append pD pf (Ca (aC pv2 (aC pv1 bM)))) rfl) ?_
 refine bY (kE pv0 (gQ L hr1 (gl _ (by simp)) mL kL bL .nil iH (aC pf (aC pf (aC pf (aC pv1 bM))))) rfl) ?_
 refine bY (lQ (K8 pf pv1 ⟨rfl,rfl,h5,rfl⟩) rfl) ?_
 refine bY (sU S.nd rfl (.inl (lo _ (by simp))) (sY (xr Cj pf Cd rfl) (Ce bM) (gQ T hr1 (gl _ (by simp)) mT kT bT .nil iH (aC pf (aC pf (aC pf bM))))) rfl (.inr (lo _ (by simp)))) ?_
 exact jA (kE pv0 (gQ W hr1 (gl _ (by simp)) mW kW bW .nil iH (aC pv3 (aC pf (aC pv2 bM)))) rfl)
end
noncomputable def adN(K:QQq)(c:Cf)(mz:E)(spF spS spW:Sp):TS:=
 j9 (mV K (aY 0) (aY 1) "net") (j9 (mV K (aY 0) (aY 2) "talk") (j9 (mV K (aY 0) (Ug K c mz) "lengths") (j9 (mV K (aY 0) (JZ cW) "changes")
 (j9 (mV K (aY 0) (ie spF [] E0 (aH (aY 1) cW)) "stand")
 (mV K (aY 0) (ie spW [] E0 (aH (Ue (ie spS [] E0 (aH (aY 1) (aH (aY 2) (aH (sf K "stand") cW))))) (aH (Ug K c .emp) (aH (tC (.int 0)) cW)))) "since")))))
abbrev f9:List Str:=["self","net","talk","waits"]
noncomputable def Em(K:QQq)(c:Cf)(mz:E)(spF spS spW:Sp):Sp:=fun vs H Q _=>vs.length=4/\adN K c mz spF spS spW {nx:=fun _ H'=>Q .non H',rt:=Q} (L2.start f9 vs) H
inductive Yy(ct:Ct)(mz:E)(st:Stmt):Prop
 |mk (x1:Nat) (ez:Expr) (p1 p2 p3 p4 q1 q2 q3 q4 r1 r2 r3 s1 s2 s3 s4 u1 u2 u3 u4 u5 u6 v1 v2 v3 v4 v5 v6 v7 v8 v9 v10 v11 v12 v13:Pos) (h0_:cF st=[.Assign [.Attribute (.Name "self" p1) "net" p2] (.Name "net" p3) p4,.Assign [.Attribute (.Name "self" q1) "talk" q2] (.Name "talk" q3) q4,
   .Assign [.Attribute (.Name "self" r1) "lengths" r2] ez r3,.Assign [.Attribute (.Name "self" s1) "changes" s2] (.List [] s3) s4,
   .Assign [.Attribute (.Name "self" u1) "stand" u2] (.Call (.Name "first_stand" u3) [.Name "net" u4] [] u5) u6,
   .Assign [.Attribute (.Name "self" v1) "since" v2] (.Call (.Name "since_when" v3) [.Call (.Name "steps_at" v4) [.Name "net" v5,.Name "talk" v6,.Attribute (.Name "self" v7) "stand" v8] [] v9,.Dict [] [] v10,.Constant (.int 0) x1 v11] [] v12) v13]) (h1_:∀(l:Nat)(env:Env),swapsWith ez (some (.Attribute (.Name "self" r1) "lengths" r2)) l env=pure false) (h2_:eO 60 ct ez=some mz)
section
variable{P:Program}{w:World}{K:QQq}{mg:QZz}{base:Heap}
def Xp{st:Stmt}{f ff fs fw:Addr}{k:Nat}{spF spS spW:Sp}{c:Cf}
  (F:GP K "__init__" qual st f fd)(S:eF f9 f9 (aq st))(lo:∀x∈f9,(aq st).names.lookup x=some .local)
  (gl:∀x∈(["first_stand","steps_at","since_when"]:List Str),(aq st).names.lookup x=some .globalImplicit)
  (D:cD P w K mg base gn k ff fdF psF spF)(bD:Binds K fdF psF [])(mD:mg "first_stand"=some (.ref ff))(kD:PySem.W.keepIn K (.ref ff)=true)
  (T:cD P w K mg base gn k fs fdS psS spS)(bT:Binds K fdS psS [])(mT:mg "steps_at"=some (.ref fs))(kT:PySem.W.keepIn K (.ref fs)=true)
  (W:cD P w K mg base gn k fw fdW psW spW)(bW:Binds K fdW psW [])(mW:mg "since_when"=some (.ref fw))(kW:PySem.W.keepIn K (.ref fw)=true)(hX:∀X:Cx,X.prog=P->X.w=w->X.K=K->X.mg=mg->X.base=base->X.calm=true->X.N=f9->X.env.scope=aq st->dH k X.A->jm ct X c)(hb:Yy ct mz st):
  cD P w K mg base gn (k+1) f fd f9 (Em K c mz spF spS spW):=by
 obtain⟨x1,ez,p1,p2,p3,p4,q1,q2,q3,q4,r1,r2,r3,s1,s2,s3,s4,u1,u2,u3,u4,u5,u6,v1,v2,v3,v4,v5,v6,v7,v8,v9,v10,v11,v12,v13,hb,sw,tr⟩:=hb
 refine F.ok S (fun vs H Q E h=>h.1) fun cdv A outer s H vs Q E hr h=>?_
 rw[hb]
 refine⟨_,?_,h.2⟩
 have v:∀x∈f9,Jo (aq st) x:=fun x hx=>.inl (lo x hx)
 have pv0:∀{p:Pos},PE (gD gn P w K mg base f9 qual (aq st) f cdv A outer s H E).qU (.Name "self" p) (aY 0):=fun{p}=>cZ rfl (v _ (by simp))
 have pv1:∀{p:Pos},PE (gD gn P w K mg base f9 qual (aq st) f cdv A outer s H E).qU (.Name "net" p) (aY 1):=fun{p}=>cZ rfl (v _ (by simp))
 have pv2:∀{p:Pos},PE (gD gn P w K mg base f9 qual (aq st) f cdv A outer s H E).qU (.Name "talk" p) (aY 2):=fun{p}=>cZ rfl (v _ (by simp))
 have pf:∀{p q:Pos}{x:Str},PE (gD gn P w K mg base f9 qual (aq st) f cdv A outer s H E).qU (.Attribute (.Name "self" p) x q) (sf K x):=fun{p q x}=>m7 pv0 rfl
 refine bY (kE pv0 pv1 rfl) (bY (kE pv0 pv2 rfl) (bY (kE pv0 (GE.Ug ((ih c 60).e ct _ _ _ (hX _ rfl rfl rfl rfl rfl rfl rfl rfl hr) tr).ge) (sw _ _)) ?_))
 refine bY (kE pv0 (Ce bM) rfl) (bY (kE pv0 (gQ D hr (gl _ (by simp)) mD kD bD .nil iH (aC pv1 bM)) rfl) ?_)
 exact jA (kE pv0 (gQ W hr (gl _ (by simp)) mW kW bW .nil iH (aC (K7 (gQ T hr (gl _ (by simp)) mT kT bT .nil iH (aC pv1 (aC pv2 (aC pf bM))))) (aC (GE.Ug Nf) (aC Cg bM)))) rfl)
end
def tNo:TS:=fun _ _ _=>False
def Wv{ss:List Stmt}:uZ X ss tNo:=fun _ _ _ _ _ _ h=>h.elim
abbrev gf(K:QQq)(f:Str):TE:=VP K (aY 4) f
noncomputable def adL(K:QQq)(C:Addr)(top:Int)(spK spN spI spC spE:Sp):TS:=
 j9 (qd (ie spK [] E0 (aH (aY 0) (aH (aY 1) (aH (aY 2) cW)))))
 (j9 (aam (aal (fun σ H Q=>ie spN [] E0 (aH (aY 3) (aH (tC (.int 0)) (aH (tC (.int top)) cW))) σ H fun x H'=>∃k,DW K x H' k/\Q k H')) tNo Ub)
 (j9 (wY (Uc C spI [] E0 (aH (aY 0) (aH (aY 1) (aH (aY 2) cW)))) (oU 4))
 (j9 (JS (aas (fun σ H Q=>gf K "since" σ H fun x H'=>∃k,DW K x H' k/\Q k H') (tB (tLt (tCB (fun xs H Q=>∃x n,xs=[x]/\Tq K x H n/\Q (.int n) H) (aH (gf K "changes") cW)) (aY 3))))
  (qd (qb C "change" spC [] E0 (aY 4) cW)))
 (Ql (JT (aH (Ue (gf K "changes")) (aH (qb C "ending" spE [] E0 (aY 4) cW) cW)))))))
abbrev gM:List Str:=["net","talk","waits","number","going"]
noncomputable def J1(K:QQq)(C:Addr)(top:Int)(spK spN spI spC spE:Sp):Sp:=fun vs H Q _=>vs.length=4/\adL K C top spK spN spI spC spE {nx:=fun _ H'=>Q .non H',rt:=Q} (L2.start gM vs) H
inductive Yx(st:Stmt):Prop
 |mk (x1 x2:Nat) (rs:List Stmt) (p1 p2 p3 p4 p5 p6 q1 q2 q3 q4 q5 q6 q7 r1 r2 r3 r4 r5 r6 r7 s1 s2 s3 s4 s5 s6 s7 s8 s9 u1 u2 u3 u4 u5 v1 v2 v3 v4 v5 v6 v7:Pos) (h0_:cF st=[.Expr (.Call (.Name "check_waits" p1) [.Name "net" p2,.Name "talk" p3,.Name "waits" p4] [] p5) p6,
   .If (.UnaryOp .Not (.Call (.Name "is_number" q1) [.Name "number" q2,.Constant (.int 0) x1 q3,.Name "MOST_CHANGES" q4] [] q5) q6) rs [] q7,
   .Assign [.Name "going" r1] (.Call (.Name "Going" r2) [.Name "net" r3,.Name "talk" r4,.Name "waits" r5] [] r6) r7,
   .While (.BoolOp .And [.Attribute (.Name "going" s1) "since" s2,.Compare (.Call (.Name "len" s3) [.Attribute (.Name "going" s4) "changes" s5] [] s6) [.Lt] [.Name "number" s7] s8] s9)
    [.Expr (.Call (.Attribute (.Name "going" u1) "change" u2) [] [] u3) u4] [] u5,
   .Return (some (.Tuple [.Attribute (.Name "going" v1) "changes" v2,.Call (.Attribute (.Name "going" v3) "ending" v4) [] [] v5] x2 v6)) v7]) (h1_:∀env:Env,∃pl:Sem Bool,eval (.Call (.Attribute (.Name "going" u1) "change" u2) [] [] u3) env=(do
   let ov<-eval (.Name "going" u1) env
   standAt u2.atName
   let (f,first)<-holding [ov] (getMethod ov "change" pl)
   callWith u3 f first (backTo u3 (starEach [] env)) (backToKw u3 (keywordEach [] env)))) (h2_:∀env:Env,∃pl:Sem Bool,eval (.Call (.Attribute (.Name "going" v3) "ending" v4) [] [] v5) env=(do
   let ov<-eval (.Name "going" v3) env
   standAt v4.atName
   let (f,first)<-holding [ov] (getMethod ov "ending" pl)
   callWith v5 f first (backTo v5 (starEach [] env)) (backToKw v5 (keywordEach [] env))))
section
variable{P:Program}{w:World}{K:QQq}{mg:QZz}{base:Heap}
def VL{st:Stmt}{f C fk fn fi fc fe:Addr}{k:Nat}{spK spN spI spC spE:Sp}{tu:Tok}
  (F:GP K "timed" qual st f fd)(S:eF gM ["net","talk","waits","number"] (aq st))(lo:∀x∈gM,(aq st).names.lookup x=some .local)
  (gl:∀x∈(["check_waits","is_number","MOST_CHANGES","Going","len"]:List Str),(aq st).names.lookup x=some .globalImplicit)
  (cl:pX K C)(mk:Mk K C fi)(mc:Meth K C "change" fc)(me:Meth K C "ending" fe)
  (A1:cD P w K mg base gn k fk fdK psK spK)(b1:Binds K fdK psK [])(m1:mg "check_waits"=some (.ref fk))(k1:PySem.W.keepIn K (.ref fk)=true)
  (A2:cD P w K mg base gn k fn fdN psN spN)(b2:Binds K fdN psN [])(m2:mg "is_number"=some (.ref fn))(k2:PySem.W.keepIn K (.ref fn)=true)
  (A3:cD P w K mg base gn k fi fdI psI spI)(b3:Binds K fdI psI [])(m3:mg "Going"=some (.ref C))
  (A4:cD P w K mg base gn k fc fdC psC spC)(b4:Binds K fdC psC [])(A5:cD P w K mg base gn k fe fdE psE spE)(b5:Binds K fdE psE [])
  (mt:mg "MOST_CHANGES"=some (.int top tu))(ml:mg "len"=none)(hb:Yx st):
  cD P w K mg base gn (k+2) f fd ["net","talk","waits","number"] (J1 K C top spK spN spI spC spE):=by
 obtain⟨x1,x2,rs,p1,p2,p3,p4,p5,p6,q1,q2,q3,q4,q5,q6,q7,r1,r2,r3,r4,r5,r6,r7,s1,s2,s3,s4,s5,s6,s7,s8,s9,u1,u2,u3,u4,u5,v1,v2,v3,v4,v5,v6,v7,hb,hm,hn⟩:=hb
 refine F.ok S (fun vs H Q E h=>h.1) fun cdv A outer s H vs Q E hr h=>?_
 rw[hb]
 refine⟨_,?_,h.2⟩
 have hr1:=hr.mono (Nat.le_succ k)
 have v:∀x∈gM,Jo (aq st) x:=fun x hx=>.inl (lo x hx)
 have pv0:∀{p:Pos},PE (gD gn P w K mg base gM qual (aq st) f cdv A outer s H E).qU (.Name "net" p) (aY 0):=fun{p}=>cZ (i:=0) rfl (v _ (by simp))
 have pv1:∀{p:Pos},PE (gD gn P w K mg base gM qual (aq st) f cdv A outer s H E).qU (.Name "talk" p) (aY 1):=fun{p}=>cZ (i:=1) rfl (v _ (by simp))
 have pv2:∀{p:Pos},PE (gD gn P w K mg base gM qual (aq st) f cdv A outer s H E).qU (.Name "waits" p) (aY 2):=fun{p}=>cZ (i:=2) rfl (v _ (by simp))
 have pv3:∀{p:Pos},PE (gD gn P w K mg base gM qual (aq st) f cdv A outer s H E).qU (.Name "number" p) (aY 3):=fun{p}=>cZ (i:=3) rfl (v _ (by simp))
 have pv4:∀{p:Pos},PE (gD gn P w K mg base gM qual (aq st) f cdv A outer s H E).qU (.Name "going" p) (aY 4):=fun{p}=>cZ (i:=4) rfl (v _ (by simp))
 have pf:∀{p q:Pos}{x:Str},PE (gD gn P w K mg base gM qual (aq st) f cdv A outer s H E).qU (.Attribute (.Name "going" p) x q) (gf K x):=fun{p q x}=>m7 pv4 rfl
 obtain⟨pl,ht⟩:=hm (gD gn P w K mg base gM qual (aq st) f cdv A outer s H E).qU.env
 obtain⟨pl2,ht2⟩:=hn (gD gn P w K mg base gM qual (aq st) f cdv A outer s H E).qU.env
 refine bY (lQ (gQ A1 hr1 (gl _ (by simp)) m1 k1 b1 .nil iH (aC pv0 (aC pv1 (aC pv2 bM)))) rfl) ?_
 refine bY (KR (KN (n8 (gQ A2 hr1 (gl _ (by simp)) m2 k2 b2 .nil iH (aC pv3 (aC Cg (aC (Ff (v:=.int top) (gl _ (by simp)) mt ⟨tu,rfl⟩) bM)))) (fun _=>rfl))) Wv xu) ?_
 refine bY (sU S.nd rfl (.inl (lo _ (by simp))) (Rb mk A3 hr (gl _ (by simp)) m3 b3 .nil iH (aC pv0 (aC pv1 (aC pv2 bM)))) rfl (.inr (lo _ (by simp)))) ?_
 refine bY (zB PassesOwn.never (PW.pt (KJ (n8 pf (fun _=>rfl)) (EY (Wu (aa7 (oA Ai (gl _ (by simp)) ml rfl (aC pf bM)) pv3))))) (jA (lQ (zE (pl:=pl) pv4 cl mc A4 hr1 b4 .nil iH ht) rfl))) ?_
 exact jA (iT (Ca (aC (K7 pf) (aC (zE (pl:=pl2) pv4 cl me A5 hr1 b5 .nil iH ht2) bM))))
end
def jg(l:gF):List (Key×V):=l.map fun p=>(.inr p.1,.int p.2)
def Kp(H H':Hp):Prop:=∀b u,H b=some u->H' b=some u
def Kp.trans(a:Kp H H1)(b:Kp H1 H2):Kp H H2:=fun c u h=>b c u (a c u h)
def Kp.pers(k:Kp H H'):bR H H':=⟨fun b xs h=>k b _ h,fun b o u h=>k b _ h⟩
def Kp.lay{a:Addr}(h:H a=none):Kp H (upd H a u):=fun b v e=>by
 rw[au (fun z=>by subst z;rw[h]at e;cases e)];exact e
def Kp.chg{a:Addr}(k:Kp H0 H)(h:H0 a=none):Kp H0 (upd H a u):=fun b v e=>by
 rw[au (fun z=>by subst z;rw[h]at e;cases e)];exact k b v e
noncomputable def m8(vn vt vs:V)(la ca sa:Addr):List (Str×V):=[("net",vn),("talk",vt),("lengths",.ref la),("changes",.ref ca),("stand",vs),("since",.ref sa)]
structure iB(K:QQq)(C:Addr)(H0 H:Hp)(a:Addr)(n t:D)(ls:gF)(cs:List D)(sd:D)(ss:gF):Prop where
 ex:∃(dx la ca sa:Addr)(vn vt vs:V)(cv:List V),H a=some (.ins C dx (m8 vn vt vs la ca sa))/\bj K H n vn/\bj K H t vt/\bj K H sd vs/\H la=some (.dK (jg ls))/\H ca=some (.lst cv)/\ao K H cs cv/\H sa=some (.dK (jg ss))/\
  la≠sa/\H0 a=none/\H0 ca=none/\H0 sa=none
 kp:Kp H0 H
def q9{d:Addr}{x:Str}(e:H d=some (.dK (jg l)))(h:fJ (jg l) (.inr x)=some (.int i)):lJ H d (.str x) (some (.int i)):=by
 rw[<-h];exact lJ.k (k:=.inr x) e
noncomputable def Ab(ls ss:gF)(i:Nat):Int:=match ss[i]? with
 |some p=>p.2+(match fJ (jg ls) (.inr p.1)with|some (.int j)=>j|_=>0)
 |none=>0
theorem iB.mono{K:QQq}{C a:Addr}{n t sd:D}{cs:List D}(G:iB K C H0 H a n t ls cs sd ss)(k:Kp H H'):iB K C H0 H' a n t ls cs sd ss:=by
 obtain⟨⟨dx,la,ca,sa,vn,vt,vs,cv,e1,d1,d2,d3,e2,e3,d4,e4,r⟩,k0⟩:=G
 exact⟨⟨dx,la,ca,sa,vn,vt,vs,cv,k _ _ e1,d1.mono k.pers,d2.mono k.pers,d3.mono k.pers,k _ _ e2,k _ _ e3,d4.mono k.pers,k _ _ e4,r⟩,k0.trans k⟩
section
variable{K:QQq}{C a g:Addr}{H0 H:Hp}{n t sd:D}{ls ss:gF}{cs:List D}{σ:L2.St}{D:Ends}
def af0(hσ:σ[0]? =some (some (.ref a)))(G:iB K C H0 H a n t ls cs sd ss)(cl:pX K C)(bd:Ve K C "due" g)(n1:bf K C "since")(n2:bf K C "lengths")(ne:0<ss.length)
  (hi:∀(i:Nat)(p:Str×Int),ss[i]? =some p->fJ (jg ss) (.inr p.1)=some (.int p.2))(hl:∀(i:Nat)(p:Str×Int),ss[i]? =some p->∃j,fJ (jg ls) (.inr p.1)=some (.int j))
  (fin:∀(i:Nat)(p:Str×Int)(H1:Hp),ss[i]? =some p->(∀j,j<ss.length->Ab ls ss i<=Ab ls ss j/\(j<i->Ab ls ss i<Ab ls ss j))->Kp H H1->D.nx (σ.set 1 (some (.str p.1))) H1):
  wY (JX g (qe K) (aH (tCB rLk (aH (sf K "since") cW)) cW) (aH (V0 K (aY 0) "due" g) cW)) (oU 1) D σ H:=by
 obtain⟨⟨dx,la,ca,sa,vn,vt,vs,cv,e1,d1,d2,d3,e2,e3,d4,e4,r⟩,k0⟩:=G
 refine⟨.ref a,hσ,a,C,dx,_,.ref sa,rfl,e1,cl,n1,rfl,sa,jg ss,rfl,e4,fun l hl0=>?_⟩
 have k1:Kp H (upd H l (.lst ((jg ss).map fun p=>kV p.1))):=Kp.lay hl0
 refine⟨.ref a,hσ,a,C,dx,_,rfl,k1 _ _ e1,cl,bd,rfl,fun q hq=>?_⟩
 have k2:=k1.trans (Kp.lay (u:=.met g a) hq)
 have nlq:l≠q:=fun z=>by subst z;rw[aB]at hq;cases hq
 refine⟨l,q,a,(jg ss).map fun p=>kV p.1,Ab ls ss,rfl,rfl,?_,?_,aB,fun i v hv=>?_,fun i v hv best=>?_⟩
 ·rw[au nlq,aB]
 ·simpa[jg]using ne
 ·unfold jg at hv
  rw[List.map_map,QEz]at hv
  obtain⟨p,ep,rfl⟩:=QJz.mp hv
  obtain⟨j,hj⟩:=hl i p ep
  refine⟨a,.str p.1,C,dx,_,sa,la,p.2,j,rfl,k2 _ _ e1,cl,n1,n2,rfl,rfl,q9 (k2 _ _ e4) (hi i p ep),q9 (k2 _ _ e2) hj,?_,rfl⟩
  unfold Ab
  rw[ep]
  simp only[hj]
 ·unfold jg at hv
  rw[List.map_map,QEz]at hv
  obtain⟨p,ep,rfl⟩:=QJz.mp hv
  exact fin i p _ ep (fun j hj=>best j (by simpa[jg]using hj)) k2
end
section
variable{K:QQq}{C a g:Addr}{H0 H:Hp}{n t sd:D}{ls ss:gF}{cs:List D}{σ:L2.St}{D:Ends}
def afZ{x:Str}(hσ:σ[0]? =some (some (.ref a)))(hx:σ[1]? =some (some (.str x)))(G:iB K C H0 H a n t ls cs sd ss)(cl:pX K C)(n1:bf K C "since")(n2:bf K C "lengths")
  (hi:fJ (jg ss) (.inr x)=some (.int i))(hj:fJ (jg ls) (.inr x)=some (.int j))(fin:D.nx (σ.set 2 (some (.int (i+j)))) H):
  wY (qb C "due" (qe K) [] E0 (aY 0) (aH (aY 1) cW)) (oU 2) D σ H:=by
 obtain⟨⟨dx,la,ca,sa,vn,vt,vs,cv,e1,d1,d2,d3,e2,e3,d4,e4,r⟩,k0⟩:=G
 exact⟨.ref a,hσ,a,dx,_,rfl,e1,rfl,.str x,hx,a,.str x,C,dx,_,sa,la,i,j,rfl,e1,cl,n1,n2,rfl,rfl,q9 e4 hi,q9 e2 hj,fin⟩
def afY{i:Int}(hσ:σ[0]? =some (some (.ref a)))(hx:σ[1]? =some (some (.str x)))(ht:σ[2]? =some (some (.int i)))(G:iB K C H0 H a n t ls cs sd ss)(cl:pX K C)(n1:bf K C "changes")(hz:cs.length<sizeLine)
  (fin:∀H1,iB K C H0 H1 a n t ls (cs++[.tup [.int i,.str x]]) sd ss->D.nx σ H1):
  qd (tBM K "list" xq (sf K "changes") (aH (JT (aH (aY 2) (aH (aY 1) cW))) cW)) D σ H:=by
 obtain⟨⟨dx,la,ca,sa,vn,vt,vs,cv,e1,d1,d2,d3,e2,e3,d4,e4,ne,z1,z2,z3⟩,k0⟩:=G
 refine⟨.ref a,hσ,a,C,dx,_,.ref ca,rfl,e1,cl,n1,rfl,.inl ⟨rfl,cv,.inl (.inl e3)⟩,.int i,ht,.str x,hx,by simp[sizeLine_eq],fun p hp=>?_⟩
 have k1:Kp H (upd H p (.tup [.int i,.str x])):=Kp.lay hp
 have lc:cv.length<sizeLine:=by rw[<-d4.length];exact hz
 have nca:ca≠a:=fun z=>by subst z;rw[e1]at e3;cases e3
 have ncl:ca≠la:=fun z=>by subst z;rw[e2]at e3;cases e3
 have ncs:ca≠sa:=fun z=>by subst z;rw[e4]at e3;cases e3
 have ncp:ca≠p:=fun z=>by subst z;rw[hp]at e3;cases e3
 refine⟨ca,cv,.ref p,rfl,rfl,k1 _ _ e3,lc,fin _ ?_⟩
 have k2:bR H (upd (upd H p (.tup [.int i,.str x])) ca (.lst (cv++[.ref p]))):=by
  refine⟨fun b xs h=>?_,fun b o u h=>?_⟩
  ·rw[au (fun z=>by subst z;rw[e3]at h;cases h)];exact k1 _ _ h
  ·rw[au (fun z=>by subst z;rw[e3]at h;cases h)];exact k1 _ _ h
 refine⟨⟨dx,la,ca,sa,vn,vt,vs,cv++[.ref p],?_,d1.mono k2,d2.mono k2,d3.mono k2,?_,aB,ao.append (d4.mono k2) ?_,?_,ne,z1,z2,z3⟩,(k0.trans k1).chg z2⟩
 ·rw[au (Ne.symm nca)];exact k1 _ _ e1
 ·rw[au (Ne.symm ncl)];exact k1 _ _ e2
 ·refine ao.bA ?_ ao.eX
  unfold bj
  refine⟨p,[.int i,.str x],rfl,.inl (.inl ?_),ao.bA (by unfold bj;rfl) (ao.bA (by unfold bj;rfl) ao.eX)⟩
  rw[au (Ne.symm ncp),aB]
 ·rw[au (Ne.symm ncs)];exact k1 _ _ e4
end
def zG{ds:List D}{i:Nat}:¬aK (ds.map .val) σ i b:=by
 rintro ⟨⟨s,xs,e,h⟩,_⟩
 rw[QEz]at e
 obtain⟨d,_,rfl⟩:=QJz.mp e
 cases h
def Kd{K:QQq}{ds:List D}(l:ao K H ds vs):Sat K (ds.map .val) (vs.map some) H:=by
 refine⟨by simp[l.length],fun i s e=>?_,fun i j a h _=>absurd h zG⟩
 rw[QEz]at e
 obtain⟨d,ed,rfl⟩:=QJz.mp e
 obtain⟨v,ev,dv⟩:=l.get ed
 exact⟨v,by rw[QEz,ev];rfl,dv⟩
def lM{K:QQq}{H:Hp}{vs:List V}{r:Rv}{k:Nat}{E:XK}(l:ao K H ds vs)(hk:vs.length=k)(h:f (ds.map .val)=.ok r qs)(fin:∀v H',Kp H H'->acj K H H' r v->Q v H'):cG K k f vs H Q E:=by
 refine⟨ds.map .val,hk,Kd l,fun i o e=>?_,?_⟩
 ·rw[QEz]at e
  obtain⟨d,_,z⟩:=QJz.mp e
  cases z
 ·rw[h]
  exact fun v H' c rc=>fin v H' (fun b u e=>c.keep b u e fun i=>zG) rc
section
variable{K:QQq}{C a g:Addr}{H0 H:Hp}{n t sd:D}{ls ss:gF}{cs:List D}{σ:L2.St}{D:Ends}{f:List Sl->Res}
def afX{sd':Mini.D}(hσ:σ[0]? =some (some (.ref a)))(hx:σ[1]? =some (some (.str x)))(G:iB K C H0 H a n t ls cs sd ss)(cl:pX K C)(n1:bf K C "net")(n2:bf K C "talk")(n3:bf K C "stand")
  (hf:f [.val n,.val t,.val sd,.val (.str x)]=.ok (.val sd') qs)(fin:∀H1,iB K C H0 H1 a n t ls cs sd' ss->D.nx σ H1):
  mV K (aY 0) (ie (cG K 4 f) [] E0 (aH (sf K "net") (aH (sf K "talk") (aH (sf K "stand") (aH (aY 1) cW))))) "stand" D σ H:=by
 obtain⟨⟨dx,la,ca,sa,vn,vt,vs,cv,e1,d1,d2,d3,e2,e3,d4,e4,ne,z1,z2,z3⟩,k0⟩:=G
 refine⟨.ref a,hσ,a,C,dx,_,vn,rfl,e1,cl,n1,rfl,.ref a,hσ,a,C,dx,_,vt,rfl,e1,cl,n2,rfl,.ref a,hσ,a,C,dx,_,vs,rfl,e1,cl,n3,rfl,.str x,hx,?_⟩
 refine lM (E:=E0) (ao.bA d1 (ao.bA d2 (ao.bA d3 (ao.bA (by unfold bj;rfl) ao.eX)))) rfl hf fun v H' k rc=>?_
 have hv:=rc
 refine⟨.ref a,hσ,a,C,dx,_,rfl,k _ _ e1,cl,n3,by simp[m8],fin _ ?_⟩
 have hp:jz "stand" v (m8 vn vt vs la ca sa)=m8 vn vt v la ca sa:=rfl
 have ea:=k _ _ e1
 have k2:bR H' (upd H' a (.ins C dx (m8 vn vt v la ca sa))):=by
  refine⟨fun b xs h=>?_,fun b o u h=>?_⟩
  ·rw[au (fun z=>by subst z;rw[ea]at h;cases h)];exact h
  ·rw[au (fun z=>by subst z;rw[ea]at h;cases h)];exact h
 have kp:=k.pers
 have n_:∀{b:Addr}{u:HO},H b=some u->(∀C dx fs,u≠ .ins C dx fs)->upd H' a (.ins C dx (m8 vn vt v la ca sa)) b=some u:=fun{b u}h hu=>by
  rw[au (fun z=>by subst z;rw[e1]at h;cases h;exact hu _ _ _ rfl)];exact k _ _ h
 exact⟨⟨dx,la,ca,sa,vn,vt,v,cv,aB,(d1.mono kp).mono k2,(d2.mono kp).mono k2,hv.mono k2,n_ e2 (by intros;intro z;cases z),n_ e3 (by intros;intro z;cases z),(d4.mono kp).mono k2,n_ e4 (by intros;intro z;cases z),ne,z1,z2,z3⟩,(k0.trans k).chg z1⟩
end
section
variable{K:QQq}{C a g:Addr}{H0 H:Hp}{n t sd:D}{ls ss ss':gF}{cs:List D}{σ:L2.St}{D:Ends}{f:List Sl->Res}
def afW{i:Int}(hσ:σ[0]? =some (some (.ref a)))(hx:σ[1]? =some (some (.str x)))(G:iB K C H0 H a n t ls cs sd ss)(cl:pX K C)(n1:bf K C "since")(hi:fJ (jg ss) (.inr x)=some (.int i))(hs:qx (jg ss) (.inr x)=jg ss')
  (fin:∀H1,iB K C H0 H1 a n t ls cs sd ss'->D.nx σ H1):
  qd (Bk (sf K "since") (aY 1)) D σ H:=by
 obtain⟨⟨dx,la,ca,sa,vn,vt,vs,cv,e1,d1,d2,d3,e2,e3,d4,e4,ne,z1,z2,z3⟩,k0⟩:=G
 refine⟨.ref a,hσ,a,C,dx,_,.ref sa,rfl,e1,cl,n1,rfl,sa,rfl,.inl ⟨_,.inl e4⟩,.str x,hx,jg ss,.inr x,.int i,e4,rfl,hi,?_⟩
 rw[hs]
 refine fin _ ?_
 have k2:bR H (upd H sa (.dK (jg ss'))):=by
  refine⟨fun b xs h=>?_,fun b o u h=>?_⟩
  ·rw[au (fun z=>by subst z;rw[e4]at h;cases h)];exact h
  ·rw[au (fun z=>by subst z;rw[e4]at h;cases h)];exact h
 refine⟨⟨dx,la,ca,sa,vn,vt,vs,cv,?_,d1.mono k2,d2.mono k2,d3.mono k2,?_,?_,d4.mono k2,aB,ne,z1,z2,z3⟩,k0.chg z3⟩
 ·rw[au (fun z=>by subst z;rw[e4]at e1;cases e1)];exact e1
 ·rw[au ne];exact e2
 ·rw[au (fun z=>by subst z;rw[e4]at e3;cases e3)];exact e3
end
section
variable{K:QQq}{C a g:Addr}{H0 H:Hp}{n t sd:D}{ls ss:gF}{cs nm:List D}{σ:L2.St}{D:Ends}{f:List Sl->Res}
theorem afV(hσ:σ[0]? =some (some (.ref a)))(G:iB K C H0 H a n t ls cs sd ss)(cl:pX K C)(n1:bf K C "net")(n2:bf K C "talk")(n3:bf K C "stand")
  (hf:if fj sd then nm=[]else∃qs,f [.val n,.val t,.val sd]=.ok (.new (.lst nm)) qs)
  (fin:∀p H1,iB K C H0 H1 a n t ls cs sd ss->H p=none->jo K H1 (.lst nm) p->Kp H H1->D.nx (σ.set 3 (some (.ref p))) H1):
  wY (tIf (Ei (Ua (fun x y H Q=>y=.non/\Q (.bl (decide (x=.non))) H) (sf K "stand") (tC .non))) (JZ cW) (ie (cG K 3 f) [] E0 (aH (sf K "net") (aH (sf K "talk") (aH (sf K "stand") cW))))) (oU 3) D σ H:=by
 have G0:=G
 obtain⟨⟨dx,la,ca,sa,vn,vt,vs,cv,e1,d1,d2,d3,e2,e3,d4,e4,ne,z1,z2,z3⟩,k0⟩:=G
 refine⟨.ref a,hσ,a,C,dx,_,vs,rfl,e1,cl,n3,rfl,rfl,decide _,rfl,?_⟩
 rw[rm d3]
 cases hs:fj sd with
 |true=>
  rw[hs]at hf
  have hnm:nm=[]:=by simpa using hf
  subst hnm
  refine⟨QHq _,fun p hp=>fin p _ (G0.mono (Kp.lay hp)) hp ⟨_,aB,?_⟩ (Kp.lay hp)⟩
  exact⟨[],rfl,ao.eX⟩
 |false=>
  rw[hs]at hf
  obtain⟨qs,hf⟩:∃qs,f [.val n,.val t,.val sd]=.ok _ qs:=by simpa using hf
  refine⟨.ref a,hσ,a,C,dx,_,vn,rfl,e1,cl,n1,rfl,.ref a,hσ,a,C,dx,_,vt,rfl,e1,cl,n2,rfl,.ref a,hσ,a,C,dx,_,vs,rfl,e1,cl,n3,rfl,?_⟩
  refine lM (E:=E0) (ao.bA d1 (ao.bA d2 (ao.bA d3 ao.eX))) rfl hf fun v H' k rc=>?_
  obtain⟨p,rfl,ob,hp⟩:=rc
  exact fin p H' (G0.mono k) hp ob k
end
theorem jt x:∀l:gF,fJ (jg l) (.inr x)=(aU x l).map V.int
 |[]=>rfl
 |p::l=>by
  show fJ ((Sum.inr p.1,V.int p.2)::jg l) _=_
  by_cases e:p.1=x
  ·rw[jb (by show(Sum.inr p.1)=.inr x;rw[e]),aU,if_pos e];rfl
  ·rw[jc (fun z=>e (Sum.inr.inj z)),jt x l,aU,if_neg e]
def Ny x l:qx (jg l) (.inr x)=jg (l.filter fun q=>decide (q.1≠x)):=by
 unfold qx jg
 rw[List.filter_map]
 congr 1
 refine List.filter_congr fun q _=>?_
 by_cases e:q.1=x<;>simp[e]
def Yn ls ss i:Ab ls ss i=fB ls ss i:=by
 unfold Ab fB
 cases ss[i]? with
 |none=>rfl
 |some p=>simp only[jt];cases aU p.1 ls<;>rfl
section
variable{K:QQq}{C a:Addr}{H0 H:Hp}{n t sd:D}{ls ss:gF}{cs nm:List D}{σ:L2.St}{D:Ends}{f:List Sl->Res}
theorem wX:∀{kvs:List (Key×V)}{vs:List Mini.D}{l:gF},nR (kvs.map fun p=>dB p.1) vs=some l->ao K H vs (kvs.map (·.2))->kvs=jg l
 |[],vs,l,h,_=>by
  cases vs with
  |nil=>cases h;rfl
  |cons v vs=>simp[nR]at h
 |(k,v)::kvs,vs,l,h,d=>by
  cases k with
  |inl i=>cases vs<;>simp[nR,dB]at h
  |inr x=>
   cases vs with
   |nil=>simp[nR,dB]at h
   |cons w vs=>
    cases w with
    |int i=>
     have h':=h
     obtain⟨l',e,rfl⟩:=QJz.mp h'
     obtain⟨v',r,q,dv,dr⟩:=ao.aZ.mp d
     injection q with q1 q2
     subst q2
     have ev:v=.int i:=by
      have dv2:=dv
      exact q1.trans dv2
     rw[ev,wX e dr]
     rfl
    |_=>simp[nR,dB]at h
def Rt l:Jq K H (.dct (gA l) (jr l)) (.dK (jg l)):=by
 refine⟨jg l,rfl,by simp[gA,jg,dB],?_⟩
 induction l with
 |nil=>exact ao.eX
 |cons p l ih=>exact ao.bA (by unfold bj;rfl) ih
theorem zc{p sa:Addr}{tm:Int}{ss':gF}{Q:VK}{E:XK}(dp:bj K H (.lst nm) (.ref p))(es:H sa=some (.dK (jg ss)))(hf:Lj (f [.val (.lst nm),.bor (.dct (gA ss) (jr ss)),.val (.int tm)])=some ss')
  (fin:∀b H',(∀c u,H c=some u->c≠sa->H' c=some u)->bR H H'->H b=none->H' b=some (.dK (jg ss'))->Q (.ref b) H'):cG K 3 f [.ref p,.ref sa,.int tm] H Q E:=by
 have own:∀i b,aK [.val (.lst nm),.bor (.dct (gA ss) (jr ss)),.val (.int tm)] ([V.ref p,.ref sa,.int tm].map some) i b->i=1/\b=sa:=fun i b⟨⟨s,o,e1,e2⟩,e3⟩=>by
  match i with
  |0=>cases e1;cases e2
  |1=>cases e3;exact⟨rfl,rfl⟩
  |2=>cases e1;cases e2
  |i+3=>simp at e1
 refine⟨[.val (.lst nm),.bor (.dct (gA ss) (jr ss)),.val (.int tm)],rfl,⟨rfl,fun i s e=>?_,fun i j b h1 h2=>(own i b h1).1.trans (own j b h2).1.symm⟩,fun i o e=>?_,?_⟩
 ·match i with
  |0=>cases e;exact⟨_,rfl,dp⟩
  |1=>cases e;exact⟨_,rfl,_,es,Rt ss⟩
  |2=>cases e;exact⟨_,rfl,by unfold bj;rfl⟩
  |i+3=>simp at e
 ·match i with
  |0=>cases e
  |1=>cases e
  |2=>cases e
  |i+3=>simp at e
 ·cases hr:f [.val (.lst nm),.bor (.dct (gA ss) (jr ss)),.val (.int tm)]with
  |bad=>rw[hr]at hf;cases hf
  |exc _ _=>rw[hr]at hf;cases hf
  |ok r qs=>
   rw[hr]at hf
   cases r with
   |val _=>cases hf
   |ref _=>cases hf
   |tmp _=>cases hf
   |new o=>
    cases o with
    |lst _=>cases hf
    |dct ks vs=>
     intro v H' c rc
     obtain⟨b,rfl,⟨u,hu,kvs,rfl,hk,hd⟩,hb⟩:=rc
     have hf':nR ks vs=some ss':=hf
     rw[hk]at hf'
     have:=wX hf' hd
     subst this
     exact fin b H' (fun c' u' e ne=>c.keep c' u' e fun i o=>ne (own i c' o).2) c.pers hb hu
theorem afU{tm:Int}(hσ:σ[0]? =some (some (.ref a)))(ht:σ[2]? =some (some (.int tm)))(hp:σ[3]? =some (some (.ref p)))(G:iB K C H0 H a n t ls cs sd ss)(cl:pX K C)(n1:bf K C "since")
  (p0:H0 p=none)(ob:jo K H (.lst nm) p)(pc:∀dx vn vt vs la ca sa,H a=some (.ins C dx (m8 vn vt vs la ca sa))->p≠ca)
  (hf:Lj (f [.val (.lst nm),.bor (.dct (gA ss) (jr ss)),.val (.int tm)])=some ss')(fin:∀H1,iB K C H0 H1 a n t ls cs sd ss'->D.nx σ H1):
  mV K (aY 0) (ie (cG K 3 f) [] E0 (aH (Ue (aY 3)) (aH (sf K "since") (aH (aY 2) cW)))) "since" D σ H:=by
 obtain⟨⟨dx,la,ca,sa,vn,vt,vs,cv,e1,d1,d2,d3,e2,e3,d4,e4,ne,z1,z2,z3⟩,k0⟩:=G
 obtain⟨u,hu,ol⟩:=ob
 have hpc:=pc _ _ _ _ _ _ _ e1
 have cu:=ol.qj
 obtain⟨vl,rfl,dl⟩:=id ol
 have npa:a≠p:=fun z=>by subst z;rw[hu]at e1;cases e1
 have npl:la≠p:=fun z=>by subst z;rw[hu]at e2;cases e2
 have nps:sa≠p:=fun z=>by subst z;rw[hu]at e4;cases e4
 refine⟨.ref p,hp,p,_,rfl,hu,cu,fun o=>?_⟩
 have pf:=dO (o:=o) hu cu
 have f1:∀{b:Addr}{w:HO},b≠p->H b=some w->upd H p (.frz o (.lst vl)) b=some w:=fun nb h=>by rw[au nb];exact h
 refine⟨.ref a,hσ,a,C,dx,_,.ref sa,rfl,f1 npa e1,cl,n1,rfl,.int tm,ht,?_⟩
 refine zc (E:=E0) (nm:=nm) (ss:=ss) ((ol.mono pf).den aB) (f1 nps e4) hf fun b H' keep pe hb eb=>?_
 have nas:a≠sa:=fun z=>by subst z;rw[e4]at e1;cases e1
 have ncs:ca≠sa:=fun z=>by subst z;rw[e4]at e3;cases e3
 have ea:=keep _ _ (f1 npa e1) nas
 refine⟨.ref a,hσ,a,C,dx,_,rfl,ea,cl,n1,by simp[m8],fin _ ?_⟩
 have hpf:jz "since" (.ref b) (m8 vn vt vs la ca sa)=m8 vn vt vs la ca b:=rfl
 rw[hpf]
 have k2:bR H' (upd H' a (.ins C dx (m8 vn vt vs la ca b))):=by
  refine⟨fun b xs h=>?_,fun b o u h=>?_⟩
  ·rw[au (fun z=>by subst z;rw[ea]at h;cases h)];exact h
  ·rw[au (fun z=>by subst z;rw[ea]at h;cases h)];exact h
 have pp:=(pf.trans pe).trans k2
 have nba:b≠a:=fun z=>by subst z;rw[f1 npa e1]at hb;cases hb
 have nbl:la≠b:=fun z=>by subst z;rw[f1 npl e2]at hb;cases hb
 have f2:∀{c:Addr}{w:HO},c≠p->c≠sa->c≠a->H c=some w->upd H' a (.ins C dx (m8 vn vt vs la ca b)) c=some w:=fun x1 x2 x3 h=>by rw[au x3];exact keep _ _ (f1 x1 h) x2
 have b0:H0 b=none:=by
  cases q:H0 b with
  |none=>rfl
  |some w=>
   have:=k0 _ _ q
   have nbp:b≠p:=fun z=>by subst z;rw[p0]at q;cases q
   rw[f1 nbp this]at hb
   cases hb
 refine⟨⟨dx,la,ca,b,vn,vt,vs,cv,aB,d1.mono pp,d2.mono pp,d3.mono pp,f2 npl ne (fun z=>by subst z;rw[e1]at e2;cases e2) e2,f2 (Ne.symm hpc) ncs (fun z=>by subst z;rw[e1]at e3;cases e3) e3,d4.mono pp,?_,nbl,z1,z2,b0⟩,fun c w h=>?_⟩
 ·rw[au nba];exact eb
 ·exact f2 (fun z=>by subst z;rw[p0]at h;cases h) (fun z=>by subst z;rw[z3]at h;cases h) (fun z=>by subst z;rw[z1]at h;cases h) (k0 c w h)
end
theorem vP(f:Nat->Int):∀n,0<n->iu f n<n/\∀j,j<n->f (iu f n)<=f j/\(j<iu f n->f (iu f n)<f j)
 |0=>fun h=>absurd h (Nat.lt_irrefl 0)
 |1=>fun _=>⟨by simp[iu],fun j hj=>by
  have:j=0:=by omega
  subst this
  simp[iu]⟩
 |n+2=>fun _=>by
  obtain⟨h1,h2⟩:=vP f (n+1) (by omega)
  rw[iu]
  split
  ·rename_i c
   refine⟨by omega,fun j hj=>?_⟩
   by_cases e:j=n+1
   ·subst e;exact⟨Int.le_refl _,fun z=>absurd z (by omega)⟩
   ·have:=(h2 j (by omega)).1
    exact⟨by omega,fun _=>by omega⟩
  ·rename_i c
   refine⟨by omega,fun j hj=>?_⟩
   by_cases e:j=n+1
   ·subst e;exact⟨by omega,fun z=>by omega⟩
   ·exact h2 j (by omega)
def HW f(hi:i<n)(h:∀j,j<n->f i<=f j/\(j<i->f i<f j)):i=iu f n:=by
 obtain⟨h1,h2⟩:=vP f n (by omega)
 have a:=h _ h1
 have b:=h2 i hi
 rcases Nat.lt_trichotomy i _ with c|c|c
 ·have:=b.2 c;omega
 ·exact c
 ·have:=a.2 c;omega
section
variable{K:QQq}{C a g:Addr}{H0 H:Hp}{n t sd:D}{ls ss:gF}{cs:List D}{F:Gf}
structure O8(K:QQq)(C:Addr):Prop where
 net:bf K C "net"
 talk:bf K C "talk"
 len:bf K C "lengths"
 chg:bf K C "changes"
 std:bf K C "stand"
 snc:bf K C "since"
theorem SM{E:XK}(cl:pX K C)(bd:Ve K C "due" g)(na:O8 K C)(G:iB K C H0 H a n t ls cs sd ss)(ne:ss≠[])(hs:kj F n t ls ⟨cs,sd,ss⟩=some g')
  (fin:∀H',iB K C H0 H' a n t ls g'.cs g'.sd g'.ss->Q .non H'):vo K C g (qe K) (cG K 4 F.led) (cG K 3 F.stp) (cG K 3 F.snw) [.ref a] H Q E:=by
 refine⟨rfl,?_⟩
 unfold kj at hs
 split at hs
 rotate_left
 ·cases hs
 rename_i hok
 rw[QUq]at hok
 obtain⟨hok,hfit⟩:=hok
 have lp:=List.length_pos_iff.mpr ne
 have ok:∀p∈ss,aU p.1 ss=some p.2/\∃j,aU p.1 ls=some j:=fun p hp=>by
  have:=List.all_eq_true.mp hok p hp
  simp only[QUq,beq_iff_eq]at this
  exact⟨this.1,Option.isSome_iff_exists.mp this.2⟩
 split at hs
 ·cases hs
 rename_i p ep
 obtain⟨sd',e1,hs⟩:=QJq.mp hs
 obtain⟨nm,e2,hs⟩:=QJq.mp hs
 obtain⟨ss',e3,rfl⟩:=QJz.mp hs
 have mp:=QBq ep
 obtain⟨o1,j,o2⟩:=ok p mp
 have du:fB ls ss (iu (fB ls ss) ss.length)=p.2+j:=by
  show(match ss[iu _ ss.length]? with|some p=>p.2+(aU p.1 ls).getD 0|none=>0)=_
  rw[ep]
  simp only[o2]
  rfl
 refine af0 rfl G cl bd na.snc na.len lp (fun i q e=>?_) (fun i q e=>?_) fun i q H1 e best k1=>?_
 ·rw[jt,(ok q (QBq e)).1];rfl
 ·obtain⟨j,hj⟩:=(ok q (QBq e)).2
  exact⟨j,by rw[jt,hj];rfl⟩
 have hi:i<ss.length:=by
  rcases Nat.lt_or_ge i ss.length with z|z
  ·exact z
  ·rw[List.getElem?_eq_none z]at e;cases e
 have im:=HW _ hi fun j hj=>by
  have:=best j hj
  simp only[Yn]at this
  exact this
 have qp:q=p:=by rw[im,ep]at e;exact(QDz e).symm
 subst qp
 refine afZ rfl rfl (G.mono k1) cl na.snc na.len (by rw[jt,o1];rfl) (by rw[jt,o2];rfl) ?_
 have hz:cs.length<sizeLine:=by
  rw[sizeLine_eq]
  have:cs.length+1<=16777216:=by simpa[fits]using hfit
  omega
 refine afY rfl rfl rfl (G.mono k1) cl na.chg hz fun H2 G2=>?_
 have hl:∃qs,F.led [.val n,.val t,.val sd,.val (.str q.1)]=.ok (.val sd') qs:=by
  have e1':=e1
  cases h:F.led [.val n,.val t,.val sd,.val _]with
  |bad=>rw[h]at e1';cases e1'
  |exc _ _=>rw[h]at e1';cases e1'
  |ok r qs=>
   rw[h]at e1'
   cases r with
   |val d=>cases e1';exact⟨qs,rfl⟩
   |_=>cases e1'
 obtain⟨qs,hl⟩:=hl
 refine afX rfl rfl G2 cl na.net na.talk na.std hl fun H3 G3=>?_
 refine afW rfl rfl G3 cl na.snc (by rw[jt,o1];rfl) (Ny q.1 ss) fun H4 G4=>?_
 have hn:if fj sd' then nm=[]else∃qs,F.stp [.val n,.val t,.val sd']=.ok (.new (.lst nm)) qs:=by
  unfold xP at e2
  cases h:fj sd' with
  |true=>rw[h]at e2;cases e2;simp
  |false=>
   rw[h]at e2
   cases h2:F.stp [.val n,.val t,.val sd']with
   |bad=>rw[h2]at e2;cases e2
   |exc _ _=>rw[h2]at e2;cases e2
   |ok r qs=>
    rw[h2]at e2
    cases r with
    |new o=>
     cases o with
     |lst xs=>cases e2;exact⟨qs,rfl⟩
     |_=>cases e2
    |_=>cases e2
 refine afV rfl G4 cl na.net na.talk na.std hn fun pp H5 G5 hp ob k5=>?_
 refine afU rfl rfl rfl G5 cl na.snc ?_ ob ?_ (by rw[<-du];exact e3) fun H6 G6=>fin H6 ?_
 ·cases h:H0 pp with
  |none=>rfl
  |some w=>rw[G4.kp _ _ h]at hp;cases hp
 ·intro dx vn vt vs la ca sa e
  obtain⟨dx',la',ca',sa',vn',vt',vs',cv,f1,_,_,_,_,f3,_⟩:=G4.ex
  rw[k5 _ _ f1]at e
  injection e with e
  injection e with _ _ e
  have:ca'=ca:=by simp[m8]at e;exact e.2.2.2.1
  subst this
  exact fun z=>by subst z;rw[hp]at f3;cases f3
 ·rw[du]
  exact G6
end
def kI{a C dx:Addr}{u:HO}(e:H a=some (.ins C dx fs)):bR H (upd H a u):=by
 refine⟨fun b xs h=>?_,fun b o u h=>?_⟩
 ·rw[au (fun z=>by subst z;rw[e]at h;cases h)];exact h
 ·rw[au (fun z=>by subst z;rw[e]at h;cases h)];exact h
structure Ao(K:QQq)(C:Addr)(H0:Hp)(x dx:Addr)(n t w:D)(vn vt vw:V)(H:Hp)(fs:List (Str×V)):Prop where
 ex:H x=some (.ins C dx fs)
 kp:Kp H0 H
 dn:bj K H n vn
 dt:bj K H t vt
 dw:bj K H w vw
section
variable{K:QQq}{C x dx:Addr}{H0 H H':Hp}{n t w:D}{vn vt vw:V}{fs fs':List (Str×V)}
theorem Ao.mono(I:Ao K C H0 x dx n t w vn vt vw H fs)(k:Kp H H'):Ao K C H0 x dx n t w vn vt vw H' fs:=
 ⟨k _ _ I.ex,I.kp.trans k,I.dn.mono k.pers,I.dt.mono k.pers,I.dw.mono k.pers⟩
def Ao.put(I:Ao K C H0 x dx n t w vn vt vw H fs)(z:H0 x=none):Ao K C H0 x dx n t w vn vt vw (upd H x (.ins C dx fs')) fs':=
 ⟨aB,I.kp.chg z,I.dn.mono (kI I.ex),I.dt.mono (kI I.ex),I.dw.mono (kI I.ex)⟩
def Ew(I:Ao K C H0 x dx n t w vn vt vw H fs):Sat K [.un,.val n,.val t,.val w] [some (.ref x),some vn,some vt,some vw] H:=by
 refine⟨rfl,fun i s e=>?_,fun i j a h=>?_⟩
 ·match i with
  |0=>cases e;trivial
  |1=>cases e;exact⟨_,rfl,I.dn⟩
  |2=>cases e;exact⟨_,rfl,I.dt⟩
  |3=>cases e;exact⟨_,rfl,I.dw⟩
  |i+4=>simp at e
 ·obtain⟨⟨s,o,e1,e2⟩,_⟩:=h
  match i with
  |0=>cases e1;cases e2
  |1=>cases e1;cases e2
  |2=>cases e1;cases e2
  |3=>cases e1;cases e2
  |i+4=>simp at e1
def Fj{i:Nat}:¬aK [.un,.val n,.val t,.val w] σ i b:=by
 rintro ⟨⟨s,o,e1,e2⟩,_⟩
 match i with
 |0=>cases e1;cases e2
 |1=>cases e1;cases e2
 |2=>cases e1;cases e2
 |3=>cases e1;cases e2
 |i+4=>simp at e1
def Ru{l:gF}(h:Rw r=some l):∃ks vs env,r=.ok (.new (.dct ks vs)) env/\nR ks vs=some l:=by
 cases r with
 |bad=>cases h
 |exc _ _=>cases h
 |ok r env=>
  cases r with
  |new o=>
   cases o with
   |dct ks vs=>exact⟨ks,vs,env,rfl,h⟩
   |_=>cases h
  |_=>cases h
def Qc{d:D}(h:Az r=some d):∃qs,r=.ok (.val d) qs:=by
 cases r with
 |bad=>cases h
 |exc _ _=>cases h
 |ok r qs=>
  cases r with
  |val d=>cases h;exact⟨qs,rfl⟩
  |_=>cases h
def RG{xs:List D}(h:HY r=some xs):∃qs,r=.ok (.new (.lst xs)) qs:=by
 cases r with
 |bad=>cases h
 |exc _ _=>cases h
 |ok r qs=>
  cases r with
  |new o=>
   cases o with
   |lst xs=>cases h;exact⟨qs,rfl⟩
   |_=>cases h
  |_=>cases h
theorem RW{mz:E}{Q:VK}{E:XK}{sd:D}(cl:pX K C)(na:O8 K C)(z:H0 x=none)(I:Ao K C H0 x dx n t w vn vt vw H [])
  (h1:Rw (ev c mz [.un,.val n,.val t,.val w])=some ls)(h2:Az (ff [.val n])=some sd)(h3:HY (fs_ [.val n,.val t,.val sd])=some nm)(h4:Lj (fw [.val (.lst nm),.bor (.dct [] []),.val (.int 0)])=some ss)
  (fin:∀H',iB K C H0 H' x n t ls [] sd ss->Q .non H'):Em K c mz (cG K 1 ff) (cG K 3 fs_) (cG K 3 fw) [.ref x,vn,vt,vw] H Q E:=by
 obtain⟨ks,vs,env',hm,hl⟩:=Ru h1
 obtain⟨q2,h2⟩:=Qc h2
 obtain⟨q3,h3⟩:=RG h3
 refine⟨rfl,?_⟩
 refine⟨vn,rfl,.ref x,rfl,x,C,dx,_,rfl,I.ex,cl,na.net,by simp,?_⟩
 have I1:=I.put (fs':=[("net",vn)]) z
 refine⟨vt,rfl,.ref x,rfl,x,C,dx,[("net",vn)],rfl,I1.ex,cl,na.talk,by simp,?_⟩
 have I2:=I1.put (fs':=[("net",vn),("talk",vt)]) z
 show mV K (aY 0) (Ug K c mz) "lengths" _ _ (upd (upd H x (.ins C dx [("net",vn)])) x (.ins C dx [("net",vn),("talk",vt)]))
 refine⟨[.un,.val n,.val t,.val w],Ew I2,?_⟩
 rw[hm]
 rintro v H3 N ⟨la,rfl,⟨u,hu,kvs,rfl,hk,hd⟩,hla⟩
 rw[hk]at hl
 have:=wX hl hd
 subst this
 have k3:=fun b u e=>N.keep b u e fun i=>Fj
 have I3:=I2.mono k3
 have nxl:la≠x:=fun q=>by subst q;rw[I2.ex]at hla;cases hla
 refine⟨.ref x,rfl,x,C,dx,_,rfl,I3.ex,cl,na.len,by simp,?_⟩
 have I4:=I3.put (fs':=[("net",vn),("talk",vt),("lengths",.ref la)]) z
 have l4:upd H3 x (.ins C dx [("net",vn),("talk",vt),("lengths",.ref la)]) la=some (.dK (jg ls)):=by rw[au nxl];exact hu
 show mV K (aY 0) (JZ cW) "changes" _ _ (upd H3 x (.ins C dx [("net",vn),("talk",vt),("lengths",.ref la)]))
 generalize upd H3 x (.ins C dx [("net",vn),("talk",vt),("lengths",.ref la)])=H4 at I4 l4⊢
 refine⟨QHq _,fun ca hca=>?_⟩
 have k5:Kp H4 (upd H4 ca (.lst [])):=Kp.lay hca
 have I5:=I4.mono k5
 have nxc:ca≠x:=fun q=>by subst q;rw[I4.ex]at hca;cases hca
 refine⟨.ref x,rfl,x,C,dx,_,rfl,I5.ex,cl,na.chg,by simp,?_⟩
 have I6:=I5.put (fs':=[("net",vn),("talk",vt),("lengths",.ref la),("changes",.ref ca)]) z
 have c0:H0 ca=none:=by
  cases q:H0 ca with
  |none=>rfl
  |some w=>rw[I4.kp _ _ q]at hca;cases hca
 have l6:upd (upd H4 ca (.lst [])) x (.ins C dx [("net",vn),("talk",vt),("lengths",.ref la),("changes",.ref ca)]) la=some (.dK (jg ls)):=by rw[au nxl];exact k5 _ _ l4
 have c6:upd (upd H4 ca (.lst [])) x (.ins C dx [("net",vn),("talk",vt),("lengths",.ref la),("changes",.ref ca)]) ca=some (.lst []):=by rw[au nxc,aB]
 show mV K (aY 0) (ie (cG K 1 ff) [] E0 (aH (aY 1) cW)) "stand" _ _ (upd (upd H4 ca (.lst [])) x (.ins C dx [("net",vn),("talk",vt),("lengths",.ref la),("changes",.ref ca)]))
 refine⟨vn,rfl,?_⟩
 refine lM (E:=E0) (ds:=[n]) (ao.bA I6.dn ao.eX) rfl h2 fun v H7 k7 rc=>?_
 have hv:=rc
 have I7:=I6.mono k7
 refine⟨.ref x,rfl,x,C,dx,_,rfl,I7.ex,cl,na.std,by simp,?_⟩
 have I8:=I7.put (fs':=[("net",vn),("talk",vt),("lengths",.ref la),("changes",.ref ca),("stand",v)]) z
 have l8:upd H7 x (.ins C dx [("net",vn),("talk",vt),("lengths",.ref la),("changes",.ref ca),("stand",v)]) la=some (.dK (jg ls)):=by rw[au nxl];exact k7 _ _ l6
 have c8:upd H7 x (.ins C dx [("net",vn),("talk",vt),("lengths",.ref la),("changes",.ref ca),("stand",v)]) ca=some (.lst []):=by rw[au nxc];exact k7 _ _ c6
 have v8:bj K (upd H7 x (.ins C dx [("net",vn),("talk",vt),("lengths",.ref la),("changes",.ref ca),("stand",v)])) sd v:=hv.mono (kI I7.ex)
 show mV K (aY 0) (ie (cG K 3 fw) [] E0 (aH (Ue (ie (cG K 3 fs_) [] E0 (aH (aY 1) (aH (aY 2) (aH (sf K "stand") cW))))) (aH (Ug K c .emp) (aH (tC (.int 0)) cW)))) "since" _ _ (upd H7 x (.ins C dx [("net",vn),("talk",vt),("lengths",.ref la),("changes",.ref ca),("stand",v)]))
 generalize upd H7 x (.ins C dx [("net",vn),("talk",vt),("lengths",.ref la),("changes",.ref ca),("stand",v)])=H8 at I8 l8 c8 v8⊢
 refine⟨vn,rfl,vt,rfl,.ref x,rfl,x,C,dx,_,v,rfl,I8.ex,cl,na.std,rfl,?_⟩
 refine lM (E:=E0) (ds:=[n,t,sd]) (ao.bA I8.dn (ao.bA I8.dt (ao.bA v8 ao.eX))) rfl h3 fun vl H9 k9 rc=>?_
 obtain⟨p,rfl,⟨u9,hu9,ol⟩,hp⟩:=rc
 have cu:=ol.qj
 refine⟨p,u9,rfl,hu9,cu,fun o=>?_⟩
 have nn:∀{b:Addr}{y:HO},H8 b=some y->upd H9 p (.frz o u9) b=some y:=fun{b y}h=>by
  rw[au (fun q=>by subst q;rw[hp]at h;cases h)];exact k9 _ _ h
 have dp:bj K (upd H9 p (.frz o u9)) (.lst nm) (.ref p):=(ol.mono (dO hu9 cu)).den aB
 have k10:Kp H8 (upd H9 p (.frz o u9)):=fun b y h=>nn h
 have I10:=I8.mono k10
 generalize upd H9 p (.frz o u9)=H10 at dp k10 I10
 refine⟨[.un,.val n,.val t,.val w],Ew I10,?_⟩
 rintro v2 H11 N2 ⟨s0,rfl,⟨u2,hu2,kv2,rfl,hk2,hd2⟩,hs0⟩
 have kn:kv2=jg []:=by
  cases kv2 with
  |nil=>rfl
  |cons a b=>cases hk2
 subst kn
 have k11:Kp H10 H11:=fun b u e=>N2.keep b u e fun i=>Fj
 refine zc (E:=E0) (nm:=nm) (ss:=[]) (dp.mono k11.pers) hu2 h4 fun b H12 keep pe hb eb=>?_
 have old:∀{c:Addr}{y:HO},H8 c=some y->H12 c=some y:=fun{c y}h=>keep _ _ (k11 _ _ (k10 _ _ h)) fun q=>by subst q;rw[k10 _ _ h]at hs0;cases hs0
 have k12:Kp H8 H12:=fun c y h=>old h
 have I12:=I8.mono k12
 refine⟨.ref x,rfl,x,C,dx,_,rfl,I12.ex,cl,na.snc,by simp,fin _ ?_⟩
 have hpf:jz "since" (.ref b) [("net",vn),("talk",vt),("lengths",.ref la),("changes",.ref ca),("stand",v)]=m8 vn vt v la ca b:=rfl
 rw[hpf]
 have nb:∀{c:Addr}{y:HO},H8 c=some y->c≠b:=fun{c y}h q=>by subst q;rw[k11 _ _ (k10 _ _ h)]at hb;cases hb
 have I13:=I12.put (fs':=m8 vn vt v la ca b) z
 have b0:H0 b=none:=by
  cases q:H0 b with
  |none=>rfl
  |some w=>exact absurd rfl (nb (I8.kp _ _ q))
 refine⟨⟨dx,la,ca,b,vn,vt,v,[],aB,I13.dn,I13.dt,(v8.mono k12.pers).mono (kI I12.ex),?_,?_,ao.eX,?_,nb l8,z,c0,b0⟩,I13.kp⟩
 ·rw[au nxl];exact old l8
 ·rw[au nxc];exact old c8
 ·rw[au (Ne.symm (nb I8.ex))];exact eb
end
section
variable{K:QQq}{C g:Addr}{H:Hp}
def Nt{sd:D}{cs:List D}(d:bj K H' sd v):bj K H' (Nv ⟨cs,sd,ss⟩) (Nu v (jg ss)):=by
 have e:=rm d
 unfold Nv Nu
 by_cases c:v=.non
 ·rw[if_pos c]
  have:fj sd=true:=by rw[<-e];simpa using c
  rw[this,if_pos rfl]
  rfl
 ·rw[if_neg c]
  have:fj sd=false:=by rw[<-e];simpa using c
  rw[this,if_neg (by decide)]
  cases ss with
  |nil=>unfold bj;rfl
  |cons p ss=>unfold bj;rfl
theorem Qj{c:Cf}{n t w d:D}{k:Int}{Q:VK}{E:XK}(cl:pX K C)(bd:Ve K C "due" g)(na:O8 K C)
  (dn:bj K H n vn)(dt:bj K H t vt)(dw:bj K H w vw)(hf:eQ T c [.val n,.val t,.val w,.val (.int k)]=.ok (.val d) qs)
  (fin:∀v H',Kp H H'->bj K H' d v->Q v H'):
  J1 K C T.top (cG K 3 (c.fn T.chk)) (cG K 3 (c.fn T.isn)) (Em K c T.mz (cG K 1 (c.fn T.fst)) (cG K 3 (c.fn T.stp)) (cG K 3 (c.fn T.snw)))
   (vo K C g (qe K) (cG K 4 (c.fn T.led)) (cG K 3 (c.fn T.stp)) (cG K 3 (c.fn T.snw))) (Eo K) [vn,vt,vw,.int k] H Q E:=by
 rw[eQ]at hf
 split at hf
 rotate_left
 ·cases hf
 rename_i hok
 rw[QUq]at hok
 obtain⟨ok1,ok2⟩:=hok
 obtain⟨d1,q1,c1⟩:∃d q,c.fn T.chk [.val n,.val t,.val w]=.ok (.val d) q:=by
  cases h:c.fn T.chk [.val n,.val t,.val w]with
  |bad=>rw[h]at ok1;cases ok1
  |exc _ _=>rw[h]at ok1;cases ok1
  |ok r q=>
   rw[h]at ok1
   cases r with
   |val d=>exact⟨d,q,rfl⟩
   |_=>cases ok1
 obtain⟨q2,c2⟩:∃q,c.fn T.isn [.val (.int k),.val (.int 0),.val (.int T.top)]=.ok (.val (.bl true)) q:=by
  cases h:c.fn T.isn [.val (.int k),.val (.int 0),.val (.int T.top)]with
  |bad=>rw[h]at ok2;cases ok2
  |exc _ _=>rw[h]at ok2;cases ok2
  |ok r q=>
   rw[h]at ok2
   cases r with
   |val d=>
    cases d with
    |bl b=>
     cases b with
     |true=>exact⟨q,rfl⟩
     |false=>cases ok2
    |_=>cases ok2
   |_=>cases ok2
 split at hf
 rotate_left
 ·cases hf
 rename_i G hG
 injection hf with hf _
 injection hf with hf
 obtain⟨⟨ls,g0⟩,hi,hG⟩:=QJq.mp hG
 unfold RX at hi
 obtain⟨ls0,h1,hi⟩:=QJq.mp hi
 obtain⟨sd,h2,hi⟩:=QJq.mp hi
 obtain⟨nm,h3,hi⟩:=QJq.mp hi
 obtain⟨ss,h4,hi⟩:=QJz.mp hi
 cases hi
 refine⟨rfl,?_⟩
 refine⟨vn,rfl,vt,rfl,vw,rfl,?_⟩
 refine lM (E:=E0) (ds:=[n,t,w]) (ao.bA dn (ao.bA dt (ao.bA dw ao.eX))) rfl c1 fun _ H1 k1 _=>?_
 refine⟨.int k,rfl,?_⟩
 refine lM (E:=E0) (ds:=[.int k,.int 0,.int T.top]) (ao.bA (by unfold bj;rfl) (ao.bA (by unfold bj;rfl) (ao.bA (by unfold bj;rfl) ao.eX))) rfl c2 fun v2 H2 k2 rc=>?_
 have ev:v2=.bl true:=by
  have rc':=rc
  exact rc'
 subst ev
 refine⟨true,rfl,?_⟩
 refine⟨vn,rfl,vt,rfl,vw,rfl,fun x dx hx hdx nx=>?_⟩
 have k02:=k1.trans k2
 have x0:H x=none:=by
  cases q:H x with
  |none=>rfl
  |some u=>rw[k02 _ _ q]at hx;cases hx
 have ka:Kp H2 (upd H2 dx (.own x)):=Kp.lay hdx
 have kb:Kp (upd H2 dx (.own x)) (upd (upd H2 dx (.own x)) x (.ins C dx [])):=Kp.lay (by rw[au (Ne.symm nx)];exact hx)
 have k3:=(k02.trans ka).trans kb
 refine RW cl na x0 ⟨aB,k3,dn.mono k3.pers,dt.mono k3.pers,dw.mono k3.pers⟩ h1 h2 h3 h4 fun H4 G4=>⟨rfl,?_⟩
 refine⟨fun m ζ H'=>ζ=[some vn,some vt,some vw,some (.int k),some (.ref x)]/\∃g1:Gs,iB K C H H' x n t ls g1.cs g1.sd g1.ss/\mQ (kj (T.gf c) n t ls) k m g1=some G,⟨_,rfl,_,G4,hG⟩,?_⟩
 rintro m ζ H5 ⟨rfl,⟨cs5,sd5,ss5⟩,G5,hl⟩
 cases m with
 |zero=>cases hl
 |succ m=>
  rw[mQ]at hl
  obtain⟨dx5,la,ca,sa,un,ut,us,cv,e1,f1,f2,f3,e2,e3,f4,e4,ne,z1,z2,z3⟩:=id G5.ex
  have hlen:=f4.length
  have body:∀N:L2.St->Hp->Prop,ss5≠[]->(kj (T.gf c) n t ls ⟨cs5,sd5,ss5⟩).bind (mQ (kj (T.gf c) n t ls) k m)=some G->∀D:Ends,∃N:L2.St->Hp->Prop,(∀ζ H',N ζ H'->∃m',m'<m+1/\(ζ=[some vn,some vt,some vw,some (.int k),some (.ref x)]/\∃g1:Gs,iB K C H H' x n t ls g1.cs g1.sd g1.ss/\mQ (kj (T.gf c) n t ls) k m' g1=some G))/\
    qd (qb C "change" (vo K C g (qe K) (cG K 4 (c.fn T.led)) (cG K 3 (c.fn T.stp)) (cG K 3 (c.fn T.snw))) [] E0 (aY 4) cW) {D with nx:=N,ct:=N,bk:=D.nx} [some vn,some vt,some vw,some (.int k),some (.ref x)] H5:=fun _ hne hb D=>by
   obtain⟨g2,s1,s2⟩:=QJq.mp hb
   refine⟨fun ζ H'=>ζ=[some vn,some vt,some vw,some (.int k),some (.ref x)]/\iB K C H H' x n t ls g2.cs g2.sd g2.ss,fun ζ H'⟨a1,a2⟩=>⟨m,Nat.lt_succ_self m,a1,g2,a2,s2⟩,?_⟩
   have Z:vo K C g (qe K) (cG K 4 (c.fn T.led)) (cG K 3 (c.fn T.stp)) (cG K 3 (c.fn T.snw)) [.ref x] H5 (fun _ H'=>[some vn,some vt,some vw,some (.int k),some (.ref x)]=[some vn,some vt,some vw,some (.int k),some (.ref x)]/\iB K C H H' x n t ls g2.cs g2.sd g2.ss) E0:=
    SM (F:=⟨c.fn T.led,c.fn T.stp,c.fn T.snw⟩) (Q:=fun _ H'=>[some vn,some vt,some vw,some (.int k),some (.ref x)]=[some vn,some vt,some vw,some (.int k),some (.ref x)]/\iB K C H H' x n t ls g2.cs g2.sd g2.ss) cl bd na G5 hne s1 fun H6 G6=>⟨rfl,G6⟩
   exact⟨.ref x,rfl,x,dx5,_,rfl,e1,rfl,Z⟩
  refine⟨.ref x,rfl,x,C,dx5,_,.ref sa,rfl,e1,cl,na.snc,rfl, !(jg ss5).isEmpty,.inr (.inr ⟨_,e4,rfl⟩),?_⟩
  have done:=hl
  have last:∀D:Ends,D.rt=Q->some (⟨cs5,sd5,ss5⟩:Gs)=some G->Ql (JT (aH (Ue (gf K "changes")) (aH (qb C "ending" (Eo K) [] E0 (aY 4) cW) cW))) D [some vn,some vt,some vw,some (.int k),some (.ref x)] H5:=fun D hD hg=>by
   cases hg
   have cu:Pn (.lst cv):=by constructor<;>(intros;intro z;cases z)
   refine⟨.ref x,rfl,x,C,dx5,_,.ref ca,rfl,e1,cl,na.chg,rfl,ca,_,rfl,e3,cu,fun o=>?_⟩
   have pf:=dO (o:=o) e3 cu
   have nca:x≠ca:=fun z=>by subst z;rw[e1]at e3;cases e3
   have ncs:sa≠ca:=fun z=>by subst z;rw[e4]at e3;cases e3
   refine⟨.ref x,rfl,x,dx5,_,rfl,by rw[au nca];exact e1,rfl,x,C,dx5,_,us,sa,jg ss5,rfl,by rw[au nca];exact e1,cl,na.std,na.snc,rfl,rfl,by rw[au ncs];exact e4,by simp[sizeLine_eq],fun p hp=>?_⟩
   rw[hD]
   have k6:Kp (upd H5 ca (.frz o (.lst cv))) (upd (upd H5 ca (.frz o (.lst cv))) p (.tup [.ref ca,Nu us (jg ss5)])):=Kp.lay hp
   have pp:=pf.trans k6.pers
   refine fin _ _ ((G5.kp.chg z2).trans k6) ?_
   rw[<-hf]
   refine fD (.inl (.inl aB)) (ao.bA ?_ (ao.bA (Nt (f3.mono pp)) ao.eX))
   unfold bj
   exact⟨ca,cv,rfl,.inl ⟨o,k6 _ _ aB⟩,f4.mono pp⟩
  cases hs:ss5 with
  |nil=>
   subst hs
   exact last _ rfl done
  |cons p5 s5=>
   have hne:ss5≠[]:=by rw[hs];exact List.cons_ne_nil _ _
   rw[<-hs]
   have em:(!(jg ss5).isEmpty)=true:=by rw[hs];rfl
   have em2:(!ss5.isEmpty)=true:=by rw[hs];rfl
   rw[em]
   refine Eq.mpr (if_pos rfl) ?_
   rw[em2,Bool.true_and]at done
   refine⟨.ref x,rfl,x,C,dx5,_,.ref ca,rfl,e1,cl,na.chg,rfl,.ref ca,cv.length,rfl,.inl ⟨cv,.inl (.inl e3),rfl⟩,.int k,rfl,cv.length,k,rfl,rfl,?_⟩
   rw[hlen]at done
   refine⟨_,rfl,?_⟩
   cases hc:decide ((cv.length:Int)<k)with
   |false=>
    rw[hc]at done
    refine Eq.mpr (if_neg (fun z=>Qjq (hc.symm.trans z))) ?_
    exact last _ rfl done
   |true=>
    rw[hc]at done
    refine Eq.mpr (if_pos hc) ?_
    exact body (fun _ _=>False) hne done _
end
structure ZX(K:QQq)(x qual:Str)(st:Stmt)(f:Addr)(N ps:List Str):Prop where
 fu:∃fd,GP K x qual st f fd/\Binds K fd ps []
 sc:eF N ps (aq st)
 lo:∀y∈N,(aq st).names.lookup y=some .local
structure GoK(K:QQq)(mg:QZz)(ct:Ct)(T:Py)(C fi fu fc fe:Addr)(si su sc se st:Stmt):Prop where
 cl:pX K C
 na:O8 K C
 bd:Ve K C "due" fu
 mk_:Mk K C fi
 mc:Meth K C "change" fc
 me:Meth K C "ending" fe
 Mi:ZX K "__init__" "Going.__init__" si fi f9 f9
 Mu:ZX K "due" "Going.due" su fu ["self","wire"] ["self","wire"]
 Mc:ZX K "change" "Going.change" sc fc kJ ["self"]
 Me:ZX K "ending" "Going.ending" se fe ["self"] ["self"]
 bi:Yy ct T.mz si
 bu:YB su
 bc:YC sc
 be:Yz se
 bt:Yx st
 gi:∀x∈(["first_stand","steps_at","since_when"]:List Str),(aq si).names.lookup x=some .globalImplicit
 gc:∀x∈(["min","list","led_to","steps_at","since_when"]:List Str),(aq sc).names.lookup x=some .globalImplicit
 gt:∀x∈(["check_waits","is_number","MOST_CHANGES","Going","len"]:List Str),(aq st).names.lookup x=some .globalImplicit
 lt:∀x∈gM,(aq st).names.lookup x=some .local
 mG:mg "Going"=some (.ref C)
 mi:mg "min"=none
 ml:mg "list"=none
 mn:mg "len"=none
 mt:∃tu,mg "MOST_CHANGES"=some (.int T.top tu)
section
variable{P:Program}{w:World}{K:QQq}{mg:QZz}{base:Heap}
def uI(P:Program)(w:World)(K:QQq)(mg:QZz)(base:Heap)(k:Nat)(c:Cf)(x:Str)(ix ar:Nat):Prop:=
 ∃f fd ps,cD P w K mg base gn k f fd ps (cG K ar (c.fn ix))/\Binds K fd ps []/\mg x=some (.ref f)/\PySem.W.keepIn K (.ref f)=true
theorem Qi{c:Cf}{k:Nat}{fd:FuncData}(cl:pX K C)(bd:Ve K C "due" g)(na:O8 K C)
  (F:cD P w K mg base gn k f fd ps (J1 K C T.top (cG K 3 (c.fn T.chk)) (cG K 3 (c.fn T.isn)) (Em K c T.mz (cG K 1 (c.fn T.fst)) (cG K 3 (c.fn T.stp)) (cG K 3 (c.fn T.snw)))
   (vo K C g (qe K) (cG K 4 (c.fn T.led)) (cG K 3 (c.fn T.stp)) (cG K 3 (c.fn T.snw))) (Eo K))):cD P w K mg base gn k f fd ps (cG K 4 (eQ T c)):=by
 refine F.imp fun vs H Q E h=>?_
 obtain⟨sl,hl,S,no,h⟩:=h
 have hf:eQ T c sl≠ .bad:=fun z=>by rw[z]at h;exact h
 obtain⟨n,t,w,k,rfl⟩:∃n t w k,sl=[.val n,.val t,.val w,.val (.int k)]:=by
  unfold eQ at hf
  split at hf
  ·exact⟨_,_,_,_,rfl⟩
  ·exact absurd rfl hf
 obtain⟨vn,vt,vw,vk,rfl⟩:∃a b c d,vs=[a,b,c,d]:=by
  match vs,hl with
  |[a,b,c,d],_=>exact⟨a,b,c,d,rfl⟩
 obtain⟨_,e1,dn⟩:=S.sl 0 _ rfl
 obtain⟨_,e2,dt⟩:=S.sl 1 _ rfl
 obtain⟨_,e3,dw⟩:=S.sl 2 _ rfl
 obtain⟨_,e4,dk⟩:=S.sl 3 _ rfl
 cases e1;cases e2;cases e3;cases e4
 have ek:vk=.int k:=by unfold bj at dk;exact dk
 subst ek
 have fv:∃d qs,eQ T c [.val n,.val t,.val w,.val (.int k)]=.ok (.val d) qs:=by
  rw[eQ]at hf⊢
  split at hf
  ·rename_i q
   rw[if_pos q]
   split at hf
   ·rename_i g hg
    exact⟨_,_,rfl⟩
   ·exact absurd rfl hf
  ·exact absurd rfl hf
 obtain⟨d,qs,fv⟩:=fv
 rw[fv]at h
 refine Qj cl bd na dn dt dw fv fun v H' kp dv=>h v H' ⟨fun i o e=>?_,kp.pers,fun b u e _=>kp b u e,fun b e=>?_⟩ dv
 ·match i with
  |0=>cases e
  |1=>cases e
  |2=>cases e
  |3=>cases e
  |i+4=>simp at e
 ·cases q:H b with
  |none=>rfl
  |some u=>rw[kp b u q]at e;cases e
def VM{ct:Ct}{c:Cf}{si su sc se st:Stmt}{n:Nat}(G:GoK K mg ct T C fi fu fc fe si su sc se st)(Ft:GP K "timed" "timed" st ft fdt)(St:eF gM ["net","talk","waits","number"] (aq st))
  (hX:∀X:Cx,X.prog=P->X.w=w->X.K=K->X.mg=mg->X.base=base->X.calm=true->X.N=f9->X.env.scope=aq si->dH n X.A->jm ct X c)
  (c1:uI P w K mg base n c "check_waits" T.chk 3)(c2:uI P w K mg base n c "is_number" T.isn 3)(c3:uI P w K mg base n c "first_stand" T.fst 1)(c4:uI P w K mg base n c "steps_at" T.stp 3)(c5:uI P w K mg base n c "led_to" T.led 4)(c6:uI P w K mg base n c "since_when" T.snw 3):
  cD P w K mg base gn (n+5) ft fdt ["net","talk","waits","number"] (cG K 4 (eQ T c)):=by
 obtain⟨f1,d1,p1,F1,B1,m1,k1⟩:=c1
 obtain⟨f2,d2,p2,F2,B2,m2,k2⟩:=c2
 obtain⟨f3,d3,p3,F3,B3,m3,k3⟩:=c3
 obtain⟨f4,d4,p4,F4,B4,m4,k4⟩:=c4
 obtain⟨f5,d5,p5,F5,B5,m5,k5⟩:=c5
 obtain⟨f6,d6,p6,F6,B6,m6,k6⟩:=c6
 obtain⟨fdi,Fi,Bi_⟩:=G.Mi.fu
 obtain⟨fdu,Fu,Bu⟩:=G.Mu.fu
 obtain⟨fdc,Fc,Bc⟩:=G.Mc.fu
 obtain⟨fde,Fe,Be⟩:=G.Me.fu
 have vis:∀{x qual:Str}{s:Stmt}{f:Addr}{N ps:List Str},ZX K x qual s f N ps->∀y∈N,Jo _ y:=fun M y hy=>.inl (M.lo y hy)
 have U:cD P w K mg base gn (n+1) fu fdu ["self","wire"] _:=Ym Fu G.Mu.sc (vis G.Mu _ (by simp)) (vis G.Mu _ (by simp)) G.bu
 have En:cD P w K mg base gn (n+1) fe fde ["self"] _:=Yl Fe G.Me.sc (vis G.Me _ (by simp)) G.be
 have le:=Nat.le_succ n
 have Ch:=Yv Fc G.Mc.sc G.Mc.lo G.gc G.cl G.bd U Bu (F5.mono le) B5 m5 k5 (F4.mono le) B4 m4 k4 (F6.mono le) B6 m6 k6 G.mi G.ml G.bc
 have In:=Xp Fi G.Mi.sc G.Mi.lo G.gi F3 B3 m3 k3 F4 B4 m4 k4 F6 B6 m6 k6 hX G.bi
 refine Qi G.cl G.bd G.na ?_
 obtain⟨tu,mt⟩:=G.mt
 have l3:=Nat.le_add_right n 3
 have l1:n+1<=n+3:=Nat.add_le_add_left (by decide) n
 exact VL Ft St G.lt G.gt G.cl G.mk_ G.mc G.me (F1.mono l3) B1 m1 k1 (F2.mono l3) B2 m2 k2 (In.mono l1) Bi_ G.mG Ch Bc (En.mono l1) Be mt G.mn G.bt
end
noncomputable def pA(ds:List Df)(gr:List Str)(vals:List D)(t:Nat)(T:Py):Pg:=
 {fns:=(ds.take t).map fun d=>(fnOf ds gr d).getD {pars:=0,names:=0,body:=.nil},gl:=fun k=>vals[k]?,turns:=1000,pf:=fun c _=>eQ T c}
def uE{sc:Scope}{xs:List Str}(h:(xs.all fun x=>sc.names.lookup x==some k)=true):∀x∈xs,sc.names.lookup x=some k:=fun x hx=>by
 have:=List.all_eq_true.mp h x hx
 simpa using this
noncomputable def fQ(x q:Str)(st:Stmt)(m:Value)(c:Addr):Obj:=⟨.type "function",none,.func (PySem.W.fnOf x q (dF st) (cF st) (aq st) .none .none .none m none (.ref c) .none), #[]⟩
def mfk{K:QQq}{st:Stmt}{m:Value}(l:K.lookup f=some (fQ x q st m c))(cd:PySem.W.codeIn K (.ref c) q=true)
  (b:∀(kV dc pm:Value)(an:Option Addr)(cd ct:Value)(us:List Value),us.length=ps.length->bindArgs (PySem.W.fnOf x q (dF st) (cF st) (aq st) .none kV dc pm an cd ct) ⟨us,[]⟩=pure (ps.zip us))
  (sc:J8 {x:=x,st:=st,N:=N,ps:=ps,fl:=[]}=true)(lo:(N.all fun y=>(aq st).names.lookup y==some .local)=true):ZX K x q st f N ps:=
 let F:=Nj l cd (by unfold PySem.W.keepIn;dsimp only;rw[l];rfl)
 ⟨⟨_,F,F.binds b⟩,Eu sc,uE lo⟩
def Ea(ds:List Df)(t i:Nat)(x:Str)(ar:Nat):Prop:=i<t/\∃d,ds[i]? =some d/\d.x=x/\d.ps.length=ar
structure YH(ds:List Df)(t:Nat)(T:Py):Prop where
 chk:Ea ds t T.chk "check_waits" 3
 isn:Ea ds t T.isn "is_number" 3
 fst:Ea ds t T.fst "first_stand" 1
 stp:Ea ds t T.stp "steps_at" 3
 led:Ea ds t T.led "led_to" 4
 snw:Ea ds t T.snw "since_when" 3
def Bj T c sl:eQ T c sl=.bad\/sl.length=4:=by
 unfold eQ
 split
 ·exact .inr rfl
 ·exact .inl rfl
section
variable{P:Program}{w:World}{K:QQq}{mg:QZz}{base:Heap}{ds:List Df}{gr:List Str}{vals:List D}{fa:Nat->Addr}{fd:Nat->FuncData}{t:Nat}{dt:Df}{T:Py}{C fi fu fc fe:Addr}{si su sc se:Stmt}{dI:Df}
theorem KZ(hfn:∀i d,ds[i]? =some d->wR K mg d (fa i) (fd i))(hsc:∀d∈ds,eF d.N d.ps (aq d.st))(Hd:(ds.take t).all (fun d=>(fnOf ds gr d).isSome)=true)(hlen:ds.length=t+1)(hdt:ds[t]? =some dt)
  (hx:dt.x="timed")(hN:dt.N=gM)(hp:dt.ps=(["net","talk","waits","number"]:List Str))(hbi:∀x∈rC,mg x=none)(hgl:∀(k:Nat)x,gr[k]? =some x->∃d v u,vals[k]? =some d/\mg x=some u/\RelV v u/\∀H,bj K H d v)
  (GK:GoK K mg (Dh ds gr dI) T C fi fu fc fe si su sc se dt.st)(TK:YH ds t T)(hI:dI.N=f9)(hIs:dI.st=si):
  ∀(n i:Nat)d,ds[i]? =some d->cD P w K mg base gn (5*n) (fa i) (fd i) d.ps (cG K d.ps.length ((pA ds gr vals t T).fn n i)):=by
 have htr:∀i d,i<t->ds[i]? =some d->∃g,(pA ds gr vals t T).fns[i]? =some g/\fnOf ds gr d=some g:=fun i d hi e=>by
  have e':(ds.take t)[i]? =some d:=by rw[List.getElem?_take_of_lt hi];exact e
  have hs:=List.all_eq_true.mp Hd d (QBq e')
  obtain⟨g,hg⟩:=Option.isSome_iff_exists.mp hs
  refine⟨g,?_,hg⟩
  show((ds.take t).map fun d=>(fnOf ds gr d).getD {pars:=0,names:=0,body:=.nil})[i]? =some g
  rw[QEz,e']
  simp[hg]
 have hno:(pA ds gr vals t T).fns[t]? =none:=by
  show((ds.take t).map _)[t]? =none
  rw[QEz,List.getElem?_eq_none (by rw[List.length_take];exact Nat.min_le_left _ _)]
  rfl
 have fnt:∀n,(pA ds gr vals t T).fn (n+1) t=eQ T ((pA ds gr vals t T).cf n):=fun n=>by
  funext sl
  show(match (pA ds gr vals t T).fns[t]? with|some g=>il ((pA ds gr vals t T).cf n) g sl|none=>eQ T ((pA ds gr vals t T).cf n) sl)=_
  rw[hno]
 have lt:∀i d,ds[i]? =some d->i<t\/i=t:=fun i d e=>by
  have:i<ds.length:=by
   rcases Nat.lt_or_ge i ds.length with z|z
   ·exact z
   ·rw[List.getElem?_eq_none z]at e;cases e
  omega
 have len:∀n i d,ds[i]? =some d->∀sl,(pA ds gr vals t T).fn n i sl=.bad\/sl.length=d.ps.length:=fun n i d e sl=>by
  cases n with
  |zero=>exact .inl rfl
  |succ n=>
   rcases lt i d e with hi|rfl
   ·obtain⟨g2,hg2,ht2⟩:=htr i d hi e
    unfold fnOf at ht2
    simp only[QJz]at ht2
    obtain⟨b2,hb2,rfl⟩:=ht2
    have:(pA ds gr vals t T).fn (n+1) i sl=il ((pA ds gr vals t T).cf n) {pars:=d.ps.length,names:=d.N.length,body:=b2} sl:=by
     show(match (pA ds gr vals t T).fns[i]? with|some g=>il ((pA ds gr vals t T).cf n) g sl|none=>(pA ds gr vals t T).pf ((pA ds gr vals t T).cf n) i sl)=_
     rw[hg2]
    rw[this]
    exact Hn _ _ sl
   ·rw[hdt]at e
    cases e
    rw[fnt,hp]
    exact Bj T _ sl
 have xok:∀n d X,(∀g d2,ds[g]? =some d2->cD P w K mg base gn (5*n) (fa g) (fd g) d2.ps (cG K d2.ps.length ((pA ds gr vals t T).fn n g)))->X.prog=P->X.w=w->X.K=K->X.mg=mg->X.base=base->X.N=d.N->X.env.scope=aq d.st->X.calm=true->d.N.Nodup->dH (5*n) X.A->jm (Dh ds gr d) X ((pA ds gr vals t T).cf n):=fun n d X IH e1 e2 e3 e4 e5 e6 e7 e8 nd hr=>by
  subst e1 e2 e3 e4 e5
  refine⟨e6,e7,nd,e8,?_,hbi,fun k x hk=>?_,fun g x fl hk=>?_⟩
  ·have:=hr.un
   omega
  ·obtain⟨dd,v,u,h1,h2,h3,h4⟩:=hgl k x hk
   exact⟨dd,h1,v,u,h2,h3,h4⟩
  ·have hk':(ds.map fun d=>(d.x,d.fl))[g]? =some (x,fl):=hk
   rw[QEz]at hk'
   cases q:ds[g]? with
   |none=>rw[q]at hk';cases hk'
   |some d2=>
    rw[q]at hk'
    obtain⟨rfl,rfl⟩:=hk'
    have D2:=hfn g d2 q
    exact⟨5*n,fa g,fd g,d2.ps,IH g d2 q,hr,D2.at_,D2.fu.kp,D2.bi,len n g d2 q⟩
 intro n
 induction n with
 |zero=>
  intro i d e
  have no:∀vs H Q E,¬cG K d.ps.length ((pA ds gr vals t T).fn 0 i) vs H Q E:=fun vs H Q E h=>by
   obtain⟨_,_,_,_,z⟩:=h
   exact z
  exact⟨fun vs H Q E h=>absurd h (no vs H Q E),fun A outer s H args us vs Q E _ _ _ _ h=>absurd h (no vs H Q E)⟩
 |succ n IH=>
  intro i d e
  have D:=hfn i d e
  have S:=hsc d (QBq e)
  rcases lt i d e with hi|rfl
  ·obtain⟨g,hg,ht⟩:=htr i d hi e
   unfold fnOf at ht
   simp only[QJz]at ht
   obtain⟨b,hb,rfl⟩:=ht
   have hp:(pA ds gr vals t T).fn (n+1) i=il ((pA ds gr vals t T).cf n) {pars:=d.ps.length,names:=d.N.length,body:=b}:=by
    funext sl
    show(match (pA ds gr vals t T).fns[i]? with|some g=>il ((pA ds gr vals t T).cf n) g sl|none=>(pA ds gr vals t T).pf ((pA ds gr vals t T).cf n) i sl)=_
    rw[hg]
   rw[hp]
   refine cD.mono (j:=5*n+1) ?_ (by omega)
   refine Su D.fu S rfl rfl fun cdv A outer s H E hr=>?_
   exact(ihS _ 60).ss (Dh ds gr d) _ W0 _ b (xok n d _ IH rfl rfl rfl rfl rfl rfl rfl rfl S.nd hr) (.plain (fun _=>rfl) PassesOwn.never rfl) hb
  ·rw[hdt]at e
   cases e
   have cal:∀{j:Nat}{x:Str}{ar:Nat},Ea ds i j x ar->uI P w K mg base (5*n) ((pA ds gr vals i T).cf n) x j ar:=fun⟨_,d2,e2,ex,ea⟩=>by
    have D2:=hfn _ d2 e2
    have F2:=IH _ d2 e2
    rw[ea]at F2
    exact⟨_,_,_,F2,D2.bi,ex▸D2.at_,D2.fu.kp⟩
   have Fu_:=D.fu
   rw[hx]at Fu_
   rw[hN,hp]at S
   rw[fnt,hp]
   exact VM GK Fu_ S (fun X e1 e2 e3 e4 e5 e6 e7 e8 hr=>xok n dI X IH e1 e2 e3 e4 e5 (by rw[hI];exact e7) (by rw[hIs];exact e8) e6 (by rw[hI];decide) hr) (cal TK.chk) (cal TK.isn) (cal TK.fst) (cal TK.stp) (cal TK.led) (cal TK.snw)
end
section
variable{K:QQq}{h:Heap}{mg:QZz}
def Ow{l:PySem.W.OpenLaw}{w:World}{ds:List Df}{vals:List D}{dL dt dI:Df}{T:Py}{si su sc se:Stmt}(X:K.In h)(G:h.Ns mainGlobals mg)(hfa:mg "law"=some (.ref fa))(hx:dL.x="law")(hy:dL.ps=[y])(hL:ds[L]? =some dL)(b:GR ds)
  (scp:ds.all J8=true)(Hd:(ds.take t).all (fun d=>(fnOf ds gr d).isSome)=true)(A:AllIn K (ds.map fun d=>(d.x,d.st)))(B:yE K gr vals)(Z:Pq K rC)
  (hlen:ds.length=t+1)(hdt:ds[t]? =some dt)(hx':dt.x="timed")(hN:dt.N=gM)(hp:dt.ps=(["net","talk","waits","number"]:List Str))
  (GK:GoK K mg (Dh ds gr dI) T C fi fu fc fe si su sc se dt.st)(TK:YH ds t T)(hI:dI.N=f9)(hIs:dI.st=si):
  ∃fd:FuncData,(∀(s:Shared)(v:Value),BindsTo s fd ⟨[v],[]⟩ [(y,v)])/\∀base:Heap,K.In base->base.Ns mainGlobals mg->cD l.prog w K mg base gn (5*n) fa fd [y] (cG K 1 ((pA ds gr vals t T).fn n L)):=by
 obtain⟨fs,A,CC⟩:=OD X G ds b A
 obtain⟨q,e1,e2,e3⟩:=CC L dL hL
 have e:=hfa.symm.trans (hx▸e2.at_)
 cases e
 refine⟨q.2,fun s v=>?_,fun base _ _=>?_⟩
 ·have:=e3 s [v] (by rw[hy];rfl)
  rw[hy]at this
  exact this
 ·have z1:∀(i:Nat)d,ds[i]? =some d->wR K mg d (((fs[i]?).map (·.1)).getD 0) (((fs[i]?).map (·.2)).getD q.2):=fun i d e=>by
   obtain⟨q,e1,e2⟩:=A.at i d e
   simp only[e1,Option.map_some,Option.getD_some]
   exact e2
  have z3:∀k x,gr[k]? =some x->∃d v u,vals[k]? =some d/\mg x=some u/\RelV v u/\∀H,bj K H d v:=fun k x e=>by
   obtain⟨dd,e1,v,u,z1,z2,z3⟩:=(Oz X G gr vals B).at k x e
   exact⟨dd,v,u,e1,z1,z2,z3⟩
  have Z:=KZ (P:=l.prog) (w:=w) (base:=base)
   z1 (fun d hd=>Eu (List.all_eq_true.mp scp d hd)) Hd hlen hdt hx' hN hp (Ox X G _ Z) z3 GK TK hI hIs n L dL hL
  simp only[e1,Option.map_some,Option.getD_some]at Z
  rw[hy]at Z
  exact Z
end
def G7{l:PySem.W.OpenLaw}{loose:List Str}{YP:World->Heap->Prop}{K:Params->QQq}{p:Pg}{L:Nat}(hn:l.most=some 63)(hdf:d.params.defaults=[])
  (hY:∀(w:World)(h:Heap),YP w h->(K w.params).In h)(math:∀ns:List Int,ns.length<=63->∃qs,p.fn 40 L [.val (.lst (ns.map D.int))]=.ok (.val (.bl true)) qs)
  (F:∀(w:World)(mg:QZz)(fa:Addr)(h:Heap),(K w.params).In h->h.Ns mainGlobals mg->mg d.name=some (.ref fa)->
   ∃fd:FuncData,(∀(s:Shared)(u:Value),BindsTo s fd ⟨[u],[]⟩ [(y,u)])/\∀base:Heap,(K w.params).In base->base.Ns mainGlobals mg->cD l.prog w (K w.params) mg base gn (5*40) fa fd [y] (cG (K w.params) 1 (p.fn 40 L))):
  PySem.W.WalkO q loose XP YP l.row.toRowW d [] (fun f vs=>PySem.call f vs):=
 L2.PJ hn (by decide) hdf ⟨rfl,by decide,by decide⟩ hY F (fun _ _ a ns hl hO hS=>Wb hO hS (math ns hl) _) fun _ _ _ _ _ z=>z
end Mini
end
section
namespace Tx
open PySem L2 Mini
abbrev d0:Df:=cL "checked" s0 [false]
abbrev d1:Df:=cL "is_net" s1 [false]
abbrev d2:Df:=cL "has_parts" s2 [false]
abbrev d3:Df:=cL "is_tuple" s3 [false,false,false]
abbrev d4:Df:=cL "is_number" s4 [false,false,false]
abbrev d5:Df:=cL "is_name" s5 [false]
abbrev d6:Df:=cL "are_unlike" s6 [false]
abbrev d7:Df:=cL "is_row" s7 [false,false]
abbrev d8:Df:=cL "is_wire" s8 [false,false]
abbrev d9:Df:=cL "are_wires" s9 [false,false,false,false]
abbrev d10:Df:=cL "are_rows" s10 [false,false]
abbrev d11:Df:=cL "is_kind" s11 [false,false,false]
abbrev d12:Df:=cL "is_held" s12 [false,false,false]
abbrev d13:Df:=cL "wire_names" s13 [false]
abbrev d14:Df:=cL "waiting_gates" s14 [false,false]
abbrev d15:Df:=cL "told" s15 [false,false,false]
abbrev d16:Df:=cL "told_held" s16 [false,false,false]
abbrev d17:Df:=cL "checked_talk" s17 [false,false]
abbrev d18:Df:=cL "is_talk" s18 [false,false]
abbrev d19:Df:=cL "is_state" s19 [false,false,false]
abbrev d20:Df:=cL "steps" s20 [false,false,false]
abbrev d21:Df:=cL "first_stand" s21 [false]
abbrev d22:Df:=cL "steps_at" s22 [false,false,false]
abbrev d23:Df:=cL "is_unasked" s23 [false,false,false]
abbrev d24:Df:=cL "led_to" s24 [false,false,false,false]
abbrev d25:Df:=cL "changed" s25 [false,false,false]
abbrev d26:Df:=cL "check_waits" s26 [false,false,false]
abbrev d27:Df:=cL "since_when" s27 [false,false,false]
abbrev d28:Df:=cL "_law_cell_at" s28 [false,false]
abbrev d29:Df:=cL "_law_mixed" s29 [false,false,false]
abbrev d30:Df:=cL "_law_next" s30 [false,true,false]
abbrev d31:Df:=cL "_law_some" s31 [false,true,false,false,false]
abbrev d32:Df:=cL "_law_table" s32 [false,true,false]
abbrev d33:Df:=cL "_law_kind" s33 [false,true,false,false]
abbrev d34:Df:=cL "_law_net" s34 [false,true,false,false]
abbrev d35:Df:=cL "_law_talk" s35 [false,true,false,false]
abbrev d36:Df:=cL "_law_ring" s36 [false,true]
abbrev d37:Df:=cL "_law_chain" s37 [false,true]
abbrev d38:Df:=cL "_law_meeting" s38 [false,true]
abbrev d39:Df:=cL "_law_spoilt_kind" s39 [false,true,false]
abbrev d40:Df:=cL "_law_case" s40 [false,false]
abbrev d41:Df:=cL "_law_names" s41 [false]
abbrev d42:Df:=cL "_law_led" s42 [false,false,false,false]
abbrev d43:Df:=cL "law" s43 [false]
abbrev d44:Df:=cL "timed" s44 [false,false,false,false]
abbrev dI:Df:={x:="__init__",st:=s90,N:=f9,ps:=f9,fl:=[]}
noncomputable def ds:List Df:=[d0,d1,d2,d3,d4,d5,d6,d7,d8,d9,d10,d11,d12,d13,d14,d15,d16,d17,d18,d19,d20,d21,d22,d23,d24,d25,d26,d27,d28,d29,d30,d31,d32,d33,d34,d35,d36,d37,d38,d39,d40,d41,d42,d43,d44]
noncomputable def gr:List Str:=["LETTERS","LONGEST_NAME","WORDS","MOST_INPUTS","MOST_GATES","MOST_WIRES","MOST_TABLE_WIRES","DEEPEST_HELD","MOST_STATES","LONGEST_WAIT","MOST_CHANGES"]
noncomputable def vals:List D:=[.str "abcdefghijklmnopqrstuvwxyz",.int 6,.tup [.str "input",.str "gate",.str "start",.str "out",.str "state",.str "same",.str "not",.str "and",.str "or",.str "both",.str "held",.str "table",.str "on",.str "off"],.int 3,.int 5,.int 4,.int 8,.int 3,.int 12,.int 99,.int 200]
def tx:Py:=⟨26,4,21,22,24,27,.bi .dict (.zip (.call 13 AAX) (.var 3)),200⟩
def pg:Pg:=pA ds gr vals 44 tx
def scp:ds.all J8=true:=by decide+kernel
def Hd:(ds.take 44).all (fun d=>(fnOf ds gr d).isSome)=true:=by decide+kernel
def bd:GR ds:=⟨fun _ _ _ _ _ _ us hl=>by obtain⟨_,rfl⟩:=qJ hl;rfl,fun _ _ _ _ _ _ us hl=>by obtain⟨_,rfl⟩:=qJ hl;rfl,fun _ _ _ _ _ _ us hl=>by obtain⟨_,rfl⟩:=qJ hl;rfl,fun _ _ _ _ _ _ us hl=>by obtain⟨_,_,_,rfl⟩:=j0 hl;rfl,fun _ _ _ _ _ _ us hl=>by obtain⟨_,_,_,rfl⟩:=j0 hl;rfl,fun _ _ _ _ _ _ us hl=>by obtain⟨_,rfl⟩:=qJ hl;rfl,fun _ _ _ _ _ _ us hl=>by obtain⟨_,rfl⟩:=qJ hl;rfl,fun _ _ _ _ _ _ us hl=>by obtain⟨_,_,rfl⟩:=pH hl;rfl,fun _ _ _ _ _ _ us hl=>by obtain⟨_,_,rfl⟩:=pH hl;rfl,fun _ _ _ _ _ _ us hl=>by obtain⟨_,_,_,_,rfl⟩:=xT hl;rfl,fun _ _ _ _ _ _ us hl=>by obtain⟨_,_,rfl⟩:=pH hl;rfl,fun _ _ _ _ _ _ us hl=>by obtain⟨_,_,_,rfl⟩:=j0 hl;rfl,fun _ _ _ _ _ _ us hl=>by obtain⟨_,_,_,rfl⟩:=j0 hl;rfl,fun _ _ _ _ _ _ us hl=>by obtain⟨_,rfl⟩:=qJ hl;rfl,fun _ _ _ _ _ _ us hl=>by obtain⟨_,_,rfl⟩:=pH hl;rfl,fun _ _ _ _ _ _ us hl=>by obtain⟨_,_,_,rfl⟩:=j0 hl;rfl,fun _ _ _ _ _ _ us hl=>by obtain⟨_,_,_,rfl⟩:=j0 hl;rfl,fun _ _ _ _ _ _ us hl=>by obtain⟨_,_,rfl⟩:=pH hl;rfl,fun _ _ _ _ _ _ us hl=>by obtain⟨_,_,rfl⟩:=pH hl;rfl,fun _ _ _ _ _ _ us hl=>by obtain⟨_,_,_,rfl⟩:=j0 hl;rfl,fun _ _ _ _ _ _ us hl=>by obtain⟨_,_,_,rfl⟩:=j0 hl;rfl,fun _ _ _ _ _ _ us hl=>by obtain⟨_,rfl⟩:=qJ hl;rfl,fun _ _ _ _ _ _ us hl=>by obtain⟨_,_,_,rfl⟩:=j0 hl;rfl,fun _ _ _ _ _ _ us hl=>by obtain⟨_,_,_,rfl⟩:=j0 hl;rfl,fun _ _ _ _ _ _ us hl=>by obtain⟨_,_,_,_,rfl⟩:=xT hl;rfl,fun _ _ _ _ _ _ us hl=>by obtain⟨_,_,_,rfl⟩:=j0 hl;rfl,fun _ _ _ _ _ _ us hl=>by obtain⟨_,_,_,rfl⟩:=j0 hl;rfl,fun _ _ _ _ _ _ us hl=>by obtain⟨_,_,_,rfl⟩:=j0 hl;rfl,fun _ _ _ _ _ _ us hl=>by obtain⟨_,_,rfl⟩:=pH hl;rfl,fun _ _ _ _ _ _ us hl=>by obtain⟨_,_,_,rfl⟩:=j0 hl;rfl,fun _ _ _ _ _ _ us hl=>by obtain⟨_,_,_,rfl⟩:=j0 hl;rfl,fun _ _ _ _ _ _ us hl=>by obtain⟨_,_,_,_,_,rfl⟩:=aeO hl;rfl,fun _ _ _ _ _ _ us hl=>by obtain⟨_,_,_,rfl⟩:=j0 hl;rfl,fun _ _ _ _ _ _ us hl=>by obtain⟨_,_,_,_,rfl⟩:=xT hl;rfl,fun _ _ _ _ _ _ us hl=>by obtain⟨_,_,_,_,rfl⟩:=xT hl;rfl,fun _ _ _ _ _ _ us hl=>by obtain⟨_,_,_,_,rfl⟩:=xT hl;rfl,fun _ _ _ _ _ _ us hl=>by obtain⟨_,_,rfl⟩:=pH hl;rfl,fun _ _ _ _ _ _ us hl=>by obtain⟨_,_,rfl⟩:=pH hl;rfl,fun _ _ _ _ _ _ us hl=>by obtain⟨_,_,rfl⟩:=pH hl;rfl,fun _ _ _ _ _ _ us hl=>by obtain⟨_,_,_,rfl⟩:=j0 hl;rfl,fun _ _ _ _ _ _ us hl=>by obtain⟨_,_,rfl⟩:=pH hl;rfl,fun _ _ _ _ _ _ us hl=>by obtain⟨_,rfl⟩:=qJ hl;rfl,fun _ _ _ _ _ _ us hl=>by obtain⟨_,_,_,_,rfl⟩:=xT hl;rfl,fun _ _ _ _ _ _ us hl=>by obtain⟨_,rfl⟩:=qJ hl;rfl,fun _ _ _ _ _ _ us hl=>by obtain⟨_,_,_,_,rfl⟩:=xT hl;rfl,trivial⟩
noncomputable def nms:List (Str×Stmt):=("checked",s0)::("is_net",s1)::("has_parts",s2)::("is_tuple",s3)::("is_number",s4)::("is_name",s5)::("are_unlike",s6)::("is_row",s7)::("is_wire",s8)::("are_wires",s9)::("are_rows",s10)::("is_kind",s11)::("is_held",s12)::("wire_names",s13)::("waiting_gates",s14)::("told",s15)::("told_held",s16)::("checked_talk",s17)::("is_talk",s18)::("is_state",s19)::("steps",s20)::("first_stand",s21)::("steps_at",s22)::("is_unasked",s23)::("led_to",s24)::("changed",s25)::("check_waits",s26)::("since_when",s27)::("_law_cell_at",s28)::("_law_mixed",s29)::("_law_next",s30)::("_law_some",s31)::("_law_table",s32)::("_law_kind",s33)::("_law_net",s34)::("_law_talk",s35)::("_law_ring",s36)::("_law_chain",s37)::("_law_meeting",s38)::("_law_spoilt_kind",s39)::("_law_case",s40)::("_law_names",s41)::("_law_led",s42)::("law",s43)::("timed",s44)::[]
end Tx
end
section
open PySem
section
open Mini
namespace Tx
def bz{n i:Nat}{g:Fn}{ps us:List Sl}(h:pg.fns[i]? =some g:=by kernel_rfl)(e:us=ps++List.replicate (g.names-g.pars) .un:=by rfl)(l:ps.length=g.pars:=by rfl):pg.fn (n+1) i ps=fin g.pars (ex (pg.cf n) g.body us):=by
 subst e
 refine Eq.trans ?_ (QD _ _ _ l)
 show(match pg.fns[i]? with|some g=>il (pg.cf n) g ps|none=>pg.pf (pg.cf n) i ps)=_
 rw[h]
noncomputable def pU:Fn:=⟨1,1,(.cons (.ite (.not (.call 1 AAZ)) ABl .nil) (.cons (.ret (.var 0)) .nil))⟩
def Hx(n:Nat)(p0:Sl):pg.fn (n+1) 0 [p0]=fin 1 (ex (pg.cf n) pU.body [p0]):=bz (g:=pU)
noncomputable def uB:Fn:=⟨1,2,(.cons (.ite (.or (.cons (.not (.call 3 (.cons (.var 0) (.cons ABZ AAa)))) (.cons (.not (.call 2 AAZ)) .nil))) AAQ .nil) (.cons (.set 1 (.call 13 AAZ)) (.cons (.ite (.or (.cons (.not (.bi .all ACL)) (.cons (.not (.call 6 AAX)) .nil))) AAQ .nil) (.cons (.ret (.and (.cons (.bi .all ABU) (.cons (.call 7 (.cons AAr ABp)) .nil)))) .nil))))⟩
def KC(n:Nat)(p0:Sl):pg.fn (n+1) 1 [p0]=fin 1 (ex (pg.cf n) uB.body [p0,.un]):=bz (g:=uB)
noncomputable def lE:Fn:=⟨1,1,(.cons (.ite (.or (.cons (.not (.call 3 (.cons AAd (.cons AAL (.cons (.glob 3) .nil))))) (.cons (.not (.call 3 (.cons AAc (.cons AAG (.cons (.glob 4) .nil))))) .nil))) AAQ .nil) (.cons (.ret (.bi .all (.comp 1 (.name 0) AAc AAH AAk))) .nil))⟩
def zy(n:Nat)(p0:Sl):pg.fn (n+1) 2 [p0]=fin 1 (ex (pg.cf n) lE.body [p0]):=bz (g:=lE)
noncomputable def jQ:Fn:=⟨3,3,(.cons (.ret (.and (.cons (.isi (.var 0) .tup) (.cons (.chain .le .le (.var 1) ABi (.var 2)) .nil)))) .nil)⟩
def sJ(n:Nat)(p0 p1 p2:Sl):pg.fn (n+1) 3 [p0,p1,p2]=fin 3 (ex (pg.cf n) jQ.body [p0,p1,p2]):=bz (g:=jQ)
noncomputable def iM:Fn:=⟨3,3,(.cons (.ret (.and (.cons (.isi (.var 0) .int) (.cons (.not (.isi (.var 0) .bool)) (.cons (.chain .le .le (.var 1) (.var 0) (.var 2)) .nil))))) .nil)⟩
def qi(n:Nat)(p0 p1 p2:Sl):pg.fn (n+1) 4 [p0,p1,p2]=fin 3 (ex (pg.cf n) iM.body [p0,p1,p2]):=bz (g:=iM)
noncomputable def wQ:Fn:=⟨1,1,(.cons (.ite (.or (.cons (.not (.isi (.var 0) .str)) (.cons (.not (.chain .le .le AAG ABi (.glob 1))) .nil))) AAQ .nil) (.cons (.ret (.and (.cons (.bi .all (.comp 1 (.name 0) (.var 0) AAH (.cmp .isin (.var 0) (.glob 0)))) (.cons (.cmp .notin (.var 0) (.glob 2)) .nil)))) .nil))⟩
def Zd(n:Nat)(p0:Sl):pg.fn (n+1) 5 [p0]=fin 1 (ex (pg.cf n) wQ.body [p0]):=bz (g:=wQ)
noncomputable def jR:Fn:=⟨1,1,(.cons (.ret (.bi .all ABa)) .nil)⟩
def xn(n:Nat)(p0:Sl):pg.fn (n+1) 6 [p0]=fin 1 (ex (pg.cf n) jR.body [p0]):=bz (g:=jR)
noncomputable def uA:Fn:=⟨2,2,(.cons (.ret (.and (.cons (.call 3 (.cons (.var 0) (.cons (.var 1) AAX))) (.cons (.bi .all ABz) .nil)))) .nil)⟩
def Kz(n:Nat)(p0 p1:Sl):pg.fn (n+1) 7 [p0,p1]=fin 2 (ex (pg.cf n) uA.body [p0,p1]):=bz (g:=uA)
noncomputable def pP:Fn:=⟨2,2,(.cons (.ret (.and (.cons (.isi (.var 0) .str) (.cons (.cmp .isin (.var 0) (.var 1)) .nil)))) .nil)⟩
def Hu(n:Nat)(p0 p1:Sl):pg.fn (n+1) 8 [p0,p1]=fin 2 (ex (pg.cf n) pP.body [p0,p1]):=bz (g:=pP)
noncomputable def lF:Fn:=⟨4,4,(.cons (.ite (.not (.call 3 (.cons (.var 0) (.cons (.var 2) AAs)))) AAQ .nil) (.cons (.ret (.and (.cons (.bi .all ABn) (.cons (.call 6 AAZ) .nil)))) .nil))⟩
def zz(n:Nat)(p0 p1 p2 p3:Sl):pg.fn (n+1) 9 [p0,p1,p2,p3]=fin 4 (ex (pg.cf n) lF.body [p0,p1,p2,p3]):=bz (g:=lF)
noncomputable def nH:Fn:=⟨2,2,(.cons (.ite (.or (.cons (.not (.isi (.var 0) .tup)) (.cons (.not (.bi .all ABo)) .nil))) AAQ .nil) (.cons (.ret (.bi .all ABM)) .nil))⟩
def BV(n:Nat)(p0 p1:Sl):pg.fn (n+1) 10 [p0,p1]=fin 2 (ex (pg.cf n) nH.body [p0,p1]):=bz (g:=nH)
noncomputable def dY:Fn:=⟨3,5,(.cons (.ite (.or (.cons (.not (.call 3 (.cons (.var 0) (.cons AAP ABI)))) (.cons (.not (.isi AAd .str)) .nil))) AAQ .nil) (.cons (.set 3 AAd) (.cons (.set 4 ABi) (.cons (.ite (.cmp .isin (.var 3) (.tup AAT)) (.cons (.ret (.and (.cons ACP (.cons (.call 8 (.cons AAc AAX)) .nil)))) .nil) .nil) (.cons (.ite (.cmp .isin (.var 3) (.tup (.cons ABh (.cons ABm .nil)))) (.cons (.ret (.and (.cons ACP (.cons (.call 9 (.cons AAc (.cons (.var 1) (.cons AAG (.cons (.glob 5) .nil))))) .nil)))) .nil) .nil) (.cons (.ite (.cmp .eq (.var 3) ABR) (.cons (.ret (.and (.cons ACP (.cons (.call 9 (.cons AAc (.cons (.var 1) (.cons AAP (.cons (.glob 5) .nil))))) .nil)))) .nil) .nil) (.cons (.ite ABV (.cons (.ret (.and (.cons (.cmp .eq (.var 4) ABZ) (.cons (.call 9 (.cons AAc (.cons (.var 1) (.cons AAG (.cons (.glob 6) .nil))))) (.cons (.call 10 (.cons AAr (.cons (.bi .len AAc) .nil))) .nil))))) .nil) .nil) (.cons (.ite ABX (.cons (.ret (.and (.cons (.cmp .eq (.var 4) (.con (.int 4))) (.cons (.cmp .lt (.var 2) (.glob 7)) (.cons (.call 12 (.cons (.var 0) (.cons (.var 1) ACV))) .nil))))) .nil) .nil) AAQ))))))))⟩
def gh(n:Nat)(p0 p1 p2:Sl):pg.fn (n+1) 11 [p0,p1,p2]=fin 3 (ex (pg.cf n) dY.body [p0,p1,p2,.un,.un]):=bz (g:=dY)
noncomputable def pR:Fn:=⟨3,3,(.cons (.ret (.and (.cons (.call 11 (.cons AAc (.cons (.var 1) AAj))) (.cons (.call 8 (.cons AAr AAX)) (.cons (.isi (.idx (.var 0) ABZ) .bool) .nil))))) .nil)⟩
def Hw(n:Nat)(p0 p1 p2:Sl):pg.fn (n+1) 12 [p0,p1,p2]=fin 3 (ex (pg.cf n) pR.body [p0,p1,p2]):=bz (g:=pR)
noncomputable def jN:Fn:=⟨1,1,ABW⟩
def nZ(n:Nat)(p0:Sl):pg.fn (n+1) 13 [p0]=fin 1 (ex (pg.cf n) jN.body [p0]):=bz (g:=jN)
noncomputable def gH:Fn:=⟨2,3,(.cons (.set 2 (.bi .dict ABS)) (.cons (.ret (.comp 2 (.tup [0,1]) AAc AAV (.var 0))) .nil))⟩
def qH(n:Nat)(p0 p1:Sl):pg.fn (n+1) 14 [p0,p1]=fin 2 (ex (pg.cf n) gH.body [p0,p1,.un]):=bz (g:=gH)
noncomputable def DN:Fn:=⟨3,5,(.cons (.set 3 AAd) (.cons (.ite (.cmp .eq (.var 3) ABy) (.cons (.ret ACH) .nil) .nil) (.cons (.ite ACT (.cons (.ret (.not ACH)) .nil) .nil) (.cons (.ite ABX ABe .nil) (.cons (.set 4 (.bi .tuple (.comp 1 (.name 0) AAc AAH (.idx (.var 3) (.var 0))))) (.cons (.ite (.cmp .eq (.var 3) ABh) ACS .nil) (.cons (.ite (.cmp .eq (.var 3) ABm) ACR .nil) (.cons (.ite ABV ACM .nil) AAu))))))))⟩
def mZ(n:Nat)(p0 p1 p2:Sl):pg.fn (n+1) 15 [p0,p1,p2]=fin 3 (ex (pg.cf n) DN.body [p0,p1,p2,.un,.un]):=bz (g:=DN)
noncomputable def lA:Fn:=⟨3,5,(.cons (.set 3 (.call 15 (.cons AAc (.cons (.var 1) AAj)))) (.cons (.set 4 (.cmp .eq (.idx (.var 2) AAr) (.var 3))) (.cons (.ret (.ite (.cmp .eq (.var 4) (.idx (.var 0) ABZ)) (.var 3) (.var 1))) .nil)))⟩
def zm(n:Nat)(p0 p1 p2:Sl):pg.fn (n+1) 16 [p0,p1,p2]=fin 3 (ex (pg.cf n) lA.body [p0,p1,p2,.un,.un]):=bz (g:=lA)
noncomputable def iz:Fn:=⟨2,2,(.cons (.ite (.not (.call 18 (.cons (.call 0 AAZ) AAX))) ABl .nil) (.cons (.ret (.var 1)) .nil))⟩
def sO(n:Nat)(p0 p1:Sl):pg.fn (n+1) 17 [p0,p1]=fin 2 (ex (pg.cf n) iz.body [p0,p1]):=bz (g:=iz)
noncomputable def pQ:Fn:=⟨2,4,(.cons (.ite (.not (.call 3 (.cons (.var 1) (.cons AAP (.cons AAP .nil))))) AAQ .nil) (.cons (.set 2 (.comp 1 (.name 0) AAc AAH AAd)) (.cons (.ite (.or (.cons (.not (.call 9 (.cons ABf (.cons (.var 2) (.cons AAL (.cons ACX .nil)))))) (.cons (.not (.call 3 (.cons ABg (.cons AAG (.cons (.glob 8) .nil))))) .nil))) AAQ .nil) (.cons (.set 3 (.op .add AAd ABf)) (.cons (.ret (.bi .all AAx)) .nil)))))⟩
def Hv(n:Nat)(p0 p1:Sl):pg.fn (n+1) 18 [p0,p1]=fin 2 (ex (pg.cf n) pQ.body [p0,p1,.un,.un]):=bz (g:=pQ)
noncomputable def nG:Fn:=⟨3,3,(.cons (.ite (.or (.cons (.not (.call 3 (.cons (.var 0) (.cons AAL ABp)))) (.cons (.not (.bi .all ACW)) .nil))) AAQ .nil) (.cons (.ite (.not (.call 9 (.cons (.bi .tuple (.comp 1 (.name 0) (.var 0) AAH AAd)) (.cons (.var 1) (.cons AAL ABp))))) AAQ .nil) (.cons (.ret (.bi .all ABJ)) .nil)))⟩
def BR(n:Nat)(p0 p1 p2:Sl):pg.fn (n+1) 19 [p0,p1,p2]=fin 3 (ex (pg.cf n) nG.body [p0,p1,p2]):=bz (g:=nG)
noncomputable def yx:Fn:=⟨3,3,(.cons (.ret (.call 22 (.cons (.var 0) (.cons ABv AAj)))) .nil)⟩
def QX(n:Nat)(p0 p1 p2:Sl):pg.fn (n+1) 20 [p0,p1,p2]=fin 3 (ex (pg.cf n) yx.body [p0,p1,p2]):=bz (g:=yx)
noncomputable def iU:Fn:=⟨1,1,(.cons (.ret (.tup (.cons AAr AAw))) .nil)⟩
def uO(n:Nat)(p0:Sl):pg.fn (n+1) 21 [p0]=fin 1 (ex (pg.cf n) iU.body [p0]):=bz (g:=iU)
noncomputable def nu:Fn:=⟨3,4,(.cons (.set 3 (.bi .dict (.idx ABg AAh))) (.cons (.ret (.op .add (.comp 1 (.name 0) AAd (.cmp .isin (.var 0) (.var 4)) (.var 0)) (.call 14 (.cons (.var 0) (.cons ABK .nil))))) .nil))⟩
def By(n:Nat)(p0 p1 p2:Sl):pg.fn (n+1) 22 [p0,p1,p2]=fin 3 (ex (pg.cf n) nu.body [p0,p1,p2,.un]):=bz (g:=nu)
noncomputable def jP:Fn:=⟨3,3,(.cons (.ret (.and (.cons (.cmp .isin (.var 2) AAd) (.cons (.cmp .notin (.var 2) (.bi .dict (.idx AAc ABg))) .nil)))) .nil)⟩
def xm(n:Nat)(p0 p1 p2:Sl):pg.fn (n+1) 23 [p0,p1,p2]=fin 3 (ex (pg.cf n) jP.body [p0,p1,p2]):=bz (g:=jP)
noncomputable def oY:Fn:=⟨4,5,(.cons (.ite (.call 23 (.cons (.var 1) (.cons (.var 2) AAs))) (.cons (.ret ABs) .nil) .nil) (.cons (.set 4 (.bi .dict (.idx ABg AAh))) (.cons (.ret (.tup (.cons (.call 25 (.cons (.var 0) (.cons ABK AAs))) (.cons (.get2 (.var 4) (.var 3) AAh) .nil)))) .nil)))⟩
def Ky(n:Nat)(p0 p1 p2 p3:Sl):pg.fn (n+1) 24 [p0,p1,p2,p3]=fin 4 (ex (pg.cf n) oY.body [p0,p1,p2,p3,.un]):=bz (g:=oY)
noncomputable def pW:Fn:=⟨3,3,(.cons (.ret (.bi .tuple (.comp 2 (.tup [0,1]) ABS AAH (.ite ACG (.not (.var 1)) (.var 1))))) .nil)⟩
def Hy(n:Nat)(p0 p1 p2:Sl):pg.fn (n+1) 25 [p0,p1,p2]=fin 3 (ex (pg.cf n) pW.body [p0,p1,p2]):=bz (g:=pW)
noncomputable def iV:Fn:=⟨3,4,(.cons (.expr ABv) (.cons (.set 3 (.bi .len AAr)) (.cons (.ite (.or (.cons ABx (.cons (.not (.bi .all (.comp 1 (.name 0) (.var 2) AAH (.call 4 ABL)))) .nil))) ABl .nil) .nil)))⟩
def uP(n:Nat)(p0 p1 p2:Sl):pg.fn (n+1) 26 [p0,p1,p2]=fin 3 (ex (pg.cf n) iV.body [p0,p1,p2,.un]):=bz (g:=iV)
noncomputable def jO:Fn:=⟨3,3,(.cons (.ret (.bi .dict (.comp 1 (.name 0) (.var 0) AAH (.tup AAt)))) .nil)⟩
def xj(n:Nat)(p0 p1 p2:Sl):pg.fn (n+1) 27 [p0,p1,p2]=fin 3 (ex (pg.cf n) jO.body [p0,p1,p2]):=bz (g:=jO)
noncomputable def fG:Fn:=⟨2,2,(.cons (.ite (.cmp .lt (.var 1) ABi) (.cons (.ret (.idx (.var 0) (.var 1))) .nil) .nil) (.cons (.ite (.cmp .eq (.var 0) ABq) (.cons (.ret AAL) .nil) .nil) (.cons (.ret (.op .add (.op .mul (.idx (.var 0) (.op .mod (.var 1) ABi)) (.con (.int 31))) (.var 1))) .nil)))⟩
def iR(n:Nat)(p0 p1:Sl):pg.fn (n+1) 28 [p0,p1]=fin 2 (ex (pg.cf n) fG.body [p0,p1]):=bz (g:=fG)
noncomputable def lC:Fn:=⟨3,4,(.cons (.set 3 (.op .mod (.op .mul (.op .add (.op .add (.call 28 (.cons (.var 0) AAX)) (.op .mul (.con (.int 7919)) (.var 1))) AAG) (.con (.int 48271))) (.con (.int 2147483647)))) (.cons (.ret (.op .mod (.op .mod (.op .add (.op .add (.op .mul (.var 3) (.var 3)) (.op .mul (.con (.int 7)) (.var 3))) (.var 1)) (.con (.int 2147483629))) (.var 2))) .nil))⟩
def zu(n:Nat)(p0 p1 p2:Sl):pg.fn (n+1) 29 [p0,p1,p2]=fin 3 (ex (pg.cf n) lC.body [p0,p1,p2,.un]):=bz (g:=lC)
noncomputable def nF:Fn:=⟨3,3,(.cons (.setIx 1 AAL (.op .add ABf AAG)) (.cons (.ret (.call 29 (.cons (.var 0) (.cons ABf AAj)))) .nil))⟩
def BP(n:Nat)(p0 p1 p2:Sl):pg.fn (n+1) 30 [p0,p1,p2]=fin 3 (ex (pg.cf n) nF.body [p0,p1,p2]):=bz (g:=nF)
noncomputable def nC:Fn:=⟨5,6,(.cons (.set 5 (.bi .list (.var 2))) (.cons (.while_ AAn AAz) (.cons (.ret ABw) .nil)))⟩
def BK(n:Nat)(p0 p1 p2 p3 p4:Sl):pg.fn (n+1) 31 [p0,p1,p2,p3,p4]=fin 5 (ex (pg.cf n) nC.body [p0,p1,p2,p3,p4,.un]):=bz (g:=nC)
noncomputable def lB:Fn:=⟨3,6,(.cons (.set 3 (.call 31 (.cons (.var 0) (.cons (.ref 1) (.cons (.var 2) (.cons AAG AAa)))))) (.cons (.set 4 (.lis (.cons (.tup .nil) .nil))) (.cons (.for_ (.name 5) (.var 3) (.cons (.set 4 (.op .add (.comp 1 (.name 0) (.var 4) AAH (.op .add (.var 0) (.tup (.cons (.con (.bl false)) .nil)))) (.comp 1 (.name 0) (.var 4) AAH (.op .add (.var 0) (.tup (.cons AAH .nil)))))) .nil)) (.cons (.ret (.tup (.cons (.con (.str "table")) (.cons (.var 3) (.cons (.bi .tuple (.bi .sorted (.comp 1 (.name 0) (.var 4) AAf (.var 0)))) .nil))))) .nil))))⟩
def zp(n:Nat)(p0 p1 p2:Sl):pg.fn (n+1) 32 [p0,p1,p2]=fin 3 (ex (pg.cf n) lB.body [p0,p1,p2,.un,.un,.un]):=bz (g:=lB)
noncomputable def dU:Fn:=⟨4,6,(.cons (.set 4 (.call 30 (.cons (.var 0) (.cons (.ref 1) (.cons (.con (.int 9)) .nil))))) (.cons (.ite (.or (.cons (.cmp .lt (.var 4) (.con (.int 4))) (.cons (.cmp .lt ACX AAP) .nil))) (.cons (.ret (.tup (.cons (.idx (.lis AAT) (.op .mod (.var 4) AAP)) (.cons ABP .nil)))) .nil) .nil) (.cons (.ite (.cmp .lt (.var 4) (.con (.int 7))) (.cons (.ret (.tup (.cons (.idx (.lis (.cons ABh (.cons ABm (.cons ABR .nil)))) (.op .sub (.var 4) (.con (.int 4)))) (.cons (.call 31 (.cons (.var 0) (.cons (.ref 1) (.cons (.var 2) (.cons AAP AAa))))) .nil)))) .nil) .nil) (.cons (.ite (.or (.cons (.cmp .eq (.var 4) (.con (.int 7))) (.cons (.cmp .eq (.var 3) AAL) .nil))) (.cons (.ret (.call 32 (.cons (.var 0) (.cons (.ref 1) AAj)))) .nil) .nil) (.cons (.set 5 (.call 33 (.cons (.var 0) (.cons (.ref 1) (.cons (.var 2) (.cons (.op .sub (.var 3) AAG) .nil)))))) (.cons (.ret (.tup (.cons (.con (.str "held")) (.cons (.var 5) (.cons ABP (.cons ACI .nil)))))) .nil))))))⟩
def jx(n:Nat)(p0 p1 p2 p3:Sl):pg.fn (n+1) 33 [p0,p1,p2,p3]=fin 4 (ex (pg.cf n) dU.body [p0,p1,p2,p3,.un,.un]):=bz (g:=dU)
noncomputable def pN:Fn:=⟨4,8,(.cons (.set 4 (.slc (.tup (.cons AAy (.cons ABc (.cons (.con (.str "come")) .nil)))) .noneE (.call 30 (.cons (.var 0) (.cons (.ref 1) ACV))))) (.cons (.set 5 (.slc (.tup AAo) .noneE ABk)) (.cons ACU (.cons (.set 7 (.bi .tuple (.comp 1 (.name 0) (.var 5) AAH (.tup ABG)))) (.cons (.ret (.tup (.cons (.var 4) (.cons (.var 7) (.cons (.bi .tuple (.comp 1 (.name 0) (.var 6) AAH AAf)) .nil))))) .nil)))))⟩
def Hs(n:Nat)(p0 p1 p2 p3:Sl):pg.fn (n+1) 34 [p0,p1,p2,p3]=fin 4 (ex (pg.cf n) pN.body [p0,p1,p2,p3,.un,.un,.un,.un]):=bz (g:=pN)
noncomputable def nA:Fn:=⟨4,9,(.cons (.set 4 (.bi .tuple (.comp 1 (.name 0) AAh AAv AAd))) (.cons (.set 5 ABk) (.cons (.set 6 ABq) (.cons (.for_ (.name 7) (.range1 (.var 5)) (.cons (.set 8 (.comp 1 (.name 0) ACN AAf (.var 0))) (.cons (.append 6 (.bi .tuple (.comp 1 (.name 0) (.var 8) AAH (.tup ABN)))) .nil))) (.cons (.ret (.tup (.cons (.var 4) (.cons (.bi .tuple (.var 6)) .nil)))) .nil)))))⟩
def BJ(n:Nat)(p0 p1 p2 p3:Sl):pg.fn (n+1) 35 [p0,p1,p2,p3]=fin 4 (ex (pg.cf n) nA.body [p0,p1,p2,p3,.un,.un,.un,.un,.un]):=bz (g:=nA)
noncomputable def nD:Fn:=⟨2,5,(.cons (.set 2 (.slc (.lis AAo) .noneE (.op .add ABZ (.call 30 (.cons (.var 0) (.cons (.ref 1) AAa)))))) (.cons (.set 3 ABq) (.cons (.for_ (.name 4) (.range1 ACX) AAe) (.cons (.ret (.tup (.cons (.tup .nil) (.cons (.bi .tuple (.var 3)) (.cons (.bi .tuple (.comp 1 (.name 0) (.var 2) AAH AAf)) .nil))))) .nil))))⟩
def BL(n:Nat)(p0 p1:Sl):pg.fn (n+1) 36 [p0,p1]=fin 2 (ex (pg.cf n) nD.body [p0,p1,.un,.un,.un]):=bz (g:=nD)
noncomputable def lD:Fn:=⟨2,8,(.cons (.set 2 (.slc (.lis (.cons ABu (.cons ABt (.cons (.con (.str "rr")) (.cons (.con (.str "go")) .nil))))) .noneE (.op .add AAG (.call 30 (.cons (.var 0) (.cons (.ref 1) ABI)))))) (.cons (.set 3 AAy) (.cons (.set 4 (.lis (.cons ACI .nil))) (.cons (.set 5 ABq) (.cons (.for_ (.name 6) (.var 2) (.cons (.set 7 AAb) AAg)) (.cons (.ret (.tup (.cons (.tup (.cons (.tup (.cons AAy .nil)) (.cons ABw (.cons (.bi .tuple (.var 4)) .nil)))) (.cons (.tup (.cons (.tup (.cons (.idx (.var 2) (.neg AAG)) .nil)) (.cons (.tup (.cons (.tup (.cons (.tup (.cons AAy ACQ)) .nil)) (.cons (.tup (.cons (.tup (.cons (.idx (.var 2) (.neg AAG)) AAw)) .nil)) .nil))) .nil))) .nil)))) .nil))))))⟩
def zx(n:Nat)(p0 p1:Sl):pg.fn (n+1) 37 [p0,p1]=fin 2 (ex (pg.cf n) lD.body [p0,p1,.un,.un,.un,.un,.un,.un]):=bz (g:=lD)
noncomputable def aJ:Fn:=⟨2,8,(.cons (.set 2 (.call 30 (.cons (.var 0) (.cons (.ref 1) (.cons (.con (.int 6)) .nil))))) (.cons (.set 3 (.tup (.cons (.idx (.lis (.cons ABR (.cons ABR (.cons ABh (.cons ABm (.cons ABR (.cons ABR .nil))))))) (.var 2)) (.cons (.tup (.cons AAy (.cons ABc .nil))) .nil)))) (.cons (.ite (.cmp .gt (.var 2) ABZ) (.cons (.set 3 (.tup (.cons (.con (.str "held")) (.cons (.tup (.cons ABy (.cons AAy .nil))) (.cons ABc (.cons AAH .nil)))))) .nil) .nil) (.cons (.set 4 (.tup (.cons (.tup (.cons (.tup (.cons AAy ACQ)) (.cons (.tup (.cons ABc (.cons AAP .nil))) .nil))) (.cons (.tup (.cons (.tup (.cons ABc AAa)) .nil)) (.cons (.tup (.cons (.tup (.cons AAy AAa)) .nil)) (.cons (.tup (.cons (.tup (.cons ABu AAw)) .nil)) .nil)))))) (.cons (.set 5 (.lis (.cons (.tup (.cons ABu AAs)) .nil))) (.cons (.ite ACI (.cons (.append 5 (.tup (.cons ABt (.cons (.tup (.cons (.idx (.lis AAT) AAb) (.cons ABu .nil))) .nil)))) .nil) .nil) (.cons (.set 6 ACI) (.cons (.set 7 (.lis (.cons (.var 6) (.cons (.var 6) (.cons (.var 6) .nil))))) (.cons (.ite (.cmp .gt (.bi .len (.var 5)) AAG) (.cons (.append 7 (.cmp .eq (.var 6) (.cmp .eq (.idx (.idx (.idx (.var 5) AAG) AAG) AAL) ABy))) .nil) .nil) (.cons (.ret (.tup (.cons (.tup (.cons (.tup (.cons AAy (.cons ABc .nil))) (.cons ABw (.cons (.bi .tuple (.var 7)) .nil)))) (.cons (.tup (.cons (.tup (.cons ABu .nil)) (.cons (.var 4) .nil))) .nil)))) .nil))))))))))⟩
def iQ(n:Nat)(p0 p1:Sl):pg.fn (n+1) 38 [p0,p1]=fin 2 (ex (pg.cf n) aJ.body [p0,p1,.un,.un,.un,.un,.un,.un]):=bz (g:=aJ)
noncomputable def dG:Fn:=⟨3,6,(.cons (.set 3 (.op .add ABK (.bi .tuple (.comp 1 (.name 0) AAh AAH AAd)))) (.cons (.set 4 (.call 30 (.cons (.var 0) (.cons (.ref 1) (.cons (.bi .len AAh) .nil))))) (.cons (.set 5 (.bi .list AAh)) (.cons (.setIx 5 (.var 4) (.tup (.cons (.idx (.idx (.var 5) (.var 4)) AAL) (.cons (.call 33 (.cons (.var 0) (.cons (.ref 1) (.cons (.var 3) ACQ)))) .nil)))) (.cons (.ret (.tup (.cons ABK (.cons ABw (.cons (.idx (.var 2) AAP) .nil))))) .nil)))))⟩
def n6(n:Nat)(p0 p1 p2:Sl):pg.fn (n+1) 39 [p0,p1,p2]=fin 3 (ex (pg.cf n) dG.body [p0,p1,p2,.un,.un,.un]):=bz (g:=dG)
noncomputable def bO:Fn:=⟨2,6,(.cons (.set 2 (.lis AAX)) (.cons (.set 3 (.call 30 (.cons (.var 0) (.cons (.ref 2) (.cons (.con (.int 8)) .nil))))) (.cons (.ite (.cmp .lt (.var 3) AAP) (.cons (.set 4 (.call 34 (.cons (.var 0) (.cons (.ref 2) (.cons AAP ABI))))) (.cons (.ret (.tup (.cons (.var 4) (.cons (.call 35 (.cons (.var 0) (.cons (.ref 2) (.cons (.var 4) ABI)))) .nil)))) .nil)) .nil) (.cons (.ite (.cmp .eq (.var 3) AAP) (.cons (.ret (.tup (.cons (.call 34 (.cons (.var 0) (.cons (.ref 2) (.cons AAL ABI)))) (.cons (.tup (.cons (.tup .nil) (.cons (.tup (.cons (.tup .nil) .nil)) .nil))) .nil)))) .nil) .nil) (.cons (.ite (.cmp .eq (.var 3) ABZ) (.cons (.set 4 (.call 36 ABb)) (.cons (.ite ABY (.cons (.ret (.tup (.cons (.var 4) (.cons (.tup (.cons (.tup .nil) (.cons (.tup (.cons (.tup .nil) .nil)) .nil))) .nil)))) .nil) .nil) (.cons (.ret (.tup (.cons (.var 4) (.cons (.tup (.cons (.tup (.cons ABt .nil)) (.cons (.tup (.cons (.tup (.cons (.tup (.cons ABt ACQ)) .nil)) (.cons (.tup (.cons (.tup (.cons ABt AAw)) .nil)) .nil))) .nil))) .nil)))) .nil))) .nil) (.cons (.ite (.cmp .lt (.var 3) (.con (.int 6))) (.cons (.setT [4,5] (.call 37 ABb)) .nil) (.cons (.setT [4,5] (.call 38 ABb)) .nil)) (.cons (.ite (.and (.cons (.cmp .eq (.op .mod (.var 3) AAP) AAG) (.cons ABY .nil))) (.cons (.set 4 (.call 39 (.cons (.var 0) (.cons (.ref 2) (.cons (.var 4) .nil))))) .nil) .nil) (.cons (.ret (.tup (.cons (.var 4) (.cons (.var 5) .nil)))) .nil))))))))⟩
def fK(n:Nat)(p0 p1:Sl):pg.fn (n+1) 40 [p0,p1]=fin 2 (ex (pg.cf n) bO.body [p0,p1,.un,.un,.un,.un]):=bz (g:=bO)
noncomputable def qG:Fn:=⟨1,1,ABW⟩
def zq(n:Nat)(p0:Sl):pg.fn (n+1) 41 [p0]=fin 1 (ex (pg.cf n) qG.body [p0]):=bz (g:=qG)
noncomputable def pO:Fn:=⟨4,8,(.cons (.set 4 (.call 41 AAZ)) (.cons (.set 5 (.bi .tuple (.comp 1 (.name 0) ACY AAH ABQ))) (.cons (.ite (.and (.cons (.cmp .notin (.var 3) AAd) (.cons (.cmp .notin (.var 3) ABf) .nil))) (.cons (.ret (.tup (.cons (.var 5) (.cons AAh .nil)))) .nil) .nil) (.cons (.for_ (.tup [6,7]) (.idx ABg AAh) (.cons (.ite (.cmp .eq (.var 6) (.var 3)) ABj .nil) .nil)) (.cons (.ret ABs) .nil)))))⟩
def Ht(n:Nat)(p0 p1 p2 p3:Sl):pg.fn (n+1) 42 [p0,p1,p2,p3]=fin 4 (ex (pg.cf n) pO.body [p0,p1,p2,p3,.un,.un,.un,.un]):=bz (g:=pO)
noncomputable def Oq:Fn:=⟨1,15,(.cons ABd (.cons AAq (.cons (.set 4 (.call 41 AAX)) (.cons (.set 5 (.bi .tuple (.comp 1 (.name 0) ACY AAH (.op .add AAG AAl)))) (.cons ABH (.cons ACJ (.cons (.set 9 (.bi .dict (.comp 1 (.name 0) AAR AAH (.tup (.cons (.var 0) AAw))))) (.cons (.set 10 AAL) (.cons (.for_ (.tup [11,12]) (.var 6) (.cons (.ite (.or (.cons (.cmp .jG (.var 8) ABs) AAi)) AAQ .nil) (.cons (.set 13 (.comp 1 (.name 0) (.var 9) (.cmp .lt AAm (.var 12)) (.var 0))) (.cons (.ite (.cmp .ne (.var 13) ABq) AAQ .nil) (.cons (.set 10 (.var 11)) (.cons ABO (.cons (.ite (.cmp .notN (.var 8) ABs) (.cons (.set 14 AAR) (.cons (.set 9 (.bi .dict (.comp 1 (.name 0) (.var 14) AAH (.tup AAS)))) .nil)) .nil) .nil))))))) (.cons (.ite ACO (.cons (.ret (.cmp .jG (.var 8) ABs)) .nil) .nil) (.cons (.ite (.cmp .jG (.var 8) ABs) AAQ .nil) (.cons (.ite (.cmp .eq AAR ABq) ABr .nil) AAp))))))))))))⟩
def aaR(n:Nat)(p0:Sl):pg.fn (n+1) 43 [p0]=fin 1 (ex (pg.cf n) Oq.body [p0,.un,.un,.un,.un,.un,.un,.un,.un,.un,.un,.un,.un,.un,.un]):=bz (g:=Oq)
def QW(n:Nat)(ps:List Sl):pg.fn (n+1) 44 ps=eQ tx (pg.cf n) ps:=by
 show(match pg.fns[44]? with|some g=>il (pg.cf n) g ps|none=>eQ tx (pg.cf n) ps)=_
 rw[show pg.fns[44]? =none by kernel_rfl]
end Tx
end
end
section
open PySem Mini
namespace Tx
abbrev sc(ns:List Int):D:=.lst (ns.map .int)
def Ov(ns:List Int)(i:Int)(h0:0<=i)(h:i<ns.length):∃r:Int,at? (ns.map D.int) i=some (.int r):=by
 unfold at? ix?
 rw[Qvz,if_neg (by omega:¬i<0)]
 rw[if_pos ⟨h0,h⟩]
 have:i.toNat<ns.length:=by omega
 exact⟨ns[i.toNat],by simp[this]⟩
def Lr(ns:List Int):o4 (ns.map D.int)=true:=by
 induction ns with
 |nil=>rfl
 |cons i r ih=>simp[o4,nd,ih]
def Jd(ns:List Int):qO (ns.map D.int)=0:=by
 induction ns with
 |nil=>rfl
 |cons i r ih=>simp[qO,dep,ih]
def Nr(ns:List Int):aG .eq (.lst (ns.map .int)) (.lst [])=some ns.isEmpty:=by
 cases ns with
 |nil=>rfl
 |cons i ns=>simp[aG,qN,flat,nd,o4,dep,qO,fZ,Aa,Lr,Jd]
def Dt n ns k(hk:0<=k):∃r:Int,pg.fn (n+1) 28 [.val (sc ns),.val (.int k)]=.ok (.val (.int r)) [.val (sc ns),.val (.int k)]:=by
 by_cases h:k<ns.length
 ·obtain⟨r,e⟩:=Ov ns k hk h
  exact⟨r,by rw[iR];simp[fG,h,e]⟩
 ·by_cases hn:ns=[]
  ·subst hn
   have h0:¬k<0:=by omega
   exact⟨0,by rw[iR];simp[fG,h0,aX,fits,Nr []]⟩
  ·have hl':=List.length_pos_iff.mpr hn
   have hl:(0:Int)<ns.length:=by omega
   obtain⟨r,e⟩:=Ov ns (k%ns.length) (Int.emod_nonneg _ (by omega)) (Int.emod_lt_of_pos _ hl)
   have he:ns.isEmpty=false:=by simpa using hn
   exact⟨r*31+k,by rw[iR];simp[fG,h,e,aX,fits,Nr,he,hl,hl',small]⟩
@[simp]theorem ag1(n:Nat):(pg.cf n).fn=pg.fn n:=rfl
@[simp]theorem ag0(n:Nat):(pg.cf n).gl=pg.gl:=rfl
@[simp]theorem abZ(n:Nat):(pg.cf n).turns=1000:=rfl
def tK n ns k many(hk:0<=k)(hm:0<many):∃r:Int,0<=r/\r<many/\
  pg.fn (n+2) 29 [.val (sc ns),.val (.int k),.val (.int many)]=.ok (.val (.int r)) [.val (sc ns),.val (.int k),.val (.int many)]:=by
 obtain⟨c,e⟩:=Dt n ns k hk
 have b:∀x:Int,small (x%2147483647)=true:=fun x=>by
  simp[small]
  omega
 have s1:small 7919=true:=by decide
 have s2:small 48271=true:=by decide
 refine⟨_,?_,?_,by rw[zu];simp[lC,e,s1,s2,s3,b,hm];rfl⟩
 ·exact Int.emod_nonneg _ (by omega)
 ·exact Int.emod_lt_of_pos _ hm
def Px{k:Int}(h:0<=k):0<=k+1:=Int.le_trans h (Int.le_add_one (Int.le_refl k))
def bB n ns k many(hk:0<=k)(hm:0<many):∃r:Int,0<=r/\r<many/\
  pg.fn (n+3) 30 [.val (sc ns),.bor (.lst [.int k]),.val (.int many)]=.ok (.val (.int r)) [.val (sc ns),.bor (.lst [.int (k+1)]),.val (.int many)]:=by
 obtain⟨r,h1,h2,e⟩:=tK n ns _ many (Px hk) hm
 refine⟨r,h1,h2,?_⟩
 rw[BP]
 simp[nF,at?,ix?,zA,e]
end Tx
end
section
open PySem Mini
namespace Tx
def rT:E:=AAn
def zf:S:=AAz
abbrev someσ(ns:List Int)(k:Int)(xs:List D)(least most:Int)(row:List D):Ev:=[.val (sc ns),.bor (.lst [.int k]),.val (.tup xs),.val (.int least),.val (.int most),.own (.lst row)]
def J2 n ns k(hk:0<=k)xs row least most(h0:0<row.length)(hf:row.length<=1000):
  ∃j:Nat,j<row.length/\ex (pg.cf (n+3)) zf (someσ ns k xs least most row)=.next (someσ ns (k+1) xs least most (row.eraseIdx j)):=by
 obtain⟨r,h1,h2,e⟩:=bB n ns k row.length hk (by omega)
 refine⟨r.toNat,by omega,?_⟩
 have f:fits row.length=true:=by simp[fits];omega
 have hx:ix? row.length r=some r.toNat:=by
  unfold ix?
  rw[if_neg (by omega:¬r<0),if_pos ⟨h1,h2⟩]
 have hr:row[r.toNat]? =some _:=QXq (by omega)
 simp[zf,e,gC,sV,f,hx,hr,Cp]
theorem Hj(n:Nat)(ns:List Int)(xs:List D)(least most:Int)(hx:xs.length<=1000)(hl:0<=least)(hlm:least<=most):∀(L:Nat)(row:List D)(k:Int)(fuel:Nat),row.length=L->L<fuel->0<=k->row.Sublist xs->least<=row.length->
  ∃ys k',ys.Sublist xs/\least<=ys.length/\ys.length<=most/\0<=k'/\gq (ev (pg.cf (n+3)) rT) (ex (pg.cf (n+3)) zf) fuel (someσ ns k xs least most row)=.next (someσ ns k' xs least most ys):=by
 intro L
 induction L with
 |zero=>
  intro row k fuel hL hf hk hs hr
  obtain⟨fuel,rfl⟩:∃f,fuel=f+1:=⟨fuel-1,by omega⟩
  have:¬least<row.length:=by omega
  exact⟨row,k,hs,hr,by omega,hk,by simp[gq,rT,this]⟩
 |succ L ih=>
  intro row k fuel hL hf hk hs hr
  obtain⟨fuel,rfl⟩:∃f,fuel=f+1:=⟨fuel-1,by omega⟩
  have hrl:=hs.length_le
  by_cases h1:least<row.length
  ·--the row is longer than the least
   have cont:∀k1:Int,0<=k1->∃ys k',ys.Sublist xs/\least<=ys.length/\ys.length<=most/\0<=k'/\
     (ex _ zf _).turn _=.next (someσ ns k' xs least most ys):=fun k1 hk1=>by
    obtain⟨j,hj,e⟩:=J2 n ns k1 hk1 xs row least most (by omega) (by omega)
    have el:(row.eraseIdx j).length=L:=by rw[List.length_eraseIdx_of_lt hj];omega
    obtain⟨ys,k',a1,a2,a3,a4,a5⟩:=ih _ (k1+1) fuel el (by omega) (by omega) ((List.eraseIdx_sublist row j).trans hs) (by omega)
    exact⟨ys,k',a1,a2,a3,a4,by rw[e];exact a5⟩
   by_cases h2:most<row.length
   ·obtain⟨ys,k',a1,a2,a3,a4,a5⟩:=cont k hk
    refine⟨ys,k',a1,a2,a3,a4,?_⟩
    rw[<-a5]
    simp[gq,rT,h1,h2]
   ·obtain⟨r,b1,b2,e⟩:=bB n ns k 2 hk (by omega)
    by_cases h3:r=1
    ·subst h3
     obtain⟨ys,k',a1,a2,a3,a4,a5⟩:=cont (k+1) (by omega)
     refine⟨ys,k',a1,a2,a3,a4,?_⟩
     rw[<-a5]
     simp[gq,rT,h1,h2,e]
    ·exact⟨row,k+1,hs,by omega,by omega,by omega,by simp[gq,rT,h1,h2,e,h3]⟩
  ·exact⟨row,k,hs,by omega,by omega,hk,by simp[gq,rT,h1]⟩
def Ep n ns k(hk:0<=k)xs least most(hx:xs.length<=900)(hl:0<=least)(hlm:least<=most)(hxl:least<=xs.length):
  ∃ys k',ys.Sublist xs/\least<=ys.length/\ys.length<=most/\0<=k'/\
   pg.fn (n+4) 31 [.val (sc ns),.bor (.lst [.int k]),.val (.tup xs),.val (.int least),.val (.int most)]=.ok (.val (.tup ys)) [.val (sc ns),.bor (.lst [.int k']),.val (.tup xs),.val (.int least),.val (.int most)]:=by
 obtain⟨ys,k',a1,a2,a3,a4,a5⟩:=Hj n ns xs least most (by omega) hl hlm xs.length xs k 1000 rfl (by omega) hk (List.Sublist.refl _) hxl
 refine⟨ys,k',a1,a2,a3,a4,?_⟩
 rw[BK]
 have hb:nC.body=.cons _ (.cons (.while_ rT zf) _):=rfl
 rw[hb]
 simp[a5]
end Tx
end
section
open PySem Mini
namespace Tx
def uH(s:Sl):Prop:=s=.un\/∃d,s=.val d
def km(h:uH s)d(r:Ev):cY (.name 0) d (s::r)=some (.val d::r):=by
 rcases h with rfl|⟨e,rfl⟩<;>simp[cY]
def qD:E:=AAf
def yr n ns k(hk:0<=k)d(rest:Ev):∃b:Bool,ev (pg.cf (n+3)) qD (.val d:: .val (sc ns):: .bor (.lst [.int k])::rest)=.ok (.val (.bl b)) (.val d:: .val (sc ns):: .bor (.lst [.int (k+1)])::rest):=by
 obtain⟨r,h1,h2,e⟩:=bB n ns k 2 hk (by omega)
 exact⟨r==1,by simp[qD,e]⟩
theorem Oc(n:Nat)(ns:List Int)(rest:Ev):∀(xs acc:List D)(k:Int)(s:Sl),0<=k->uH s->∃bs k' s',bs.length=xs.length/\0<=k'/\uH s'/\
  aP (.name 0) (ev (pg.cf (n+3)) qD) (ev (pg.cf (n+3)) (.var 0)) xs acc (s:: .val (sc ns):: .bor (.lst [.int k])::rest)=.ok (acc++oJ bs xs) (s':: .val (sc ns):: .bor (.lst [.int k'])::rest)
 |[]=>fun acc k s hk hs=>⟨[],k,s,rfl,hk,hs,by simp[aP,oJ]⟩
 |x::xs=>fun acc k s hk hs=>by
  obtain⟨b,e⟩:=yr n ns k hk x rest
  cases b with
  |true=>
   obtain⟨bs,k',s',a1,a2,a3,a4⟩:=Oc n ns rest xs _ (k+1) _ (by omega) (.inr ⟨x,rfl⟩)
   refine⟨true::bs,k',s',by simp[a1],a2,a3,?_⟩
   rw[aP,km hs]
   simp only[e,fY,if_true]
   have e0:ev (pg.cf (n+3)) (.var 0) (.val x:: .val (sc ns):: .bor (.lst [.int (k+1)])::rest)=.ok (.val x) (.val x:: .val (sc ns):: .bor (.lst [.int (k+1)])::rest):=by simp
   rw[e0,cJ,a4]
   simp[oJ]
  |false=>
   obtain⟨bs,k',s',a1,a2,a3,a4⟩:=Oc n ns rest xs acc (k+1) _ (by omega) (.inr ⟨x,rfl⟩)
   refine⟨false::bs,k',s',by simp[a1],a2,a3,?_⟩
   rw[aP,km hs]
   simp only[e,fY,Qyz,if_false]
   rw[a4]
   simp[oJ]
noncomputable def Th(b:Bool):E:=(.comp 1 (.name 0) (.var 4) AAH (.op .add (.var 0) (.tup (.cons (.con (.bl b)) .nil))))
def xg:S:=(.cons (.set 4 (.op .add (Th false) (Th true))) .nil)
theorem O1(c:Cf)(b:Bool)(rest:Ev):∀(rs:List (List Bool))(acc:List D)(s:Sl),uH s->(∀r∈rs,r.length<=1000)->∃s',uH s'/\
  aP (.name 0) (ev c AAH) (ev c (.op .add (.var 0) (.tup (.cons (.con (.bl b)) .nil)))) (rs.map aN) acc (s::rest)=.ok (acc++(rs.map (· ++[b])).map aN) (s'::rest)
 |[]=>fun acc s hs _=>⟨s,hs,by simp[aP]⟩
 |r::rs=>fun acc s hs hl=>by
  obtain⟨s',a1,a2⟩:=O1 c b rest rs _ _ (.inr ⟨_,rfl⟩) fun q hq=>hl q (QYq _ hq)
  have h1:=hl r QYz
  refine⟨s',a1,?_⟩
  rw[Qyq,aP,km hs]
  have e0:ev c (.op .add (.var 0) (.tup (.cons (.con (.bl b)) .nil))) (.val (aN r)::rest)=.ok (.val (aN (r++[b]))) (.val (aN r)::rest):=by
   have f:fits (r.length+1)=true:=by simp[fits];omega
   simp[aX,aN,f]
  have e1:ev c AAH (.val (aN r)::rest)=.ok (.val (.bl true)) (.val (aN r)::rest):=by simp
  simp only[e1,fY,if_true]
  rw[e0,cJ,a2]
  simp
def O2 c b(rs:List (List Bool))(hl:∀r∈rs,r.length<=1000)(hs:s=.own (.lst (rs.map aN))\/s=.val (.lst (rs.map aN)))s0 s1 s2 s3 s5:ev c (Th b) [s0,s1,s2,s3,s,s5]=.ok (.new (.lst ((rs.map (· ++[b])).map aN))) [s0,s1,s2,s3,.val (.lst (rs.map aN)),s5]:=by
 obtain⟨s',_,a⟩:=O1 c b [s0,s1,s2,s3,.val _,s5] rs [] .un (.inl rfl) hl
 have h:ev c (.var 4) [s0,s1,s2,s3,s,s5]=.ok (.val (.lst (rs.map aN))) [s0,s1,s2,s3,.val (.lst (rs.map aN)),s5]:=by
  rcases hs with rfl|rfl<;>simp
 unfold Th
 rw[nO,h,cJ]
 simp only[items]
 rw[show List.replicate 1 Sl.un++[s0,s1,s2,s3,.val _,s5]=Sl.un::[s0,s1,s2,s3,.val _,s5]from rfl,a]
 simp
def Hq c(rs:List (List Bool))(hl:∀r∈rs,r.length<=1000)(hn:rs.length<=1000)(hs:s=.own (.lst (rs.map aN)))s0 s1 s2 s3 s5:
  ex c xg [s0,s1,s2,s3,s,s5]=.next [s0,s1,s2,s3,.own (.lst ((rs.map (· ++[false])++rs.map (· ++[true])).map aN)),s5]:=by
 have f:fits (rs.length+rs.length)=true:=by simp[fits];omega
 unfold xg
 simp only[x_0,x_1,x_5,v_5]
 rw[O2 c false rs hl (.inl hs),my]
 rw[O2 c true rs hl (.inr rfl),my]
 simp[f]
theorem vC(c:Cf)(s0 s1 s2 s3:Sl):∀(ys:List D)(k:Nat)(s5:Sl),uH s5->k+ys.length<=9->∃s5',uH s5'/\dC (.name 5) (ex c xg) ys [s0,s1,s2,s3,.own (.lst ((fL k).map aN)),s5]=.next [s0,s1,s2,s3,.own (.lst ((fL (k+ys.length)).map aN)),s5']
 |[]=>fun k s5 h5 _=>⟨s5,h5,by simp[dC]⟩
 |y::ys=>fun k s5 h5 hk=>by
  simp only[QAz]at hk
  obtain⟨s5',a1,a2⟩:=vC c s0 s1 s2 s3 ys (k+1) _ (.inr ⟨y,rfl⟩) (by omega)
  refine⟨s5',a1,?_⟩
  have st:cY (.name 5) y [s0,s1,s2,s3,.own (.lst ((fL k).map aN)),s5]=some [s0,s1,s2,s3,.own (.lst ((fL k).map aN)),.val y]:=by
   rcases h5 with rfl|⟨e,rfl⟩<;>simp[cY]
  have lens:∀k,∀r∈fL k,r.length=k:=by
   intro k
   induction k with
   |zero=>intro r hr;simp[fL]at hr;subst hr;rfl
   |succ k ih=>
    intro r hr
    simp only[fL,QXz,QCz]at hr
    rcases hr with ⟨q,hq,rfl⟩|⟨q,hq,rfl⟩<;>simp[ih q hq]
  have hn:(fL k).length<=1000:=by
   rw[ph]
   have:2 ^k<=2 ^9:=Nat.pow_le_pow_right (by omega) (by omega)
   omega
  rw[dC,st]
  simp only
  rw[Hq c _ (fun r hr=>by rw[lens k r hr];omega) hn rfl,o6]
  rw[show(fL k).map _++(fL k).map _=fL (k+1)from rfl,a2]
  rw[show k+1+ys.length=k+(y::ys).length by simp;omega]
def rA:E:=.comp 1 (.name 0) (.var 4) qD (.var 0)
def Dl n ns k(hk:0<=k)zs s2 s3 s5:∃bs k',bs.length=zs.length/\0<=k'/\
  ev (pg.cf (n+3)) rA [.val (sc ns),.bor (.lst [.int k]),s2,s3,.own (.lst zs),s5]=.ok (.new (.lst (oJ bs zs))) [.val (sc ns),.bor (.lst [.int k']),s2,s3,.val (.lst zs),s5]:=by
 obtain⟨bs,k',s',c1,c2,c3,c4⟩:=Oc n ns [s2,s3,.val _,s5] zs [] k .un hk (.inl rfl)
 refine⟨bs,k',c1,c2,?_⟩
 have h:ev (pg.cf (n+3)) (.var 4) [.val (sc ns),.bor (.lst [.int k]),s2,s3,.own (.lst zs),s5]=.ok (.val (.lst zs)) [.val (sc ns),.bor (.lst [.int k]),s2,s3,.val (.lst zs),s5]:=by simp
 unfold rA
 rw[nO,h,cJ]
 simp only[items]
 rw[show List.replicate 1 Sl.un++[.val _,.bor _,s2,s3,.val _,s5]=Sl.un:: .val _:: .bor _::[s2,s3,.val _,s5]from rfl,c4]
 simp
def JR n ns k(hk:0<=k)xs(hx:xs.length<=900)(h1:1<=xs.length):
  ∃ys rs k',ys.Sublist xs/\1<=ys.length/\ys.length<=3/\(∀r∈rs,r.length=ys.length)/\zW rs=true/\0<=k'/\
   pg.fn (n+5) 32 [.val (sc ns),.bor (.lst [.int k]),.val (.tup xs)]=.ok (.val (.tup [.str "table",.tup ys,.tup (rs.map aN)])) [.val (sc ns),.bor (.lst [.int k']),.val (.tup xs)]:=by
 obtain⟨ys,k1,a1,a2,a3,a4,a5⟩:=Ep n ns k hk xs 1 3 hx (by omega) (by omega) (by omega)
 obtain⟨s5,b1,b2⟩:=vC (pg.cf (n+4)) (.val (sc ns)) (.bor (.lst [.int k1])) (.val (.tup xs)) (.val (.tup ys)) ys 0 .un (.inl rfl) (by omega)
 obtain⟨bs,k2,c1,c2,c4⟩:=Dl (n+1) ns k1 a4 ((fL ys.length).map aN) (.val (.tup xs)) (.val (.tup ys)) s5
 rw[Qvz,ph]at c1
 obtain⟨rs,d1,d2,d3⟩:=Hi ys.length (by omega) (by omega) bs c1
 refine⟨ys,rs,k2,a1,by omega,by omega,d2,d3,c2,?_⟩
 rw[zp]
 have hb:lB=⟨3,6,.cons _ (.cons _ (.cons (.for_ _ _ xg)
  (.cons (.ret (.tup (.cons _ (.cons _ (.cons (.bi .tuple (.bi .sorted rA)) .nil))))) .nil)))⟩:=rfl
 rw[hb]
 have e1:([D.tup []])=(fL 0).map aN:=rfl
 have e2:(fL 0).length=1:=rfl
 have q:rA.az=none:=rfl
 simp[a5,aX,items,e1,e2,b2,c4,d1,q]
end Tx
end
section
open PySem Mini
namespace Tx
inductive cg(xs:List D):Nat->D->Prop
 |same {n:Nat} {x:D}:x∈xs->cg xs n (.tup [.str "same",x])
 |not {n:Nat} {x:D}:x∈xs->cg xs n (.tup [.str "not",x])
 |and {n:Nat} {ys:List D}:ys.Sublist xs->2<=ys.length->ys.length<=3->cg xs n (.tup [.str "and",.tup ys])
 |or {n:Nat} {ys:List D}:ys.Sublist xs->2<=ys.length->ys.length<=3->cg xs n (.tup [.str "or",.tup ys])
 |both {n:Nat} {ys:List D}:ys.Sublist xs->2<=ys.length->ys.length<=3->cg xs n (.tup [.str "both",.tup ys])
 |table {n:Nat} {ys:List D} {rs:List (List Bool)}:ys.Sublist xs->1<=ys.length->ys.length<=3->(∀r∈rs,r.length=ys.length)->zW rs=true->cg xs n (.tup [.str "table",.tup ys,.tup (rs.map aN)])
 |held {n:Nat} {k x:D} {b:Bool}:cg xs n k->x∈xs->cg xs (n+1) (.tup [.str "held",k,x,.bl b])
def Ou xs r(h1:0<=r)(h2:r<xs.length):∃d,at? xs r=some d/\d∈xs:=by
 unfold at? ix?
 rw[if_neg (Int.not_lt.mpr h1),if_pos ⟨h1,h2⟩]
 have:=(Int.toNat_lt h1).mpr h2
 exact⟨xs[r.toNat],by simp[this],List.getElem_mem this⟩
def RC(r:Int):r%2=0\/r%2=1:=by omega
def Nk{r:Int}(h1:¬r<4)(h2:r<7):r-4=0\/r-4=1\/r-4=2:=by omega
def eight{r:Int}(h1:¬r<7)(h2:r<9)(h3:¬r=7):r=8:=by omega
def Yp(n:Nat):¬((n:Int)+1=0):=by omega
def vY m ns xs(hx:xs.length<=900)(h1:1<=xs.length)deep
  (rec:∀dp,deep=dp+1->∀k:Int,0<=k->∃d k',cg xs dp d/\0<=k'/\pg.fn (m+5) 33 [.val (sc ns),.bor (.lst [.int k]),.val (.tup xs),.val (.int dp)]=.ok (.val d) [.val (sc ns),.bor (.lst [.int k']),.val (.tup xs),.val (.int dp)])
  k(hk:0<=k):∃d k',cg xs deep d/\0<=k'/\
  pg.fn (m+6) 33 [.val (sc ns),.bor (.lst [.int k]),.val (.tup xs),.val (.int deep)]=.ok (.val d) [.val (sc ns),.bor (.lst [.int k']),.val (.tup xs),.val (.int deep)]:=by
 obtain⟨r,r1,r2,er⟩:=bB (m+2) ns k 9 hk (by decide)
 have hk1:=Px hk
 by_cases c1:r<4\/xs.length<2
 ·obtain⟨q,q1,q2,eq⟩:=bB (m+2) ns _ xs.length hk1 (Int.ofNat_lt.mpr h1)
  obtain⟨x,ex,mx⟩:=Ou xs q q1 q2
  obtain⟨w,ew,kw⟩:∃w,at? [.str "same",.str "not"] (r%2)=some _/\cg xs deep (.tup [.str w,x]):=by
   rcases RC r with h|h<;>rw[h]
   ·exact⟨_,rfl,.same mx⟩
   ·exact⟨_,rfl,.not mx⟩
  refine⟨_,k+1+1,kw,Px hk1,?_⟩
  rw[jx]
  by_cases c4:r<4
  ·simp[dU,er,c4,eq,ex,aX,ew]
  ·have c6:=c1.resolve_left c4
   have c5:(xs.length:Int)<2:=Int.ofNat_lt.mpr c6
   simp[dU,er,c4,c5,c6,eq,ex,aX,ew]
 ·have c2:¬r<4:=fun h=>c1 (.inl h)
  have c3':=fun h=>c1 (.inr h)
  have c3:¬(xs.length:Int)<2:=fun h=>c3' (Int.ofNat_lt.mp h)
  by_cases c7:r<7
  ·obtain⟨ys,k',a1,a2,a3,a4,a5⟩:=Ep (m+1) ns _ hk1 xs 2 3 hx (by decide) (by decide) (Int.not_lt.mp c3)
   have a2:=Int.ofNat_le.mp a2
   have a3:=Int.ofNat_le.mp a3
   obtain⟨w,ew,kw⟩:∃w,at? [.str "and",.str "or",.str "both"] (r-4)=some _/\cg xs deep (.tup [.str w,.tup ys]):=by
    rcases Nk c2 c7 with h|h|h<;>rw[h]
    ·exact⟨_,rfl,.and a1 a2 a3⟩
    ·exact⟨_,rfl,.or a1 a2 a3⟩
    ·exact⟨_,rfl,.both a1 a2 a3⟩
   exact⟨_,k',kw,a4,by rw[jx];simp[dU,er,c2,c3,c3',c7,a5,aX,ew]⟩
  ·by_cases c8:r=7\/deep=0
   ·obtain⟨ys,rs,k',a1,a2,a3,a4,a5,a6,a7⟩:=JR m ns _ hk1 xs hx h1
    refine⟨_,k',.table a1 a2 a3 a4 a5,a6,?_⟩
    rw[jx]
    by_cases c9:r=7
    ·subst c9
     simp[dU,er,c3,c3',a7]
    ·have c10:=c8.resolve_left c9
     subst c10
     simp[dU,er,c2,c3,c3',c7,c9,beq_false_of_ne c9,a7]
   ·obtain⟨dp,rfl⟩:=Nat.exists_eq_succ_of_ne_zero (fun h=>c8 (.inr h))
    have c9:=eight c7 r2 fun h=>c8 (.inl h)
    subst c9
    obtain⟨d,k1,b1,b2,b3⟩:=rec dp rfl _ hk1
    obtain⟨q,q1,q2,eq⟩:=bB (m+2) ns k1 xs.length b2 (Int.ofNat_lt.mpr h1)
    obtain⟨x,ex,mx⟩:=Ou xs q q1 q2
    obtain⟨z,z1,z2,ez⟩:=bB (m+2) ns _ 2 (Px b2) (by decide)
    refine⟨_,k1+1+1,.held (b:=z==1) b1 mx,Px (Px b2),?_⟩
    rw[jx]
    have e1:=Yp dp
    simp[dU,er,c3,c3',beq_false_of_ne e1,e1,(Int.add_sub_cancel _ _),b3,eq,ex,ez,aX]
def afm m deep:m+deep+1+5=m+6+deep:=by omega
def afl m deep:m+6+(deep+1)=m+deep+1+6:=by omega
theorem xX ns xs(hx:xs.length<=900)(h1:1<=xs.length):∀(deep m:Nat)(k:Int),0<=k->∃d k',cg xs deep d/\0<=k'/\
  pg.fn (m+6+deep) 33 [.val (sc ns),.bor (.lst [.int k]),.val (.tup xs),.val (.int deep)]=.ok (.val d) [.val (sc ns),.bor (.lst [.int k']),.val (.tup xs),.val (.int deep)]
 |0=>fun m k hk=>vY m ns xs hx h1 0 (fun dp h=>nomatch h) k hk
 |deep+1=>fun m k hk=>by
  have:=vY _ ns xs hx h1 (deep+1) (fun dp h k hk=>by
   cases h
   rw[afm m deep]
   exact(xX ns xs hx h1 deep m k hk)) k hk
  rw[afl m deep]
  exact this
end Tx
end
section
open PySem Mini
namespace Tx
def Gg:E:=(.tup ABG)
def Mf n ns k(hk:0<=k)xs(hx:xs.length<=900)(h1:1<=xs.length)x s3 s4 s5 s6 s8:∃d k',cg xs 1 d/\0<=k'/\
  ev (pg.cf (n+7)) Gg [.val x,.val (sc ns),.bor (.lst [.int k]),s3,s4,s5,s6,.val (.tup xs),s8]=.ok (.val (.tup [x,d])) [.val x,.val (sc ns),.bor (.lst [.int k']),s3,s4,s5,s6,.val (.tup xs),s8]:=by
 obtain⟨d,k',a1,a2,a3⟩:=xX ns xs hx h1 1 n k hk
 refine⟨d,k',a1,a2,?_⟩
 simp only[Int.natCast_one,show n+6+1=n+7 from rfl]at a3
 simp[Gg,a3,aX]
theorem zQ(n:Nat)(ns:List Int)(xs:List D)(hx:xs.length<=900)(h1:1<=xs.length)(s3 s4 s5 s6 s8:Sl):∀(row acc:List D)(k:Int)(s:Sl),0<=k->uH s->∃ks k' s',ks.length=row.length/\(∀d∈ks,cg xs 1 d)/\0<=k'/\uH s'/\
  aP (.name 0) (ev (pg.cf (n+7)) AAH) (ev (pg.cf (n+7)) Gg) row acc [s,.val (sc ns),.bor (.lst [.int k]),s3,s4,s5,s6,.val (.tup xs),s8]
   =.ok (acc++aR row ks) [s',.val (sc ns),.bor (.lst [.int k']),s3,s4,s5,s6,.val (.tup xs),s8]
 |[]=>fun acc k s hk hs=>⟨[],k,s,rfl,fun d h=>(by cases h),hk,hs,by simp[aP,aR]⟩
 |x::row=>fun acc k s hk hs=>by
  obtain⟨d,k1,a1,a2,a3⟩:=Mf n ns k hk xs hx h1 x s3 s4 s5 s6 s8
  obtain⟨ks,k',s',b1,b2,b3,b4,b5⟩:=zQ n ns xs hx h1 s3 s4 s5 s6 s8 row _ k1 _ a2 (.inr ⟨x,rfl⟩)
  refine⟨d::ks,k',s',by simp[b1],fun e h=>?_,b3,b4,?_⟩
  ·rcases QBz.mp h with rfl|h
   ·exact a1
   ·exact b2 e h
  ·rw[aP,km hs]
   have e1:∀σ,ev (pg.cf (n+7)) AAH σ=.ok (.val (.bl true)) σ:=fun σ=>by simp
   simp only[e1,fY,if_true]
   rw[a3,cJ,b5]
   simp[aR]
theorem ug(n:Nat)(ns:List Int)(rest:Ev):∀(xs acc:List D)(k:Int)(s:Sl),0<=k->uH s->∃(bs:List Bool)(k':Int)(s':Sl),bs.length=xs.length/\0<=k'/\uH s'/\
  aP (.name 0) (ev (pg.cf (n+3)) AAH) (ev (pg.cf (n+3)) qD) xs acc (s:: .val (sc ns):: .bor (.lst [.int k])::rest)=.ok (acc++bs.map .bl) (s':: .val (sc ns):: .bor (.lst [.int k'])::rest)
 |[]=>fun acc k s hk hs=>⟨[],k,s,rfl,hk,hs,by simp[aP]⟩
 |x::xs=>fun acc k s hk hs=>by
  obtain⟨b,e⟩:=yr n ns k hk x rest
  obtain⟨bs,k',s',a1,a2,a3,a4⟩:=ug n ns rest xs _ _ _ (Px hk) (.inr ⟨x,rfl⟩)
  refine⟨b::bs,k',s',by simp[a1],a2,a3,?_⟩
  rw[aP,km hs]
  have e1:∀σ,ev (pg.cf (n+3)) AAH σ=.ok (.val (.bl true)) σ:=fun σ=>by simp
  simp only[e1,fY,if_true]
  rw[e,cJ,a4]
  simp
def Fz:E:=(.comp 1 (.name 0) (.var 5) AAH Gg)
def Ge:E:=(.comp 1 (.name 0) (.var 6) AAH qD)
noncomputable def xN:S:=(.cons ACU (.cons (.set 7 (.bi .tuple Fz)) (.cons (.ret (.tup (.cons (.var 4) (.cons (.var 7) (.cons (.bi .tuple Ge) .nil))))) .nil)))
def Lk n ns k(hk:0<=k)ν row(hx:ν.length+row.length<=900)(h1:1<=row.length)s2 s3:∃(ks:List D)(ls:List Bool)(k':Int),ks.length=row.length/\(∀d∈ks,cg (ν++row) 1 d)/\ls.length=(ν++row).length/\0<=k'/\
  ex (pg.cf (n+7)) xN [.val (sc ns),.bor (.lst [.int k]),s2,s3,.val (.tup ν),.val (.tup row),.un,.un]
   =.ret (.val (.tup [.tup ν,.tup (aR row ks),.tup (ls.map .bl)])) [.val (sc ns),.bor (.lst [.int k']),s2,s3,.val (.tup ν),.val (.tup row),.val (.tup (ν++row)),.val (.tup (aR row ks))]:=by
 obtain⟨ks,k1,s',a1,a2,a3,a4,a5⟩:=zQ n ns (ν++row) (by simpa using hx) (by simp;omega) s2 s3 _ _ .un row [] k .un hk (.inl rfl)
 obtain⟨ls,k',s'',b1,b2,b3,b4⟩:=ug _ ns [s2,s3,.val _,.val _,.val _,.val _] _ [] k1 .un a3 (.inl rfl)
 refine⟨ks,ls,k',a1,a2,b1,b2,?_⟩
 have f:fits (ν.length+row.length)=true:=by simp[fits];omega
 have em:ev (pg.cf (n+7)) Fz [.val (sc ns),.bor (.lst [.int k]),s2,s3,.val (.tup ν),.val (.tup row),.val (.tup (ν++row)),.un]=.ok (.new (.lst (aR row ks))) [.val (sc ns),.bor (.lst [.int k1]),s2,s3,.val (.tup ν),.val (.tup row),.val (.tup (ν++row)),.un]:=by
  have h:ev (pg.cf (n+7)) (.var 5) [.val (sc ns),.bor (.lst [.int k]),s2,s3,.val (.tup ν),.val (.tup row),.val (.tup (ν++row)),.un]=.ok (.val (.tup row)) [.val (sc ns),.bor (.lst [.int k]),s2,s3,.val (.tup ν),.val (.tup row),.val (.tup (ν++row)),.un]:=by simp
  unfold Fz
  rw[nO,h,cJ]
  simp only[items]
  rw[show List.replicate 1 Sl.un++[.val _,.bor _,s2,s3,.val _,.val _,.val _,.un]=[.un,.val _,.bor _,s2,s3,.val _,.val _,.val _,.un]from rfl,a5]
  simp
 have el:ev (pg.cf (n+7)) Ge [.val (sc ns),.bor (.lst [.int k1]),s2,s3,.val (.tup ν),.val (.tup row),.val (.tup (ν++row)),.val (.tup (aR row ks))]=.ok (.new (.lst (ls.map .bl))) [.val (sc ns),.bor (.lst [.int k']),s2,s3,.val (.tup ν),.val (.tup row),.val (.tup (ν++row)),.val (.tup (aR row ks))]:=by
  have h:ev (pg.cf (n+7)) (.var 6) [.val (sc ns),.bor (.lst [.int k1]),s2,s3,.val (.tup ν),.val (.tup row),.val (.tup (ν++row)),.val (.tup (aR row ks))]=.ok (.val (.tup (ν++row))) [.val (sc ns),.bor (.lst [.int k1]),s2,s3,.val (.tup ν),.val (.tup row),.val (.tup (ν++row)),.val (.tup (aR row ks))]:=by simp
  unfold Ge
  rw[nO,h,cJ]
  simp only[items]
  rw[show List.replicate 1 Sl.un++[.val _,.bor _,s2,s3,.val _,.val _,.val _,.val _]=.un:: .val _:: .bor _::[s2,s3,.val _,.val _,.val _,.val _]from rfl,b4]
  simp
 have q1:Fz.az=none:=rfl
 have q2:Ge.az=none:=rfl
 simp[xN,f,em,el,q1,q2,aX]
def hd(h:Nat):List D:=([.str "a",.str "b",.str "come"]:List D).take h
def dq(g:Nat):List D:=([.str "p",.str "q",.str "rr",.str "go",.str "abcdef"]:List D).take g
def iw(h2:h<=2):(hd h).length=h:=List.length_take_of_le (Nat.le_succ_of_le h2)
def eV(g4:g<=5):(dq g).length=g:=List.length_take_of_le g4
noncomputable def aO(h g:Nat)(ks:List D)(ls:List Bool):D:=.tup [.tup (hd h),.tup (aR (dq g) ks),.tup (ls.map .bl)]
structure cU(h g:Nat)(ks:List D)(ls:List Bool):Prop where
 h2:h<=2
 g1:1<=g
 g5:g<=5
 kl:ks.length=g
 kk:∀d∈ks,cg (hd h++dq g) 1 d
 ll:ls.length=h+g
def Xf{h:Nat}(i2:ni<=2)(r2:(h:Int)<ni+1):h<=2:=by omega
def Ln n ns k(hk:0<=k)ni(i0:0<=ni)(i2:ni<=2):∃h g ks ls k',cU h g ks ls/\0<=k'/\
  pg.fn (n+8) 34 [.val (sc ns),.bor (.lst [.int k]),.val (.int ni),.val (.int 4)]=.ok (.val (aO h g ks ls)) [.val (sc ns),.bor (.lst [.int k']),.val (.int ni),.val (.int 4)]:=by
 obtain⟨r,r1,r2,er⟩:=bB (n+4) ns k _ hk (Int.lt_add_one_of_le i0)
 obtain⟨q,q1,q2,eq⟩:=bB (n+4) ns _ 4 (Px hk) (by decide)
 obtain⟨h,rfl⟩:=Int.eq_ofNat_of_zero_le r1
 obtain⟨g,rfl⟩:=Int.eq_ofNat_of_zero_le q1
 have h2:=Xf i2 r2
 have g3:=Int.ofNat_lt.mp q2
 have g1:=Nat.le_add_right 1 g
 have g5:=Nat.add_le_add_left (Nat.le_of_lt g3) 1
 have lh:=iw h2
 have lg:=eV g5
 obtain⟨ks,ls,k',a1,a2,a3,a4,a5⟩:=Lk n ns _ (Px (Px hk)) (hd h) (dq _) (by rw[lh,lg];exact Nat.le_trans (Nat.add_le_add h2 g5) (by decide)) (by rw[lg];exact g1) (.val (.int ni)) (.val (.int 4))
 refine⟨h,1+g,ks,ls,k',⟨h2,g1,g5,a1.trans lg,a2,by rw[a3,QTq,lh,lg]⟩,a4,?_⟩
 rw[Hs]
 have hb:pN=⟨4,8,(.cons _ (.cons _ xN))⟩:=rfl
 rw[hb]
 have c1:jw (.tup [.str "a",.str "b",.str "come"]) none (some h)=some (.val (.tup (hd h))):=by
  rcases h with _|_|_|h
  ·rfl
  ·rfl
  ·rfl
  ·exact absurd h2 (by simp)
 have c2:jw (.tup [.str "p",.str "q",.str "rr",.str "go",.str "abcdef"]) none (some (1+g))=some (.val (.tup (dq (1+g)))):=by
  rcases g with _|_|_|_|g
  ·rfl
  ·rfl
  ·rfl
  ·rfl
  ·exact absurd g3 (by simp)
 simp[er,eq,aX,eU,E.jG,c1,c2,a5,aO]
end Tx
end
section
open PySem Mini
namespace Tx
def aV n xs a b(h1:a<=xs.length)(h2:xs.length<=b):pg.fn (n+1) 3 [.val (.tup xs),.val (.int a),.val (.int b)]=.ok (.val (.bl true)) [.val (.tup xs),.val (.int a),.val (.int b)]:=by
 rw[sJ]
 simp[jQ,h1,h2]
def U8:E:=.bi .all ABz
def wu n bs m(h:m=bs.length):pg.fn (n+2) 7 [.val (aN bs),.val (.int m)]=.ok (.val (.bl true)) [.val (aN bs),.val (.int m)]:=by
 subst h
 have e:ev (pg.cf (n+1)) U8 [.val (aN bs),.val (.int bs.length)]=.ok (.val (.bl true)) [.val (aN bs),.val (.int bs.length)]:=by
  refine all1 (r:=.val (aN bs)) (by simp) rfl rfl fun x hx=>?_
  obtain⟨b,_,rfl⟩:=QCz.mp hx
  simp
 have t:pg.fn _ 3 [.val (aN bs),.val _,.val _]=.ok _ [.val _,.val _,.val _]:=aV n _ bs.length bs.length (by simp) (by simp)
 rw[Kz]
 have hb:uA=⟨2,2,(.cons (.ret (.and (.cons _ (.cons U8 .nil)))) .nil)⟩:=rfl
 rw[hb]
 simp[t,e]
def dj(xs:List D):Prop:=∀x∈xs,∃s,x=.str s
def mj(h:dj xs):xs.all flat=true:=by
 rw[List.all_eq_true]
 intro x hx
 obtain⟨s,rfl⟩:=h x hx
 rfl
def lY{x:D}(hx:x∈xs)(h:dj xs):cC x xs=true:=by
 induction xs with
 |nil=>cases hx
 |cons y ys ih=>
  unfold cC
  rcases QBz.mp hx with rfl|hx
  ·obtain⟨s,rfl⟩:=h x QYz
   simp[fZ]
  ·simp[ih hx fun z hz=>h z (QYq _ hz)]
def Di(h:dj xs)(nd:xs.Nodup)(hx:x∈xs):iy x xs=1:=by
 induction xs with
 |nil=>cases hx
 |cons y ys ih=>
  have hys:=fun z hz=>h z (QYq _ hz)
  obtain⟨s,rfl⟩:=h y QYz
  rw[List.nodup_cons]at nd
  have zero:∀{zs:List D},dj zs->D.str s∉zs->iy (.str s) zs=0:=by
   intro zs
   induction zs with
   |nil=>intro _ _;rfl
   |cons z zs ihz=>
    intro hz hn
    obtain⟨q,rfl⟩:=hz z QYz
    have ne:q≠s:=fun e=>hn (by rw[e];exact QYz)
    simp[iy,fZ,ne,ihz (fun w hw=>hz w (QYq _ hw)) fun hw=>hn (QYq _ hw)]
  rcases QBz.mp hx with rfl|hx
  ·simp[iy,fZ,zero hys nd.1]
  ·obtain⟨q,rfl⟩:=hys x hx
   have ne:s≠q:=fun e=>nd.1 (by rw[e];exact hx)
   simp[iy,fZ,ne,ih hys nd.2 hx]
def jE n{d:D}(dd:d=.tup xs\/d=.lst xs)(h:dj xs)(hx:x∈xs):pg.fn (n+1) 8 [.val x,.val d]=.ok (.val (.bl true)) [.val x,.val d]:=by
 obtain⟨s,rfl⟩:=h x hx
 rw[Hu]
 have o:j4 (.str s) xs=true:=by
  unfold j4
  rw[mj h]
  rfl
 have e:aG .isin (.str s) d=some true:=by
  rcases dd with rfl|rfl<;>(show(if j4 _ xs then some _ else none)=_;rw[o,lY hx h];rfl)
 simp[pP,e]
def wV:E:=.bi .all ABa
def mU n{d:D}(hd:d=.tup xs\/d=.lst xs)(h:dj xs)(nd:xs.Nodup):pg.fn (n+1) 6 [.val d]=.ok (.val (.bl true)) [.val d]:=by
 have e:ev (pg.cf n) wV [.val d]=.ok (.val (.bl true)) [.val d]:=by
  refine all1 (r:=.val d) (by simp) rfl (by rcases hd with rfl|rfl<;>rfl) fun x hx=>?_
  obtain⟨s,rfl⟩:=h x hx
  have e1:Af (.tup xs) (.str s)=some (.val (.int 1)):=by
   simp only[Af]
   rw[mj h,Di h nd hx]
   rfl
  have e2:Af (.lst xs) _=some _:=e1
  rcases hd with rfl|rfl<;>simp[e1,e2]
 have hb:jR=⟨1,1,(.cons (.ret wV) .nil)⟩:=rfl
 rw[xn,hb]
 have q:wV.az=none:=rfl
 simp[e,q]
def uV:D->D
 |.tup (a::_)=>a
 |_=>.non
theorem wU:∀(gs ks:List D),ks.length=gs.length->(aR gs ks).map uV=gs
 |[],ks=>fun _=>by simp[aR]
 |g::gs,[]=>fun h=>by simp at h
 |g::gs,k::ks=>fun h=>by simp[aR,uV,wU gs ks (by simpa using h)]
def z8(it:E):E:=.comp 1 (.name 0) it AAH AAd
def uf{σ:Ev}gs ks(hl:ks.length=gs.length)(hi:ev c it σ=.ok (.val (.tup (aR gs ks))) σ):ev c (z8 it) σ=.ok (.new (.lst gs)) σ:=by
 have:=mR (el:=.idx (.var 0) AAL) uV hi rfl rfl fun y hy=>by
  rw[dW]at hy
  obtain⟨p,_,rfl⟩:=QCz.mp hy
  simp[pairD,uV]
 rw[wU gs ks hl]at this
 exact this
def eZ n hs gs ks x(hl:ks.length=gs.length)(hf:hs.length+gs.length<=1000):
  pg.fn (n+1) 13 [.val (.tup [.tup hs,.tup (aR gs ks),x])]=.ok (.new (.lst (hs++gs))) [.val (.tup [.tup hs,.tup (aR gs ks),x])]:=by
 have f:fits (hs.length+gs.length)=true:=by simp[fits];omega
 have hb:jN=⟨1,1,.cons (.ret (.op .add _ (z8 _))) .nil⟩:=rfl
 rw[nZ,hb]
 simp[uf (c:=pg.cf n) (it:=.idx (.var 0) AAG) (σ:=[.val (.tup [.tup hs,.tup (aR gs ks),x])]) gs ks hl (by simp),f]
end Tx
end
section
open PySem Mini
namespace Tx
@[simp↓]theorem Tz:decide (Str.ofString "same"=Str.ofString "same")=true:=rfl
@[simp↓]theorem YZ:decide (Str.ofString "not"=Str.ofString "not")=true:=rfl
@[simp↓]theorem Y7:decide (Str.ofString "and"=Str.ofString "and")=true:=rfl
@[simp↓]theorem acA:decide (Str.ofString "or"=Str.ofString "or")=true:=rfl
@[simp↓]theorem T5:decide (Str.ofString "both"=Str.ofString "both")=true:=rfl
@[simp↓]theorem Pr:decide (Str.ofString "table"=Str.ofString "table")=true:=rfl
@[simp↓]theorem TX:decide (Str.ofString "held"=Str.ofString "held")=true:=rfl
@[simp]theorem Vg:decide (Str.ofString "same"=Str.ofString "not")=false:=rfl
@[simp]theorem Vh:decide (Str.ofString "same"=Str.ofString "and")=false:=rfl
@[simp]theorem YS:decide (Str.ofString "same"=Str.ofString "or")=false:=rfl
@[simp]theorem TJ:decide (Str.ofString "same"=Str.ofString "both")=false:=rfl
@[simp]theorem PX:decide (Str.ofString "same"=Str.ofString "table")=false:=rfl
@[simp]theorem TF:decide (Str.ofString "same"=Str.ofString "held")=false:=rfl
@[simp]theorem Vj:decide (Str.ofString "not"=Str.ofString "same")=false:=rfl
@[simp]theorem Y0:decide (Str.ofString "not"=Str.ofString "and")=false:=rfl
@[simp]theorem Z4:decide (Str.ofString "not"=Str.ofString "or")=false:=rfl
@[simp]theorem Vl:decide (Str.ofString "not"=Str.ofString "both")=false:=rfl
@[simp]theorem TQ:decide (Str.ofString "not"=Str.ofString "table")=false:=rfl
@[simp]theorem Vk:decide (Str.ofString "not"=Str.ofString "held")=false:=rfl
@[simp]theorem Vq:decide (Str.ofString "and"=Str.ofString "same")=false:=rfl
@[simp]theorem Y6:decide (Str.ofString "and"=Str.ofString "not")=false:=rfl
@[simp]theorem Z5:decide (Str.ofString "and"=Str.ofString "or")=false:=rfl
@[simp]theorem Vs:decide (Str.ofString "and"=Str.ofString "both")=false:=rfl
@[simp]theorem T6:decide (Str.ofString "and"=Str.ofString "table")=false:=rfl
@[simp]theorem Vr:decide (Str.ofString "and"=Str.ofString "held")=false:=rfl
@[simp]theorem YT:decide (Str.ofString "or"=Str.ofString "same")=false:=rfl
@[simp]theorem Z2:decide (Str.ofString "or"=Str.ofString "not")=false:=rfl
@[simp]theorem Z3:decide (Str.ofString "or"=Str.ofString "and")=false:=rfl
@[simp]theorem YX:decide (Str.ofString "or"=Str.ofString "both")=false:=rfl
@[simp]theorem Vi:decide (Str.ofString "or"=Str.ofString "table")=false:=rfl
@[simp]theorem YW:decide (Str.ofString "or"=Str.ofString "held")=false:=rfl
@[simp]theorem T3:decide (Str.ofString "both"=Str.ofString "same")=false:=rfl
@[simp]theorem Vo:decide (Str.ofString "both"=Str.ofString "not")=false:=rfl
@[simp]theorem Vp:decide (Str.ofString "both"=Str.ofString "and")=false:=rfl
@[simp]theorem Y5:decide (Str.ofString "both"=Str.ofString "or")=false:=rfl
@[simp]theorem Qa:decide (Str.ofString "both"=Str.ofString "table")=false:=rfl
@[simp]theorem T4:decide (Str.ofString "both"=Str.ofString "held")=false:=rfl
@[simp]theorem PL:decide (Str.ofString "table"=Str.ofString "same")=false:=rfl
@[simp]theorem Tv:decide (Str.ofString "table"=Str.ofString "not")=false:=rfl
@[simp]theorem Tw:decide (Str.ofString "table"=Str.ofString "and")=false:=rfl
@[simp]theorem Vf:decide (Str.ofString "table"=Str.ofString "or")=false:=rfl
@[simp]theorem PQ:decide (Str.ofString "table"=Str.ofString "both")=false:=rfl
@[simp]theorem PN:decide (Str.ofString "table"=Str.ofString "held")=false:=rfl
@[simp]theorem TV:decide (Str.ofString "held"=Str.ofString "same")=false:=rfl
@[simp]theorem Vm:decide (Str.ofString "held"=Str.ofString "not")=false:=rfl
@[simp]theorem Vn:decide (Str.ofString "held"=Str.ofString "and")=false:=rfl
@[simp]theorem Y4:decide (Str.ofString "held"=Str.ofString "or")=false:=rfl
@[simp]theorem TY:decide (Str.ofString "held"=Str.ofString "both")=false:=rfl
@[simp]theorem P0:decide (Str.ofString "held"=Str.ofString "table")=false:=rfl
@[simp]theorem UV:aG .isin (.str "same") (.tup [.str "same",.str "not"])=some true:=rfl
@[simp]theorem Xu:aG .isin (.str "not") (.tup [.str "same",.str "not"])=some true:=rfl
@[simp]theorem Xx:aG .isin (.str "and") (.tup [.str "same",.str "not"])=some false:=rfl
@[simp]theorem Zm:aG .isin (.str "or") (.tup [.str "same",.str "not"])=some false:=rfl
@[simp]theorem U0:aG .isin (.str "both") (.tup [.str "same",.str "not"])=some false:=rfl
@[simp]theorem RZ:aG .isin (.str "table") (.tup [.str "same",.str "not"])=some false:=rfl
@[simp]theorem UW:aG .isin (.str "held") (.tup [.str "same",.str "not"])=some false:=rfl
@[simp]theorem Xr:aG .isin (.str "same") (.tup [.str "and",.str "or"])=some false:=rfl
@[simp]theorem Zn:aG .isin (.str "not") (.tup [.str "and",.str "or"])=some false:=rfl
@[simp]theorem Zo:aG .isin (.str "and") (.tup [.str "and",.str "or"])=some true:=rfl
@[simp]theorem abH:aG .isin (.str "or") (.tup [.str "and",.str "or"])=some true:=rfl
@[simp]theorem Xw:aG .isin (.str "both") (.tup [.str "and",.str "or"])=some false:=rfl
@[simp]theorem UT:aG .isin (.str "table") (.tup [.str "and",.str "or"])=some false:=rfl
@[simp]theorem Xv:aG .isin (.str "held") (.tup [.str "and",.str "or"])=some false:=rfl
def gl5:pg.gl 5=some (.int 4):=rfl
def gl6:pg.gl 6=some (.int 8):=rfl
def gl7:pg.gl 7=some (.int 3):=rfl
def Jx:E:=.bi .all ABn
def dZ n{d:D}(dd:d=.tup xs\/d=.lst xs)(h:dj xs)(nd:xs.Nodup)(hs:ys.Sublist xs)a b(h1:a<=ys.length)(h2:ys.length<=b):
  pg.fn (n+2) 9 [.val (.tup ys),.val d,.val (.int a),.val (.int b)]=.ok (.val (.bl true)) [.val (.tup ys),.val d,.val (.int a),.val (.int b)]:=by
 have e:ev (pg.cf (n+1)) Jx [.val (.tup ys),.val d,.val (.int a),.val (.int b)]=.ok (.val (.bl true)) [.val (.tup ys),.val d,.val (.int a),.val (.int b)]:=by
  refine all1 (r:=.val (.tup ys)) (by simp) rfl rfl fun x hx=>?_
  simp[jE n dd h (hs.subset hx)]
 have hb:lF=⟨4,4,(.cons _ (.cons (.ret (.and (.cons Jx _))) .nil))⟩:=rfl
 rw[zz,hb]
 simp[aV n ys a b h1 h2,e,mU n (.inl rfl) (fun z hz=>h z (hs.subset hz)) (hs.nodup nd)]
def afR xs:cut xs (some 1) none=xs.tail:=by
 cases xs with
 |nil=>rfl
 |cons x xs=>
  have:clip (xs.length+1) 1=1:=by simp[clip];omega
  simp[cut,this]
theorem ww:∀(rs:List (List Bool)),zW rs=true->∀p∈rs.zip rs.tail,mF p.1 p.2=true
 |[]=>fun _ p h=>by simp at h
 |[a]=>fun _ p h=>by simp at h
 |a::b::r=>fun hi p h=>by
  simp only[zW,QUq]at hi
  simp only[List.tail_cons,List.zip_cons_cons,QBz]at h
  rcases h with rfl|h
  ·exact hi.1
  ·exact ww _ hi.2 p (by simpa using h)
def Ui:E:=.bi .all ABo
def upC:E:=.bi .all ABM
def Ak n rs(m:Nat)(h:∀r∈rs,r.length=m)(hi:zW rs=true):
  pg.fn (n+3) 10 [.val (.tup (rs.map aN)),.val (.int m)]=.ok (.val (.bl true)) [.val (.tup (rs.map aN)),.val (.int m)]:=by
 have e1:ev (pg.cf (n+2)) Ui [.val (.tup (rs.map aN)),.val (.int m)]=.ok (.val (.bl true)) [.val (.tup (rs.map aN)),.val (.int m)]:=by
  refine all1 (r:=.val (.tup (rs.map aN))) (by simp) rfl rfl fun x hx=>?_
  obtain⟨r,hr,rfl⟩:=QCz.mp hx
  simp[wu n r m (by rw[h r hr])]
 have e2:ev (pg.cf (n+2)) upC [.val (.tup (rs.map aN)),.val (.int m)]=.ok (.val (.bl true)) [.val (.tup (rs.map aN)),.val (.int m)]:=by
  have hz:aR (rs.map aN) (rs.map aN).tail=((rs.zip rs.tail).map fun p=>(aN p.1,aN p.2)).map pairD:=by
   rw[dW,<-List.map_tail,List.zip_map]
   rfl
  refine all2 (r:=.val (.lst (aR _ (rs.map aN).tail))) ?_ rfl (by show some _=some _;rw[hz]) fun x hx=>?_
  ·simp[eU,E.jG,jw,afR]
  ·obtain⟨p,hp,rfl⟩:=QCz.mp hx
   have lt:aG .lt (aN p.1) (aN p.2)=some true:=by
    simp[aG,W9,aN,jl,ww rs hi p hp]
   simp[lt]
 have hb:nH=⟨2,2,(.cons (.ite (.or (.cons _ (.cons (.not Ui) .nil))) _ .nil) (.cons (.ret upC) .nil))⟩:=rfl
 have q:upC.az=none:=rfl
 rw[BV,hb]
 simp[e1,e2,q]
def Ip n k:n+4+2*k=n+2+2*k+1+1:=by omega
def RT n k:n+1+2*k+2=n+2+2*k+1:=by omega
def afk n k:n+2*k+3=n+2+2*k+1:=by omega
def afj n k:n+3+2*k+1=n+4+2*k:=by omega
def afi n k:n+4+2*(k+1)=n+4+2*k+1+1:=by omega
def Ga{a:Nat}(h1:c<=a)(h2:d<=c):(d:Int)<=a:=Int.ofNat_le.mpr (Nat.le_trans h2 h1)
def Gb{a:Nat}(h1:a<=c)(h2:c<=d):(a:Int)<=d:=Int.ofNat_le.mpr (Nat.le_trans h1 h2)
theorem CN{xs:List D}(h:dj xs)(nd:xs.Nodup):∀{k:Nat}{d:D},cg xs k d->∀(n:Nat)(dp:Int),dp+k<=3->
  pg.fn (n+4+2*k) 11 [.val d,.val (.lst xs),.val (.int dp)]=.ok (.val (.bl true)) [.val d,.val (.lst xs),.val (.int dp)]:=by
 intro k d hk
 induction hk with
 | @same k x hx=>
  intro n dp _
  rw[Ip,gh]
  simp[dY,aV (n+2+2*k) [.str "same",x] 2 4 (by simp) (by simp),jE (n+2+2*k) (.inr rfl) h hx,aX]
 | @not k x hx=>
  intro n dp _
  rw[Ip,gh]
  simp[dY,aV (n+2+2*k) [.str "not",x] 2 4 (by simp) (by simp),jE (n+2+2*k) (.inr rfl) h hx,aX]
 | @and k ys hs h1 h2=>
  intro n dp _
  have w:=dZ (n+1+2*k) (.inr rfl) h nd hs 1 4 (Ga h1 (by decide)) (Gb h2 (by decide))
  rw[RT]at w
  rw[Ip,gh]
  simp[dY,aV (n+2+2*k) [.str "and",.tup ys] 2 4 (by simp) (by simp),w,aX,gl5]
 | @or k ys hs h1 h2=>
  intro n dp _
  have w:=dZ (n+1+2*k) (.inr rfl) h nd hs 1 4 (Ga h1 (by decide)) (Gb h2 (by decide))
  rw[RT]at w
  rw[Ip,gh]
  simp[dY,aV (n+2+2*k) [.str "or",.tup ys] 2 4 (by simp) (by simp),w,aX,gl5]
 | @both k ys hs h1 h2=>
  intro n dp _
  have w:=dZ (n+1+2*k) (.inr rfl) h nd hs 2 4 (Ga h1 (by decide)) (Gb h2 (by decide))
  rw[RT]at w
  rw[Ip,gh]
  simp[dY,aV (n+2+2*k) [.str "both",.tup ys] 2 4 (by simp) (by simp),w,aX,gl5]
 | @table k ys rs hs h1 h2 hr hi=>
  intro n dp _
  have w:=dZ (n+1+2*k) (.inr rfl) h nd hs 1 8 (Ga h1 (by decide)) (Gb h2 (by decide))
  rw[RT]at w
  have z:=Ak (n+2*k) rs ys.length hr hi
  rw[afk]at z
  rw[Ip,gh]
  simp[dY,aV (n+2+2*k) [.str "table",.tup ys,.tup (rs.map aN)] 2 4 (by simp) (by simp),w,z,aX,gl6]
 | @held k d x b hk hx ih=>
  intro n dp hd
  have w:=jE (n+3+2*k) (.inr rfl) h hx
  rw[afj]at w
  have hl:pg.fn (n+4+2*k+1) 12 [.val (.tup [.str "held",d,x,.bl b]),.val (.lst xs),.val (.int (dp+1))]=.ok (.val (.bl true)) [.val (.tup [.str "held",d,x,.bl b]),.val (.lst xs),.val (.int (dp+1))]:=by
   rw[Hw]
   simp[pR,ih n (dp+1) (by omega),w]
  have lt:dp<3:=by omega
  rw[afi,gh]
  simp[dY,aV (n+4+2*k) [.str "held",d,x,.bl b] 2 4 (by simp) (by simp),hl,aX,gl7,lt]
end Tx
end
section
open PySem Mini
namespace Tx
noncomputable def Uw(h g:Nat):List Str:=(["a","b","come"]:List Str).take h++(["p","q","rr","go","abcdef"]:List Str).take g
def names(h g:Nat):List D:=hd h++dq g
def oH h g:names h g=(Uw h g).map .str:=by
 simp[names,Uw,hd,dq,List.map_take]
def uQ{ss:List Str}(h:ss.Nodup):(ss.map D.str).Nodup:=by
 induction ss with
 |nil=>simp
 |cons s ss ih=>
  rw[List.nodup_cons]at h
  rw[Qyq,List.nodup_cons]
  exact⟨fun z=>h.1 (by simpa using z),ih h.2⟩
def names_nodup(h2:h<=2)(g1:1<=g)(g4:g<=5):(names h g).Nodup:=by
 rw[oH]
 exact uQ (((List.take_sublist h _).append (List.take_sublist g _)).nodup (by decide))
def bN h g:dj (names h g):=fun x hx=>by
 rw[oH]at hx
 obtain⟨s,_,rfl⟩:=QCz.mp hx
 exact⟨s,rfl⟩
def gU(h2:h<=2)(g4:g<=5):(names h g).length=h+g:=by
 rw[names,QTq,iw h2,eV g4]
def Rz n s(hs:s∈Uw 3 5):pg.fn (n+1) 5 [.val (.str s)]=.ok (.val (.bl true)) [.val (.str s)]:=by
 have:Uw 3 5=(["a","b","come","p","q","rr","go","abcdef"]:List Str):=by rfl
 rw[this]at hs
 simp only[QBz,QAq,or_false]at hs
 rcases hs with rfl|rfl|rfl|rfl|rfl|rfl|rfl|rfl<;>kernel_rfl
def Fq{s:Str}(hs:s∈Uw h g):s∈Uw 3 5:=by
 unfold Uw at*
 rw[QXz]at*
 rcases hs with hs|hs
 ·exact .inl (by have:=List.mem_of_mem_take hs;simpa using this)
 ·exact .inr (by have:=List.mem_of_mem_take hs;simpa using this)
def gl3:pg.gl 3=some (.int 3):=rfl
def gl4:pg.gl 4=some (.int 5):=rfl
def Ci:E:=.bi .all (.comp 1 (.name 0) AAc AAH AAk)
def Ec(h:ys.length=xs.length):(aR xs ys).length=xs.length:=by
 rw[dW];simp[h]
section
def kO(h g:Nat)(ks:List D)(X:D):D:=.tup [.tup (hd h),.tup (aR (dq g) ks),X]
def zX n(O:cU h g ks ls)X:pg.fn (n+2) 2 [.val (kO h g ks X)]=.ok (.val (.bl true)) [.val (kO h g ks X)]:=by
 have lg:=eV O.g5
 have lh:=iw O.h2
 have lz:(aR (dq g) ks).length=g:=by rw[Ec (by rw[lg,O.kl]),lg]
 have e:ev (pg.cf (n+1)) Ci [.val (kO h g ks X)]=.ok (.val (.bl true)) [.val (kO h g ks X)]:=by
  refine all1 (r:=.val (.tup (aR (dq g) ks))) (by simp[kO]) rfl rfl fun x hx=>?_
  rw[dW]at hx
  obtain⟨p,_,rfl⟩:=QCz.mp hx
  simp[pairD,aV n [p.1,p.2] 2 2 (by simp) (by simp)]
 have hb:lE=⟨1,1,(.cons _ (.cons (.ret Ci) .nil))⟩:=rfl
 have q:Ci.az=none:=rfl
 rw[zy,hb]
 simp only[kO]at*
 simp[aV n (hd h) 0 3 (by omega) (by have:=O.h2;omega),aV n (aR (dq g) ks) 1 5 (by have:=O.g1;omega) (by have:=O.g5;omega),gl3,gl4,e,q]
def Ux:E:=.bi .all ACL
def UJ:E:=.bi .all ABU
def Ms n(O:cU h g ks ls)X b(t5:pg.fn (n+6) 7 [.val X,.val (.int (names h g).length)]=.ok (.val (.bl b)) [.val X,.val (.int (names h g).length)]):pg.fn (n+7) 1 [.val (kO h g ks X)]=.ok (.val (.bl b)) [.val (kO h g ks X)]:=by
 have lg:=eV O.g5
 have lh:=iw O.h2
 have T:=bN h g
 have Nd:=names_nodup O.h2 O.g1 O.g5
 have e1:ev (pg.cf (n+6)) Ux [.val (kO h g ks X),.own (.lst (names h g))]=.ok (.val (.bl true)) [.val (kO h g ks X),.val (.lst (names h g))]:=by
  refine all1 (r:=.val (.lst (names h g))) (by simp) rfl rfl fun x hx=>?_
  rw[oH]at hx
  obtain⟨s,hs,rfl⟩:=QCz.mp hx
  simp[Rz (n+5) s (Fq hs)]
 have e2:ev (pg.cf (n+6)) UJ [.val (kO h g ks X),.val (.lst (names h g))]=.ok (.val (.bl true)) [.val (kO h g ks X),.val (.lst (names h g))]:=by
  refine all2 (r:=.val (.tup (aR (dq g) ks))) (by simp[kO]) rfl (by show some _=some _;rw[dW]) fun x hx=>?_
  simp[CN T Nd (O.kk x.2 (List.of_mem_zip hx).2) n 0 (by decide)]
 have hb:uB=⟨1,2,(.cons _ (.cons _ (.cons (.ite (.or (.cons (.not Ux) _)) _ .nil) (.cons (.ret (.and (.cons UJ _))) .nil))))⟩:=rfl
 rw[KC,hb]
 have nn:hd h++dq g=names h g:=rfl
 have g2:getD (kO h g ks X) (.int 2)=some X:=by simp[kO]
 have t1':pg.fn _ 3 [.val (kO h g ks X),.val _,.val _]=.ok _ [.val _,.val _,.val _]:=aV (n+5) [.tup (hd h),.tup (aR (dq g) ks),X] 3 3 (by simp) (by simp)
 have t3':pg.fn _ 13 [.val (kO h g ks X)]=.ok (.new (.lst (names h g))) [.val _]:=eZ (n+5) (hd h) (dq g) ks X (by rw[O.kl,lg]) (by have:=O.h2;have:=O.g5;omega)
 simp[t1',zX (n+4) O X,t3',e1,mU (n+5) (.inr rfl) T Nd,e2,g2,t5]
def Ir n(O:cU h g ks ls):pg.fn (n+7) 1 [.val (aO h g ks ls)]=.ok (.val (.bl true)) [.val (aO h g ks ls)]:=
 Ms n O _ true (wu _ ls (names h g).length (by rw[gU O.h2 O.g5,O.ll]))
def Do n(O:cU h g ks ls):pg.fn (n+8) 0 [.val (aO h g ks ls)]=.ok (.val (aO h g ks ls)) [.val (aO h g ks ls)]:=by
 rw[Hx]
 simp[pU,Ir n O]
end
end Tx
end
section
open PySem Mini
namespace Tx
theorem goD(τ:Int->Ev){cond elt:Ev->Out Rv}(P:D->D->Prop)(all:Bool):∀(xs acc:List D)(k:Int)(s:Sl),0<=k->dD s->
  (∀x∈xs,∀k,0<=k->∃b k',0<=k'/\(all=true->b=true)/\cond (.val x::τ k)=.ok (.val (.bl b)) (.val x::τ k'))->
  (∀x∈xs,∀k,0<=k->∃y k',0<=k'/\P x y/\elt (.val x::τ k)=.ok (.val y) (.val x::τ k'))->
  ∃(zs:List (D×D))(k':Int)(s':Sl),(zs.map (·.1)).Sublist xs/\(all=true->zs.map (·.1)=xs)/\(∀p∈zs,P p.1 p.2)/\0<=k'/\aP (.name 0) cond elt xs acc (s::τ k)=.ok (acc++zs.map (·.2)) (s'::τ k')
 |[]=>fun acc k s hk _ _ _=>⟨[],k,s,List.Sublist.refl _,fun _=>rfl,fun p h=>(by cases h),hk,by simp[aP]⟩
 |x::xs=>fun acc k s hk hs hc he=>by
  obtain⟨b,k1,a1,a2,a3⟩:=hc x QYz k hk
  rw[aP,vy hs]
  simp only[a3,fY]
  cases b with
  |true=>
   obtain⟨y,k2,b1,b2,b3⟩:=he x QYz k1 a1
   obtain⟨zs,k',s',c1,c2,c3,c4,c5⟩:=goD τ P all xs _ k2 _ b1 (.inr ⟨_,rfl⟩) (fun z hz=>hc z (QYq _ hz)) fun z hz=>he z (QYq _ hz)
   refine⟨(x,y)::zs,k',s',c1.cons_cons x,fun h=>by simp[c2 h],fun p hp=>?_,c4,?_⟩
   ·rcases QBz.mp hp with rfl|hp
    ·exact b2
    ·exact c3 p hp
   ·rw[if_pos rfl,b3,cJ,c5]
    simp
  |false=>
   obtain⟨zs,k',s',c1,c2,c3,c4,c5⟩:=goD τ P all xs acc k1 _ a1 (.inr ⟨_,rfl⟩) (fun z hz=>hc z (QYq _ hz)) fun z hz=>he z (QYq _ hz)
   exact⟨zs,k',s',c1.cons x,fun h=>by simpa using a2 h,c3,c4,by rw[if_neg (by simp),c5]⟩
def Oa{σ:Ev}{r:Rv}{xs:List D}(τ:Int->Ev)(P:D->D->Prop)(all:Bool)(hk:0<=k)(hi:ev c it σ=.ok r (τ k))(hr:r.lw=some d)(hd:items d=some xs)
  (hc:∀x∈xs,∀k,0<=k->∃b k',0<=k'/\(all=true->b=true)/\ev c co (.val x::τ k)=.ok (.val (.bl b)) (.val x::τ k'))
  (he:∀x∈xs,∀k,0<=k->∃y k',0<=k'/\P x y/\ev c el (.val x::τ k)=.ok (.val y) (.val x::τ k')):
  ∃(zs:List (D×D))(k':Int),(zs.map (·.1)).Sublist xs/\(all=true->zs.map (·.1)=xs)/\(∀p∈zs,P p.1 p.2)/\0<=k'/\ev c (.comp 1 (.name 0) it co el) σ=.ok (.new (.lst (zs.map (·.2)))) (τ k'):=by
 obtain⟨zs,k',s',a1,a2,a3,a4,a5⟩:=goD τ P all xs [] k .un hk (.inl rfl) hc he
 refine⟨zs,k',a1,a2,a3,a4,?_⟩
 rw[nO,hi]
 have b:∀{β:Type}(g:D->Ev->Out β),(Out.ok r (τ k)).ak g=g d (τ k):=fun g=>by cases r<;>simp[Rv.lw]at hr<;>subst hr<;>rfl
 rw[b]
 simp only[hd]
 rw[show List.replicate 1 Sl.un++τ k=.un::τ k from rfl,a5]
 simp
def uT(m:D×Nat):D:=.tup [m.1,.int m.2]
def iC(st:List (D×Nat)):D:=.tup (st.map uT)
def aQ(os:List D)(sts:List (List (D×Nat))):D:=.tup [.tup os,.tup (sts.map iC)]
structure cN(h g:Nat)(os:List D)(sts:List (List (D×Nat))):Prop where
 ou:os.Sublist (dq g)
 s1:1<=sts.length
 s4:sts.length<=4
 mv:∀st∈sts,(st.map (·.1)).Sublist (hd h++os)/\∀m∈st,m.2<sts.length
def Rh:E:=.comp 1 (.name 0) AAh AAv AAd
def Uh:E:=.comp 1 (.name 0) ACN qD (.var 0)
def W6:E:=(.tup ABN)
def W7:E:=.comp 1 (.name 0) (.var 8) AAH W6
def yQ:S:=(.cons (.set 8 Uh) (.cons (.append 6 (.bi .tuple W7)) .nil))
def V1{zs:List (D×D)}(h:(zs.map (·.1)).Sublist xs)(e:∀p∈zs,p.2=p.1):(zs.map (·.2)).Sublist xs:=by
 rw[show zs.map (·.2)=zs.map (·.1)from List.map_congr_left e];exact h
section
variable(n:Nat)(ns:List Int)(hs os gs:List D)(x:D)(s3 s5 s6 s7 s8:Sl)
def J3(k:Int)(hk:0<=k)(hl:hs.length+os.length<=900):∃(ys:List D)(k':Int),ys.Sublist (hs++os)/\0<=k'/\
  ev (pg.cf (n+3)) Uh [.val (sc ns),.bor (.lst [.int k]),.val (.tup [.tup hs,.tup gs,x]),s3,.val (.tup os),s5,s6,s7,s8]=.ok (.new (.lst ys)) [.val (sc ns),.bor (.lst [.int k']),.val (.tup [.tup hs,.tup gs,x]),s3,.val (.tup os),s5,s6,s7,s8]:=by
 have f:fits (hs.length+os.length)=true:=by simp[fits];omega
 obtain⟨zs,k',a1,a2,a3,a4,a5⟩:=Oa (it:=ACN) (el:=.var 0) (σ:=[.val (sc ns),.bor (.lst [.int k]),.val (.tup [.tup hs,.tup gs,x]),s3,.val (.tup os),s5,s6,s7,s8]) (fun k=>[.val (sc ns),.bor (.lst [.int k]),.val (.tup [.tup hs,.tup gs,x]),s3,.val (.tup os),s5,s6,s7,s8])
  (fun x y=>y=x) false hk (r:=.val (.tup (hs++os))) (by simp[f]) rfl rfl
  (fun x _ k hk=>by obtain⟨b,e⟩:=yr n ns k hk x [.val _,s3,.val _,s5,s6,s7,s8];exact⟨b,k+1,by omega,by simp,e⟩) fun x _ k hk=>⟨x,k,hk,rfl,by simp⟩
 exact⟨_,k',V1 a1 a3,a4,a5⟩
theorem RB(k:Int)(hk:0<=k)(ys:List D)(many:Nat)(h1:1<=many)(net:D)(s4:Sl):∃(st:List (D×Nat))(k':Int),st.map (·.1)=ys/\(∀m∈st,m.2<many)/\0<=k'/\
  ev (pg.cf (n+3)) W7 [.val (sc ns),.bor (.lst [.int k]),.val net,s3,s4,.val (.int many),s6,s7,.own (.lst ys)]=.ok (.new (.lst (st.map uT))) [.val (sc ns),.bor (.lst [.int k']),.val net,s3,s4,.val (.int many),s6,s7,.val (.lst ys)]:=by
 obtain⟨zs,k',a1,a2,a3,a4,a5⟩:=Oa (c:=pg.cf (n+3)) (it:=.var 8) (co:=.con (.bl true)) (el:=W6) (σ:=[.val (sc ns),.bor (.lst [.int k]),.val net,s3,s4,.val (.int many),s6,s7,.own (.lst ys)]) (fun k=>[.val (sc ns),.bor (.lst [.int k]),.val net,s3,s4,.val (.int many),s6,s7,.val (.lst ys)])
  (fun x y=>∃j:Nat,j<many/\y=uT (x,j)) true hk (r:=.val (.lst ys)) (by simp) rfl rfl
  (fun x _ k hk=>⟨true,k,hk,fun _=>rfl,by simp⟩) fun x _ k hk=>by
   obtain⟨q,q1,q2,e⟩:=bB n ns k many hk (by omega)
   obtain⟨j,rfl⟩:∃j:Nat,q=j:=⟨q.toNat,by omega⟩
   exact⟨_,k+1,by omega,⟨j,by omega,rfl⟩,by simp[W6,e,aX,uT]⟩
 have pick:∀(zs:List (D×D)),(∀p∈zs,∃j:Nat,j<many/\p.2=uT (p.1,j))->∃st:List _,st.map (·.1)=zs.map (·.1)/\(∀m∈st,m.2<many)/\st.map uT=zs.map (·.2):=by
  intro zs
  induction zs with
  |nil=>exact fun _=>⟨[],rfl,fun m h=>(by cases h),rfl⟩
  |cons z zs ih=>
   intro h
   obtain⟨j,j1,j2⟩:=h z QYz
   obtain⟨st,b1,b2,b3⟩:=ih fun p hp=>h p (QYq _ hp)
   refine⟨(z.1,j)::st,by simp[b1],fun m hm=>?_,by simp[b3,j2]⟩
   rcases QBz.mp hm with rfl|hm
   ·exact j1
   ·exact b2 m hm
 obtain⟨st,b1,b2,b3⟩:=pick zs a3
 exact⟨st,k',by rw[b1,a2 rfl],b2,a4,by rw[b3];exact a5⟩
def Hg(k:Int)(hk:0<=k)(hl:hs.length+os.length<=900)(many:Nat)(h1:1<=many)(acc:List D)(ha:acc.length<=1000)(h8:dD s8):∃(st:List (D×Nat))(k':Int)(s':Sl),(st.map (·.1)).Sublist (hs++os)/\(∀m∈st,m.2<many)/\0<=k'/\dD s'/\
  ex (pg.cf (n+3)) yQ [.val (sc ns),.bor (.lst [.int k]),.val (.tup [.tup hs,.tup gs,x]),s3,.val (.tup os),.val (.int many),.own (.lst acc),s7,s8]=.next [.val (sc ns),.bor (.lst [.int k']),.val (.tup [.tup hs,.tup gs,x]),s3,.val (.tup os),.val (.int many),.own (.lst (acc++[iC st])),s7,s']:=by
 obtain⟨ys,k1,a1,a2,a3⟩:=J3 n ns hs os gs x s3 (.val (.int many)) (.own (.lst acc)) s7 s8 k hk hl
 obtain⟨st,k',b1,b2,b3,b4⟩:=RB n ns s3 (.own (.lst acc)) s7 k1 a2 ys many h1 (.tup [.tup hs,.tup gs,x]) (.val (.tup os))
 have f:fits (acc.length+1)=true:=by simp[fits];omega
 have q:W7.az=none:=rfl
 refine⟨st,k',.val (.lst ys),by rw[b1];exact a1,b2,b3,.inr ⟨_,rfl⟩,?_⟩
 rcases h8 with rfl|⟨e,rfl⟩<;>simp[yQ,a3,b4,gC,Cp,f,q,iC]
theorem vg(hl:hs.length+os.length<=900)(many:Nat)(h1:1<=many):∀(xs:List D)(acc:List (List (D×Nat)))(k:Int)(s7 s8:Sl),0<=k->dD s7->dD s8->acc.length+xs.length<=1000->∃(sts:List (List (D×Nat)))(k':Int)(t7 t8:Sl),sts.length=xs.length/\(∀st∈sts,(st.map (·.1)).Sublist (hs++os)/\∀m∈st,m.2<many)/\0<=k'/\
  dC (.name 7) (ex (pg.cf (n+3)) yQ) xs [.val (sc ns),.bor (.lst [.int k]),.val (.tup [.tup hs,.tup gs,x]),s3,.val (.tup os),.val (.int many),.own (.lst (acc.map iC)),s7,s8]=.next [.val (sc ns),.bor (.lst [.int k']),.val (.tup [.tup hs,.tup gs,x]),s3,.val (.tup os),.val (.int many),.own (.lst ((acc++sts).map iC)),t7,t8]
 |[]=>fun acc k s7 s8 hk _ _ _=>⟨[],k,s7,s8,rfl,fun st h=>(by cases h),hk,by simp[dC]⟩
 |y::xs=>fun acc k s7 s8 hk h7 h8 hx=>by
  simp only[QAz]at hx
  obtain⟨st,k1,s',a1,a2,a3,a4,a5⟩:=Hg n ns hs os gs x s3 _ s8 k hk hl many h1 (acc.map iC) (by simp;omega) h8
  obtain⟨sts,k',t7,t8,b1,b2,b3,b4⟩:=vg hl many h1 xs (acc++[st]) k1 _ s' a3 (.inr ⟨_,rfl⟩) a4 (by simp;omega)
  refine⟨st::sts,k',t7,t8,by simp[b1],fun q hq=>?_,b3,?_⟩
  ·rcases QBz.mp hq with rfl|hq
   ·exact⟨a1,a2⟩
   ·exact b2 q hq
  ·rw[dC]
   have st1:cY (.name 7) y [.val (sc ns),.bor (.lst [.int k]),.val (.tup [.tup hs,.tup gs,x]),s3,.val (.tup os),.val (.int many),.own (.lst (acc.map iC)),s7,s8]=some [.val (sc ns),.bor (.lst [.int k]),.val (.tup [.tup hs,.tup gs,x]),s3,.val (.tup os),.val (.int many),.own (.lst (acc.map iC)),.val y,s8]:=by
    rcases h7 with rfl|⟨e,rfl⟩<;>simp[cY]
   rw[st1]
   simp only
   rw[a5,o6]
   rw[show acc.map iC++[iC st]=(acc++[st]).map iC by simp,b4]
   simp
end
theorem lO:∀(m:Nat)(lo:Int),(bK lo m).length=m
 |0=>fun _=>rfl
 |m+1=>fun lo=>by simp[bK,lO m]
def Rg(n:Nat)(ns:List Int)(k:Int)(hk:0<=k)(hs gs ks:List D)(x:D)(hl:ks.length=gs.length)(s3 s4 s5 s6 s7 s8:Sl):∃(os:List D)(k':Int),os.Sublist gs/\0<=k'/\
  ev (pg.cf (n+3)) Rh [.val (sc ns),.bor (.lst [.int k]),.val (.tup [.tup hs,.tup (aR gs ks),x]),s3,s4,s5,s6,s7,s8]=.ok (.new (.lst os)) [.val (sc ns),.bor (.lst [.int k']),.val (.tup [.tup hs,.tup (aR gs ks),x]),s3,s4,s5,s6,s7,s8]:=by
 obtain⟨zs,k',a1,a2,a3,a4,a5⟩:=Oa (c:=pg.cf (n+3)) (it:=AAh) (co:=AAv) (el:=AAd) (σ:=[.val (sc ns),.bor (.lst [.int k]),.val (.tup [.tup hs,.tup (aR gs ks),x]),s3,s4,s5,s6,s7,s8]) (fun k=>[.val (sc ns),.bor (.lst [.int k]),.val (.tup [.tup hs,.tup (aR gs ks),x]),s3,s4,s5,s6,s7,s8])
  (fun x y=>y=uV x) false hk (r:=.val (.tup (aR gs ks))) (by simp) rfl rfl
  (fun x _ k hk=>by
   obtain⟨q,_,_,e⟩:=bB n ns k 3 hk (by omega)
   exact⟨decide (0<q),k+1,by omega,by simp,by simp[e]⟩) fun x hx k hk=>by
   rw[dW]at hx
   obtain⟨p,_,rfl⟩:=QCz.mp hx
   exact⟨_,k,hk,rfl,by simp[pairD,uV]⟩
 refine⟨_,k',?_,a4,a5⟩
 have:=a1.map uV
 rw[wU gs ks hl]at this
 rw[show zs.map (·.2)=(zs.map (·.1)).map uV by rw[List.map_map];exact List.map_congr_left a3]
 exact this
def Qk(n:Nat)(ns:List Int)(k:Int)(hk:0<=k){ks:List D}(O:cU h g ks ls):∃os sts k',cN h g os sts/\0<=k'/\
  pg.fn (n+4) 35 [.val (sc ns),.bor (.lst [.int k]),.val (aO h g ks ls),.val (.int 4)]=.ok (.val (aQ os sts)) [.val (sc ns),.bor (.lst [.int k']),.val (aO h g ks ls),.val (.int 4)]:=by
 have lg:=eV O.g5
 have lh:=iw O.h2
 obtain⟨os,k1,a1,a2,a3⟩:=Rg n ns k hk (hd h) (dq g) ks _ (by rw[O.kl,lg]) _ .un .un .un .un .un
 obtain⟨q,q1,q2,eq⟩:=bB n ns k1 4 a2 (by omega)
 obtain⟨m,rfl⟩:∃m:Nat,q=m:=⟨q.toNat,by omega⟩
 have lo:=a1.length_le
 have:=O.h2
 have:=O.g5
 obtain⟨sts,k',t7,t8,b1,b2,b3,b4⟩:=vg n ns (hd h) os _ _ _ (by omega) (1+m) (by omega) (bK 0 (1+m)) [] (k1+1) .un .un (by omega) (.inl rfl) (.inl rfl) (by simp[lO];omega)
 rw[lO]at b1
 refine⟨os,sts,k',⟨a1,by omega,by omega,fun st hst=>?_⟩,b3,?_⟩
 ·rw[b1];exact b2 st hst
 ·have hb:nA=⟨4,9,.cons (.set 4 (.bi .tuple Rh)) (.cons _ (.cons _ (.cons (.for_ _ _ yQ) _)))⟩:=rfl
  rw[BJ,hb]
  have q0:Rh.az=none:=rfl
  have fm:fits (1+m)=true:=by simp[fits];omega
  have md:uJ (1+m)=true:=by simp[uJ];omega
  have tn:(1+(m:Int)).toNat=1+m:=by omega
  have b4':dC (.name 7) (ex (pg.cf (n+3)) yQ) (bK 0 (1+m)) [.val (sc ns),.bor (.lst [.int (k1+1)]),.val (aO h g ks ls),.val (.int 4),.val (.tup os),.val (.int (1+m)),.own (.lst []),.un,.un]=.next [.val (sc ns),.bor (.lst [.int k']),.val (aO h g ks ls),.val (.int 4),.val (.tup os),.val (.int (1+m)),.own (.lst (sts.map iC)),t7,t8]:=by simpa[aO]using b4
  have a3':ev _ Rh [.val _,.bor _,.val (aO h g ks ls),.val (.int 4),.un,.un,.un,.un,.un]=.ok _ [.val _,.bor _,.val (aO h g ks ls),.val _,.un,.un,.un,.un,.un]:=a3
  simp[a3',q0,eq,aX,fm,md,tn,b4',items,aQ]
end Tx
end
section
open PySem Mini
namespace Tx
def Gd:E:=(.comp 1 (.name 0) (.var 2) AAH qD)
def Ma n ns k(hk:0<=k)xs s3 s4:∃(bs:List Bool)(k':Int),bs.length=xs.length/\0<=k'/\
  ev (pg.cf (n+3)) Gd [.val (sc ns),.bor (.lst [.int k]),.own (.lst xs),s3,s4]=.ok (.new (.lst (bs.map .bl))) [.val (sc ns),.bor (.lst [.int k']),.val (.lst xs),s3,s4]:=by
 obtain⟨bs,k',s',a1,a2,a3,a4⟩:=ug n ns [.val _,s3,s4] xs [] k .un hk (.inl rfl)
 refine⟨bs,k',a1,a2,?_⟩
 have h:ev (pg.cf (n+3)) (.var 2) [.val (sc ns),.bor (.lst [.int k]),.own (.lst xs),s3,s4]=.ok (.val (.lst xs)) [.val (sc ns),.bor (.lst [.int k]),.val (.lst xs),s3,s4]:=by simp
 unfold Gd
 rw[nO,h,cJ]
 simp only[items]
 rw[show List.replicate 1 Sl.un++[.val _,.bor _,.val _,s3,s4]=.un:: .val _:: .bor _::[.val _,s3,s4]from rfl,a4]
 simp
def Uj:S:=AAe
def rk(a b:String):D:=.tup [.str "held",.tup [.str "same",.str a],.str b,.bl false]
noncomputable def zg:Nat->List D
 |3=>[rk "rr" "q",rk "p" "rr",rk "q" "p"]
 |4=>[rk "go" "q",rk "p" "rr",rk "q" "go",rk "rr" "p"]
 |_=>[rk "abcdef" "q",rk "p" "rr",rk "q" "go",rk "rr" "abcdef",rk "go" "p"]
def Hr c s0 s1 g(hg:g=3\/g=4\/g=5):∃s4,dC (.name 4) (ex c Uj) (bK 0 g) [s0,s1,.own (.lst (dq g)),.own (.lst []),.un]=.next [s0,s1,.own (.lst (dq g)),.own (.lst (aR (dq g) (zg g))),s4]:=by
 refine⟨.val (.int (g-1)),?_⟩
 rcases hg with rfl|rfl|rfl
 all_goals
  try rfl
def Bv g(hg:g=3\/g=4\/g=5):∀d∈zg g,cg (hd 0++dq g) 1 d:=by
 intro d h
 rcases hg with rfl|rfl|rfl<;>simp only[zg,QBz,QAq,or_false]at h<;>rcases h with rfl|rfl|rfl|rfl|rfl<;>exact .held (.same (by simp[hd,dq])) (by simp[hd,dq])
def QS n ns k(hk:0<=k):∃g ks ls k',cU 0 g ks ls/\3<=g/\0<=k'/\pg.fn (n+4) 36 [.val (sc ns),.bor (.lst [.int k])]=.ok (.val (aO 0 g ks ls)) [.val (sc ns),.bor (.lst [.int k'])]:=by
 obtain⟨r,r1,r2,er⟩:=bB n ns k 3 hk (by omega)
 obtain⟨g,hg,hr⟩:∃g:Nat,(g=3\/g=4\/g=5)/\3+r=g:=⟨(3+r).toNat,by omega,by omega⟩
 have lg:(dq g).length=g:=eV (by omega)
 obtain⟨s4,a⟩:=Hr (pg.cf (n+3)) (.val (sc ns)) (.bor (.lst [.int (k+1)])) g hg
 obtain⟨bs,k',b1,b2,b3⟩:=Ma n ns (k+1) (by omega) (dq g) (.own (.lst (aR (dq g) (zg g)))) s4
 refine⟨g,zg g,bs,k',⟨by omega,by omega,by omega,?_,Bv g hg,by omega⟩,by omega,b2,?_⟩
 ·rcases hg with rfl|rfl|rfl<;>rfl
 ·have hb:nD=⟨2,5,(.cons _ (.cons _ (.cons (.for_ _ _ Uj) (.cons (.ret (.tup (.cons _ (.cons _ (.cons (.bi .tuple Gd) .nil))))) .nil))))⟩:=rfl
  rw[BL,hb]
  have sl:jw (.lst [.str "p",.str "q",.str "rr",.str "go",.str "abcdef"]) none (some g)=some (.new (.lst (dq g))):=by
   rcases hg with rfl|rfl|rfl<;>rfl
  have fg:fits g=true:=by simp[fits];omega
  have md:uJ g=true:=by simp[uJ];omega
  have q:Gd.az=none:=rfl
  simp[er,hr,sl,aX,eU,E.jG,lg,fg,md,items,a,b3,q,aO,hd]
def pM:S:=(.cons (.set 7 AAb) AAg)
def S9 xs b:at? (xs++[b]) (-1)=some b:=by
 unfold at? ix?
 have e:(-1+((xs.length:Int)+1)).toNat=xs.length:=by omega
 have e2:(0:Int)<= -1+(xs.length+1):=by omega
 have e3: -1+((xs.length:Int)+1)<xs.length+1:=by omega
 simp[e,e2,e3]
def Ds n ns k(hk:0<=k)s2 s7(h7:dD s7)a x ls l acc(hl:ls.length<=1000)(ha:acc.length<=1000):
  ∃(w:Str)(b:Bool)(t7:Sl),(w="same"\/w="not")/\dD t7/\ex (pg.cf (n+3)) pM [.val (sc ns),.bor (.lst [.int k]),s2,.val a,.own (.lst ((ls++[l]).map .bl)),.own (.lst acc),.val x,s7]
   =.next [.val (sc ns),.bor (.lst [.int (k+1)]),s2,.val x,.own (.lst ((ls++[l]++[b]).map .bl)),.own (.lst (acc++[.tup [x,.tup [.str w,a]]])),.val x,t7]:=by
 obtain⟨r,r1,r2,er⟩:=bB n ns k 2 hk (by omega)
 have fa:fits (acc.length+1)=true:=by simp[fits];omega
 have fb:fits (ls.length+1+1)=true:=by simp[fits];omega
 have al:at? (ls.map D.bl++[.bl l]) (-1)=some _:=S9 _ _
 rcases (by omega:r=0\/r=1)with rfl|rfl
 ·refine⟨"same",l==true,.val (.int 0),.inl rfl,.inr ⟨_,rfl⟩,?_⟩
  rcases h7 with rfl|⟨e,rfl⟩<;>simp[pM,er,aX,fa,fb,gC,Cp,al]
 ·refine⟨"not",l==false,.val (.int 1),.inr rfl,.inr ⟨_,rfl⟩,?_⟩
  rcases h7 with rfl|⟨e,rfl⟩<;>simp[pM,er,aX,fa,fb,gC,Cp,al]
theorem uq(n:Nat)(ns:List Int)(s2:Sl):∀(xs acc:List D)(k:Int)(s6 s7:Sl)(a:D)(ls:List Bool)(l:Bool),0<=k->dD s6->dD s7->ls.length+xs.length<=1000->acc.length+xs.length<=1000->
  ∃(ks:List D)(bs:List Bool)(k':Int)(t3 t6 t7:Sl),ks.length=xs.length/\bs.length=xs.length/\0<=k'/\(∀d∈ks,∃y∈a::xs,d=.tup [.str "same",y]\/d=.tup [.str "not",y])/\
   dC (.name 6) (ex (pg.cf (n+3)) pM) xs [.val (sc ns),.bor (.lst [.int k]),s2,.val a,.own (.lst ((ls++[l]).map .bl)),.own (.lst acc),s6,s7]=.next [.val (sc ns),.bor (.lst [.int k']),s2,t3,.own (.lst ((ls++[l]++bs).map .bl)),.own (.lst (acc++aR xs ks)),t6,t7]
 |[]=>fun acc k s6 s7 a ls l hk _ _ _ _=>⟨[],[],k,.val a,s6,s7,rfl,rfl,hk,fun d h=>(by cases h),by simp[dC,aR]⟩
 |x::xs=>fun acc k s6 s7 a ls l hk h6 h7 hl ha=>by
  simp only[QAz]at hl ha
  obtain⟨w,b,t,a1,a2,a3⟩:=Ds n ns k hk s2 s7 h7 a x ls l acc (by omega) (by omega)
  obtain⟨ks,bs,k',t3,t6,t7,b1,b2,b3,b4,b5⟩:=uq n ns s2 xs (acc++[.tup [x,.tup [.str w,a]]]) (k+1) (.val x) t x (ls++[l]) b (by omega) (.inr ⟨_,rfl⟩) a2 (by simp;omega) (by simp;omega)
  refine⟨.tup [.str w,a]::ks,b::bs,k',t3,t6,t7,by simp[b1],by simp[b2],b3,fun d hd=>?_,?_⟩
  ·rcases QBz.mp hd with rfl|hd
   ·exact⟨a,QYz,by rcases a1 with rfl|rfl<;>simp⟩
   ·obtain⟨y,hy,e⟩:=b4 d hd
    exact⟨y,QYq _ hy,e⟩
  ·have st:cY (.name 6) x [.val (sc ns),.bor (.lst [.int k]),s2,.val a,.own (.lst ((ls++[l]).map .bl)),.own (.lst acc),s6,s7]=some [.val (sc ns),.bor (.lst [.int k]),s2,.val a,.own (.lst ((ls++[l]).map .bl)),.own (.lst acc),.val x,s7]:=by
    rcases h6 with rfl|⟨e,rfl⟩<;>simp[cY]
   rw[dC,st]
   simp only
   rw[a3,o6,b5]
   simp[aR]
def agb(d:D):Prop:=∃h g ks ls os sts,cU h g ks ls/\cN h g os sts/\d=.tup [aO h g ks ls,aQ os sts]
def Og n ns k(hk:0<=k):∃h g ks ls os sts k',cU h g ks ls/\cN h g os sts/\0<=k'/\pg.fn (n+4) 37 [.val (sc ns),.bor (.lst [.int k])]=.ok (.val (.tup [aO h g ks ls,aQ os sts])) [.val (sc ns),.bor (.lst [.int k'])]:=by
 obtain⟨r,r1,r2,er⟩:=bB n ns k 4 hk (by omega)
 obtain⟨g,hg,hr⟩:∃g:Nat,(g=1\/g=2\/g=3\/g=4)/\1+r=g:=⟨(1+r).toNat,by omega,by omega⟩
 have lg:(dq g).length=g:=eV (by omega)
 obtain⟨q,q1,q2,eq⟩:=bB n ns (k+1) 2 (by omega) (by omega)
 obtain⟨ks,bs,k',t3,t6,t7,b1,b2,b3,b4,b5⟩:=uq n ns _ (dq g) [] (k+1+1) .un .un _ [] _ (by omega) (.inl rfl) (.inl rfl) (by simp;omega) (by simp;omega)
 obtain⟨z,z1,z2⟩:∃z,at? (dq g) (-1)=some z/\z∈dq g:=by
  rcases hg with rfl|rfl|rfl|rfl
  ·exact⟨.str "p",rfl,by simp[dq]⟩
  ·exact⟨.str "q",rfl,by simp[dq]⟩
  ·exact⟨.str "rr",rfl,by simp[dq]⟩
  ·exact⟨.str "go",rfl,by simp[dq]⟩
 refine⟨1,g,ks,(q==1)::bs,[z],[[(.str "a",1)],[(z,0)]],k',⟨by omega,by omega,by omega,by omega,fun d dm=>?_,by simp[b2,lg];omega⟩,⟨by simpa using z2,by simp,by simp,fun st h=>?_⟩,b3,?_⟩
 ·obtain⟨y,hy,e⟩:=b4 d dm
  have hy':y∈hd 1++dq g:=by simpa[hd]using hy
  rcases e with rfl|rfl
  ·exact .same hy'
  ·exact .not hy'
 ·simp only[QBz,QAq,or_false]at h
  rcases h with rfl|rfl<;>simp[hd]
 ·have hb:lD=⟨2,8,(.cons _ (.cons _ (.cons _ (.cons _ (.cons (.for_ _ _ pM) _)))))⟩:=rfl
  rw[zx,hb]
  have sl:jw (.lst [.str "p",.str "q",.str "rr",.str "go"]) none (some g)=some (.new (.lst (dq g))):=by
   rcases hg with rfl|rfl|rfl|rfl<;>rfl
  have b5':dC (.name 6) (ex (pg.cf (n+3)) pM) (dq g) [.val (sc ns),.bor (.lst [.int (k+1+1)]),.val (.lst (dq g)),.val (.str "a"),.own (.lst [.bl (q==1)]),.own (.lst []),.un,.un]=.next [.val (sc ns),.bor (.lst [.int k']),.val (.lst (dq g)),t3,.own (.lst (.bl (q==1)::bs.map .bl)),.own (.lst (aR (dq g) ks)),t6,t7]:=by simpa using b5
  simp[er,hr,eq,sl,aX,eU,E.jG,items,b5',z1,aO,aQ,iC,uT,hd]
end Tx
end
section
open PySem Mini
namespace Tx
def o8:S->S
 |.cons _ t=>t
 |s=>s
def hdS:S->S
 |.cons t _=>t
 |s=>s
def zN:S:=o8 (o8 (o8 aJ.body))
def HX n ns k(hk:0<=k):∃(kd:D)(s2:Sl),(∀g,cg (hd 2++dq g) 1 kd)/\
  ex (pg.cf (n+3)) aJ.body [.val (sc ns),.bor (.lst [.int k]),.un,.un,.un,.un,.un,.un]=ex (pg.cf (n+3)) zN [.val (sc ns),.bor (.lst [.int (k+1)]),s2,.val kd,.un,.un,.un,.un]:=by
 obtain⟨r,r1,r2,er⟩:=bB n ns k 6 hk (by omega)
 have hb:aJ.body=.cons (hdS aJ.body) (.cons (hdS (o8 aJ.body)) (.cons (hdS (o8 (o8 aJ.body))) zN)):=rfl
 have sb:∀g,([.str "a",.str "b"]:List D).Sublist (hd 2++dq g):=fun g=>List.sublist_append_left _ _
 have at6:=iW
 have hh:∀g,cg (hd 2++dq g) 1 (.tup [.str "held",.tup [.str "same",.str "a"],.str "b",.bl true]):=fun g=>.held (.same (by simp[hd])) (by simp[hd])
 rcases (by omega:r=0\/r=1\/r=2\/r=3\/r=4\/r=5)with rfl|rfl|rfl|rfl|rfl|rfl
 ·refine⟨.tup [.str "both",.tup [.str "a",.str "b"]],.val (.int 0),fun g=>.both (sb g) (by simp) (by simp),?_⟩
  rw[hb];simp[aJ,hdS,o8,er,aX,at?,ix?]
 ·refine⟨.tup [.str "both",.tup [.str "a",.str "b"]],.val (.int 1),fun g=>.both (sb g) (by simp) (by simp),?_⟩
  rw[hb];simp[aJ,hdS,o8,er,aX,at?,ix?]
 ·refine⟨.tup [.str "and",.tup [.str "a",.str "b"]],.val (.int 2),fun g=>.and (sb g) (by simp) (by simp),?_⟩
  rw[hb];simp[aJ,hdS,o8,er,aX,at?,ix?]
 ·refine⟨.tup [.str "or",.tup [.str "a",.str "b"]],.val (.int 3),fun g=>.or (sb g) (by simp) (by simp),?_⟩
  rw[hb];simp[aJ,hdS,o8,er,aX,at?,ix?]
 ·refine⟨_,.val (.int 4),hh,?_⟩
  rw[hb];simp[aJ,hdS,o8,er,aX,at?,ix?]
 ·refine⟨_,.val (.int 5),hh,?_⟩
  rw[hb];simp[aJ,hdS,o8,er,aX,at?,ix?]
noncomputable def fU:List (List (D×Nat)):=[[(.str "a",1),(.str "b",2)],[(.str "b",3)],[(.str "a",3)],[(.str "p",0)]]
def pF g(h1:1<=g):cN 2 g [.str "p"] fU:=by
 refine⟨?_,by simp[fU],by simp[fU],fun st h=>?_⟩
 ·obtain⟨j,rfl⟩:∃j,g=j+1:=⟨g-1,by omega⟩
  simp[dq]
 ·simp only[fU,QBz,QAq,or_false]at h
  rcases h with rfl|rfl|rfl|rfl<;>simp[hd,fU]
def Cr n ns k(hk:0<=k):∃h g ks ls os sts k',cU h g ks ls/\cN h g os sts/\0<=k'/\pg.fn (n+4) 38 [.val (sc ns),.bor (.lst [.int k])]=.ok (.val (.tup [aO h g ks ls,aQ os sts])) [.val (sc ns),.bor (.lst [.int k'])]:=by
 obtain⟨kd,s2,a1,a2⟩:=HX n ns k hk
 obtain⟨q,q1,q2,eq⟩:=bB n ns (k+1) 2 (by omega) (by omega)
 rcases (by omega:q=0\/q=1)with rfl|rfl
 ·obtain⟨z,z1,z2,ez⟩:=bB n ns (k+1+1) 2 (by omega) (by omega)
  refine⟨2,1,[kd],[z==1,z==1,z==1],[.str "p"],fU,k+1+1+1,⟨by omega,by omega,by omega,rfl,fun d h=>?_,rfl⟩,pF 1 (by omega),by omega,?_⟩
  ·cases QDq.mp h;exact a1 1
  ·rw[iQ,a2]
   simp[zN,aJ,o8,eq,ez,aX,aO,hd,dq,aR,aQ,iC,uT,fU]
 ·obtain⟨w,w1,w2,ew⟩:=bB n ns (k+1+1) 2 (by omega) (by omega)
  obtain⟨z,z1,z2,ez⟩:=bB n ns (k+1+1+1) 2 (by omega) (by omega)
  rcases (by omega:w=0\/w=1)with rfl|rfl
  ·refine⟨2,2,[kd,.tup [.str "same",.str "p"]],[z==1,z==1,z==1,z==1],[.str "p"],fU,k+1+1+1+1,⟨by omega,by omega,by omega,rfl,fun d h=>?_,rfl⟩,pF 2 (by omega),by omega,?_⟩
   ·simp only[QBz,QAq,or_false]at h
    rcases h with rfl|rfl
    ·exact a1 2
    ·exact .same (by simp[hd,dq])
   ·rw[iQ,a2]
    simp[zN,aJ,o8,eq,ew,ez,aX,aO,hd,dq,aR,aQ,iC,uT,fU,gC,Cp]
  ·refine⟨2,2,[kd,.tup [.str "not",.str "p"]],[z==1,z==1,z==1, !(z==1)],[.str "p"],fU,k+1+1+1+1,⟨by omega,by omega,by omega,rfl,fun d h=>?_,rfl⟩,pF 2 (by omega),by omega,?_⟩
   ·simp only[QBz,QAq,or_false]at h
    rcases h with rfl|rfl
    ·exact a1 2
    ·exact .not (by simp[hd,dq])
   ·rw[iQ,a2]
    simp[zN,aJ,o8,eq,ew,ez,aX,aO,hd,dq,aR,aQ,iC,uT,fU,gC,Cp]
end Tx
end
section
open PySem Mini
namespace Tx
theorem Eb:∀(gs ks:List D)(i:Nat)(x d:D),gs[i]? =some x->ks.length=gs.length->(aR gs ks).set i (.tup [x,d])=aR gs (ks.set i d)
 |[],_,_=>fun _ _ h _=>by simp at h
 |g::gs,[],_=>fun _ _ _ h=>by simp at h
 |g::gs,k::ks,0=>fun x d h _=>by simp at h;subst h;simp[aR]
 |g::gs,k::ks,i+1=>fun x d h hl=>by simp[aR,Eb gs ks i x d (by simpa using h) (by simpa using hl)]
theorem zip_get:∀(gs ks:List D)(i:Nat),i<gs.length->ks.length=gs.length->∃x d,(aR gs ks)[i]? =some (.tup [x,d])/\gs[i]? =some x
 |[],_,_=>fun h _=>by simp at h
 |g::gs,[],_=>fun _ h=>by simp at h
 |g::gs,k::ks,0=>fun _ _=>⟨g,k,by simp[aR],rfl⟩
 |g::gs,k::ks,i+1=>fun h hl=>by
  obtain⟨x,d,a,b⟩:=zip_get gs ks i (by simpa using h) (by simpa using hl)
  exact⟨x,d,by simp[aR,a],by simpa using b⟩
def Hh n ns k(hk:0<=k){ks:List D}(O:cU h g ks ls):∃ks' k',cU h g ks' ls/\0<=k'/\
  pg.fn (n+8) 39 [.val (sc ns),.bor (.lst [.int k]),.val (aO h g ks ls)]=.ok (.val (aO h g ks' ls)) [.val (sc ns),.bor (.lst [.int k']),.val (aO h g ks ls)]:=by
 have lg:=eV O.g5
 have lh:=iw O.h2
 have h2:=O.h2
 have g1:=O.g1
 have g5:=O.g5
 have kl:=O.kl
 have lz:(aR (dq g) ks).length=g:=by rw[Ec (by rw[lg,kl]),lg]
 obtain⟨q,q1,q2,eq⟩:=bB (n+4) ns k g hk (by omega)
 obtain⟨i,rfl⟩:∃i:Nat,q=i:=⟨q.toNat,by omega⟩
 obtain⟨d,k',a1,a2,a3⟩:=xX ns (hd h++dq g) (by simp;omega) (by simp;omega) 1 n (k+1) (by omega)
 simp only[Int.natCast_one,show n+6+1=n+7 from rfl]at a3
 obtain⟨x,y,b1,b2⟩:=zip_get (dq g) ks i (by omega) (by omega)
 refine⟨ks.set i d,k',⟨h2,g1,g5,by simp[kl],fun e he=>?_,O.ll⟩,a2,?_⟩
 ·rcases List.mem_or_eq_of_mem_set he with he|rfl
  ·exact O.kk e he
  ·exact a1
 ·have hb:dG=⟨3,6,.cons (.set 3 (.op .add _ (.bi .tuple (z8 _)))) _⟩:=rfl
  have f:fits ((hd h).length+(dq g).length)=true:=by simp[fits];omega
  have i1:at? (aR (dq g) ks) i=some (.tup [x,y]):=by rw[iW _ _ (by omega),b1]
  have i2:ix? g i=some i:=by simp[ix?];omega
  have q0:∀it,(z8 it).az=none:=fun _=>rfl
  have n0:getD (aO h g ks ls) (.int 0)=some (.tup (hd h)):=by simp[aO]
  have n1:getD (aO h g ks ls) (.int 1)=some (.tup (aR (dq g) ks)):=by simp[aO]
  have n2:getD (aO h g ks ls) (.int 2)=some (.tup (ls.map .bl)):=by simp[aO]
  rw[n6,hb]
  simp[dG,o8,uf (c:=pg.cf (n+7)) (it:=.idx (.var 2) AAG) (σ:=[.val (sc ns),.bor (.lst [.int k]),.val (aO h g ks ls),.un,.un,.un]) (dq g) ks (by omega) (by simp[aO]),q0,f,n0,n1,n2,lz,eq,a3,i1,i2,zA,Eb _ ks i x d b2 (by omega),aX]
  simp[aO]
def vM h g:cN h g [] [[]]:=⟨by simp,by simp,by simp,fun st h=>by cases QDq.mp h;simp⟩
def Wq g(h3:3<=g):cN 0 g [.str "q"] [[(.str "q",1)],[(.str "q",0)]]:=by
 refine⟨?_,by simp,by simp,fun st h=>?_⟩
 ·obtain⟨j,rfl⟩:∃j,g=j+2:=⟨g-2,by omega⟩
  simp[dq]
 ·simp only[QBz,QAq,or_false]at h
  rcases h with rfl|rfl<;>simp[hd]
def wH:S:=o8 (o8 (o8 (o8 (o8 bO.body))))
def Ah:S:=o8 wH
def SQ n ns k(hk:0<=k):∃h g ks ls os sts,cU h g ks ls/\cN h g os sts/\pg.fn (n+9) 40 [.val (sc ns),.val (.int k)]=.ok (.val (.tup [aO h g ks ls,aQ os sts])) [.val (sc ns),.val (.int k)]:=by
 obtain⟨r,r1,r2,er⟩:=bB (n+5) ns k 8 hk (by omega)
 by_cases c2:r<2
 ·obtain⟨h,g,ks,ls,k1,O,a1,a2⟩:=Ln n ns (k+1) (by omega) 2 (by omega) (by omega)
  obtain⟨os,sts,k2,T,b1,b2⟩:=Qk (n+4) ns k1 a1 O
  exact⟨h,g,ks,ls,os,sts,O,T,by rw[fK];simp[bO,er,c2,a2,b2,aX]⟩
 have c2b:=c2
 by_cases c3:r=2
 ·subst c3
  obtain⟨h,g,ks,ls,k1,O,a1,a2⟩:=Ln n ns (k+1) (by omega) 0 (by omega) (by omega)
  exact⟨h,g,ks,ls,[],[[]],O,vM h g,by rw[fK];simp[bO,er,a2,aX,aQ,iC]⟩
 by_cases c4:r=3
 ·subst c4
  obtain⟨g,ks,ls,k1,O,g3,a1,a2⟩:=QS (n+4) ns (k+1) (by omega)
  obtain⟨q,q1,q2,eq⟩:=bB (n+5) ns k1 2 a1 (by omega)
  rcases (by omega:q=1\/q=0)with rfl|rfl
  ·exact⟨0,g,ks,ls,[],[[]],O,vM 0 g,by rw[fK];simp[bO,er,a2,eq,aX,aQ,iC]⟩
  ·exact⟨0,g,ks,ls,_,_,O,Wq g g3,by rw[fK];simp[bO,er,a2,eq,aX,aQ,iC,uT]⟩
 have e2:(r==2)=false:=by simpa using c3
 have e3:(r==3)=false:=by simpa using c4
 have main:∃h g ks ls os sts k1,cU h g ks ls/\cN h g os sts/\0<=k1/\ex (pg.cf (n+8)) bO.body [.val (sc ns),.val (.int k),.un,.un,.un,.un]=ex (pg.cf (n+8)) Ah [.val (sc ns),.val (.int k),.own (.lst [.int k1]),.val (.int r),.val (aO h g ks ls),.val (aQ os sts)]:=by
  have hb:bO.body=.cons _ (.cons _ (.cons _ (.cons _ (.cons _ (.cons _ Ah))))):=rfl
  by_cases c6:r<6
  ·obtain⟨h,g,ks,ls,os,sts,k1,O,T,a1,a2⟩:=Og (n+4) ns (k+1) (by omega)
   refine⟨h,g,ks,ls,os,sts,k1,O,T,a1,?_⟩
   rw[hb]
   simp[bO,hdS,o8,wH,er,c2,e2,e3,c3,c4,c6,a2,aX,cY,ig,eG]
  ·obtain⟨h,g,ks,ls,os,sts,k1,O,T,a1,a2⟩:=Cr (n+4) ns (k+1) (by omega)
   refine⟨h,g,ks,ls,os,sts,k1,O,T,a1,?_⟩
   rw[hb]
   simp[bO,hdS,o8,wH,er,c2,e2,e3,c3,c4,c6,a2,aX,cY,ig,eG]
 obtain⟨h,g,ks,ls,os,sts,k1,O,T,a1,a2⟩:=main
 by_cases c7:r%2=1
 ·obtain⟨q,q1,q2,eq⟩:=bB (n+5) ns k1 2 a1 (by omega)
  rcases (by omega:q=1\/q=0)with rfl|rfl
  ·obtain⟨ks',k2,O',b1,b2⟩:=Hh n ns (k1+1) (by omega) O
   refine⟨h,g,ks',ls,os,sts,O',T,?_⟩
   rw[fK,a2]
   simp[Ah,wH,bO,o8,c7,eq,b2,aX]
  ·refine⟨h,g,ks,ls,os,sts,O,T,?_⟩
   rw[fK,a2]
   simp[Ah,wH,bO,o8,c7,eq,aX]
 ·refine⟨h,g,ks,ls,os,sts,O,T,?_⟩
  have c8:r%2=0:=by omega
  rw[fK,a2]
  simp[Ah,wH,bO,o8,c8,aX]
end Tx
end
section
open PySem Mini
namespace Tx
def Uy:E:=.bi .all ACW
def Ly:E:=.bi .all ABJ
def Yi:E:=.comp 1 (.name 0) (.var 0) AAH AAd
def zU n(h:dj xs)(nd:xs.Nodup)st(N:Nat)(hs:(st.map (·.1)).Sublist xs)(hn:∀m∈st,m.2<N):
  pg.fn (n+3) 19 [.val (iC st),.val (.tup xs),.val (.int N)]=.ok (.val (.bl true)) [.val (iC st),.val (.tup xs),.val (.int N)]:=by
 have ll:=hs.length_le
 have e1:ev (pg.cf (n+2)) Uy [.val (iC st),.val (.tup xs),.val (.int N)]=.ok (.val (.bl true)) [.val (iC st),.val (.tup xs),.val (.int N)]:=by
  refine all1 (r:=.val (iC st)) (by simp) rfl rfl fun x hx=>?_
  obtain⟨m,_,rfl⟩:=QCz.mp hx
  simp[uT,aV (n+1) [m.1,.int m.2] 2 2 (by simp) (by simp)]
 have e2:ev (pg.cf (n+2)) Ly [.val (iC st),.val (.tup xs),.val (.int N)]=.ok (.val (.bl true)) [.val (iC st),.val (.tup xs),.val (.int N)]:=by
  refine all1 (r:=.val (iC st)) (by simp) rfl rfl fun x hx=>?_
  obtain⟨m,hm,rfl⟩:=QCz.mp hx
  have t:pg.fn (n+2) 4 [.val (.int m.2),.val (.int 0),.val (.int (N-1))]=.ok (.val (.bl true)) [.val (.int m.2),.val (.int 0),.val (.int (N-1))]:=by
   rw[qi]
   have:=Int.le_sub_one_of_lt (Int.ofNat_lt.mpr (hn m hm))
   simp[iM,adI,this]
  simp[uT,t]
 have e3:ev (pg.cf (n+2)) Yi [.val (iC st),.val (.tup xs),.val (.int N)]=.ok (.new (.lst (st.map (·.1)))) [.val (iC st),.val (.tup xs),.val (.int N)]:=by
  have:=mR (c:=pg.cf (n+2)) (it:=.var 0) (σ:=[.val (iC st),.val (.tup xs),.val (.int N)]) (el:=.idx (.var 0) AAL) uV (r:=.val (iC st)) (by simp;rfl) rfl rfl fun y hy=>by
   obtain⟨m,_,rfl⟩:=QCz.mp hy
   simp[uT,uV]
  rw[List.map_map]at this
  exact this
 have hb:nG=⟨3,3,(.cons (.ite (.or (.cons _ (.cons (.not Uy) .nil))) _ .nil) (.cons (.ite (.not (.call 9 (.cons (.bi .tuple Yi) _))) _ .nil) (.cons (.ret Ly) .nil)))⟩:=rfl
 rw[BR,hb]
 have q1:Yi.az=none:=rfl
 have q2:Ly.az=none:=rfl
 have t1':pg.fn _ 3 [.val (iC st),.val _,.val _]=.ok _ [.val _,.val _,.val _]:=aV (n+1) (st.map uT) 0 xs.length (by omega) (by simpa using ll)
 simp[t1',e1,e3,q1,dZ n (.inl rfl) h nd hs 0 xs.length (by omega) (by simpa using ll),e2,q2]
def gl8:pg.gl 8=some (.int 12):=rfl
def wZ:E:=.bi .all AAx
section
variable{os:List D}
def cN.sub(T:cN h g os sts):(hd h++os).Sublist (names h g):=(List.Sublist.refl _).append T.ou
def Kg:(dq g).Sublist (names h g):=List.sublist_append_right _ _
def CK n(O:cU h g ks ls)(T:cN h g os sts):pg.fn (n+4) 18 [.val (aO h g ks ls),.val (aQ os sts)]=.ok (.val (.bl true)) [.val (aO h g ks ls),.val (aQ os sts)]:=by
 have lg:=eV O.g5
 have lh:=iw O.h2
 have h2:=O.h2
 have g5:=O.g5
 have s1:=T.s1
 have s4:=T.s4
 have lo:=T.ou.length_le
 have X:=bN h g
 have Nd:=names_nodup O.h2 O.g1 O.g5
 have t1:pg.fn _ 3 [.val (aQ os sts),.val _,.val _]=.ok _ [.val _,.val _,.val _]:=aV (n+2) [.tup os,.tup _] 2 2 (by simp) (by simp)
 have hb:pQ=⟨2,4,(.cons _ (.cons (.set 2 (z8 _)) (.cons _ (.cons _ (.cons (.ret wZ) .nil)))))⟩:=rfl
 have q:wZ.az=none:=rfl
 have f:fits ((hd h).length+os.length)=true:=by simp[fits];omega
 have n0:getD (aO h g ks ls) (.int 0)=some (.tup (hd h)):=by simp[aO]
 have m0:getD (aQ os sts) (.int 0)=some (.tup os):=by simp[aQ]
 have m1:getD (aQ os sts) (.int 1)=some (.tup (sts.map iC)):=by simp[aQ]
 have e':ev (pg.cf (n+3)) wZ [.val (aO h g ks ls),.val (aQ os sts),.val (.lst (dq g)),.val (.tup (hd h++os))]=.ok (.val (.bl true)) [.val (aO h g ks ls),.val (aQ os sts),.val (.lst (dq g)),.val (.tup (hd h++os))]:=by
  refine all1 (r:=.val (.tup (sts.map iC))) (by simp[aQ]) rfl rfl fun x hx=>?_
  obtain⟨st,hst,rfl⟩:=QCz.mp hx
  simp[aQ,zU n (fun x hx=>X x (T.sub.subset hx)) (T.sub.nodup Nd) st sts.length (T.mv st hst).1 (T.mv st hst).2]
 rw[Hv,hb]
 simp[t1,uf (c:=pg.cf (n+3)) (it:=.idx (.var 0) AAG) (σ:=[.val (aO h g ks ls),.val (aQ os sts),.un,.un]) (dq g) ks (by rw[O.kl,lg]) (by simp[aO]),m0,m1,n0,lg,dZ (n+1) (.inr rfl) (fun x hx=>X x (Kg.subset hx)) (Kg.nodup Nd) T.ou 0 g (by omega) (by omega),aV (n+2) (sts.map iC) 1 12 (by simp;omega) (by simp;omega),gl8,f,e',q]
def qP n(O:cU h g ks ls)(T:cN h g os sts):pg.fn (n+9) 17 [.val (aO h g ks ls),.val (aQ os sts)]=.ok (.val (aQ os sts)) [.val (aO h g ks ls),.val (aQ os sts)]:=by
 rw[sO]
 simp[iz,Do n O,CK (n+4) O T]
end
end Tx
end
section
open PySem Mini
namespace Tx
noncomputable def lk(x:D):List (D×Nat)->Option Nat
 |[]=>none
 |m::st=>if fZ m.1 x then some m.2 else lk x st
abbrev ji(st:List (D×Nat)):List D:=st.map (·.1)
abbrev uL(st:List (D×Nat)):List D:=st.map fun m=>.int m.2
def dcD(st:List (D×Nat)):D:=.cP (ji st) (uL st)
theorem FN x:∀st,eN x (ji st) (uL st)=(lk x st).map fun j:Nat=>D.int j
 |[]=>rfl
 |m::st=>by
  simp only[Qyq,eN,lk]
  split
  ·rfl
  ·exact FN x st
theorem FP x:∀st,cC x (ji st)=(lk x st).isSome
 |[]=>rfl
 |m::st=>by
  simp only[Qyq,cC,lk,FP x st]
  cases fZ m.1 x<;>simp
theorem jK:∀(st:List (D×Nat))(ks vs:List D),dj (ks++ji st)->(ks++ji st).Nodup->dictOf ks vs (st.map uT)=some (ks++ji st,vs++uL st)
 |[]=>fun ks vs _ _=>by simp[dictOf]
 |m::st=>fun ks vs h nd=>by
  obtain⟨s,e⟩:=h m.1 (by simp)
  have no:cC m.1 ks=false:=by
   rw[e]
   have hn:=fun hm=>by
    rw[show ji _=m.1::ji st from rfl,List.nodup_append]at nd
    exact nd.2.2 _ hm _ QYz rfl
   rw[e]at hn
   have hk:=fun x hx=>h x (QWz _ hx)
   clear nd h
   induction ks with
   |nil=>rfl
   |cons y ys ih=>
    obtain⟨q,rfl⟩:=hk y QYz
    have ne:¬q=s:=fun c=>hn (by rw[c];exact QYz)
    simp[cC,fZ,ne,ih (fun c=>hn (QYq _ c)) fun x hx=>hk x (QYq _ hx)]
  have r:=jK st (ks++[m.1]) (vs++[.int m.2]) (by simpa using h) (by simpa using nd)
  rw[Qyq,show uT m=.tup [m.1,.int m.2]from rfl,dictOf,if_pos (by rw[e];rfl)]
  simp only[putD,no]
  rw[if_neg (by simp),r]
  simp
def dN(sts:List (List (D×Nat)))(i:Nat):List (D×Nat):=sts.getD i []
end Tx
end
section
open PySem Mini
namespace Tx
def tZ{xs:List D}(h:dj xs)(hn:D.str s∉xs):cC (.str s) xs=false:=by
 induction xs with
 |nil=>rfl
 |cons x xs ih=>
  obtain⟨q,rfl⟩:=h x QYz
  have ne:q≠s:=fun e=>hn (by rw[e];exact QYz)
  simp[cC,fZ,ne,ih (fun z hz=>h z (QYq _ hz)) fun hz=>hn (QYq _ hz)]
theorem Gr:∀(xs ys ks vs:List D),ys.length=xs.length->dj xs->dj ks->(ks++xs).Nodup->dictOf ks vs (aR xs ys)=some (ks++xs,vs++ys)
 |[],ys=>fun ks vs hl _ _ _=>by
  have:ys=[]:=by cases ys<;>simp_all
  subst this
  simp[aR,dictOf]
 |x::xs,[]=>fun ks vs hl _ _ _=>by simp at hl
 |x::xs,y::ys=>fun ks vs hl h hk nd=>by
  obtain⟨s,rfl⟩:=h x QYz
  have hn:=fun z=>by
   have:=List.nodup_append.mp nd
   exact this.2.2 _ z _ QYz rfl
  have ih:=Gr xs ys (ks++[.str s]) (vs++[y]) (by simpa using hl) (fun z hz=>h z (QYq _ hz)) (fun z hz=>by
   rcases QXz.mp hz with hz|hz
   ·exact hk z hz
   ·simp at hz;exact⟨s,hz⟩) (by simpa using nd)
  simp only[aR,dictOf,keyOk,if_true,putD,tZ hk hn,Qyz,if_false]
  rw[ih]
  simp
def Ad(hl:ys.length=xs.length)(h:dj xs)(nd:xs.Nodup):dictOf [] [] (aR xs ys)=some (xs,ys):=by
 have:=Gr xs ys [] [] hl h (fun z hz=>by cases hz) (by simpa using nd)
 simpa using this
noncomputable def gO(xs:List D)(bs:List Bool)(x:D):Bool:=match eN x xs (bs.map .bl)with
 |some (.bl b)=>b
 |_=>false
theorem vX{x:D}:∀{xs:List D}{bs:List Bool},dj xs->bs.length=xs.length->x∈xs->eN x xs (bs.map .bl)=some (.bl (gO xs bs x))
 |[],_=>fun _ _ hx=>by cases hx
 |y::ys,[]=>fun _ hl _=>by simp at hl
 |y::ys,b::bs=>fun h hl hx=>by
  obtain⟨q,rfl⟩:=h x hx
  obtain⟨s,rfl⟩:=h y QYz
  by_cases e:s=q
  ·subst e
   simp[gO,eN,fZ]
  ·have hx':D.str q∈ys:=by
    rcases QBz.mp hx with z|z
    ·cases z;exact absurd rfl e
    ·exact z
   have l:eN (.str q) (.str s::ys) ((b::bs).map .bl)=eN (.str q) ys (bs.map .bl):=by simp[eN,fZ,e]
   have v:gO (.str s::ys) (b::bs) (.str q)=gO ys bs (.str q):=by
    unfold gO
    rw[l]
   rw[l,v]
   exact vX (fun z hz=>h z (QYq _ hz)) (by simpa using hl) hx'
def lr{xs:List D}(h:dj xs)(hl:bs.length=xs.length)(hx:x∈xs):getD (.cP xs (bs.map .bl)) x=some (.bl (gO xs bs x)):=by
 have e:=vX h hl hx
 obtain⟨q,rfl⟩:=h x hx
 exact e
def vN(bs:List Bool):o4 (bs.map D.bl)=true:=by
 induction bs with
 |nil=>rfl
 |cons b bs ih=>simp[o4,nd,ih]
def Dg(bs:List Bool):qO (bs.map D.bl)=0:=by
 induction bs with
 |nil=>rfl
 |cons b bs ih=>simp[qO,dep,ih]
def Lq(rs:List (List Bool)):o4 (rs.map aN)=true:=by
 induction rs with
 |nil=>rfl
 |cons r rs ih=>simp[o4,nd,aN,vN,ih]
def Mq(bs:List Bool)(rs:List (List Bool)):∃b,aG .isin (.tup (bs.map .bl)) (.tup (rs.map aN))=some b:=by
 have o:j4 (.tup (bs.map .bl)) (rs.map aN)=true:=by
  simp[j4,nd,dep,vN,Dg,Lq]
 refine⟨cC (.tup (bs.map .bl)) (rs.map aN),?_⟩
 show(if j4 _ _ then some _ else none)=_
 rw[o]
 rfl
end Tx
end
section
open PySem Mini
namespace Tx
def tQ:E:=.comp 1 (.name 0) AAc AAH (.idx (.var 3) (.var 0))
noncomputable def pZ:Fn:=⟨3,5,(.cons (.set 3 AAd) (.cons (.ite (.cmp .eq (.var 3) ABy) (.cons (.ret ACH) .nil) .nil) (.cons (.ite ACT (.cons (.ret (.not ACH)) .nil) .nil) (.cons (.ite ABX ABe .nil) (.cons (.set 4 (.bi .tuple tQ)) (.cons (.ite (.cmp .eq (.var 3) ABh) ACS .nil) (.cons (.ite (.cmp .eq (.var 3) ABm) ACR .nil) (.cons (.ite ABV ACM .nil) AAu))))))))⟩
def ju:DN=pZ:=rfl
section
variable{bs:List Bool}
def Ij n(h:dj xs)(hl:bs.length=xs.length)(hs:ys.Sublist xs)w r s1 s3 s4:
  ev (pg.cf n) tQ [.val (.tup (w:: .tup ys::r)),s1,.val (.cP xs (bs.map .bl)),s3,s4]=.ok (.new (.lst ((ys.map (gO xs bs)).map .bl))) [.val (.tup (w:: .tup ys::r)),s1,.val (.cP xs (bs.map .bl)),s3,s4]:=by
 have:=mR (c:=pg.cf n) (it:=.idx (.var 0) AAG) (el:=.idx (.var 3) (.var 0)) (σ:=[.val (.tup (w:: .tup ys::r)),s1,.val (.cP xs (bs.map .bl)),s3,s4]) (fun x=>.bl (gO xs bs x)) (r:=.val (.tup ys)) (τ:=[.val (.tup (w:: .tup ys::r)),s1,.val (.cP xs (bs.map .bl)),s3,s4]) (by simp) rfl rfl fun x hx=>by
  simp[lr h hl (hs.subset hx)]
 rw[tQ,this]
 simp
def oK(h:dj xs)(hl:bs.length=xs.length)(hs:ys.Sublist xs)w r:∃row:List Bool,
  ∀(n:Nat)(s1 s3 s4:Sl),ev (pg.cf n) tQ [.val (.tup (w:: .tup ys::r)),s1,.val (.cP xs (bs.map .bl)),s3,s4]=.ok (.new (.lst (row.map .bl))) [.val (.tup (w:: .tup ys::r)),s1,.val (.cP xs (bs.map .bl)),s3,s4]:=
 ⟨ys.map _,fun n s1 s3 s4=>Ij n h hl hs w r s1 s3 s4⟩
def Agree(xs:List D)(bs:List Bool)(i:Nat)(d:D)(own b:Bool):Prop:=
 pg.fn i 15 [.val d,.val (.bl own),.val (.cP xs (bs.map .bl))]=.ok (.val (.bl b)) [.val d,.val (.bl own),.val (.cP xs (bs.map .bl))]
def Ik n k:n+1+2*k=n+2*k+1:=Nat.add_right_comm n 1 _
def aeQ n k:n+1+2*(k+1)=n+1+2*k+1+1:=rfl
def JQ(h:dj xs)(hl:bs.length=xs.length):∀{k:Nat}{d:D},cg xs k d->∀own:Bool,∃b,∀n:Nat,Agree xs bs (n+1+2*k) d own b:=by
 intro k d hk
 have q1:tQ.az=none:=rfl
 induction hk with
 | @same k x hx=>
  intro own
  have e:=lr h hl hx
  refine⟨gO xs bs x,fun n=>?_⟩
  rw[Agree,Ik,mZ,ju]
  simp[pZ,e]
 | @not k x hx=>
  intro own
  have e:=lr h hl hx
  refine⟨!gO xs bs x,fun n=>?_⟩
  rw[Agree,Ik,mZ,ju]
  simp[pZ,e]
 | @and k ys hs h1 h2=>
  intro own
  obtain⟨row,e1⟩:=oK h hl hs (.str "and") []
  have bb:=jl row
  refine⟨row.all id,fun n=>?_⟩
  rw[Agree,Ik,mZ,ju]
  simp[pZ,e1,q1,bb]
 | @or k ys hs h1 h2=>
  intro own
  obtain⟨row,e1⟩:=oK h hl hs (.str "or") []
  have bb:=jl row
  refine⟨row.any id,fun n=>?_⟩
  rw[Agree,Ik,mZ,ju]
  simp[pZ,e1,q1,bb]
 | @both k ys hs h1 h2=>
  intro own
  obtain⟨row,e1⟩:=oK h hl hs (.str "both") []
  have bb:=jl row
  refine⟨row.all id||(own&&row.any id),fun n=>?_⟩
  rw[Agree,Ik,mZ,ju]
  cases ha:row.all id<;>cases own<;>simp[pZ,e1,q1,bb,ha]
 | @table k ys rs hs h1 h2 hr hi=>
  intro own
  obtain⟨row,e1⟩:=oK h hl hs (.str "table") [.tup (rs.map aN)]
  obtain⟨b,eb⟩:=Mq row rs
  refine⟨b,fun n=>?_⟩
  rw[Agree,Ik,mZ,ju]
  simp[pZ,e1,q1,eb]
 | @held k d x bb hk hx ih=>
  intro own
  obtain⟨b,i1⟩:=ih own
  have e:=lr h hl hx
  have hh:∀n,pg.fn (n+1+2*k+1) 16 [.val (.tup [.str "held",d,x,.bl bb]),.val (.bl own),.val (.cP xs (bs.map .bl))]=.ok (.val (.bl (if (gO xs bs x==b)==bb then b else own))) [.val (.tup [.str "held",d,x,.bl bb]),.val (.bl own),.val (.cP xs (bs.map .bl))]:=fun n=>by
   have i2:=i1 n
   unfold Agree at i2
   rw[zm]
   cases hc:((gO xs bs x==b)==bb)<;>simp[lA,i2,e,hc]
  refine⟨if (gO xs bs x==b)==bb then b else own,fun n=>?_⟩
  rw[Agree,aeQ,mZ,ju]
  simp[pZ,hh]
end
end Tx
end
section
open PySem Mini
namespace Tx
section
def Jy:E:=.comp 2 (.tup [0,1]) AAc AAV (.var 0)
theorem Jk(O:cU h g ks ls)(hl:bs.length=(names h g).length):∃zs:List D,zs.Sublist (dq g)/\∀n:Nat,
  pg.fn (n+4) 14 [.val (aO h g ks ls),.val (aN bs)]=.ok (.new (.lst zs)) [.val (aO h g ks ls),.val (aN bs)]:=by
 have T:=bN h g
 have Nd:=names_nodup O.h2 O.g1 O.g5
 have lg:=eV O.g5
 have lh:=iw O.h2
 have ag:∀k own,∃b,cg (names h g) 1 k->∀n,Agree (names h g) bs (n+3) k own b:=fun k own=>by
  by_cases hk:cg (names h g) 1 k
  ·obtain⟨b,z⟩:=JQ T hl hk own
   exact⟨b,fun _=>z⟩
  ·exact⟨true,fun z=>absurd z hk⟩
 have sk:∃F:D->Bool->Bool,∀k own,cg (names h g) 1 k->∀n,Agree (names h g) bs (n+3) k own (F k own):=
  ⟨fun k own=>Classical.choose (ag k own),fun k own=>Classical.choose_spec (ag k own)⟩
 obtain⟨F,hF⟩:=sk
 let p:D×D->Bool:=fun x=> !(F x.2 (gO (names h g) bs x.1)==gO (names h g) bs x.1)
 have mem:∀x∈(dq g).zip ks,x.1∈names h g/\cg (names h g) 1 x.2:=fun x hx=>⟨QVq _ (List.of_mem_zip hx).1,O.kk x.2 (List.of_mem_zip hx).2⟩
 obtain⟨x0,ps,zeq⟩:∃x0 ps,(dq g).zip ks=x0::ps:=by
  cases q:(dq g).zip ks with
  |nil=>
   have:=congrArg List.length q
   rw[List.length_zip,lg,O.kl]at this
   have:=O.g1
   simp at*
   omega
  |cons x ps=>exact⟨x,ps,rfl⟩
 have dz:dictOf [] [] (aR (names h g) (bs.map .bl))=some (names h g,bs.map .bl):=Ad (by simpa using hl) T Nd
 refine⟨(((dq g).zip ks).filter p).map (·.1),?_,fun n=>?_⟩
 ·have s1:((((dq g).zip ks).filter p).map (·.1)).Sublist (((dq g).zip ks).map (·.1)):=(List.filter_sublist).map _
  have s2:((dq g).zip ks).map (·.1)=dq g:=List.map_fst_zip (by rw[lg,O.kl];exact QVz _)
  rw[s2]at s1
  exact s1
 have w1:pg.fn (n+3) 13 [.val (aO h g ks ls)]=.ok (.new (.lst (names h g))) [.val (aO h g ks ls)]:=
  eZ (n+2) (hd h) (dq g) ks (.tup (ls.map .bl)) (by rw[O.kl,lg]) (by have:=O.h2;have:=O.g5;omega)
 have e1:ev (pg.cf (n+3)) Jy [.val (aO h g ks ls),.val (aN bs),.own (.dct (names h g) (bs.map .bl))]=.ok (.new (.lst ((((dq g).zip ks).filter p).map (·.1)))) [.val (aO h g ks ls),.val (aN bs),.val (.cP (names h g) (bs.map .bl))]:=by
  rw[zeq]at mem⊢
  have c0:∀x,x∈x0::ps->∀s:Sl,(s=.own (.dct (names h g) (bs.map .bl))\/s=.val (.cP (names h g) (bs.map .bl)))->ev (pg.cf (n+3)) AAV [.val x.1,.val x.2,.val (aO h g ks ls),.val (aN bs),s]=.ok (.val (.bl (p x))) [.val x.1,.val x.2,.val (aO h g ks ls),.val (aN bs),.val (.cP (names h g) (bs.map .bl))]:=fun x hx s hs=>by
   obtain⟨m1,m2⟩:=mem x hx
   have gl:=lr T hl m1
   have a:=hF x.2 (gO (names h g) bs x.1) m2 n
   unfold Agree at a
   rcases hs with rfl|rfl<;>simp[gl,a,p]
  have it:items (.tup (aR (dq g) ks))=some ((x0::ps).map pairD):=by show some _=some _;rw[dW,zeq]
  exact Ys (·.1) p (r:=.val (.tup (aR (dq g) ks))) (by simp[aO]) rfl it (c0 x0 QYz _ (.inl rfl)) (fun x hx=>c0 x (QYq _ hx) _ (.inr rfl)) (fun x _ _=>by simp)
 have hb:gH=⟨2,3,(.cons (.set 2 (.bi .dict ABS)) (.cons (.ret Jy) .nil))⟩:=rfl
 have q:Jy.az=none:=rfl
 have z:bJ (aN bs)=some (bs.map .bl):=rfl
 rw[qH,hb]
 simp[w1,z,dz,e1,q]
end
end Tx
end
section
open PySem Mini
namespace Tx
structure Wt(h g:Nat)(ks:List D)(ls:List Bool)(W:List Bool->List D):Prop where
 sub:∀bs,bs.length=(names h g).length->(W bs).Sublist (dq g)
 pr:∀bs,bs.length=(names h g).length->∀n,pg.fn (n+4) 14 [.val (aO h g ks ls),.val (aN bs)]=.ok (.new (.lst (W bs))) [.val (aO h g ks ls),.val (aN bs)]
def Z0{ks:List D}(O:cU h g ks ls):∃W,Wt h g ks ls W:=by
 have ag:∀bs:List Bool,∃zs:List D,bs.length=(names h g).length->zs.Sublist _/\∀n:Nat,pg.fn _ 14 [.val _,.val _]=.ok _ [.val _,.val _]:=fun bs=>by
  by_cases hl:bs.length=(names h g).length
  ·obtain⟨zs,z⟩:=Jk O hl
   exact⟨zs,fun _=>z⟩
  ·exact⟨[],fun z=>absurd z hl⟩
 exact⟨fun bs=>Classical.choose _,fun bs hl=>(Classical.choose_spec (ag bs) hl).1,fun bs hl n=>(Classical.choose_spec (ag bs) hl).2 n⟩
def Xq{xs:List D}(h:dj xs):cC (.str s) xs=true↔D.str s∈xs:=by
 constructor
 ·intro z
  by_cases c:D.str s∈xs
  ·exact c
  ·rw[tZ h c]at z;cases z
 ·intro z;exact lY z h
abbrev St:=List Bool×Nat
def bF(s:St):D:=.tup [aN s.1,.int s.2]
section
variable{os:List D}{sts:List (List (D×Nat))}
structure Pz(h g:Nat)(sts:List (List (D×Nat)))(s:St):Prop where
 l:s.1.length=(names h g).length
 j:s.2<sts.length
noncomputable def rP(h:Nat)(sts:List (List (D×Nat)))(W:List Bool->List D)(s:St):List D:=(hd h).filter (fun x=>(lk x (dN sts s.2)).isSome)++W s.1
def qY h:dj (hd h):=fun x hx=>bN h 0 x (QWz _ hx)
def QC g:dj (dq g):=fun x hx=>bN 0 g x (QVq _ hx)
def rQ(hj:j<sts.length):dN sts j∈sts:=by simp[dN,hj]
def w5(hj:j<sts.length):at? (sts.map iC) (j:Int)=some (iC (dN sts j)):=by
 rw[iW _ _ (by simpa using hj)]
 simp[dN,hj]
def rO(Wk:Wt h g ks ls W)(S:Pz h g sts s):(rP h sts W s).Sublist (names h g):=(List.filter_sublist).append (Wk.sub s.1 S.l)
def nU(T:cN h g os sts)(O:cU h g ks ls)(hj:j<sts.length):dj (ji (dN sts j))/\(ji (dN sts j)).Nodup:=by
 have:=(T.mv _ (rQ hj)).1
 exact⟨fun x hx=>bN h g x (T.sub.subset (this.subset hx)),this.nodup (T.sub.nodup (names_nodup O.h2 O.g1 O.g5))⟩
def stC:E:=.comp 1 (.name 0) AAd (.cmp .isin (.var 0) (.var 4)) (.var 0)
def zb n(O:cU h g ks ls)(T:cN h g os sts)(Wk:Wt h g ks ls W)(S:Pz h g sts s):
  pg.fn (n+5) 22 [.val (aO h g ks ls),.val (aQ os sts),.val (bF s)]=.ok (.new (.lst (rP h sts W s))) [.val (aO h g ks ls),.val (aQ os sts),.val (bF s)]:=by
 have K:=nU T O S.j
 have d:=jK (dN sts s.2) [] [] (by simpa using K.1) (by simpa using K.2)
 have e:ev (pg.cf (n+4)) stC [.val (aO h g ks ls),.val (aQ os sts),.val (bF s),.own (.dct (ji (dN sts s.2)) (uL (dN sts s.2)))]=.ok (.new (.lst ((hd h).filter fun x=>(lk x (dN sts s.2)).isSome))) [.val (aO h g ks ls),.val (aQ os sts),.val (bF s),.own (.dct (ji (dN sts s.2)) (uL (dN sts s.2)))]:=by
  have:=Dj (c:=pg.cf (n+4)) (it:=.idx (.var 0) AAL) (co:=.cmp .isin (.var 0) (.var 4)) (el:=.var 0) (σ:=[.val (aO h g ks ls),.val (aQ os sts),.val (bF s),.own (.dct (ji (dN sts s.2)) (uL (dN sts s.2)))]) (τ:=[.val (aO h g ks ls),.val (aQ os sts),.val (bF s),.own (.dct (ji (dN sts s.2)) (uL (dN sts s.2)))]) (r:=.val (.tup (hd h))) (fun x=>x) (fun x=>(lk x (dN sts s.2)).isSome) (by simp[aO]) rfl rfl (fun x hx=>by
   obtain⟨q,rfl⟩:=qY h x hx
   have:aG .isin (.str q) (.cP (ji (dN sts s.2)) (uL (dN sts s.2)))=some (lk (.str q) (dN sts s.2)).isSome:=by rw[<-FP];rfl
   simp[this,Ob.d]) (fun x _ _=>by simp)
  rw[List.map_id']at this
  exact this
 have w:=Wk.pr s.1 S.l n
 have t1:getD (aQ os sts) (.int 1)=some (.tup (sts.map iC)):=by simp[aQ]
 have s0:getD (bF s) (.int 0)=some (aN s.1):=by simp[bF]
 have s1:getD (bF s) (.int 1)=some (.int s.2):=by simp[bF]
 have st:=w5 S.j
 have sl:=(rO Wk S).length_le
 have nl:=gU O.h2 O.g5
 have h2:=O.h2
 have g5:=O.g5
 have f:fits (((hd h).filter fun x=>(lk x (dN sts s.2)).isSome).length+(W s.1).length)=true:=by
  simp only[rP,QTq]at sl
  simp[fits]
  omega
 have hb:nu=⟨3,4,(.cons _ (.cons (.ret (.op .add stC _)) .nil))⟩:=rfl
 rw[By,hb]
 simp[t1,s0,s1,st,iC,d,e,w,f,rP]
end
end Tx
end
section
open PySem Mini
namespace Tx
def xW n hs gs ks x(hl:ks.length=gs.length)(hf:hs.length+gs.length<=1000):
  pg.fn (n+1) 41 [.val (.tup [.tup hs,.tup (aR gs ks),x])]=.ok (.new (.lst (hs++gs))) [.val (.tup [.tup hs,.tup (aR gs ks),x])]:=
 ((zq n _).trans (nZ n _).symm).trans (eZ n hs gs ks x hl hf)
section
variable{os:List D}
theorem Xb{x:D}:∀{st:List (D×Nat)},dj (ji st)->(∃s,x=.str s)->((lk x st).isSome=true↔x∈ji st)
 |[],_,_=>by simp[lk]
 |m::st,t,⟨s,hs⟩=>by
  subst hs
  rw[<-FP,Xq t]
def lN n(O:cU h g ks ls):pg.fn (n+1) 41 [.val (aO h g ks ls)]=.ok (.new (.lst (names h g))) [.val (aO h g ks ls)]:=
 xW n (hd h) _ ks _ (by rw[O.kl,eV O.g5]) (by rw[iw O.h2,eV O.g5];have:=O.h2;have:=O.g5;omega)
def MJ(O:cU h g ks ls)(hx:x∈hd h):x∉dq g:=fun hs=>by
 have nd:=names_nodup O.h2 O.g1 O.g5
 rw[names,List.nodup_append]at nd
 exact nd.2.2 _ hx _ hs rfl
def tV{xs:List D}(t:dj xs):aG .isin (.str q) (.lst xs)=some (cC (.str q) xs)/\aG .isin (.str q) (.tup xs)=some (cC (.str q) xs)/\aG .notin (.str q) (.tup xs)=some (!cC (.str q) xs):=by
 have o:j4 (.str q) xs=true:=by unfold j4;rw[mj t];rfl
 refine⟨?_,?_,?_⟩
 ·show(if j4 _ xs then some _ else none)=_;rw[o];rfl
 ·show(if j4 _ xs then some _ else none)=_;rw[o];rfl
 ·show(if j4 _ xs then some _ else none)=_;rw[o];rfl
end
end Tx
end
section
open PySem Mini
namespace Tx
section
noncomputable def fW(xs:List D)(bs:List Bool)(x:D):List Bool:=(xs.zip bs).map fun p=>if fZ p.1 x then !p.2 else p.2
def uh{bs:List Bool}(hl:bs.length=xs.length)x:(fW xs bs x).length=xs.length:=by simp[fW,hl]
def chF(x:D)(p:D×D):D:=match p.2 with
 |.bl b=>.bl (if fZ p.1 x then !b else b)
 |d=>d
theorem GD x:∀(xs:List D)(bs:List Bool),(xs.zip (bs.map D.bl)).map (chF x)=(fW xs bs x).map .bl
 |[],bs=>by simp[fW]
 |_::_,[]=>by simp[fW]
 |y::xs,b::bs=>by
  have:=GD x xs bs
  simp only[fW]at this⊢
  simp[chF,this]
def chC:E:=.comp 2 (.tup [0,1]) ABS AAH (.ite ACG (.not (.var 1)) (.var 1))
def Dr n(O:cU h g ks ls)(hl:bs.length=(names h g).length)(hx:∃s,x=.str s):
  pg.fn (n+2) 25 [.val (aO h g ks ls),.val (aN bs),.val x]=.ok (.val (aN (fW (names h g) bs x))) [.val (aO h g ks ls),.val (aN bs),.val x]:=by
 obtain⟨q,rfl⟩:=hx
 have w:pg.fn _ 13 [.val (aO h g ks ls)]=.ok (.new (.lst (names h g))) [.val _]:=
  eZ n (hd h) _ ks _ (by rw[O.kl,eV O.g5]) (by rw[iw O.h2,eV O.g5];have:=O.h2;have:=O.g5;omega)
 have e:ev (pg.cf (n+1)) chC [.val (aO h g ks ls),.val (aN bs),.val (.str q)]=.ok (.new (.lst ((fW (names h g) bs (.str q)).map .bl))) [.val (aO h g ks ls),.val (aN bs),.val (.str q)]:=by
  have:=U7 (c:=pg.cf (n+1)) (it:=.zip (.call 13 AAZ) (.var 1)) (el:=.ite ACG (.not (.var 1)) (.var 1)) (σ:=[.val (aO h g ks ls),.val (aN bs),.val (.str q)]) (τ:=[.val (aO h g ks ls),.val (aN bs),.val (.str q)]) (r:=.val (.lst (aR (names h g) (bs.map .bl)))) (chF _) (by
    have z:bJ (aN bs)=some _:=rfl
    simp[w,z]) rfl (by show some _=some _;rw[dW]) (fun p hp=>by
    obtain⟨u,eu⟩:=bN h g p.1 (List.of_mem_zip hp).1
    obtain⟨b,_,eb⟩:=QCz.mp (List.of_mem_zip hp).2
    rw[<-eb,eu]
    have e1:chF (.str q) p=.bl (if decide (u=q)then !b else b):=by
     unfold chF
     rw[<-eb,eu]
     rfl
    rw[e1]
    cases c:decide (u=q)<;>simp[c])
  rw[GD]at this
  exact this
 have hb:pW=⟨3,3,(.cons (.ret (.bi .tuple chC)) .nil)⟩:=rfl
 have qv:chC.az=none:=rfl
 rw[Hy,hb]
 simp[e,qv]
 rfl
theorem vJ:∀(L pre:List D),(bK pre.length L.length).map (fun d=>match d with|.int i=>(pre++L).getD i.toNat .non|_=>.non)=L
 |[]=>fun pre=>rfl
 |x::L=>fun pre=>by
  have:=vJ L (pre++[x])
  simp only[QTq,QAz,List.length_nil,List.append_assoc,List.cons_append,List.nil_append]at this
  simp only[QAz,bK,Qyq]
  rw[show((pre.length:Int)+1)=((pre.length+(0+1):Nat)) by simp,this]
  simp[List.getD]
def fgC:E:=.comp 1 (.name 0) ACY AAH ABQ
theorem vI:∀(n:Nat)(lo:Int)(x:D),x∈bK lo n->∃j:Nat,j<n/\x=.int (lo+j)
 |0=>fun _ _ h=>by cases h
 |n+1=>fun lo x h=>by
  rcases QBz.mp h with rfl|h
  ·exact⟨0,by omega,by simp⟩
  ·obtain⟨j,hj,rfl⟩:=vI n _ x h
   exact⟨j+1,by omega,by congr 1;omega⟩
def Sw n(O:cU h g ks ls)T(S:Pz h g sts s)s5 s6 s7:
  ev (pg.cf n) fgC [.val (aO h g ks ls),.val T,.val (bF s),.val (.str q),.own (.lst (names h g)),s5,s6,s7]=.ok (.new (.lst ((fW (names h g) s.1 (.str q)).map .bl))) [.val (aO h g ks ls),.val T,.val (bF s),.val (.str q),.own (.lst (names h g)),s5,s6,s7]:=by
 have nl:=gU O.h2 O.g5
 have h2:=O.h2
 have g5:=O.g5
 have fl:=uh S.l (.str q)
 have f1:fits (names h g).length=true:=by simp[fits];omega
 have f2:uJ (names h g).length=true:=by simp[uJ];omega
 have s0:getD (bF s) (.int 0)=some (aN s.1):=by simp[bF]
 have:=mR (c:=pg.cf n) (it:=.range1 ABT) (el:=.cmp .ne (.idx (.idx (.var 3) AAL) (.var 0)) (.cmp .eq (.idx (.var 5) (.var 0)) (.var 4))) (σ:=[.val (aO h g ks ls),.val T,.val (bF s),.val (.str q),.own (.lst (names h g)),s5,s6,s7]) (τ:=[.val (aO h g ks ls),.val T,.val (bF s),.val (.str q),.own (.lst (names h g)),s5,s6,s7]) (r:=.val (.lst (bK 0 (names h g).length))) (fun d=>match d with|.int i=>([]++(fW (names h g) s.1 (.str q)).map D.bl).getD i.toNat .non|_=>.non) (by simp[f1,f2,Ob.d]) rfl rfl (fun x hx=>by
  obtain⟨j,hj,rfl⟩:=vI _ _ _ hx
  have hb:j<s.1.length:=by rw[S.l];exact hj
  obtain⟨u,eu⟩:=bN h g _ (List.getElem_mem hj)
  have a1:at? (names h g) j=some (.str u):=by rw[iW _ _ hj,QXq hj,eu]
  have a3:getD (aN s.1) (.int j)=some (.bl s.1[j]):=by simpa[aN]using (by rw[iW _ _ (by simpa using hb)];simp[hb])
  have v:([]++(fW (names h g) s.1 (.str q)).map D.bl).getD ((0:Int)+j).toNat .non=.bl (!(s.1[j]==decide (u=q))):=by
   rw[List.nil_append,Int.zero_add,Int.toNat_natCast,List.getD_eq_getElem?_getD,QEz,QXq (by rw[fl];exact hj)]
   have e2:fZ (names h g)[j] (.str q)=decide (u=q):=by rw[eu];rfl
   simp only[fW,List.getElem_map,List.getElem_zip,Option.map_some,Option.getD_some,e2]
   cases decide (u=q)<;>cases s.1[j]<;>rfl
  simp only[v]
  simp[s0,a3,a1,Ob.d])
 have fl':((fW (names h g) s.1 (.str q)).map D.bl).length=(names h g).length:=by rw[Qvz,fl]
 have rg:=vJ ((fW (names h g) s.1 (.str q)).map D.bl) []
 rw[fl']at rg
 rw[show((([]:List D).length):Int)=0 from rfl]at rg
 rw[rg]at this
 exact this
end
end Tx
end
section
open PySem Mini
namespace Tx
section
variable{os:List D}
noncomputable def xU(h g:Nat)(os:List D)(sts:List (List (D×Nat)))(s:St)(x:D):Option St:=
 if cC x (hd h)||cC x os then(lk x (dN sts s.2)).map fun j=>(fW (names h g) s.1 x,j)else some (fW (names h g) s.1 x,s.2)
def fM:Option St->D
 |none=>.non
 |some s=>bF s
def sdE a(j:Nat):D.tup [aN a,.int j]=bF (a,j):=rfl
def qT(T:cN h g os sts):dj os:=fun x hx=>QC g x (T.ou.subset hx)
theorem Uz{x:D}{N:Nat}:∀{st:List (D×Nat)},(∀m∈st,m.2<N)->∀{j:Nat},lk x st=some j->j<N
 |[],_,_,e=>by cases e
 |m::st,hm,j,e=>by
  simp only[lk]at e
  split at e
  ·cases e;exact hm m QYz
  ·exact Uz (fun q hq=>hm q (QYq _ hq)) e
def Xe(T:cN h g os sts)(S:Pz h g sts s)(e:xU h g os sts s x=some s'):Pz h g sts s':=by
 unfold xU at e
 split at e
 ·obtain⟨j,hj,rfl⟩:=QJz.mp e
  exact⟨uh S.l x,Uz (T.mv _ (rQ S.j)).2 hj⟩
 ·cases e
  exact⟨uh S.l x,S.j⟩
def Bb n(O:cU h g ks ls)(T:cN h g os sts)(S:Pz h g sts s)q:
  pg.fn (n+1) 23 [.val (aQ os sts),.val (bF s),.val (.str q)]=.ok (.val (.bl (cC (.str q) os&& !(lk (.str q) (dN sts s.2)).isSome))) [.val (aQ os sts),.val (bF s),.val (.str q)]:=by
 have K:=nU T O S.j
 have t0:getD (aQ os sts) (.int 0)=some (.tup os):=by simp[aQ]
 have t1:getD (aQ os sts) (.int 1)=some (.tup (sts.map iC)):=by simp[aQ]
 have s1:getD (bF s) (.int 1)=some (.int s.2):=by simp[bF]
 have i:=(tV (q:=q) (qT T)).2.1
 have i2:aG .notin (.str q) (.cP (ji (dN sts s.2)) (uL (dN sts s.2)))=some (!(lk (.str q) (dN sts s.2)).isSome):=by rw[<-FP];rfl
 rw[xm]
 cases c:cC _ os<;>rw[c]at i<;>simp[jP,t0,i,t1,s1,w5 S.j,iC,jK _ [] [] (by simpa using K.1) (by simpa using K.2),Ob.d,i2]
def RL(O:cU h g ks ls)(T:cN h g os sts)(Wk:Wt h g ks ls W)(S:Pz h g sts s)(hx:D.str q∈rP h sts W s):(cC (.str q) os&& !(lk (.str q) (dN sts s.2)).isSome)=true/\xU h g os sts s (.str q)=none\/(cC (.str q) os&& !(lk (.str q) (dN sts s.2)).isSome)=false/\xU h g os sts s (.str q)=some (fW (names h g) s.1 (.str q),(lk (.str q) (dN sts s.2)).getD s.2):=by
 unfold xU
 rcases QXz.mp hx with z|z
 ·obtain⟨z1,z2⟩:=List.mem_filter.mp z
  rw[tZ (qT T) fun w=>MJ O z1 (T.ou.subset w),lY z1 (qY h)]
  obtain⟨j,hj⟩:=Option.isSome_iff_exists.mp z2
  rw[hj]
  exact .inr ⟨rfl,rfl⟩
 ·have zr:=(Wk.sub s.1 S.l).subset z
  rw[tZ (qY h) fun w=>MJ O w zr]
  cases ho:cC _ os with
  |true=>
   cases hj:lk _ _ with
   |none=>exact .inl ⟨rfl,rfl⟩
   |some j=>exact .inr ⟨rfl,rfl⟩
  |false=>
   have hn:lk (.str q) (dN sts s.2)=none:=by
    cases hj:lk _ _ with
    |none=>rfl
    |some j=>
     rcases QXz.mp ((T.mv _ (rQ S.j)).1.subset ((Xb (nU T O S.j).1 ⟨q,rfl⟩).mp (by rw[hj];rfl)))with w|w
     ·exact absurd zr (MJ O w)
     ·rw[lY w (qT T)]at ho;cases ho
   rw[hn]
   exact .inr ⟨rfl,rfl⟩
def Ii n(O:cU h g ks ls)(T:cN h g os sts)(Wk:Wt h g ks ls W)(S:Pz h g sts s)(hx:x∈rP h sts W s):
  pg.fn (n+3) 24 [.val (aO h g ks ls),.val (aQ os sts),.val (bF s),.val x]=.ok (.val (fM (xU h g os sts s x))) [.val (aO h g ks ls),.val (aQ os sts),.val (bF s),.val x]:=by
 have K:=nU T O S.j
 obtain⟨q,rfl⟩:=bN h g x ((rO Wk S).subset hx)
 have u:=Bb (n+1) O T S q
 have t1:getD (aQ os sts) (.int 1)=some (.tup (sts.map iC)):=by simp[aQ]
 have s0:getD (bF s) (.int 0)=some (aN s.1):=by simp[bF]
 have s1:getD (bF s) (.int 1)=some (.int s.2):=by simp[bF]
 have gt:oR (.cP (ji (dN sts s.2)) (uL (dN sts s.2))) (.str q) (.int s.2)=some (.int ((lk (.str q) (dN sts s.2)).getD s.2)):=by
  show(if keyOk (.str q)then some _ else none)=_
  rw[FN]
  cases lk _ _<;>rfl
 rw[Ky]
 rcases (RL O T Wk S hx)with ⟨k1,k2⟩|⟨k1,k2⟩
 ·rw[k1]at u
  rw[k2]
  simp[oY,u,fM]
 ·rw[k1]at u
  rw[k2]
  simp[oY,u,t1,s0,s1,w5 S.j,iC,jK _ [] [] (by simpa using K.1) (by simpa using K.2),Ob.d,Dr n O S.l ⟨q,rfl⟩,oM,gt,aX,fM,sdE]
def Zi:S:=(.cons (.ite (.cmp .eq (.var 6) (.var 3)) ABj .nil) .nil)
theorem UG(c:Cf)(a b e F:D)(N:Sl){q:Str}:∀(st:List (D×Nat))(s6 s7:Sl),dj (ji st)->dD s6->dD s7->
  (∀j,lk (.str q) st=some j->∃s6' s7',dC (.tup [6,7]) (ex c Zi) (st.map uT) [.val a,.val b,.val e,.val (.str q),N,.val F,s6,s7]=.ret (.val (.tup [F,.int j])) [.val a,.val b,.val e,.val (.str q),N,.val F,s6',s7'])/\
  (lk (.str q) st=none->∃s6' s7',dC (.tup [6,7]) (ex c Zi) (st.map uT) [.val a,.val b,.val e,.val (.str q),N,.val F,s6,s7]=.next [.val a,.val b,.val e,.val (.str q),N,.val F,s6',s7'])
 |[]=>fun s6 s7 _ _ _=>⟨fun j z=>(by cases z),fun _=>⟨s6,s7,rfl⟩⟩
 |m::st=>fun s6 s7 t h6 h7=>by
  obtain⟨u,eu⟩:=t m.1 QYz
  have tt:cY (.tup [6,7]) (uT m) [.val a,.val b,.val e,.val (.str q),N,.val F,s6,s7]=some [.val a,.val b,.val e,.val (.str q),N,.val F,.val m.1,.val (.int m.2)]:=by
   rcases h6 with rfl|⟨d,rfl⟩<;>rcases h7 with rfl|⟨d,rfl⟩<;>simp[cY,ig,eG,uT]
  have ih:=UG c a b e F N (q:=q) st (.val m.1) (.val (.int m.2)) (fun x hx=>t x (QYq _ hx)) (.inr ⟨_,rfl⟩) (.inr ⟨_,rfl⟩)
  rw[Qyq,dC,tt]
  have e1:lk (.str q) (m::st)=if decide (u=q)then some m.2 else lk (.str q) st:=by rw[lk,eu];rfl
  rw[e1,eu]at*
  by_cases cq:u=q
  ·subst cq
   refine⟨fun j z=>?_,fun z=>by simp at z⟩
   simp at z
   subst z
   exact⟨.val (.str u),.val (.int m.2),by simp[Zi,aX]⟩
  ·have sk:(ex c Zi [.val a,.val b,.val e,.val (.str q),N,.val F,.val (.str u),.val (.int m.2)])=.next [.val a,.val b,.val e,.val (.str q),N,.val F,.val (.str u),.val (.int m.2)]:=by simp[Zi,cq]
   simp only[sk]
   simp only[cq,decide_false,Qyz,if_false]
   exact ih
theorem CG n(O:cU h g ks ls)(T:cN h g os sts)(S:Pz h g sts s)(hx:∃q,x=.str q):
  pg.fn (n+2) 42 [.val (aO h g ks ls),.val (aQ os sts),.val (bF s),.val x]=.ok (.val (fM (xU h g os sts s x))) [.val (aO h g ks ls),.val (aQ os sts),.val (bF s),.val x]:=by
 obtain⟨q,rfl⟩:=hx
 have ln:=lN n O
 have n0:getD (aO h g ks ls) (.int 0)=some (.tup (hd h)):=by simp[aO]
 have t0:getD (aQ os sts) (.int 0)=some (.tup os):=by simp[aQ]
 have t1:getD (aQ os sts) (.int 1)=some (.tup (sts.map iC)):=by simp[aQ]
 have s1:getD (bF s) (.int 1)=some (.int s.2):=by simp[bF]
 have st:=w5 S.j
 have i1:=(tV (q:=q) (qY h)).2.2
 have i2:=(tV (q:=q) (qT T)).2.2
 have fe:=Sw (n+1) O (aQ os sts) S (q:=q) .un .un .un
 have lg:=UG (pg.cf (n+1)) (aO h g ks ls) (aQ os sts) (bF s) (aN (fW (names h g) s.1 (.str q))) (.own (.lst (names h g))) (q:=q) _ .un .un (nU T O S.j).1 (.inl rfl) (.inl rfl)
 have it:items (iC (dN sts s.2))=some _:=rfl
 have rd:D.tup _=aN (fW (names h g) s.1 (.str q)):=rfl
 have hb:pO=⟨4,8,(.cons _ (.cons (.set 5 (.bi .tuple fgC)) (.cons _ (.cons (.for_ _ _ Zi) _))))⟩:=rfl
 have qv:fgC.az=none:=rfl
 rw[Ht,hb]
 unfold xU
 cases c1:cC _ (hd h)with
 |false=>
  cases c2:cC _ os with
  |false=>
   rw[c1]at i1
   rw[c2]at i2
   simp[ln,fe,qv,rd,n0,t0,i1,i2,s1,aX,fM,sdE]
  |true=>
   rw[c1]at i1
   rw[c2]at i2
   cases hj:lk _ _ with
   |none=>
    obtain⟨s6,s7,e⟩:=lg.2 hj
    simp[ln,fe,qv,rd,n0,t0,i1,i2,t1,s1,st,it,e,fM]
   |some j=>
    obtain⟨s6,s7,e⟩:=lg.1 j hj
    simp[ln,fe,qv,rd,n0,t0,i1,i2,t1,s1,st,it,e,fM,sdE]
 |true=>
  rw[c1]at i1
  cases hj:lk _ _ with
  |none=>
   obtain⟨s6,s7,e⟩:=lg.2 hj
   simp[ln,fe,qv,rd,n0,i1,t1,s1,st,it,e,fM]
  |some j=>
   obtain⟨s6,s7,e⟩:=lg.1 j hj
   simp[ln,fe,qv,rd,n0,i1,t1,s1,st,it,e,fM,sdE]
end
end Tx
end
section
open PySem Mini
namespace Tx
structure Cs where
 h:Nat
 g:Nat
 ks:List D
 ls:List Bool
 os:List D
 sts:List (List (D×Nat))
 W:List Bool->List D
namespace Cs
variable(C:Cs)
structure Ok:Prop where
 o:cU C.h C.g C.ks C.ls
 t:cN C.h C.g C.os C.sts
 w:Wt C.h C.g C.ks C.ls C.W
def n:D:=aO C.h C.g C.ks C.ls
def t:D:=aQ C.os C.sts
abbrev nm:List D:=names C.h C.g
abbrev S(s:St):Prop:=Pz C.h C.g C.sts s
def st(s:St):List D:=rP C.h C.sts C.W s
def led(s:St)(x:D):Option St:=xU C.h C.g C.os C.sts s x
end Cs
section
variable{C:Cs}
namespace Cs.Ok
variable(K:C.Ok)
include K
def sub(S:C.S s):(C.st s).Sublist C.nm:=rO K.w S
def Hb(S:C.S s):dj (C.st s):=fun x hx=>bN C.h C.g x ((K.sub S).subset hx)
def Xd{t:St}(S:C.S s)(e:C.led s x=some t):C.S t:=Xe K.t S e
def bH m(S:C.S s):pg.fn (m+5) 22 [.val C.n,.val C.t,.val (bF s)]=.ok (.new (.lst (C.st s))) [.val C.n,.val C.t,.val (bF s)]:=zb m K.o K.t K.w S
def gm m(S:C.S s)(hx:x∈C.st s):pg.fn (m+3) 24 [.val C.n,.val C.t,.val (bF s),.val x]=.ok (.val (fM (C.led s x))) [.val C.n,.val C.t,.val (bF s),.val x]:=Ii m K.o K.t K.w S hx
def RM m(S:C.S s)(hx:∃q,x=.str q):pg.fn (m+2) 42 [.val C.n,.val C.t,.val (bF s),.val x]=.ok (.val (fM (C.led s x))) [.val C.n,.val C.t,.val (bF s),.val x]:=CG m K.o K.t S hx
def checked m:pg.fn (m+9) 17 [.val C.n,.val C.t]=.ok (.val C.t) [.val C.n,.val C.t]:=qP m K.o K.t
end Cs.Ok
def SX m(ns:List Int)k(hk:0<=k):∃C:Cs,C.Ok/\pg.fn (m+9) 40 [.val (.lst (ns.map .int)),.val (.int k)]=.ok (.val (.tup [C.n,C.t])) [.val (.lst (ns.map .int)),.val (.int k)]:=by
 obtain⟨h,g,ks,ls,os,sts,O,T,e⟩:=SQ m ns k hk
 obtain⟨W,w⟩:=Z0 O
 exact⟨⟨h,g,ks,ls,os,sts,W⟩,⟨O,T,w⟩,e⟩
def Ls:getD C.n (.int 2)=some (aN C.ls):=by simp[Cs.n,aO];rfl
end
def sI(ls:List Bool):St:=(ls,0)
def Ex{C:Cs}(K:C.Ok):C.S (sI C.ls):=⟨by rw[gU K.o.h2 K.o.g5];exact K.o.ll,K.t.s1⟩
end Tx
end
section
open PySem Mini
namespace Tx
theorem Fx f:∀n,0<n->iu f n<n
 |0=>fun h=>absurd h (Nat.lt_irrefl 0)
 |n+1=>fun _=>by
  rw[iu]
  split
  ·omega
  ·cases n with
   |zero=>simp[iu]
   |succ n=>have:=Fx f (n+1) (by omega);omega
def nW:D->Str
 |.str x=>x
 |_=>""
def iJ(nm:List D)(ss:gF)(tm:Int):gF:=nm.map fun x=>(nW x,(aU (nW x) ss).getD tm)
def scT(t:Int)(ls:gF):gF:=ls.map fun p=>(p.1,p.2*t)
theorem yP(F:D->Int):∀{nm:List D},dj nm->nR nm (nm.map fun x=>.int (F x))=some (nm.map fun x=>(nW x,F x))
 |[]=>fun _=>rfl
 |x::nm=>fun h=>by
  obtain⟨q,rfl⟩:=h x QYz
  simp[nR,yP F fun y hy=>h y (QYq _ hy),nW]
theorem nQ x:∀ss:gF,eN (.str x) (gA ss) (jr ss)=(aU x ss).map D.int
 |[]=>rfl
 |p::ss=>by
  have:=nQ x ss
  simp only[gA,jr]at this
  simp only[gA,jr,Qyq,eN,aU,fZ]
  by_cases c:p.1=x<;>simp[c,this]
theorem jJ(F:D->D):∀(xs ks vs:List D),dj (ks++xs)->(ks++xs).Nodup->dictOf ks vs (xs.map fun x=>.tup [x,F x])=some (ks++xs,vs++xs.map F)
 |[]=>fun ks vs _ _=>by simp[dictOf]
 |x::xs=>fun ks vs h nd=>by
  obtain⟨s,e⟩:=h x (by simp)
  have no:cC x ks=false:=by
   rw[e]
   refine tZ (fun y hy=>h y (QWz _ hy)) fun hm=>?_
   rw[List.nodup_append]at nd
   exact nd.2.2 _ hm _ QYz e.symm
  have r:=jJ F xs (ks++[x]) (vs++[F x]) (by simpa using h) (by simpa using nd)
  have kk:keyOk x=true:=by rw[e];rfl
  rw[Qyq,dictOf,if_pos kk]
  simp only[putD,no]
  rw[if_neg (by simp),r]
  simp
def swC:E:=.comp 1 (.name 0) (.var 0) AAH (.tup AAt)
def J4 n ss t(tx:dj xs)(nd:xs.Nodup):
  pg.fn (n+1) 27 [.val (.lst xs),.bor (.dct (gA ss) (jr ss)),.val (.int t)]=.ok (.new (.dct xs (xs.map fun x=>.int ((aU (nW x) ss).getD t)))) [.val (.lst xs),.bor (.dct (gA ss) (jr ss)),.val (.int t)]:=by
 have e:=mR (c:=pg.cf n) (it:=.var 0) (el:=.tup AAt) (σ:=[.val (.lst xs),.bor (.dct (gA ss) (jr ss)),.val (.int t)]) (τ:=[.val (.lst xs),.bor (.dct (gA ss) (jr ss)),.val (.int t)]) (r:=.val (.lst xs)) (fun x=>.tup [x,.int ((aU (nW x) ss).getD t)]) (by simp) rfl rfl (fun x hx=>by
  obtain⟨q,rfl⟩:=tx x hx
  have g:oR (.cP (gA ss) (jr ss)) (.str q) (.int t)=some (.int ((aU q ss).getD t)):=by
   show(if keyOk (.str q)then some _ else none)=_
   rw[if_pos (show keyOk _=true from rfl),nQ]
   cases aU q ss<;>rfl
  simp[aX,g,nW,Ob.d])
 have e':ev _ swC [.val _,.bor _,.val _]=_:=e
 have d:=jJ (fun x=>.int ((aU (nW x) ss).getD t)) xs [] [] (by simpa using tx) (by simpa using nd)
 have b:b1 .dict (.lst (xs.map fun x=>.tup [x,.int ((aU (nW x) ss).getD t)]))=some (.new (.dct xs (xs.map fun x=>.int ((aU (nW x) ss).getD t)))):=by
  show(dictOf [] [] _).map _=_
  rw[d];rfl
 have q:swC.az=none:=rfl
 have hb:jO=⟨3,3,(.cons (.ret (.bi .dict swC)) .nil)⟩:=rfl
 rw[xj,hb]
 simp[q,e',Ob.d,b]
def vq n ss t(tx_:dj xs)(nd:xs.Nodup):sr (tx.gf (pg.cf (n+1))) xs ss t=some (iJ xs ss t):=by
 have e:sr (tx.gf (pg.cf (n+1))) xs ss t=Lj (pg.fn _ 27 [.val _,.bor _,.val _]):=rfl
 rw[e,J4 n ss t tx_ nd]
 exact yP _ tx_
end Tx
end
section
open PySem Mini
namespace Tx
structure Ps where
 cs:List (Int×Str)
 o:Option St
 ss:gF
def yG(cs:List (Int×Str)):List D:=cs.map fun p=>.tup [.int p.1,.str p.2]
def Ps.gs(g:Ps):Gs:=⟨yG g.cs,fM g.o,g.ss⟩
def Cs.Pu(C:Cs):Option St->List D
 |some s=>C.st s
 |none=>[]
def Cs.next(C:Cs)(g:Ps)(x:Str):Option St:=g.o.bind fun s=>C.led s (.str x)
def dR(ls ss:gF):Nat:=iu (fB ls ss) ss.length
def gb(ls ss:gF):Str:=((ss[dR ls ss]?).map (·.1)).getD ""
noncomputable def Cs.stp(C:Cs)(ls:gF)(g:Ps):Ps:=
 ⟨g.cs++[(fB ls g.ss (dR ls g.ss),gb ls g.ss)],C.next g (gb ls g.ss),iJ (C.Pu (C.next g (gb ls g.ss))) (g.ss.filter fun q=>decide (q.1≠gb ls g.ss)) (fB ls g.ss (dR ls g.ss))⟩
noncomputable def Cs.go(C:Cs)(ls:gF)(k:Nat):Nat->Ps->Ps
 |0,g=>g
 |m+1,g=>if !g.ss.isEmpty&&decide (g.cs.length<k)then C.go ls k m (C.stp ls g)else g
def Cs.ini(C:Cs):Ps:=⟨[],some (sI C.ls),iJ (C.st (sI C.ls)) [] 0⟩
structure Cs.Pk(C:Cs)(g:Ps):Prop where
 o:∀s,g.o=some s->C.S s
 k:gA g.ss=C.Pu g.o
def xM(h:dj nm)ss t:gA (iJ nm ss t)=nm:=by
 simp only[gA,iJ,List.map_map]
 refine(List.map_congr_left fun x hx=>?_).trans (List.map_id nm)
 obtain⟨q,rfl⟩:=h x hx
 rfl
theorem lZ{x:Str}{i:Int}:∀{ss:gF},(gA ss).Nodup->(x,i)∈ss->aU x ss=some i
 |[]=>fun _ h=>by cases h
 |p::ss=>fun nd h=>by
  have nd':D.str p.1∉gA ss/\(gA ss).Nodup:=List.nodup_cons.mp nd
  rcases QBz.mp h with e|e
  ·subst e;simp[aU]
  ·have ne:¬p.1=x:=fun z=>nd'.1 (by rw[z];exact QCz.mpr ⟨(x,i),e,rfl⟩)
   simp[aU,ne,lZ nd'.2 e]
section
variable{C:Cs}{ls:gF}
def lL(K:C.Ok)(h:∀s,o=some s->C.S s):(C.Pu o).Nodup/\dj (C.Pu o)/\∀x∈C.Pu o,x∈C.nm:=by
 cases o with
 |none=>exact⟨List.nodup_nil,(fun x hx=>by cases hx),(fun x hx=>by cases hx)⟩
 |some s=>exact⟨(K.sub (h s rfl)).nodup (names_nodup K.o.h2 K.o.g1 K.o.g5),K.Hb (h s rfl),fun x hx=>(K.sub (h s rfl)).subset hx⟩
def Ek(K:C.Ok)(P:C.Pk g):C.Pk (C.stp ls g):=by
 have h:∀s,C.next g (gb ls g.ss)=some s->C.S s:=fun s e=>by
  obtain⟨s0,e0,e1⟩:=QJq.mp e
  exact K.Xd (P.o s0 e0) e1
 exact⟨h,xM (lL K h).2.1 _ _⟩
def Mx(K:C.Ok):C.Pk C.ini:=⟨fun s e=>by cases e;exact Ex K,xM (K.Hb (Ex K)) _ _⟩
def acs(C:Cs)(ls:gF):Prop:=∀x:Str,D.str x∈C.nm->(aU x ls).isSome=true
def Fv{g:Ps}(ne:g.ss≠[]):∃p,g.ss[dR ls g.ss]? =some p/\p∈g.ss/\gb ls g.ss=p.1:=by
 have l:dR ls g.ss<g.ss.length:=Fx _ _ (List.length_pos_iff.mpr ne)
 have e:=QXq l
 exact⟨_,e,List.getElem_mem l,by rw[gb,e];rfl⟩
def Qp n(K:C.Ok)(P:C.Pk g)(hl:acs C ls)(ne:g.ss≠[])(hc:g.cs.length<=1000):kj (tx.gf (pg.cf (n+5))) C.n C.t ls g.gs=some (C.stp ls g).gs:=by
 obtain⟨nd,tx_,sub⟩:=lL K P.o
 rw[<-P.k]at nd tx_ sub
 have ok:okT ls g.ss=true:=by
  unfold okT
  rw[List.all_eq_true]
  intro p hp
  rw[lZ nd hp,hl p.1 (sub _ (QCz.mpr ⟨p,hp,rfl⟩))]
  simp
 have f1:fits ((yG g.cs).length+1)=true:=by simp[yG,fits];omega
 obtain⟨p,e,hp,en⟩:=Fv (ls:=ls) ne
 obtain⟨s,hs⟩:∃s,g.o=some s:=by
  cases q:g.o with
  |some s=>exact⟨s,rfl⟩
  |none=>
   have:=P.k
   rw[q]at this
   exact absurd (List.map_eq_nil_iff.mp this) ne
 have S:=P.o s hs
 have hx:D.str p.1∈C.st s:=by
  have:=P.k
  rw[hs]at this
  rw[show C.st s=gA g.ss from this.symm]
  exact QCz.mpr ⟨p,hp,rfl⟩
 have lt:=K.gm (n+2) S hx
 have nx:C.next g (gb ls g.ss)=C.led s (.str p.1):=by rw[en,Cs.next,hs];rfl
 have P':=Ek (ls:=ls) K P
 have sn:=lL K P'.o
 have nm:xP (tx.gf (pg.cf (n+5))) C.n C.t (fM (C.led s (.str p.1)))=some (C.Pu (C.led s (.str p.1))):=by
  cases q:C.led s (.str p.1)with
  |none=>rfl
  |some s'=>
   have e:xP (tx.gf (pg.cf (n+5))) C.n C.t (fM (some s'))=HY (pg.fn (n+5) 22 [.val C.n,.val C.t,.val (bF s')]):=rfl
   rw[e,K.bH n (K.Xd S q)]
   rfl
 have si:=vq (n+4) (xs:=C.Pu (C.led s (.str p.1))) (g.ss.filter fun q=>decide (q.1≠p.1)) (fB ls g.ss (dR ls g.ss)) (nx▸sn.2.1) (nx▸sn.1)
 unfold kj
 show(if okT ls g.ss&&fits ((yG g.cs).length+1)then match g.ss[dR ls g.ss]? with|none=>none|some p=>_ else none)=_
 have lt':Az ((tx.gf (pg.cf (n+5))).led [.val C.n,.val C.t,.val g.gs.sd,.val (.str p.1)])=some (fM (C.led s (.str p.1))):=by
  have e:(tx.gf (pg.cf (n+5))).led [.val C.n,.val C.t,.val g.gs.sd,.val (.str p.1)]=pg.fn (n+5) 24 [.val C.n,.val C.t,.val (fM g.o),.val (.str p.1)]:=rfl
  rw[e,hs]
  show Az (pg.fn (n+2+3) 24 [.val C.n,.val C.t,.val (bF s),.val (.str p.1)])=_
  rw[lt]
  rfl
 rw[ok,f1,e]
 simp only[lt',nm,QFq,Bool.and_self,if_true]
 have si':sr (tx.gf (pg.cf (n+5))) (C.Pu (C.led s (.str p.1))) (g.gs.ss.filter fun q=>decide (q.1≠p.1)) (fB ls g.gs.ss (iu (fB ls g.gs.ss) g.gs.ss.length))=_:=si
 rw[si']
 have nx2:C.next g p.1=C.led s (.str p.1):=by rw[<-en];exact nx.trans (by rw[en])
 simp only[Option.map_some,Cs.stp,Ps.gs,en,nx2,yG,List.map_append,Qyq,List.map_nil]
 rfl
theorem FJ(n:Nat)(K:C.Ok)(hl:acs C ls){k:Nat}(hk:k<=1000):∀(m:Nat){g:Ps},C.Pk g->k<m+g.cs.length->mQ (kj (tx.gf (pg.cf (n+5))) C.n C.t ls) k m g.gs=some (C.go ls k m g).gs\/(m=0)
 |0,_,_,_=>.inr rfl
 |m+1,g,P,h=>by
  refine .inl ?_
  rw[mQ,Cs.go]
  have e:decide (((Ps.gs g).cs.length)< (k:Int))=decide (g.cs.length<k):=by
   simp[Ps.gs,yG]
  rw[e]
  show(if !g.ss.isEmpty&&decide _ then _ else _)=_
  cases c:(!g.ss.isEmpty&&decide (g.cs.length<k))with
  |false=>rfl
  |true=>
   simp only[QUq,Bool.not_eq_true',QUz]at c
   have ne:g.ss≠[]:=fun z=>by rw[z]at c;simp at c
   rw[if_pos rfl,Qp n K P hl ne (by omega)]
   show mQ _ _ m (C.stp ls g).gs=_
   have hc:(C.stp ls g).cs.length=g.cs.length+1:=by simp[Cs.stp]
   rcases FJ n K hl hk m (Ek (ls:=ls) K P) (by omega)with z|z
   ·rw[z];rfl
   ·omega
def aF(nm:List D)(ws:List Int):gF:=(nm.zip ws).map fun p=>(nW p.1,p.2)
theorem yO:∀{nm:List D}{ws:List Int},dj nm->ws.length=nm.length->nR nm (ws.map .int)=some (aF nm ws)
 |[],[]=>fun _ _=>rfl
 |[],_::_=>fun _ h=>by simp at h
 |_::_,[]=>fun _ h=>by simp at h
 |x::nm,w::ws=>fun h hl=>by
  obtain⟨q,rfl⟩:=h x QYz
  have:=yO (fun y hy=>h y (QYq _ hy)) (by simpa using hl)
  simp[nR,this,aF,nW]
theorem vV:∀{nm:List D}{ws:List Int},dj nm->ws.length=nm.length->∀x:Str,D.str x∈nm->(aU x (aF nm ws)).isSome=true
 |[],_=>fun _ _ x hx=>by cases hx
 |_::_,[]=>fun _ h _ _=>by simp at h
 |y::nm,w::ws=>fun h hl x hx=>by
  obtain⟨q,rfl⟩:=h y QYz
  have:=vV (fun y hy=>h y (QYq _ hy)) (by simpa using hl) x
  simp only[aF,List.zip_cons_cons,Qyq,aU,nW]
  by_cases c:q=x
  ·simp[c]
  ·rw[if_neg c]
   rcases QBz.mp hx with z|z
   ·cases z;exact absurd rfl c
   ·exact this z
def vL n k a b:pg.fn (n+1) 4 [.val (.int k),.val (.int a),.val (.int b)]=.ok (.val (.bl (decide (a<=k)&&decide (k<=b)))) [.val (.int k),.val (.int a),.val (.int b)]:=by
 rw[qi]
 by_cases c:a<=k<;>simp[iM,c,qL]
def Vc(C:Cs)(ws:List Int):Prop:=ws.length=C.nm.length/\∀w∈ws,1<=w/\w<=99
abbrev jV(ws:List Int):D:=.tup (ws.map .int)
def cwC:E:=.comp 1 (.name 0) (.var 2) AAH (.call 4 ABL)
def Oe n(K:C.Ok)(H:Vc C ws):pg.fn (n+10) 26 [.val C.n,.val C.t,.val (jV ws)]=.ok (.val .non) [.val C.n,.val C.t,.val (jV ws)]:=by
 have ck:=K.checked n
 have ll:C.ls.length=C.nm.length:=by rw[gU K.o.h2 K.o.g5];exact K.o.ll
 have n2:getD C.n (.int 2)=some (aN C.ls):=Ls
 have le:b1 .len (aN C.ls)=some (.val (.int C.nm.length)):=by simp[aN,b1,zP,ll]
 have tu:pg.fn (n+9) 3 [.val (jV ws),.val (.int C.nm.length),.val (.int C.nm.length)]=.ok (.val (.bl true)) [.val (jV ws),.val (.int C.nm.length),.val (.int C.nm.length)]:=by
  rw[sJ]
  simp[jQ,qL,H.1]
 have e:ev (pg.cf (n+9)) cwC [.val C.n,.val C.t,.val (jV ws),.val (.int C.nm.length)]=.ok (.new (.lst ((ws.map fun _=>true).map .bl))) [.val C.n,.val C.t,.val (jV ws),.val (.int C.nm.length)]:=by
  have:=mR (c:=pg.cf (n+9)) (it:=.var 2) (el:=.call 4 ABL) (σ:=[.val C.n,.val C.t,.val (jV ws),.val (.int C.nm.length)]) (τ:=[.val C.n,.val C.t,.val (jV ws),.val (.int C.nm.length)]) (r:=.val (jV ws)) (fun _=>.bl true) (by simp) rfl rfl (fun x hx=>by
   obtain⟨w,hw,rfl⟩:=QCz.mp hx
   have:=vL (n+8) w 1 99
   have b:=H.2 w hw
   have g9:pg.gl 9=some (.int 99):=rfl
   simp[this,b.1,b.2,g9])
  rw[List.map_map]at this⊢
  exact this
 have bb:=jl (ws.map fun _=>true)
 have al:(ws.map fun _=>true).all id=true:=by simp
 generalize (ws.map fun _=>true)=row at e bb al
 have q:cwC.az=none:=rfl
 have hb:iV=⟨3,4,(.cons (.expr ABv) (.cons (.set 3 (.bi .len AAr)) (.cons (.ite (.or (.cons ABx (.cons (.not (.bi .all cwC)) .nil))) ABl .nil) .nil)))⟩:=rfl
 rw[uP,hb]
 simp[ck,n2,le,tu,q,e,Ob.d,bb,al]
def Np n:pg.fn (n+1) 21 [.val C.n]=.ok (.val (bF (sI C.ls))) [.val C.n]:=by
 have n2:getD C.n _=some _:=Ls
 rw[uO]
 simp[iU,n2,aX,bF,sI]
def Cy n(K:C.Ok)(H:Vc C ws):Rw (ev (pg.cf (n+10)) tx.mz [.un,.val C.n,.val C.t,.val (jV ws)])=some (aF C.nm ws):=by
 have w:pg.fn _ 13 [.val C.n]=.ok (.new (.lst C.nm)) [.val C.n]:=
  eZ (n+9) _ _ C.ks _ (by rw[K.o.kl,eV K.o.g5]) (by rw[iw K.o.h2,eV K.o.g5];have:=K.o.h2;have:=K.o.g5;omega)
 have dz:dictOf [] [] _=some (C.nm,ws.map .int):=Ad (by simpa using H.1) (bN _ _) (names_nodup K.o.h2 K.o.g1 K.o.g5)
 have z:bJ (jV ws)=some _:=rfl
 have e:ev (pg.cf (n+10)) tx.mz [.un,.val C.n,.val C.t,.val (jV ws)]=.ok (.new (.dct C.nm (ws.map .int))) [.un,.val C.n,.val C.t,.val (jV ws)]:=by
  simp[tx,w,z,dz,Ob.d]
 rw[e]
 exact yO (bN _ _) H.1
def yh(g:Ps):D:=if g.o.isNone then .str "unasked" else if g.ss.isEmpty then .str "end" else .str "on"
theorem JM n(K:C.Ok)(H:Vc C ws){k:Nat}(hk:k<=200):
  pg.fn (n+11) 44 [.val C.n,.val C.t,.val (jV ws),.val (.int k)]=.ok (.val (.tup [.lst (yG (C.go (aF C.nm ws) k 1000 C.ini).cs),yh (C.go (aF C.nm ws) k 1000 C.ini)])) [.val C.n,.val C.t,.val (jV ws),.val (.int k)]:=by
 rw[QW]
 have i1:Mt (pg.fn (n+10) 26 [.val C.n,.val C.t,.val (jV ws)])=true:=by rw[Oe n K H];rfl
 have i2:isT (pg.fn (n+10) 4 [.val (.int k),.val (.int 0),.val (.int 200)])=true:=by
  rw[vL,show(decide ((0:Int)<=k)&&decide ((k:Int)<=200))=true by simp;omega]
  rfl
 have ii:RX tx (pg.cf (n+10)) C.n C.t (jV ws)=some (aF C.nm ws,C.ini.gs):=by
  have S:=Ex K
  unfold RX
  have e1:Az ((pg.cf (n+10)).fn tx.fst [.val C.n])=some (bF (sI C.ls)):=by
   have e:(pg.cf (n+10)).fn tx.fst [.val C.n]=pg.fn (n+10) 21 [.val C.n]:=rfl
   rw[e,Np]
   rfl
  have e2:HY ((pg.cf (n+10)).fn tx.stp [.val C.n,.val C.t,.val (bF (sI C.ls))])=some (C.st (sI C.ls)):=by
   have e:(pg.cf (n+10)).fn tx.stp [.val C.n,.val C.t,.val (bF (sI C.ls))]=pg.fn (n+5+5) 22 [.val C.n,.val C.t,.val (bF (sI C.ls))]:=rfl
   rw[e,K.bH (n+5) S]
   rfl
  have e3:=vq (n+9) (xs:=C.st (sI C.ls)) [] 0 (K.Hb S) ((K.sub S).nodup (names_nodup K.o.h2 K.o.g1 K.o.g5))
  simp only[Cy n K H,e1,e2,QFq]
  rw[e3]
  rfl
 have lo:=(FJ (ls:=aF C.nm ws) (n+5) K (vV (bN _ _) H.1) (k:=k) (by omega) 1000 (Mx K) (by omega)).resolve_right (by omega)
 have j1:Mt ((pg.cf (n+10)).fn tx.chk [.val C.n,.val C.t,.val (jV ws)])=true:=i1
 have j2:isT ((pg.cf (n+10)).fn tx.isn [.val (.int k),.val (.int 0),.val (.int tx.top)])=true:=i2
 have j3:mQ (kj (tx.gf (pg.cf (n+10))) C.n C.t (aF C.nm ws)) k (pg.cf (n+10)).turns C.ini.gs=_:=lo
 rw[eQ]
 simp only[j1,j2,ii,j3,QFq,Bool.and_self,if_true]
 have ee:Nv (C.go (aF C.nm ws) k 1000 C.ini).gs=yh (C.go (aF C.nm ws) k 1000 C.ini):=by
  generalize C.go (aF C.nm ws) k 1000 C.ini=g
  unfold Nv yh
  show(if fj (fM g.o)then _ else if g.ss.isEmpty then _ else _)=_
  cases g.o with
  |none=>rfl
  |some s=>rfl
 rw[ee]
 rfl
end
end Tx
end
section
open PySem Mini
namespace Tx
section
variable{C:Cs}
def Lp(t:∀x∈xs,x∈C.nm):o4 xs=true/\qO xs=0:=by
 have ok:∀s∈Uw 3 5,sOk s=true:=by decide+kernel
 induction xs with
 |nil=>exact⟨rfl,rfl⟩
 |cons x xs ih=>
  have m:=t x QYz
  rw[Cs.nm,oH]at m
  obtain⟨s,hs,rfl⟩:=QCz.mp m
  have i:=ih fun y hy=>t y (QYq _ hy)
  exact⟨by simp[o4,nd,ok s (Fq hs),i.1],by simp[qO,dep,i.2]⟩
end
mutual
theorem Sx:∀d:D,nd d=true->fZ d d=true
 |.non=>fun _=>rfl
 |.bl b=>fun _=>by cases b<;>rfl
 |.int i=>fun _=>by simp[fZ]
 |.str s=>fun _=>by simp[fZ]
 |.tup xs=>fun h=>by simpa[fZ]using ul xs h
 |.lst xs=>fun h=>by simpa[fZ]using ul xs h
 |.cP _ _=>fun h=>by simp[nd]at h
theorem ul:∀xs:List D,o4 xs=true->Aa xs xs=true
 |[]=>fun _=>rfl
 |x::xs=>fun h=>by
  simp only[o4,QUq]at h
  simp[Aa,Sx x h.1,ul xs h.2]
end
end Tx
end
section
open PySem Mini
namespace Tx
theorem Fy(f:Nat->Int):∀n,0<n->∀j,j<n->f (iu f n)<=f j
 |0=>fun h _ _=>absurd h (Nat.lt_irrefl 0)
 |1=>fun _ j hj=>by
  have:j=0:=by omega
  subst this
  simp[iu]
 |n+2=>fun _ j hj=>by
  have h:=Fy f (n+1) (by omega)
  rw[iu]
  split
  ·by_cases e:j=n+1
   ·subst e;exact Int.le_refl _
   ·have:=h j (by omega);omega
  ·by_cases e:j=n+1
   ·subst e;omega
   ·exact h j (by omega)
def uK(ls:gF)(x:Str):Int:=(aU x ls).getD 0
section
variable{C:Cs}{ls:gF}
def Gp{g:Ps}(hq:q∈g.ss):fB ls g.ss (dR ls g.ss)<=q.2+uK ls q.1:=by
 obtain⟨j,hj,e⟩:=List.mem_iff_getElem.mp hq
 have:=Fy (fB ls g.ss) g.ss.length (by omega) j hj
 have d:fB ls g.ss j=q.2+uK ls q.1:=by
  unfold fB uK
  rw[QXq hj,e]
 rw[d]at this
 exact this
def Yo{g:Ps}(e:g.ss[dR ls g.ss]? =some p):fB ls g.ss (dR ls g.ss)=p.2+uK ls p.1:=by
 show(match g.ss[dR ls g.ss]? with|some p=>p.2+(aU p.1 ls).getD 0|none=>0)=_
 rw[e]
 rfl
noncomputable def Cs.tr(C:Cs)(ls:gF)(k:Nat):Nat->Ps->List (Int×Str)
 |0,_=>[]
 |m+1,g=>if !g.ss.isEmpty&&decide (g.cs.length<k)then(fB ls g.ss (dR ls g.ss),gb ls g.ss)::C.tr ls k m (C.stp ls g)else []
theorem U3 k:∀(m:Nat)(g:Ps),(C.go ls k m g).cs=g.cs++C.tr ls k m g
 |0=>fun g=>by simp[Cs.go,Cs.tr]
 |m+1=>fun g=>by
  rw[Cs.go,Cs.tr]
  cases (!g.ss.isEmpty&&decide (g.cs.length<k))with
  |false=>simp
  |true=>
   rw[if_pos rfl,if_pos rfl,U3 k m]
   simp[Cs.stp]
theorem M6(k:Nat):∀(m:Nat)(g:Ps),k<m+g.cs.length->g.cs.length<=k->((C.go ls k m g).ss=[]\/(C.go ls k m g).cs.length=k)
 |0=>fun g h h2=>by omega
 |m+1=>fun g h h2=>by
  rw[Cs.go]
  cases c:(!g.ss.isEmpty&&decide (g.cs.length<k))with
  |false=>
   rw[if_neg (by decide)]
   rw[Bool.and_eq_false_iff]at c
   rcases c with c|c
   ·left;simpa using c
   ·right;have:=of_decide_eq_false c;omega
  |true=>
   simp only[QUq,QUz]at c
   have hc:(C.stp ls g).cs.length=g.cs.length+1:=by simp[Cs.stp]
   exact M6 k m _ (by omega) (by omega)
theorem abL(K:C.Ok)k:∀(m:Nat)(g:Ps),C.Pk g->C.Pk (C.go ls k m g)
 |0=>fun _ P=>P
 |m+1=>fun g P=>by
  rw[Cs.go]
  cases (!g.ss.isEmpty&&decide (g.cs.length<k))with
  |false=>exact P
  |true=>exact abL K k m _ (Ek K P)
def Lst(ls:gF)(g:Ps)(last:Int):Prop:=∀q∈g.ss,last<=q.2+uK ls q.1
theorem jH x y:∀ss:gF,aU y (ss.filter fun q=>decide (q.1≠x))=if y=x then none else aU y ss
 |[]=>by simp[aU]
 |p::ss=>by
  have i:=jH x y ss
  rw[List.filter_cons]
  by_cases c:p.1=x
  ·subst c
   simp only[ne_eq,not_true,decide_false,Qyz,if_false,i,aU]
   by_cases d:p.1=y
   ·simp[d]
   ·have d':¬y=p.1:=fun z=>d z.symm
    simp[d,d']
  ·simp only[ne_eq,c,not_false_iff,decide_true,if_true,aU,i]
   by_cases d:p.1=y
   ·subst d;simp[c]
   ·simp[d]
def RD(hw:∀x,0<=uK ls x):Lst ls (C.stp ls g) (fB ls g.ss (dR ls g.ss)):=by
 intro q hq
 obtain⟨y,_,rfl⟩:=QCz.mp hq
 rw[jH]
 by_cases c:nW y=gb ls g.ss
 ·rw[if_pos c]
  have:=hw (nW y)
  simp
  omega
 ·rw[if_neg c]
  cases e:aU _ g.ss with
  |none=>have:=hw (nW y);simp;omega
  |some v=>
   have mem:∀{ss:gF},aU (nW y) ss=some v->(nW y,v)∈ss:=by
    intro ss
    induction ss with
    |nil=>intro z;cases z
    |cons p ss ih=>
     intro z
     simp only[aU]at z
     split at z
     ·rename_i h;cases z;rw[<-h];exact QYz
     ·exact QYq _ (ih z)
   exact Gp (mem e)
theorem FZ:∀{nm:List D}{ws:List Int},dj nm->ws.length=nm.length->∀{x:Str},D.str x∈nm->(di (.str x) nm)<ws.length/\ws[di (.str x) nm]? =some (uK (aF nm ws) x)
 |[],_,_,_,x,hx=>by cases hx
 |_::_,[],_,h,_,_=>by simp at h
 |y::nm,w::ws,h,hl,x,hx=>by
  obtain⟨q,rfl⟩:=h y QYz
  have i:=FZ (fun y hy=>h y (QYq _ hy)) (by simpa using hl) (x:=x)
  simp only[uK,aF,List.zip_cons_cons,Qyq,aU,nW,di,fZ]
  by_cases c:q=x
  ·simp[c]
  ·have hx':D.str x∈nm:=by
    rcases QBz.mp hx with z|z
    ·cases z;exact absurd rfl c
    ·exact z
   have j:=i hx'
   simp only[c,decide_false,Qyz,if_false,QAz,List.getElem?_cons_succ]
   exact⟨by omega,j.2⟩
def UL(K:C.Ok)(H:Vc C ws)(hx:D.str x∈C.nm):Mz (.lst C.nm) (.str x)=some (.val (.int (di (.str x) C.nm)))/\at? (ws.map D.int) (di (.str x) C.nm:Int)=some (.int (uK (aF C.nm ws) x)):=by
 have T:=bN C.h C.g
 obtain⟨a,b⟩:=FZ T H.1 hx
 constructor
 ·show(if flat _&&C.nm.all flat&&cC _ C.nm then _ else _)=_
  rw[mj T,lY hx T]
  rfl
 ·rw[iW _ _ (by simpa using a)]
  simp[b]
def Tu(hw:∀w∈ws,1<=w/\w<=99)nm x:0<=uK (aF nm ws) x:=by
 unfold uK
 cases e:aU x _ with
 |none=>simp
 |some v=>
  have mem:∀{l:gF},aU x l=some v->(x,v)∈l:=by
   intro l
   induction l with
   |nil=>intro z;cases z
   |cons p l ih=>
    intro z
    simp only[aU]at z
    split at z
    ·rename_i h;cases z;rw[<-h];exact QYz
    ·exact QYq _ (ih z)
  obtain⟨p,hp,e2⟩:=QCz.mp (mem e)
  cases e2
  have:=(hw _ (List.of_mem_zip hp).2).1
  simp
  omega
end
end Tx
end
section
open PySem Mini
namespace Tx
section
variable{C:Cs}
def rN n(K:C.Ok)(S:C.S s):pg.fn (n+10) 20 [.val C.n,.val C.t,.val (bF s)]=.ok (.new (.lst (C.st s))) [.val C.n,.val C.t,.val (bF s)]:=by
 have a:=K.checked n
 have b:=K.bH (n+4) S
 rw[QX]
 simp[yx,a,b]
def ltE:E:=.comp 1 (.name 0) (.var 9) (.cmp .lt AAm (.var 12)) (.var 0)
def dcE:E:=.comp 1 (.name 0) (.var 14) AAH (.tup AAS)
noncomputable def Z1:S:=.cons (.ite (.or (.cons (.cmp .jG (.var 8) ACZ) AAi)) AAQ .nil) (.cons (.set 13 ltE) (.cons (.ite (.cmp .ne (.var 13) ABq) AAQ .nil) (.cons (.set 10 (.var 11)) (.cons ABO (.cons (.ite (.cmp .notN (.var 8) ACZ) (.cons (.set 14 AAR) (.cons (.set 9 (.bi .dict dcE)) .nil)) .nil) .nil)))))
def slD(ss:gF)(s:Sl):Prop:=s=.own (.dct (gA ss) (jr ss))\/s=.val (.cP (gA ss) (jr ss))
def slN(C:Cs)(s:Sl):Prop:=s=.own (.lst C.nm)\/s=.val (.lst C.nm)
variable{ws:List Int}{ss:gF}
def RN(n:Nat)(K:C.Ok)(H:Vc C ws)(a0 a3 c7 c8 c10 c12 c13 c14:Sl)(cs:D){tm:Int}(nd:(gA ss).Nodup)(sub:∀x∈gA ss,x∈C.nm)(lt:∀q∈ss,tm<=q.2+uK (aF C.nm ws) q.1){u9:Sl}(h9:slD ss u9):
  ev (pg.cf n) ltE [a0,.val C.n,.val C.t,a3,.val (.lst C.nm),.val (jV ws),.val cs,c7,c8,u9,c10,.val (.int tm),c12,c13,c14]=.ok (.new (.lst [])) [a0,.val C.n,.val C.t,a3,.val (.lst C.nm),.val (jV ws),.val cs,c7,c8,.val (.cP (gA ss) (jr ss)),c10,.val (.int tm),c12,c13,c14]:=by
 have:=Dj (c:=pg.cf n) (it:=.var 9) (co:=.cmp .lt AAm (.var 12)) (el:=.var 0) (σ:=[a0,.val C.n,.val C.t,a3,.val (.lst C.nm),.val (jV ws),.val cs,c7,c8,u9,c10,.val (.int tm),c12,c13,c14]) (τ:=[a0,.val C.n,.val C.t,a3,.val (.lst C.nm),.val (jV ws),.val cs,c7,c8,.val (.cP (gA ss) (jr ss)),c10,.val (.int tm),c12,c13,c14]) (d:=.cP (gA ss) (jr ss)) (xs:=gA ss) (r:=.val (.cP (gA ss) (jr ss))) (fun x=>x) (fun _=>false) (by rcases h9 with rfl|rfl<;>simp[Ob.d]) rfl rfl (fun x hx=>by
   obtain⟨q,hq,rfl⟩:=QCz.mp hx
   have g:getD (.cP (gA ss) (jr ss)) (.str q.1)=some (.int q.2):=by
    show(if keyOk (.str q.1)then eN (.str q.1) (gA ss) (jr ss)else none)=_
    rw[if_pos (show keyOk (.str q.1)=true from rfl),nQ,lZ nd hq]
    rfl
   obtain⟨i1,i2⟩:=UL K H (sub _ hx)
   have l:=lt q hq
   have d:¬(q.2+uK (aF C.nm ws) q.1<tm):=by omega
   have w:getD (jV ws) (.int (di (.str q.1) C.nm))=some (.int (uK (aF C.nm ws) q.1)):=i2
   have lo:jf (.lst C.nm)=some C.nm:=rfl
   have lq:W9 (.int (q.2+uK (aF C.nm ws) q.1)) (.int tm)=some false:=by simp[W9,d]
   have cq:aG .lt (.int (q.2+uK (aF C.nm ws) q.1)) (.int tm)=some false:=lq
   generalize jV ws=WS at*
   simp[g,i1,lo,w,cq]) (fun x _ z=>by cases z)
 rw[show(gA ss).filter (fun _=>false)=[] by simp]at this
 exact this
def OJ(n:Nat){xs:List D}(a0 a1 a2 a3 a4 a5 a6 a7 a8 a10 a13:Sl){tm:Int}{x:Str}{fl:gF}(hfl:∀y,aU y fl=if y=x then none else aU y ss)(tx_:dj xs)(nd:xs.Nodup){u14:Sl}(h14:u14=.own (.lst xs)\/u14=.val (.lst xs)):
  ev (pg.cf n) (.bi .dict dcE) [a0,a1,a2,a3,a4,a5,a6,a7,a8,.val (.cP (gA ss) (jr ss)),a10,.val (.int tm),.val (.str x),a13,u14]=.ok (.new (.dct (gA (iJ xs fl tm)) (jr (iJ xs fl tm)))) [a0,a1,a2,a3,a4,a5,a6,a7,a8,.val (.cP (gA ss) (jr ss)),a10,.val (.int tm),.val (.str x),a13,.val (.lst xs)]:=by
 have e:=mR (c:=pg.cf n) (it:=.var 14) (el:=.tup AAS) (σ:=[a0,a1,a2,a3,a4,a5,a6,a7,a8,.val (.cP (gA ss) (jr ss)),a10,.val (.int tm),.val (.str x),a13,u14]) (τ:=[a0,a1,a2,a3,a4,a5,a6,a7,a8,.val (.cP (gA ss) (jr ss)),a10,.val (.int tm),.val (.str x),a13,.val (.lst xs)]) (d:=.lst xs) (xs:=xs) (r:=.val (.lst xs)) (fun y=>.tup [y,.int ((aU (nW y) fl).getD tm)]) (by rcases h14 with rfl|rfl<;>simp[Ob.d]) rfl rfl (fun y hy=>by
  obtain⟨q,rfl⟩:=tx_ y hy
  have g:oR (.cP (gA ss) (jr ss)) (.str q) (.int tm)=some (.int ((aU q ss).getD tm)):=by
   show(if keyOk (.str q)then some ((eN (.str q) (gA ss) (jr ss)).getD (.int tm))else none)=_
   rw[if_pos (show keyOk (.str q)=true from rfl),nQ]
   cases aU q ss<;>rfl
  have gf:=hfl q
  by_cases c:q=x
  ·subst c
   rw[if_pos rfl]at gf
   simp[aX,g,nW,gf,b2i]
  ·rw[if_neg c]at gf
   simp[aX,g,nW,gf,c,b2i])
 have e':ev (pg.cf n) dcE [a0,a1,a2,a3,a4,a5,a6,a7,a8,.val (.cP (gA ss) (jr ss)),a10,.val (.int tm),.val (.str x),a13,u14]=_:=e
 have d:=jJ (fun y=>.int ((aU (nW y) fl).getD tm)) xs [] [] (by simpa using tx_) (by simpa using nd)
 have b:b1 .dict (.lst (xs.map fun y=>.tup [y,.int ((aU (nW y) fl).getD tm)]))=some (.new (.dct xs (xs.map fun y=>.int ((aU (nW y) fl).getD tm)))):=by
  show(dictOf [] [] _).map _=_
  rw[d];rfl
 have v:jr (iJ xs fl tm)=xs.map fun y=>.int ((aU (nW y) fl).getD tm):=by simp[jr,iJ]
 have q:dcE.az=none:=rfl
 rw[xM tx_,v]
 simp[q,e',Ob.d,b]
theorem G8(n:Nat)(K:C.Ok)(H:Vc C ws)(a0 a3 c7:Sl)(cs:D){g:Ps}(P:C.Pk g){s:St}(hs:g.o=some s)(ne:g.ss≠[]){last:Int}(L:Lst (aF C.nm ws) g last){u4 u9 u13 u14:Sl}(h4:slN C u4)(h9:slD g.ss u9)(h13:dD u13)(h14:dD u14):
  ∃a9 a14,dD a14/\(∀s',(C.stp (aF C.nm ws) g).o=some s'->slD (C.stp (aF C.nm ws) g).ss a9)/\
  ex (pg.cf (n+10)) Z1 [a0,.val C.n,.val C.t,a3,u4,.val (jV ws),.val cs,c7,.val (fM g.o),u9,.val (.int last),.val (.int (fB (aF C.nm ws) g.ss (dR (aF C.nm ws) g.ss))),.val (.str (gb (aF C.nm ws) g.ss)),u13,u14]=
  .next [a0,.val C.n,.val C.t,a3,.val (.lst C.nm),.val (jV ws),.val cs,c7,.val (fM (C.stp (aF C.nm ws) g).o),a9,.val (.int (fB (aF C.nm ws) g.ss (dR (aF C.nm ws) g.ss))),.val (.int (fB (aF C.nm ws) g.ss (dR (aF C.nm ws) g.ss))),.val (.str (gb (aF C.nm ws) g.ss)),.val (.lst []),a14]:=by
 obtain⟨p,e,hp,en⟩:=Fv (ls:=aF C.nm ws) ne
 have S:=P.o s hs
 obtain⟨nd,txs,sub⟩:=lL K P.o
 rw[<-P.k]at nd txs sub
 have mp:D.str p.1∈gA g.ss:=QCz.mpr ⟨p,hp,rfl⟩
 have du:=Yo e
 have lt:=fun(q:Str×Int)(hq:q∈g.ss)=>Gp (ls:=aF C.nm ws) (g:=g) hq
 have ll:last<=p.2+uK (aF C.nm ws) p.1:=L p hp
 have nx:(C.stp (aF C.nm ws) g).o=C.led s (.str p.1):=by
  show C.next g (gb (aF C.nm ws) g.ss)=_
  rw[en,Cs.next,hs]
  rfl
 have ns:(C.stp (aF C.nm ws) g).ss=iJ (C.Pu (C.led s (.str p.1))) (g.ss.filter fun q=>decide (q.1≠p.1)) (fB (aF C.nm ws) g.ss (dR (aF C.nm ws) g.ss)):=by
  have nx2:C.next g p.1=C.led s (.str p.1):=by rw[Cs.next,hs];rfl
  show iJ (C.Pu (C.next g (gb (aF C.nm ws) g.ss))) (g.ss.filter fun q=>decide (q.1≠gb (aF C.nm ws) g.ss)) _=_
  rw[en,nx2]
 rw[ns,en,hs]
 rw[<-du]at ll
 have g1:getD (.cP (gA g.ss) (jr g.ss)) (.str p.1)=some (.int p.2):=by
  show(if keyOk (.str p.1)then eN (.str p.1) (gA g.ss) (jr g.ss)else none)=_
  rw[if_pos (show keyOk (.str p.1)=true from rfl),nQ,lZ nd hp]
  rfl
 have g2:aG .notin (.str p.1) (.cP (gA g.ss) (jr g.ss))=some false:=by
  show(if keyOk (.str p.1)then some (!cC (.str p.1) (gA g.ss))else none)=_
  rw[if_pos (show keyOk (.str p.1)=true from rfl),lY mp txs]
  rfl
 obtain⟨i1,i2⟩:=UL K H (sub _ mp)
 have w:getD (jV ws) (.int (di (.str p.1) C.nm))=some (.int (uK (aF C.nm ws) p.1)):=i2
 have lo:jf (.lst C.nm)=some C.nm:=rfl
 have fl:=jH p.1
 have fl':∀y,aU y (g.ss.filter fun q=>decide (q.1≠p.1))=if y=p.1 then none else aU y g.ss:=fun y=>jH p.1 y g.ss
 have la:=fun u9 h9=>RN (n+10) K H a0 a3 c7 (.val (bF s)) (.val (.int last)) (.val (.str p.1)) u13 u14 cs (tm:=fB (aF C.nm ws) g.ss (dR (aF C.nm ws) g.ss)) nd sub lt (u9:=u9) h9
 have le:=K.RM (n+8) S (x:=.str p.1) ⟨p.1,rfl⟩
 generalize (g.ss.filter fun q=>decide (q.1≠p.1))=FL at*
 generalize fB (aF C.nm ws) g.ss (dR (aF C.nm ws) g.ss)=tm at*
 have lq:aG .lt (.int tm) (.int last)=some false:=by
  show W9 (.int tm) (.int last)=_
  have:¬tm<last:=by omega
  simp[W9,this]
 have nq:aG .ne (.int tm) (.int (p.2+uK (aF C.nm ws) p.1))=some false:=by
  rw[<-du]
  show(if qN (.int tm) (.int tm)then some (!fZ (.int tm) (.int tm))else none)=_
  simp[qN,flat,fZ]
 have i0:fj (bF s)=false:=rfl
 have q1:ltE.az=none:=rfl
 have e0:aG .ne (.lst []) (.lst [])=some false:=rfl
 have dn:(aX []).bind Xc=some (.new (.lst [])):=rfl
 clear fl
 generalize uK (aF C.nm ws) p.1=wt at*
 have la1:=la _ (.inl rfl)
 have la2:=la _ (.inr rfl)
 clear la
 generalize jV ws=WS at*
 cases hc:C.led s (.str p.1)with
 |none=>
  rw[hc]at le
  refine⟨.val (.cP (gA g.ss) (jr g.ss)),u14,h14,(fun s' z=>by rw[nx,hc]at z;cases z),?_⟩
  rw[nx,hc]
  have o0:fM none=.non:=rfl
  have in0:fj .non=true:=rfl
  have o1:fM (some s)=bF s:=rfl
  rcases h4 with rfl|rfl<;>rcases h9 with rfl|rfl<;>rcases h13 with rfl|⟨d,rfl⟩<;>simp[Z1,o1,i0,g2,lq,g1,lo,i1,w,nq,q1,la1,la2,dn,e0,Ob.d,le,o0,in0]
 |some s'=>
  rw[hc]at le
  have S':=K.Xd S hc
  have st:=rN n K S'
  have snd:=(K.sub S').nodup (names_nodup K.o.h2 K.o.g1 K.o.g5)
  have ag:=OJ (ss:=g.ss) (n+10) (xs:=C.st s') a0 (.val C.n) (.val C.t) a3 (.val (.lst C.nm)) (.val WS) (.val cs) c7 (.val (bF s')) (.val (.int tm)) (.val (.lst [])) (tm:=tm) (x:=p.1) fl' (K.Hb S') snd (.inl rfl)
  refine⟨.own (.dct (gA (iJ (C.st s') FL tm)) (jr (iJ (C.st s') FL tm))),.val (.lst (C.st s')),.inr ⟨_,rfl⟩,fun s2 z=>.inl ?_,?_⟩
  ·rfl
  rw[nx,hc]
  have o0:fM (some s')=bF s':=rfl
  have o1:fM (some s)=bF s:=rfl
  have i2':fj (bF s')=false:=rfl
  have q2:(E.bi .dict dcE).az=none:=rfl
  rcases h4 with rfl|rfl<;>rcases h9 with rfl|rfl<;>rcases h13 with rfl|⟨d,rfl⟩<;>rcases h14 with rfl|⟨d',rfl⟩<;>simp[Z1,o1,i0,g2,lq,g1,lo,i1,w,nq,q1,la1,la2,dn,e0,Ob.d,le,o0,i2',st,q2,ag]
end
end Tx
end
section
open PySem Mini
namespace Tx
section
variable{C:Cs}{ws:List Int}
def NT t x l:yG ((t,x)::l)=.tup [.int t,.str x]::yG l:=rfl
theorem Ef(n:Nat)(K:C.Ok)(H:Vc C ws)(a0 a3 c7:Sl)(cs:D)(k:Nat):∀(m:Nat)(g:Ps)(last:Int)(u4 u9 u11 u12 u13 u14:Sl),C.Pk g->Lst (aF C.nm ws) g last->slN C u4->((∃s,g.o=some s)->slD g.ss u9)->dD u11->dD u12->dD u13->dD u14->
  ∃b4 b9 b10 b11 b12 b13 b14,dC (.tup [11,12]) (ex (pg.cf (n+10)) Z1) (yG (C.tr (aF C.nm ws) k m g)) [a0,.val C.n,.val C.t,a3,u4,.val (jV ws),.val cs,c7,.val (fM g.o),u9,.val (.int last),u11,u12,u13,u14]=
   .next [a0,.val C.n,.val C.t,a3,b4,.val (jV ws),.val cs,c7,.val (fM (C.go (aF C.nm ws) k m g).o),b9,b10,b11,b12,b13,b14]
 |0=>fun g last u4 u9 u11 u12 u13 u14 _ _ _ _ _ _ _ _=>⟨_,_,_,_,_,_,_,rfl⟩
 |m+1=>fun g last u4 u9 u11 u12 u13 u14 P L h4 h9 h11 h12 h13 h14=>by
  rw[Cs.tr,Cs.go]
  cases c:(!g.ss.isEmpty&&decide (g.cs.length<k))with
  |false=>exact⟨_,_,_,_,_,_,_,rfl⟩
  |true=>
   simp only[QUq,Bool.not_eq_true']at c
   have ne:g.ss≠[]:=fun z=>by rw[z]at c;simp at c
   obtain⟨s,hs⟩:∃s,g.o=some s:=by
    cases q:g.o with
    |some s=>exact⟨s,rfl⟩
    |none=>
     have:=P.k
     rw[q]at this
     exact absurd (List.map_eq_nil_iff.mp this) ne
   obtain⟨a9,a14,f14,sl,st⟩:=G8 n K H a0 a3 c7 cs P hs ne L h4 (h9 ⟨s,hs⟩) h13 h14
   rw[if_pos rfl,if_pos rfl,NT,dC]
   have tt:cY (.tup [11,12]) (.tup [.int (fB (aF C.nm ws) g.ss (dR (aF C.nm ws) g.ss)),.str (gb (aF C.nm ws) g.ss)]) [a0,.val C.n,.val C.t,a3,u4,.val (jV ws),.val cs,c7,.val (fM g.o),u9,.val (.int last),u11,u12,u13,u14]=some [a0,.val C.n,.val C.t,a3,u4,.val (jV ws),.val cs,c7,.val (fM g.o),u9,.val (.int last),.val (.int (fB (aF C.nm ws) g.ss (dR (aF C.nm ws) g.ss))),.val (.str (gb (aF C.nm ws) g.ss)),u13,u14]:=by
    rcases h11 with rfl|⟨d,rfl⟩<;>rcases h12 with rfl|⟨d,rfl⟩<;>simp[cY,ig,eG]
   rw[tt]
   simp only[st]
   obtain⟨b4,b9,b10,b11,b12,b13,b14,z⟩:=Ef n K H a0 a3 c7 cs k m (C.stp (aF C.nm ws) g) (fB (aF C.nm ws) g.ss (dR (aF C.nm ws) g.ss)) (.val (.lst C.nm)) a9 (.val (.int (fB (aF C.nm ws) g.ss (dR (aF C.nm ws) g.ss)))) (.val (.str (gb (aF C.nm ws) g.ss))) (.val (.lst [])) a14 (Ek K P) (RD (Tu H.2 C.nm)) (.inr rfl) (fun⟨s',e⟩=>sl s' e) (.inr ⟨_,rfl⟩) (.inr ⟨_,rfl⟩) (.inr ⟨_,rfl⟩) f14
   exact⟨b4,b9,b10,b11,b12,b13,b14,z⟩
end
def lwC:E:=.comp 1 (.name 0) ACY AAH (.op .add AAG AAl)
def l0C:E:=.comp 1 (.name 0) AAR AAH (.tup (.cons (.var 0) AAw))
def af3:Oq=⟨1,15,(.cons ABd (.cons AAq (.cons (.set 4 (.call 41 AAX)) (.cons (.set 5 (.bi .tuple lwC)) (.cons ABH (.cons ACJ (.cons (.set 9 (.bi .dict l0C)) (.cons (.set 10 AAL) (.cons (.for_ (.tup [11,12]) (.var 6) Z1) (.cons (.ite ACO (.cons (.ret (.cmp .jG (.var 8) ACZ)) .nil) .nil) (.cons (.ite (.cmp .jG (.var 8) ACZ) AAQ .nil) (.cons (.ite (.cmp .eq AAR ABq) ABr .nil) AAp))))))))))))⟩:=rfl
theorem Kw:∀(n:Nat)(lo:Int)(x:D),x∈bK lo n->∃j:Int,lo<=j/\x=.int j
 |0=>fun _ _ h=>by cases h
 |n+1=>fun lo x h=>by
  rcases QBz.mp h with rfl|h
  ·exact⟨lo,Int.le_refl _,rfl⟩
  ·obtain⟨j,hj,e⟩:=Kw n _ x h
   exact⟨j,by omega,e⟩
def yL{C:Cs}(K:C.Ok)(ns:List Int)(t:D){tpp:Int}(ht:0<tpp/\tpp<=99):∃ws:List Int,Vc C ws/\
  ev (pg.cf 39) lwC [.val (.lst (ns.map .int)),.val C.n,.val t,.val (.int tpp),.own (.lst C.nm),.un,.un,.un,.un,.un,.un,.un,.un,.un,.un]=.ok (.new (.lst (ws.map .int))) [.val (.lst (ns.map .int)),.val C.n,.val t,.val (.int tpp),.own (.lst C.nm),.un,.un,.un,.un,.un,.un,.un,.un,.un,.un]:=by
 have ex_:∀j:Int,∃r:Int,0<=j->0<=r/\r<tpp/\pg.fn 39 29 [.val (.lst (ns.map .int)),.val (.int (1+j)),.val (.int tpp)]=.ok (.val (.int r)) [.val (.lst (ns.map .int)),.val (.int (1+j)),.val (.int tpp)]:=fun j=>by
  by_cases h:0<=j
  ·obtain⟨r,z⟩:=tK 37 ns (1+j) tpp (by omega) ht.1
   exact⟨r,fun _=>z⟩
  ·exact⟨0,fun z=>absurd z h⟩
 obtain⟨F,hF⟩:∃F:Int->Int,∀j,0<=j->0<=F j/\F j<tpp/\pg.fn 39 29 [.val (.lst (ns.map .int)),.val (.int (1+j)),.val (.int tpp)]=.ok (.val (.int (F j))) [.val (.lst (ns.map .int)),.val (.int (1+j)),.val (.int tpp)]:=
  ⟨fun j=>Classical.choose (ex_ j),fun j=>Classical.choose_spec (ex_ j)⟩
 have nl:C.nm.length=C.h+C.g:=gU K.o.h2 K.o.g5
 have h2:=K.o.h2
 have g5:=K.o.g5
 have f1:fits C.nm.length=true:=by simp[fits];omega
 have f2:uJ C.nm.length=true:=by simp[uJ];omega
 let f:D->Int:=fun d=>match d with|.int j=>1+F j|_=>1
 refine⟨(bK 0 C.nm.length).map f,⟨by rw[Qvz,lO],fun w hw=>?_⟩,?_⟩
 ·obtain⟨x,hx,rfl⟩:=QCz.mp hw
  obtain⟨j,hj,rfl⟩:=Kw _ _ _ hx
  have:=hF j hj
  show 1<=1+F j/\1+F j<=99
  omega
 ·have:=mR (c:=pg.cf 39) (it:=.range1 ABT) (el:=.op .add AAG AAl) (σ:=[.val (.lst (ns.map .int)),.val C.n,.val t,.val (.int tpp),.own (.lst C.nm),.un,.un,.un,.un,.un,.un,.un,.un,.un,.un]) (τ:=[.val (.lst (ns.map .int)),.val C.n,.val t,.val (.int tpp),.own (.lst C.nm),.un,.un,.un,.un,.un,.un,.un,.un,.un,.un]) (d:=.lst (bK 0 C.nm.length)) (xs:=bK 0 C.nm.length) (r:=.val (.lst (bK 0 C.nm.length))) (fun d=>.int (f d)) (by simp[f1,f2,Ob.d]) rfl rfl (fun x hx=>by
   obtain⟨j,hj,rfl⟩:=Kw _ _ _ hx
   have:=(hF j hj).2.2
   simp[this,f])
  rw[List.map_map]
  exact this
def math(ns:List Int)(hl:ns.length<=63):∃qs,pg.fn 40 43 [.val (.lst (ns.map .int))]=.ok (.val (.bl true)) qs:=by
 obtain⟨C,K,e'⟩:=SX 30 ns 9 (by omega)
 obtain⟨u,hu0,hu1,e1⟩:=tK 37 ns 0 2 (by omega) (by omega)
 obtain⟨tpp,ht,etop⟩:∃tpp:Int,(0<tpp/\tpp<=99)/\at? [.int 4,.int 99] u=some (.int tpp):=by
  have:u=0\/u=1:=by omega
  rcases this with rfl|rfl
  ·exact⟨4,by omega,rfl⟩
  ·exact⟨99,by omega,rfl⟩
 obtain⟨ws,H,ew⟩:=yL K ns C.t ht
 have t1:pg.fn 39 44 [.val C.n,.val C.t,.val (jV ws),.val (.int 40)]=.ok (.val (.tup [.lst (yG (C.go (aF C.nm ws) 40 1000 C.ini).cs),yh (C.go (aF C.nm ws) 40 1000 C.ini)])) [.val C.n,.val C.t,.val (jV ws),.val (.int 40)]:=JM 28 K H (k:=40) (by omega)
 have ln:pg.fn 39 41 [.val C.n]=.ok (.new (.lst C.nm)) [.val C.n]:=lN 38 K.o
 have S0:=Ex K
 have st0:=rN 29 K S0
 have snd:=(K.sub S0).nodup (names_nodup K.o.h2 K.o.g1 K.o.g5)
 have n2:getD C.n (.int 2)=some (aN C.ls):=Ls
 have sd0:D.tup [aN C.ls,.int 0]=bF (sI C.ls):=rfl
 have LI:Lst (aF C.nm ws) C.ini 0:=fun q hq=>by
  obtain⟨y,_,rfl⟩:=QCz.mp hq
  have:=Tu H.2 C.nm (nW y)
  show 0<=(aU (nW y) []).getD 0+uK (aF C.nm ws) (nW y)
  simp[aU]
  exact this
 have hin:gA C.ini.ss=C.st (sI C.ls):=xM (K.Hb S0) _ _
 have hiv:jr C.ini.ss=(C.st (sI C.ls)).map fun _=>.int 0:=by simp[Cs.ini,jr,iJ,aU]
 have tr:yG (C.tr (aF C.nm ws) 40 1000 C.ini)=yG (C.go (aF C.nm ws) 40 1000 C.ini).cs:=by rw[U3];rfl
 have gl:=M6 (C:=C) (ls:=aF C.nm ws) 40 1000 C.ini (by show 40<1000+0;omega) (by show 0<=40;omega)
 have gk:=abL (ls:=aF C.nm ws) K 40 1000 C.ini (Mx K)
 obtain⟨b4,b9,b10,b11,b12,b13,b14,wg⟩:=Ef 29 K H (.val (.lst (ns.map .int))) (.val (.int tpp)) (.val (yh (C.go (aF C.nm ws) 40 1000 C.ini))) (.lst (yG (C.go (aF C.nm ws) 40 1000 C.ini).cs)) 40 1000 C.ini 0 (.own (.lst C.nm)) (.own (.dct (C.st (sI C.ls)) ((C.st (sI C.ls)).map fun _=>.int 0))) .un .un .un .un (Mx K) LI (.inl rfl) (fun _=>.inl (by rw[hin,hiv])) (.inl rfl) (.inl rfl) (.inl rfl) (.inl rfl)
 rw[tr]at wg
 have o1:fM C.ini.o=bF (sI C.ls):=rfl
 rw[o1]at wg
 generalize C.go (aF C.nm ws) 40 1000 C.ini=G at*
 have el:∀c6 c7:Sl,ev (pg.cf 39) l0C [.val (.lst (ns.map .int)),.val C.n,.val C.t,.val (.int tpp),.own (.lst C.nm),.val (jV ws),c6,c7,.val (bF (sI C.ls)),.un,.un,.un,.un,.un,.un]=.ok (.new (.lst ((C.st (sI C.ls)).map fun x=>.tup [x,.int 0]))) [.val (.lst (ns.map .int)),.val C.n,.val C.t,.val (.int tpp),.own (.lst C.nm),.val (jV ws),c6,c7,.val (bF (sI C.ls)),.un,.un,.un,.un,.un,.un]:=fun c6 c7=>by
  refine mR (it:=.call 20 (.cons (.var 1) (.cons (.var 2) (.cons (.var 8) .nil)))) (d:=.lst (C.st (sI C.ls))) (xs:=C.st (sI C.ls)) (r:=.new (.lst (C.st (sI C.ls)))) (fun x=>.tup [x,.int 0]) (by simp[st0]) rfl rfl fun x hx=>?_
  simp[aX]
 have dp:=jJ (fun _=>.int 0) (C.st (sI C.ls)) [] [] (by simpa using K.Hb S0) (by simpa using snd)
 have bd:b1 .dict (.lst ((C.st (sI C.ls)).map fun x=>.tup [x,.int 0]))=some (.new (.dct (C.st (sI C.ls)) ((C.st (sI C.ls)).map fun _=>.int 0))):=by
  show(dictOf [] [] _).map _=_
  rw[dp];rfl
 have q1:lwC.az=none:=rfl
 have q2:l0C.az=none:=rfl
 have w1:D.tup (ws.map D.int)=jV ws:=rfl
 have it:items (.lst (yG G.cs))=some (yG G.cs):=rfl
 have ed:yh G=(if G.o.isNone then .str "unasked" else if G.ss.isEmpty then .str "end" else .str "on"):=rfl
 have le:b1 .len (.lst (yG G.cs))=some (.val (.int G.cs.length)):=by simp[b1,zP,yG]
 have c1:aG .eq (.str "unasked") (.str "unasked")=some true:=by decide+kernel
 have c2:aG .eq (.str "end") (.str "unasked")=some false:=by decide+kernel
 have c3:aG .eq (.str "on") (.str "unasked")=some false:=by decide+kernel
 have c4:aG .eq (.str "end") (.str "end")=some true:=by decide+kernel
 have c5:aG .eq (.str "on") (.str "on")=some true:=by decide+kernel
 have dn:(aX []).bind Xc=some (.new (.lst [])):=rfl
 rw[show(40:Nat)=39+1 from rfl,aaR,af3]
 refine⟨[.val (.lst (ns.map .int))],?_⟩
 generalize jV ws=W at*
 cases ho:G.o with
 |none=>
  have hd_:yh G=.str "unasked":=by rw[ed,ho];rfl
  rw[hd_]at wg t1
  rw[ho]at wg
  have o0:fM none=.non:=rfl
  have i0:fj .non=true:=rfl
  simp[e',cY,ig,eG,e1,aX,etop,ln,ew,q1,Ob.d,w1,t1,n2,sd0,el,q2,bd,it,wg,c1,o0,i0]
 |some s=>
  have S:=gk.o s ho
  have st:=rN 29 K S
  have kk:=gk.k
  rw[ho]at kk wg
  have kk':gA G.ss=C.st s:=kk
  have o0:fM (some s)=bF s:=rfl
  have i0:fj (bF s)=false:=rfl
  have nn:=Lp (C:=C) (xs:=C.st s) fun x hx=>(K.sub S).subset hx
  cases hss:G.ss with
  |nil=>
   have hd_:yh G=.str "end":=by rw[ed,ho,hss];rfl
   have se:C.st s=[]:=by rw[<-kk',hss];rfl
   have c6:aG .eq (.lst []) (.lst [])=some true:=rfl
   rw[hd_]at wg t1
   rw[se]at st
   simp[e',cY,ig,eG,e1,aX,etop,ln,ew,q1,Ob.d,w1,t1,n2,sd0,el,q2,bd,it,wg,c2,o0,i0,st,dn,c6,c4]
  |cons p ps=>
   have hd_:yh G=.str "on":=by rw[ed,ho,hss];rfl
   obtain⟨y,ys,se⟩:∃y ys,C.st s=y::ys:=⟨.str p.1,gA ps,by rw[<-kk',hss];rfl⟩
   have l40:G.cs.length=40:=gl.resolve_left (by rw[hss];exact List.cons_ne_nil _ _)
   rw[se]at st nn
   have c6:aG .eq (.lst (y::ys)) (.lst [])=some false:=by
    show(if qN (.lst (y::ys)) (.lst [])then some (fZ (.lst (y::ys)) (.lst []))else none)=_
    have o:qN (.lst (y::ys)) (.lst [])=true:=by
     have n1:=nn.1
     have n2:=nn.2
     simp only[qN,nd,dep,n1,n2]
     simp[o4]
    rw[o]
    rfl
   have c7:aG .eq (.int (G.cs.length:Int)) (.int 40)=some true:=by rw[l40];rfl
   rw[hd_]at wg t1
   simp[e',cY,ig,eG,e1,aX,etop,ln,ew,q1,Ob.d,w1,t1,n2,sd0,el,q2,bd,it,wg,c3,o0,i0,st,dn,c6,c5,le,c7]
end Tx
end
namespace Tx
open PySem PySem.W L2 Mini
def cM{K:QQq}{x:Str}{st:Stmt}(m:Value)(f c:Addr)(a:PySem.W.nsIn K mainGlobals x=some (some (.ref f)):=by kernel_rfl)(l:K.lookup f=some (fO x st m c):=by kernel_rfl)(q:PySem.W.codeIn K (.ref c) x=true:=by kernel_rfl):Pb K x st:=Mini.dIn a l q (by unfold PySem.W.keepIn;dsimp only;rw[l];rfl)
def bI:Yy (Dh ds gr dI) tx.mz s90:=⟨_,_,_,_,_,_,_,_,_,_,_,_,_,_,_,_,_,_,_,_,_,_,_,_,_,_,_,_,_,_,_,_,_,_,_,_,rfl,fun _ _=>rfl,by kernel_rfl⟩
def bU:YB s91:=⟨_,_,_,_,_,_,_,_,_,_,rfl⟩
def bC:YC s92:=⟨_,_,_,_,_,_,_,_,_,_,_,_,_,_,_,_,_,_,_,_,_,_,_,_,_,_,_,_,_,_,_,_,_,_,_,_,_,_,_,_,_,_,_,_,_,_,_,_,_,_,_,_,_,_,_,_,_,_,_,_,_,_,_,_,_,_,_,_,_,_,rfl,fun _=>⟨_,rfl⟩,rfl,rfl⟩
def bE:Yz s93:=⟨_,_,_,_,_,_,_,_,_,_,_,_,_,_,_,_,_,rfl⟩
def bT:Yx s44:=⟨_,_,_,_,_,_,_,_,_,_,_,_,_,_,_,_,_,_,_,_,_,_,_,_,_,_,_,_,_,_,_,_,_,_,_,_,_,_,_,_,_,_,_,_,rfl,fun _=>⟨_,rfl⟩,fun _=>⟨_,rfl⟩⟩
def gok{P:Params}{mg:QZz}(m1:mg "Going"=some (.ref 299))(m2:mg "min"=none)(m3:mg "list"=none)(m4:mg "len"=none)(m5:∃tu,mg "MOST_CHANGES"=some (.int tx.top tu)):GoK (Kf P) mg (Dh ds gr dI) tx 299 268 275 282 296 s90 s91 s92 s93 s44:=
 ⟨⟨by kernel_rfl,by kernel_rfl,by kernel_rfl,by kernel_rfl⟩,⟨by unfold bf;kernel_rfl,by unfold bf;kernel_rfl,by unfold bf;kernel_rfl,by unfold bf;kernel_rfl,by unfold bf;kernel_rfl,by unfold bf;kernel_rfl⟩,⟨⟨by kernel_rfl,by kernel_rfl,by kernel_rfl⟩,by kernel_rfl,by kernel_rfl,by kernel_rfl⟩,⟨by kernel_rfl,by kernel_rfl,by kernel_rfl,by kernel_rfl⟩,⟨by kernel_rfl,by kernel_rfl,by kernel_rfl⟩,⟨by kernel_rfl,by kernel_rfl,by kernel_rfl⟩,mfk (m:=Fw) (c:=267) (by kernel_rfl) (by kernel_rfl) (fun _ _ _ _ _ _ us hl=>by obtain⟨_,_,_,_,rfl⟩:=xT hl;rfl) (by decide+kernel) (by decide+kernel),mfk (m:=Fw) (c:=274) (by kernel_rfl) (by kernel_rfl) (fun _ _ _ _ _ _ us hl=>by obtain⟨_,_,rfl⟩:=pH hl;rfl) (by decide+kernel) (by decide+kernel),mfk (m:=Fw) (c:=281) (by kernel_rfl) (by kernel_rfl) (fun _ _ _ _ _ _ us hl=>by obtain⟨_,rfl⟩:=qJ hl;rfl) (by decide+kernel) (by decide+kernel),mfk (m:=Fw) (c:=295) (by kernel_rfl) (by kernel_rfl) (fun _ _ _ _ _ _ us hl=>by obtain⟨_,rfl⟩:=qJ hl;rfl) (by decide+kernel) (by decide+kernel),bI,bU,bC,bE,bT,uE (by decide+kernel),uE (by decide+kernel),uE (by decide+kernel),uE (by decide+kernel),m1,m2,m3,m4,m5⟩
def adJ:YH ds 44 tx:=⟨⟨by decide,_,rfl,rfl,by kernel_rfl⟩,⟨by decide,_,rfl,rfl,by kernel_rfl⟩,⟨by decide,_,rfl,rfl,by kernel_rfl⟩,⟨by decide,_,rfl,rfl,by kernel_rfl⟩,⟨by decide,_,rfl,rfl,by kernel_rfl⟩,⟨by decide,_,rfl,rfl,by kernel_rfl⟩⟩
end Tx
open PySem PySem.W PyProof.Rows
theorem PySem.Challenge.cw_anywait_k12_whole_timed_waits_holds : PySem.Challenge.rw_anywait_k12_whole_timed_waits.Holds := by
 w_on
 refine PySem.W.holds_law Tx.w0w fun said => ?_
 refine PySem.W.holds_open (q := Tx.qV) (loose := Tx.lo) (Xt := fun s => recOk [] s) (XP := fun _ _ => True) (Yf := Hook.obs Tx.Kh) (Ya := Hook.val Tx.Kh) (YP := Hook.says Tx.Kh) (N := 6058) Tx.hl (Hook.of Tx.Kh) (Hook.keeps Tx.Kh) (fun _ _ => trivial) (fun _ _ _ _ _ => trivial) (by rfl) (by rfl) (by rfl) (fun s e => recFacts_of e) (by rfl) said (by decide +kernel) ⟨rfl, rfl, rfl, rfl, rfl, by decide +kernel⟩ ?hw ?hc
 case hw => w_witness2
 case hc =>
  refine Mini.G7 (p := Tx.pg) (L := 43) (y := "_law_script") (l := PySem.Challenge.rw_anywait_k12_whole_timed_waits) rfl rfl (fun w h Y => PySem.W.kIn_of Y) Tx.math ?qF
  intro w mg fa h KX G hmg
  refine Mini.Ow (dL := Tx.d43) (dt := Tx.d44) (dI := Tx.dI) (T := Tx.tx) KX G hmg rfl rfl rfl Tx.bd Tx.scp Tx.Hd ?qA ?qB ?qZ rfl rfl rfl (by kernel_rfl) (by kernel_rfl) (Tx.gok (PySem.W.mg_of KX G (by kernel_rfl)) (PySem.W.mg_none_of KX G (by kernel_rfl)) (PySem.W.mg_none_of KX G (by kernel_rfl)) (PySem.W.mg_none_of KX G (by kernel_rfl)) ⟨511, PySem.W.mg_of KX G (by kernel_rfl)⟩) Tx.adJ rfl rfl
  case qA =>
   show Mini.AllIn _ Tx.nms
   exact ⟨Tx.cM Tx.lW 90 89, Tx.cM Tx.lW 95 94, Tx.cM Tx.lW 100 99, Tx.cM Tx.lW 107 106, Tx.cM Tx.lW 114 113, Tx.cM Tx.lW 119 118, Tx.cM Tx.lW 124 123, Tx.cM Tx.lW 129 128, Tx.cM Tx.lW 136 135, Tx.cM Tx.lW 141 140, Tx.cM Tx.lW 146 145, Tx.cM Tx.lW 153 152, Tx.cM Tx.lW 160 159, Tx.cM Tx.lW 165 164, Tx.cM Tx.lW 170 169, Tx.cM Tx.lW 175 174, Tx.cM Tx.lW 182 181, Tx.cM Tx.Zf 189 188, Tx.cM Tx.Zf 194 193, Tx.cM Tx.Zf 199 198, Tx.cM Tx.Js 206 205, Tx.cM Tx.Js 213 212, Tx.cM Tx.Js 218 217, Tx.cM Tx.Js 225 224, Tx.cM Tx.Js 232 231, Tx.cM Tx.Js 237 236, Tx.cM Tx.Fw 249 248, Tx.cM Tx.Fw 254 253, Tx.cM Tx.mO 310 309, Tx.cM Tx.mO 317 316, Tx.cM Tx.mO 324 323, Tx.cM Tx.mO 331 330, Tx.cM Tx.mO 336 335, Tx.cM Tx.mO 343 342, Tx.cM Tx.mO 348 347, Tx.cM Tx.mO 353 352, Tx.cM Tx.mO 358 357, Tx.cM Tx.mO 365 364, Tx.cM Tx.mO 372 371, Tx.cM Tx.mO 377 376, Tx.cM Tx.mO 384 383, Tx.cM Tx.mO 389 388, Tx.cM Tx.mO 409 408, Tx.cM Tx.mO 414 413, Tx.cM Tx.Fw 244 243, trivial⟩
  case qB => exact ⟨.v (u := .str "abcdefghijklmnopqrstuvwxyz" 280) (by kernel_rfl) (by decide +kernel), .v (u := .int 6 282) (by kernel_rfl) (by decide +kernel), .t (a := 83) (o := Tx.o83) (by kernel_rfl) (by kernel_rfl) (by decide +kernel), .v (u := .int 3 299) (by kernel_rfl) (by decide +kernel), .v (u := .int 5 301) (by kernel_rfl) (by decide +kernel), .v (u := .int 4 303) (by kernel_rfl) (by decide +kernel), .v (u := .int 8 305) (by kernel_rfl) (by decide +kernel), .v (u := .int 3 307) (by kernel_rfl) (by decide +kernel), .v (u := .int 12 435) (by kernel_rfl) (by decide +kernel), .v (u := .int 99 509) (by kernel_rfl) (by decide +kernel), .v (u := .int 200 511) (by kernel_rfl) (by decide +kernel), trivial⟩
  case qZ => exact ⟨by kernel_rfl, by kernel_rfl, by kernel_rfl, by kernel_rfl, by kernel_rfl, by kernel_rfl, by kernel_rfl, by kernel_rfl, by kernel_rfl, by kernel_rfl, by kernel_rfl, by kernel_rfl, by kernel_rfl, by kernel_rfl, trivial⟩